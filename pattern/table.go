package pattern

// entry is a text of the table. (In a struct, since a map of bare texts may not be made and asked in one call.)
type entry struct{ text string }

// table is the texts of the patterns that have names, by their names.
func table() map[string]entry {
	return map[string]entry{
		"N":    {textN},
		"K":    {textK},
		"X":    {textX},
		"NN":   {textNN},
		"NK":   {textNK},
		"NX":   {textNX},
		"XN":   {textXN},
		"XK":   {textXK},
		"XX":   {textXX},
		"KN":   {textKN},
		"KK":   {textKK},
		"KX":   {textKX},
		"IN":   {textIN},
		"IK":   {textIK},
		"IX":   {textIX},
		"NK1":  {textNK1},
		"NX1":  {textNX1},
		"X1N":  {textX1N},
		"X1K":  {textX1K},
		"XK1":  {textXK1},
		"X1K1": {textX1K1},
		"X1X":  {textX1X},
		"XX1":  {textXX1},
		"X1X1": {textX1X1},
		"K1N":  {textK1N},
		"K1K":  {textK1K},
		"KK1":  {textKK1},
		"K1K1": {textK1K1},
		"K1X":  {textK1X},
		"KX1":  {textKX1},
		"K1X1": {textK1X1},
		"I1N":  {textI1N},
		"I1K":  {textI1K},
		"IK1":  {textIK1},
		"I1K1": {textI1K1},
		"I1X":  {textI1X},
		"IX1":  {textIX1},
		"I1X1": {textI1X1},
	}
}

const textN = `N:
  <- s
  ...
  -> e, es
`

const textK = `K:
  -> s
  <- s
  ...
  -> e, es, ss
`

const textX = `X:
  <- s
  ...
  -> e, es, s, ss
`

const textNN = `NN:
  -> e
  <- e, ee
`

const textNK = `NK:
  <- s
  ...
  -> e, es
  <- e, ee
`

const textNX = `NX:
  -> e
  <- e, ee, s, es
`

const textXN = `XN:
  -> e
  <- e, ee
  -> s, se
`

const textXK = `XK:
  <- s
  ...
  -> e, es
  <- e, ee
  -> s, se
`

const textXX = `XX:
  -> e
  <- e, ee, s, es
  -> s, se
`

const textKN = `KN:
  -> s
  ...
  -> e
  <- e, ee, se
`

const textKK = `KK:
  -> s
  <- s
  ...
  -> e, es, ss
  <- e, ee, se
`

const textKX = `KX:
  -> s
  ...
  -> e
  <- e, ee, se, s, es
`

const textIN = `IN:
  -> e, s
  <- e, ee, se
`

const textIK = `IK:
  <- s
  ...
  -> e, es, s, ss
  <- e, ee, se
`

const textIX = `IX:
  -> e, s
  <- e, ee, se, s, es
`

const textNK1 = `NK1:
  <- s
  ...
  -> e
  <- e, ee, es
`

const textNX1 = `NX1:
  -> e
  <- e, ee, s
  -> es
`

const textX1N = `X1N:
  -> e
  <- e, ee
  -> s
  <- se
`

const textX1K = `X1K:
  <- s
  ...
  -> e, es
  <- e, ee
  -> s
  <- se
`

const textXK1 = `XK1:
  <- s
  ...
  -> e
  <- e, ee, es
  -> s, se
`

const textX1K1 = `X1K1:
  <- s
  ...
  -> e
  <- e, ee, es
  -> s
  <- se
`

const textX1X = `X1X:
  -> e
  <- e, ee, s, es
  -> s
  <- se
`

const textXX1 = `XX1:
  -> e
  <- e, ee, s
  -> es, s, se
`

const textX1X1 = `X1X1:
  -> e
  <- e, ee, s
  -> es, s
  <- se
`

const textK1N = `K1N:
  -> s
  ...
  -> e
  <- e, ee
  -> se
`

const textK1K = `K1K:
  -> s
  <- s
  ...
  -> e, es
  <- e, ee
  -> se
`

const textKK1 = `KK1:
  -> s
  <- s
  ...
  -> e
  <- e, ee, se, es
`

const textK1K1 = `K1K1:
  -> s
  <- s
  ...
  -> e
  <- e, ee, es
  -> se
`

const textK1X = `K1X:
  -> s
  ...
  -> e
  <- e, ee, s, es
  -> se
`

const textKX1 = `KX1:
  -> s
  ...
  -> e
  <- e, ee, se, s
  -> es
`

const textK1X1 = `K1X1:
  -> s
  ...
  -> e
  <- e, ee, s
  -> se, es
`

const textI1N = `I1N:
  -> e, s
  <- e, ee
  -> se
`

const textI1K = `I1K:
  <- s
  ...
  -> e, es, s
  <- e, ee
  -> se
`

const textIK1 = `IK1:
  <- s
  ...
  -> e, s
  <- e, ee, se, es
`

const textI1K1 = `I1K1:
  <- s
  ...
  -> e, s
  <- e, ee, es
  -> se
`

const textI1X = `I1X:
  -> e, s
  <- e, ee, s, es
  -> se
`

const textIX1 = `IX1:
  -> e, s
  <- e, ee, se, s
  -> es
`

const textI1X1 = `I1X1:
  -> e, s
  <- e, ee, s
  -> se, es
`
