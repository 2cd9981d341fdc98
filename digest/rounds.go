package digest

// The ten rounds are written out, each with its row of the orders as constants: so no index comes out of a table.

func round0(v, m *sixteen) {
	v.column0(m[0], m[1])
	v.column1(m[2], m[3])
	v.column2(m[4], m[5])
	v.column3(m[6], m[7])
	v.diagonal0(m[8], m[9])
	v.diagonal1(m[10], m[11])
	v.diagonal2(m[12], m[13])
	v.diagonal3(m[14], m[15])
}

func round1(v, m *sixteen) {
	v.column0(m[14], m[10])
	v.column1(m[4], m[8])
	v.column2(m[9], m[15])
	v.column3(m[13], m[6])
	v.diagonal0(m[1], m[12])
	v.diagonal1(m[0], m[2])
	v.diagonal2(m[11], m[7])
	v.diagonal3(m[5], m[3])
}

func round2(v, m *sixteen) {
	v.column0(m[11], m[8])
	v.column1(m[12], m[0])
	v.column2(m[5], m[2])
	v.column3(m[15], m[13])
	v.diagonal0(m[10], m[14])
	v.diagonal1(m[3], m[6])
	v.diagonal2(m[7], m[1])
	v.diagonal3(m[9], m[4])
}

func round3(v, m *sixteen) {
	v.column0(m[7], m[9])
	v.column1(m[3], m[1])
	v.column2(m[13], m[12])
	v.column3(m[11], m[14])
	v.diagonal0(m[2], m[6])
	v.diagonal1(m[5], m[10])
	v.diagonal2(m[4], m[0])
	v.diagonal3(m[15], m[8])
}

func round4(v, m *sixteen) {
	v.column0(m[9], m[0])
	v.column1(m[5], m[7])
	v.column2(m[2], m[4])
	v.column3(m[10], m[15])
	v.diagonal0(m[14], m[1])
	v.diagonal1(m[11], m[12])
	v.diagonal2(m[6], m[8])
	v.diagonal3(m[3], m[13])
}

func round5(v, m *sixteen) {
	v.column0(m[2], m[12])
	v.column1(m[6], m[10])
	v.column2(m[0], m[11])
	v.column3(m[8], m[3])
	v.diagonal0(m[4], m[13])
	v.diagonal1(m[7], m[5])
	v.diagonal2(m[15], m[14])
	v.diagonal3(m[1], m[9])
}

func round6(v, m *sixteen) {
	v.column0(m[12], m[5])
	v.column1(m[1], m[15])
	v.column2(m[14], m[13])
	v.column3(m[4], m[10])
	v.diagonal0(m[0], m[7])
	v.diagonal1(m[6], m[3])
	v.diagonal2(m[9], m[2])
	v.diagonal3(m[8], m[11])
}

func round7(v, m *sixteen) {
	v.column0(m[13], m[11])
	v.column1(m[7], m[14])
	v.column2(m[12], m[1])
	v.column3(m[3], m[9])
	v.diagonal0(m[5], m[0])
	v.diagonal1(m[15], m[4])
	v.diagonal2(m[8], m[6])
	v.diagonal3(m[2], m[10])
}

func round8(v, m *sixteen) {
	v.column0(m[6], m[15])
	v.column1(m[14], m[9])
	v.column2(m[11], m[3])
	v.column3(m[0], m[8])
	v.diagonal0(m[12], m[2])
	v.diagonal1(m[13], m[7])
	v.diagonal2(m[1], m[4])
	v.diagonal3(m[10], m[5])
}

func round9(v, m *sixteen) {
	v.column0(m[10], m[2])
	v.column1(m[8], m[4])
	v.column2(m[7], m[6])
	v.column3(m[1], m[5])
	v.diagonal0(m[15], m[11])
	v.diagonal1(m[9], m[14])
	v.diagonal2(m[3], m[12])
	v.diagonal3(m[13], m[0])
}
