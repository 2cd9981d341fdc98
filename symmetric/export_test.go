package symmetric

// SetNumber says the number of the next message: nobody can count up to the last one.
func (y *State) SetNumber(n uint64) { y.own().SetNonce(n) }
