package pipes

// SetNumbers says the numbers of the next messages of both ways: nobody can count up to the last one.
func (p *Pipe) SetNumbers(out, in uint64) {
	p.out.SetNonce(out)
	p.in.SetNonce(in)
}

// Caught is the error that a call was given up with.
func Caught(given any) error { return caught(given) }
