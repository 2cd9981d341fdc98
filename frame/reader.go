package frame

// Reader gathers pieces of a stream; its zero value has none.
type Reader struct {
	list []byte
	told int // bytes at the front of list that are kept no longer
}

// Feed takes a piece.
func (r *Reader) Feed(p []byte) {
	if r != nil {
		r.list = append(r.list, p...)
	}
}

// Next is the next message, if it is there whole.
func (r *Reader) Next() ([]byte, bool) {
	found, ok := find(r.kept())
	if !ok {
		return nil, false
	}
	message := make([]byte, len(found))
	copy(message, found)
	r.cut(lengthSize + len(found))
	return message, true
}

// Held is how many bytes have been fed and not told.
func (r *Reader) Held() int { return len(r.kept()) }

func (r *Reader) kept() []byte {
	if r == nil {
		return nil
	}
	return r.list[r.told:]
}

// cut moves the rest to the front only when it is no longer than what was told: so all moving together costs no more than all telling, and the told part of the list is never longer than the kept one.
func (r *Reader) cut(n int) {
	r.told += n
	rest := r.kept()
	switch {
	case len(rest) == 0:
		*r = Reader{} // the room that a long run took is given back
	case len(rest) <= r.told:
		r.list = r.list[:copy(r.list, rest)]
		r.told = 0
	}
}
