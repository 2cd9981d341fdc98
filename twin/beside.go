package twin

// Beside does both at one time, and tells what each says.
func Beside[T any](a, b func() T) (T, T) {
	first, second := begun(a), begun(b)
	var x, y T
	for range 2 { // each channel has one answer to give, so that two turns gather both, whichever comes first
		select {
		case x = <-first:
		case y = <-second:
		}
	}
	return x, y
}

// begun calls a function in a goroutine of its own. There is room for the answer, so that the goroutine ends as soon as it has one.
func begun[T any](do func() T) <-chan T {
	answer := make(chan T, 1)
	go func() { answer <- called(do) }()
	return answer
}

// called is what a function answers; a nil one counts as one that answers a zero T.
func called[T any](do func() T) T {
	if do == nil {
		return *new(T)
	}
	return do()
}
