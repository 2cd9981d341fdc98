package frame

import "testing"

// Of what was told, no more is kept on than of what was not, and nothing once all is told.
func TestRoom(t *testing.T) {
	for _, lag := range []int{0, 1, 2, 40} {
		most := 52 * (lag + 1) // bytes that can be kept at once
		var r Reader
		for i := range 5000 {
			line, _ := Put(nil, make([]byte, i*i%50))
			r.Feed(line)
			if i < lag {
				continue
			}
			if _, ok := r.Next(); !ok {
				t.Fatalf("message %d is not there", i-lag)
			}
			if held := r.Held(); len(r.list) > 2*held || cap(r.list) > 8*most {
				t.Fatalf("a list of %d bytes, with room for %d, while %d are held", len(r.list), cap(r.list), held)
			}
		}
		for range lag {
			r.Next()
		}
		if r.Held() != 0 || r.list != nil || r.told != 0 {
			t.Fatalf("%d held, and a list with room for %d", r.Held(), cap(r.list))
		}
	}
}

// What is found ends where the message ends, its room too.
func TestFindRoom(t *testing.T) {
	found, ok := find([]byte{0, 2, 'a', 'b', 0, 0})
	if !ok || string(found) != "ab" || cap(found) != 2 {
		t.Errorf("%q, %v, with room for %d", found, ok, cap(found))
	}
}
