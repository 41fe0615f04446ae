package pack

import (
	"encoding/binary"
	"testing"
)

// A finder forgets what has left the window, so that its map does not grow with the text.
func TestFinderForgets(t *testing.T) {
	b := make([]byte, 40000)
	for i := 0; i < len(b); i += 2 {
		binary.BigEndian.PutUint16(b[i:], uint16(i*7919+i/2))
	}
	f := newFinder(nil, b)
	for at := range b {
		f.learn(at, at+1)
		if len(f.last) > Window {
			t.Fatalf("at %d, the map has %d places", at, len(f.last))
		}
	}
	if len(f.last) < Window/2 {
		t.Errorf("the map has only %d places", len(f.last))
	}
}
