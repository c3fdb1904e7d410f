package digest

import (
	"bytes"
	"testing"
)

// Texts so long that their number of bits has more than four bytes are too
// great to be summed in each run: here their ends are looked at alone.
func TestEndingOfGreatTexts(t *testing.T) { // P2.1
	for _, c := range []struct {
		length int
		bits   []byte
	}{
		{1<<29 - 1, []byte{0, 0, 0, 0, 0xff, 0xff, 0xff, 0xf8}},
		{1 << 29, []byte{0, 0, 0, 1, 0, 0, 0, 0}},
		{1<<31 - 1, []byte{0, 0, 0, 3, 0xff, 0xff, 0xff, 0xf8}},
	} {
		rest := make([]byte, c.length%pieceSize)
		last := ending(rest, c.length)
		if len(last)%pieceSize != 0 || !bytes.Equal(last[len(last)-lengthSize:], c.bits) {
			t.Errorf("a text of %d bytes ends with % x", c.length, last)
		}
	}
}
