// Package plain is layer 1: numbers, texts and rows in bytes: see shared/doc/01-plain.md.
package plain

import (
	"bytes"

	"vestry/api"
)

const (
	numSize   = 8 // bytes of a number
	countSize = 4 // bytes of a count
)

// What stands behind a byte 0 of a text's key. The one that ends the key is the
// least byte, so that a text stands ahead of all that begin with it.
const (
	zeroEnds   = 0
	zeroStands = 255
)

// signBit is added to a number's key, so that numbers below 0 stand ahead.
const signBit = 1 << 63

// Num is a number in bytes.
func Num(n int) []byte {
	return appendHighFirst(nil, uint64(n), numSize)
}

// TakeNum takes one.
func TakeNum(b []byte) (int, int, api.Errno) {
	if len(b) < numSize {
		return 0, 0, api.ErrEnd
	}
	return int(highFirst(b[:numSize])), numSize, api.OK
}

// Blob is bytes with their count ahead.
func Blob(p []byte) ([]byte, api.Errno) {
	if len(p) > api.MaxBlob {
		return nil, api.ErrLong
	}
	return appendBlob(make([]byte, 0, countSize+len(p)), p), api.OK
}

// TakeBlob takes some.
func TakeBlob(b []byte) ([]byte, int, api.Errno) {
	count, e := takeCount(b, api.MaxBlob)
	if e != api.OK {
		return nil, 0, e
	}
	end := countSize + count
	if len(b) < end {
		return nil, 0, api.ErrEnd
	}
	return bytes.Clone(b[countSize:end]), end, api.OK
}

// Row is a row of blobs.
func Row(l ...[]byte) ([]byte, api.Errno) {
	if len(l) > api.MaxRow {
		return nil, api.ErrLong
	}
	size := countSize
	for _, p := range l {
		if len(p) > api.MaxBlob {
			return nil, api.ErrLong
		}
		size += countSize + len(p)
	}
	row := appendHighFirst(make([]byte, 0, size), uint64(len(l)), countSize)
	for _, p := range l {
		row = appendBlob(row, p)
	}
	return row, api.OK
}

// TakeRow takes one.
func TakeRow(b []byte) ([][]byte, int, api.Errno) {
	count, e := takeCount(b, api.MaxRow)
	if e != api.OK {
		return nil, 0, e
	}
	// The list grows as blobs are found: a count alone is no reason for room.
	var l [][]byte
	at := countSize
	for range count {
		p, n, e := TakeBlob(b[at:])
		if e != api.OK {
			return nil, 0, e
		}
		l = append(l, p)
		at += n
	}
	return l, at, api.OK
}

// NumKey is a number's key.
func NumKey(n int) []byte {
	return appendHighFirst(nil, uint64(n)+signBit, numSize)
}

// TakeNumKey takes one.
func TakeNumKey(b []byte) (int, int, api.Errno) {
	if len(b) < numSize {
		return 0, 0, api.ErrEnd
	}
	return int(highFirst(b[:numSize]) - signBit), numSize, api.OK
}

// TextKey is a text's key.
func TextKey(s string) []byte {
	key := make([]byte, 0, len(s)+2)
	for i := range len(s) {
		key = append(key, s[i])
		if s[i] == 0 {
			key = append(key, zeroStands)
		}
	}
	return append(key, 0, zeroEnds)
}

// TakeTextKey takes one.
func TakeTextKey(b []byte) (string, int, api.Errno) {
	var text []byte
reading:
	for at := 0; at < len(b); at++ {
		if b[at] != 0 {
			text = append(text, b[at])
			continue reading
		}
		at++
		switch {
		case at == len(b):
			break reading
		case b[at] == zeroEnds:
			return string(text), at + 1, api.OK
		case b[at] != zeroStands:
			return "", 0, api.ErrForm
		}
		text = append(text, 0)
	}
	return "", 0, api.ErrEnd
}

// takeCount takes the count that b begins with, which is at most most.
func takeCount(b []byte, most int) (int, api.Errno) {
	if len(b) < countSize {
		return 0, api.ErrEnd
	}
	count := highFirst(b[:countSize])
	if count > uint64(most) {
		return 0, api.ErrLong
	}
	return int(count), api.OK
}

// appendBlob puts a blob of p behind b. The caller has seen to p's length.
func appendBlob(b, p []byte) []byte {
	b = appendHighFirst(b, uint64(len(p)), countSize)
	return append(b, p...)
}

// appendHighFirst puts the lowest size bytes of n behind b, the highest first.
func appendHighFirst(b []byte, n uint64, size int) []byte {
	for i := size - 1; i >= 0; i-- {
		b = append(b, byte(n>>(8*i)))
	}
	return b
}

// highFirst is the number that b's bytes are, the highest first.
func highFirst(b []byte) uint64 {
	var n uint64
	for _, c := range b {
		n = n<<8 | uint64(c)
	}
	return n
}
