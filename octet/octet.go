// Package octet is layer 1: see shared/doc/01-octet.md.
package octet

import "iter"

// maxSize is how many bytes a number has at most.
const maxSize = 4

// Get answers the number that stands in size bytes of s from at on.
func Get(s string, at, size int) (int, bool) {
	if !within(s, at, size) {
		return 0, false
	}
	return number(s[at : at+size]), true
}

// Set answers s with the size bytes of n from at on instead of what stood there.
func Set(s string, at, size, n int) (string, bool) {
	if !within(s, at, size) {
		return "", false
	}
	put, ok := Put(size, n)
	if !ok {
		return "", false
	}
	return s[:at] + put + s[at+size:], true
}

// Put answers n in size bytes, the greatest first.
func Put(size, n int) (string, bool) {
	if !sizeRight(size) || n < 0 || n>>(8*size) != 0 {
		return "", false
	}
	var room [maxSize]byte
	for i := range size {
		room[size-1-i] = byte(n >> (8 * i))
	}
	return string(room[:size]), true
}

// Words hands on the numbers of two bytes each of s.
func Words(s string) iter.Seq[int] {
	return func(yield func(int) bool) {
		for pair := range pairs(s) {
			if !yield(number(pair)) {
				return
			}
		}
	}
}

// pairs hands on s two bytes at a time. Behind the last byte of an odd s it
// puts a 0, so that this byte counts 256 times, as the upper half of a word.
func pairs(s string) iter.Seq[string] {
	return func(yield func(string) bool) {
		whole := len(s) / 2
		for i := range whole {
			if !yield(s[2*i : 2*i+2]) {
				return
			}
		}
		if len(s) > 2*whole {
			yield(s[2*whole:] + "\x00")
		}
	}
}

// number answers what the bytes of s are as one number, the greatest first.
func number(s string) int {
	n := 0
	for i := range len(s) {
		n = n<<8 | int(s[i])
	}
	return n
}

func sizeRight(size int) bool {
	return 1 <= size && size <= maxSize
}

// within takes size from the length, as at + size might wrap.
func within(s string, at, size int) bool {
	return sizeRight(size) && 0 <= at && at <= len(s)-size
}
