// Package leb is layer 1, whole numbers as few bytes: see shared/doc/01-leb.md.
package leb

import (
	"tappet/api"
)

// tenth is the place of the last byte that an encoding can have: nine bytes hold 63 bits, so one bit is left for it.
const tenth = 9

// Put lays the encodings of numbers, one behind the other.
func Put(ns ...uint64) []byte {
	out := make([]byte, 0, Width(ns...))
	for _, n := range ns {
		for n >= 128 {
			out = append(out, byte(n%128)+128)
			n /= 128
		}
		out = append(out, byte(n))
	}
	return out
}

// PutInt lays the encodings of signed numbers, one behind the other.
func PutInt(ns ...int64) []byte {
	us := make([]uint64, 0, len(ns))
	for _, n := range ns {
		us = append(us, fold(n))
	}
	return Put(us...)
}

// Width is how many bytes Put answers.
func Width(ns ...uint64) int {
	w := 0
	for _, n := range ns {
		w++
		for n >= 128 {
			w++
			n /= 128
		}
	}
	return w
}

// Get reads the number at the front of b: it, how many bytes it has, and ErrShort or ErrForm where there is none.
func Get(b []byte) (uint64, int, api.Errno) {
	var n uint64
	for i, c := range b {
		if i == tenth && c > 1 {
			return 0, 0, api.ErrForm
		}
		if i > 0 && c == 0 {
			return 0, 0, api.ErrForm
		}
		n |= uint64(c%128) << (7 * i)
		if c < 128 {
			return n, i + 1, api.OK
		}
	}
	return 0, 0, api.ErrShort
}

// GetInt reads the signed number at the front of b, as Get does.
func GetInt(b []byte) (int64, int, api.Errno) {
	u, w, e := Get(b)
	return unfold(u), w, e
}

// All reads the numbers whose encodings b is, one behind the other, or tells the first error.
func All(b []byte) ([]uint64, api.Errno) {
	var ns []uint64
	for len(b) > 0 {
		n, w, e := Get(b)
		if e != api.OK {
			return nil, e
		}
		ns = append(ns, n)
		b = b[w:]
	}
	return ns, api.OK
}

// fold is the number by which a signed one is encoded. Below 0, -2n - 1 is 2(-(n+1)) + 1, in which nothing overflows, not even for the least number.
func fold(n int64) uint64 {
	if n < 0 {
		return 2*uint64(-(n+1)) + 1
	}
	return 2 * uint64(n)
}

// unfold is the signed number that is encoded as u.
func unfold(u uint64) int64 {
	half := int64(u / 2)
	if u%2 == 1 {
		return -half - 1
	}
	return half
}
