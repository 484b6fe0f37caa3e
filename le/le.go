// Package le is layer 1: see shared/doc/01-le.md.
package le

import "gabion/api"

const wordBytes = api.Line / api.Words

// Put: a number's bytes, the lowest one first.
func Put(n uint64, size int) string {
	var b [wordBytes]byte
	for i := range b {
		b[i] = byte(n >> (8 * i))
	}
	return string(b[:min(max(size, 0), len(b))])
}

// Get: the number of bytes.
func Get(s string) uint64 {
	var n uint64
	for i := range min(len(s), wordBytes) {
		n |= uint64(s[i]) << (8 * i)
	}
	return n
}

// Words: the words of a line's bytes.
func Words(s string) ([api.Words]uint64, api.Errno) {
	var w [api.Words]uint64
	if len(s) != api.Line {
		return w, api.ErrArg
	}
	for k := range w {
		w[k] = Get(s[wordBytes*k:])
	}
	return w, api.OK
}

// Text: the bytes of a line's words.
func Text(w [api.Words]uint64) string {
	b := make([]byte, 0, api.Line)
	for _, v := range w {
		b = append(b, Put(v, wordBytes)...)
	}
	return string(b)
}

// Field: some bits of a word.
func Field(w uint64, at, width int) uint64 {
	return w & mask(at, width) >> (at & 63)
}

// With: a word with other bits there.
func With(w uint64, at, width int, v uint64) uint64 {
	m := mask(at, width)
	return w&^m | v<<(at&63)&m
}

// mask has the bits of a field; none if there is no such field.
func mask(at, width int) uint64 {
	if at < 0 || at > 63 || width < 1 || width > 64-at {
		return 0
	}
	return ^uint64(0) >> (64 - width) << at
}
