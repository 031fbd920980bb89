// Package chars is layer 1: see shared/doc/01-chars.md.
package chars

import (
	"bytes"
	"slices"
	"strings"

	"enclave/api"
)

const (
	blanks = " \t\n"
	signs  = "(),!:=>+-*<;"
)

// Class is the class of a byte.
func Class(c byte) uint8 {
	switch {
	case strings.IndexByte(blanks, c) >= 0:
		return api.ClassBlank
	case '0' <= c && c <= '9':
		return api.ClassDigit
	case 'a' <= c && c <= 'z':
		return api.ClassSmall
	case 'A' <= c && c <= 'Z':
		return api.ClassGreat
	case strings.IndexByte(signs, c) >= 0:
		return api.ClassSign
	}
	return api.ClassOther
}

// Span is how many bytes of b, one behind the other from the place at on, are of one of the classes.
func Span(b []byte, at int, classes ...uint8) int {
	if at < 0 || at >= len(b) {
		return 0
	}
	return lead(b[at:], func(c byte) bool { return slices.Contains(classes, Class(c)) })
}

// lead is how many bytes at the beginning of b hold.
func lead(b []byte, holds func(c byte) bool) int {
	for i, c := range b {
		if !holds(c) {
			return i
		}
	}
	return len(b)
}

// Place is the line and the column, from 1 on, of the place at in b.
func Place(b []byte, at int) (int, int) {
	at = min(max(at, 0), len(b))
	ahead := b[:at]
	// Where there is no line feed, LastIndexByte's -1 is the place just ahead of the text, from which the first line counts.
	return 1 + bytes.Count(ahead, []byte{'\n'}), at - bytes.LastIndexByte(ahead, '\n')
}
