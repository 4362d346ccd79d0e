// Package sap is layer 1: numbers, texts and rows as bytes. See shared/doc/01-sap.md.
package sap

import (
	"math"
	"math/bits"
	"strings"
)

// below marks, in a number's first byte, that the number is below 0.
const below = 0x80

// widest is how many bytes follow the first one of the longest number.
const widest = 8

// Num: a number's bytes.
func Num(n int) string {
	mark, size := byte(0), uint64(n)
	if n < 0 {
		// -1 - n, unlike -n, is in range for the lowest number too.
		mark, size = below, uint64(-1-n)
	}
	count := (bits.Len64(size) + 7) / 8
	var buf [1 + widest]byte
	buf[0] = mark | byte(count)
	for i := count; i > 0; i-- {
		buf[i] = byte(size)
		size >>= 8
	}
	return string(buf[:1+count])
}

// Text: a text's bytes.
func Text(s string) string { return Num(len(s)) + s }

// Row: the bytes of texts, as one.
func Row(parts ...string) string {
	var b strings.Builder
	b.WriteString(Num(len(parts)))
	for _, p := range parts {
		b.WriteString(Num(len(p)))
		b.WriteString(p)
	}
	return b.String()
}

// ReadNum: the number with which bytes begin, and what follows; false: none does.
func ReadNum(s string) (int, string, bool) {
	if s == "" {
		return 0, "", false
	}
	count := int(s[0] &^ below)
	if count > widest || count > len(s)-1 {
		return 0, "", false
	}
	// A 0 ahead would give a number a second form.
	if count > 0 && s[1] == 0 {
		return 0, "", false
	}
	size := uint64(0)
	for i := 1; i <= count; i++ {
		size = size<<8 | uint64(s[i])
	}
	if size > math.MaxInt {
		return 0, "", false
	}
	n := int(size)
	if s[0]&below != 0 {
		n = -1 - n
	}
	return n, s[1+count:], true
}

// ReadText: the text of at most most bytes with which bytes begin, and what follows; false: none does.
func ReadText(s string, most int) (string, string, bool) {
	n, rest, ok := ReadNum(s)
	if !ok || n < 0 || n > most || n > len(rest) {
		return "", "", false
	}
	return rest[:n], rest[n:], true
}

// ReadRow: the texts of the row of at most most texts with which bytes begin, and what follows; false: none does.
func ReadRow(s string, most int) ([]string, string, bool) {
	n, rest, ok := ReadNum(s)
	if !ok || n < 0 || n > most {
		return nil, "", false
	}
	// The list grows as texts are read: room for n at once would be as much as the bytes claim, not as they hold.
	var parts []string
	for range n {
		part, after, ok := ReadText(rest, len(rest))
		if !ok {
			return nil, "", false
		}
		parts = append(parts, part)
		rest = after
	}
	return parts, rest, true
}
