package recipe

import (
	"strings"

	"apiary/api"
)

// digits are those of base 16, each at the place that is its number.
const digits = "0123456789abcdef"

// codeWord: a code's word.
func codeWord(code string) string {
	if code == "" {
		return noCode
	}
	var word strings.Builder
	for i := range len(code) {
		word.WriteByte(digits[code[i]>>4])
		word.WriteByte(digits[code[i]&15])
	}
	return word.String()
}

// readCode: the code of a word; false if it is none's.
func readCode(word string) (string, bool) {
	if word == noCode {
		return "", true
	}
	if word == "" || len(word)%2 != 0 || len(word) > 2*api.MaxCode {
		return "", false
	}
	var code strings.Builder
	for i := 0; i < len(word); i += 2 {
		high, low := strings.IndexByte(digits, word[i]), strings.IndexByte(digits, word[i+1])
		if high < 0 || low < 0 {
			return "", false
		}
		code.WriteByte(byte(high<<4 | low))
	}
	return code.String(), true
}
