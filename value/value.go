// Package value is layer 1: numbers and texts.
package value

import (
	"strconv"

	"ratline/api"
)

// digits are those that a text's bytes are told by.
var digits = [16]byte{'0', '1', '2', '3', '4', '5', '6', '7', '8', '9', 'a', 'b', 'c', 'd', 'e', 'f'}

// textMark stands ahead of a text's digits, so that none is taken for a number.
const textMark = 'x'

// bare is a value without the field that plays no part in its kind.
func bare(v api.Value) api.Value {
	if v.Text {
		return api.Value{Text: true, S: v.S}
	}
	return api.Value{N: v.N}
}

// Right tells whether a value may be.
func Right(v api.Value) bool {
	return v == bare(v) && len(v.S) <= api.MaxText
}

// Compare holds two values against one another.
func Compare(a, b api.Value) int {
	switch {
	case bare(a) == bare(b):
		return 0
	case below(a, b):
		return -1
	}
	return 1
}

// below tells whether the first one comes ahead of the other one.
func below(a, b api.Value) bool {
	switch {
	case a.Text != b.Text:
		return b.Text
	case a.Text:
		return a.S < b.S
	}
	return a.N < b.N
}

// Add is a sum, if it is a number of 64 bits.
func Add(a, b int64) (int64, bool) {
	sum := a + b
	// Only two of one sign can go beyond, and then the sum's sign is the other one.
	if (a < 0) == (b < 0) && (sum < 0) != (a < 0) {
		return 0, false
	}
	return sum, true
}

// Sub is a difference, likewise.
func Sub(a, b int64) (int64, bool) {
	less := a - b
	// Only two of different signs can go beyond, and then the difference lacks the first one's.
	if (a < 0) != (b < 0) && (less < 0) != (a < 0) {
		return 0, false
	}
	return less, true
}

// Times is a product, likewise.
func Times(a, b int64) (int64, bool) {
	if a == 0 || b == 0 {
		return 0, true
	}
	product := a * b
	// The sign is asked too: the least number divided by -1 wraps round to itself.
	if product/b != a || (product < 0) != ((a < 0) != (b < 0)) {
		return 0, false
	}
	return product, true
}

// Show is a value's text.
func Show(v api.Value) string {
	switch {
	case !Right(v):
		return ""
	case v.Text:
		return showText(v.S)
	}
	return strconv.FormatInt(v.N, 10)
}

func showText(s string) string {
	out := []byte{textMark}
	for i := range len(s) {
		out = append(out, digits[s[i]>>4], digits[s[i]&15])
	}
	return string(out)
}

// Read is a text's value.
func Read(s string) (api.Value, api.Errno) {
	if s != "" && s[0] == textMark {
		return readText(s[1:])
	}
	return readNumber(s)
}

func readText(s string) (api.Value, api.Errno) {
	if len(s)%2 != 0 || len(s) > 2*api.MaxText {
		return api.Value{}, api.ErrForm
	}
	var text []byte
	for i := range len(s) / 2 {
		high, isHigh := digit(s[2*i])
		low, isLow := digit(s[2*i+1])
		if !isHigh || !isLow {
			return api.Value{}, api.ErrForm
		}
		text = append(text, high<<4|low)
	}
	return api.Value{Text: true, S: string(text)}, api.OK
}

// digit is how much a digit stands for.
func digit(c byte) (byte, bool) {
	for n := range len(digits) {
		if digits[n] == c {
			return byte(n), true
		}
	}
	return 0, false
}

func readNumber(s string) (api.Value, api.Errno) {
	n, err := strconv.ParseInt(s, 10, 64)
	v := api.Value{N: n}
	// A number has one form only, but +1, -0 and 007 are parsed too.
	if err != nil || Show(v) != s {
		return api.Value{}, api.ErrForm
	}
	return v, api.OK
}
