package value

import (
	"math"
	"math/big"
	"regexp"
	"strings"
	"testing"

	"ratline/api"
)

// The signatures are the chapter's: whoever changes one doesn't build.
var (
	_ func(api.Value) bool                = Right
	_ func(a, b api.Value) int            = Compare
	_ func(a, b int64) (int64, bool)      = Add
	_ func(a, b int64) (int64, bool)      = Sub
	_ func(a, b int64) (int64, bool)      = Times
	_ func(api.Value) string              = Show
	_ func(string) (api.Value, api.Errno) = Read
)

func number(n int64) api.Value { return api.Value{N: n} }

func text(s string) api.Value { return api.Value{Text: true, S: s} }

var edges = []int64{
	math.MinInt64, math.MinInt64 + 1, math.MinInt64 / 2, math.MinInt64/2 - 1, math.MinInt64/2 + 1,
	math.MinInt32, -3037000500, -3037000499, -1000, -10, -7, -3, -2, -1,
	0, 1, 2, 3, 7, 10, 255, 1000, 3037000499, 3037000500, math.MaxInt32, math.MaxUint32,
	math.MaxInt64 / 3, math.MaxInt64 / 2, math.MaxInt64/2 + 1, math.MaxInt64/2 + 2, math.MaxInt64 - 1, math.MaxInt64,
}

// rising are values that may be, each above the one ahead of it.
var rising = []api.Value{
	number(math.MinInt64), number(math.MinInt64 + 1), number(-10), number(-9), number(-1), number(0),
	number(1), number(2), number(10), number(math.MaxInt64 - 1), number(math.MaxInt64),
	text(""), text("\x00"), text("\x00\x00"), text("\x00a"), text("\x01"), text("-1"), text("10"), text("9"),
	text("A"), text("a"), text("a\x00"), text("aa"), text("ab"), text("abcdefghijkl"), text("abcdefghijkm"),
	text("b"), text("\x7f"), text("\x80"), text("\xc3\xa9"), text("\xff"), text("\xff\xff"),
	text(strings.Repeat("\xff", api.MaxText)),
}

func sign(n int) int {
	switch {
	case n < 0:
		return -1
	case n > 0:
		return 1
	}
	return 0
}

func TestP11Right(t *testing.T) {
	for _, v := range rising {
		if !Right(v) {
			t.Errorf("Right(%+v) is false", v)
		}
	}
	for _, v := range []api.Value{
		text(strings.Repeat("a", api.MaxText)),
		text(strings.Repeat("\x00", api.MaxText)),
		{},
	} {
		if !Right(v) {
			t.Errorf("Right(%+v) is false", v)
		}
	}
}

func TestP11WrongValues(t *testing.T) {
	for _, v := range wrongValues() {
		if Right(v) {
			t.Errorf("Right(%+v) is true", v)
		}
	}
}

func wrongValues() []api.Value {
	return []api.Value{
		text(strings.Repeat("a", api.MaxText+1)),
		text(strings.Repeat("é", api.MaxText/2) + "a"), // bytes count, not runes
		text(strings.Repeat("a", 5000)),
		{Text: true, N: 1},
		{Text: true, N: -1, S: "a"},
		{Text: true, N: math.MinInt64, S: strings.Repeat("a", api.MaxText+1)},
		{S: "a"},
		{S: "\x00"},
		{N: 5, S: "5"},
		{N: 5, S: strings.Repeat("a", api.MaxText+1)},
	}
}

func TestP11Compare(t *testing.T) {
	for i, a := range rising {
		for k, b := range rising {
			if got := Compare(a, b); got != sign(i-k) {
				t.Errorf("Compare(%+v, %+v) is %d", a, b, got)
			}
		}
	}
	if Compare(number(5), text("")) != -1 || Compare(text("a"), text("ab")) != -1 {
		t.Error("the chapter's examples")
	}
}

func TestP11WhatPlaysNoPart(t *testing.T) {
	for _, c := range []struct {
		a, b api.Value
		want int
	}{
		{api.Value{Text: true, N: 1, S: "a"}, api.Value{Text: true, N: 2, S: "a"}, 0},
		{api.Value{Text: true, N: 9, S: "a"}, api.Value{Text: true, N: 2, S: "b"}, -1},
		{api.Value{Text: true, N: 2, S: "b"}, api.Value{Text: true, N: 9, S: "a"}, 1},
		{api.Value{N: 1, S: "a"}, api.Value{N: 1, S: "b"}, 0},
		{api.Value{N: 1, S: "b"}, api.Value{N: 2, S: "a"}, -1},
		{api.Value{N: 2, S: "a"}, api.Value{N: 1, S: "b"}, 1},
		{api.Value{N: 5, S: "z"}, api.Value{Text: true, N: -5, S: "a"}, -1},
		{api.Value{Text: true, N: -5, S: "a"}, api.Value{N: 5, S: "z"}, 1},
	} {
		if got := Compare(c.a, c.b); got != c.want {
			t.Errorf("Compare(%+v, %+v) is %d, not %d", c.a, c.b, got, c.want)
		}
	}
}

func TestP11TextsBeyondTheLimit(t *testing.T) {
	long := strings.Repeat("a", api.MaxText)
	if Compare(text(long), text(long+"a")) != -1 || Compare(text(long+"b"), text(long+"a")) != 1 || Compare(text(long+"a"), text(long+"a")) != 0 {
		t.Error("bytes behind the limit count too")
	}
}

func TestP12Reckoning(t *testing.T) {
	for _, c := range []struct {
		name string
		got  func(a, b int64) (int64, bool)
		want func(z, x, y *big.Int) *big.Int
	}{
		{"Add", Add, (*big.Int).Add},
		{"Sub", Sub, (*big.Int).Sub},
		{"Times", Times, (*big.Int).Mul},
	} {
		for _, a := range edges {
			for _, b := range edges {
				whole := c.want(new(big.Int), big.NewInt(a), big.NewInt(b))
				n, ok := c.got(a, b)
				if ok != whole.IsInt64() || ok && n != whole.Int64() || !ok && n != 0 {
					t.Errorf("%s(%d, %d) is %d, %v; the whole is %v", c.name, a, b, n, ok, whole)
				}
			}
		}
	}
}

func TestP12Examples(t *testing.T) {
	if n, ok := Times(1<<62, 2); n != 0 || ok {
		t.Error(n, ok)
	}
	if n, ok := Times(1<<62, -2); n != math.MinInt64 || !ok {
		t.Error(n, ok)
	}
	if n, ok := Times(math.MinInt64, -1); n != 0 || ok {
		t.Error(n, ok)
	}
	if n, ok := Times(-1, math.MinInt64); n != 0 || ok {
		t.Error(n, ok)
	}
}

var forms = []struct {
	v api.Value
	s string
}{
	{number(0), "0"},
	{number(7), "7"},
	{number(-5), "-5"},
	{number(10), "10"},
	{number(-100), "-100"},
	{number(math.MaxInt64), "9223372036854775807"},
	{number(math.MinInt64), "-9223372036854775808"},
	{text(""), "x"},
	{text("az"), "x617a"},
	{text("0"), "x30"},
	{text("\x00"), "x00"},
	{text("\x0f\xf0"), "x0ff0"},
	{text("\x01\x23\x45\x67\x89\xab\xcd\xef"), "x0123456789abcdef"},
	{text("é"), "xc3a9"},
	{text("abcdefghijkl"), "x6162636465666768696a6b6c"},
}

func TestP13Show(t *testing.T) {
	for _, f := range forms {
		if got := Show(f.v); got != f.s {
			t.Errorf("Show(%+v) is %q, not %q", f.v, got, f.s)
		}
	}
	for _, v := range wrongValues() {
		if got := Show(v); got != "" {
			t.Errorf("Show(%+v) is %q", v, got)
		}
	}
}

func TestP13Read(t *testing.T) {
	for _, f := range forms {
		if got, e := Read(f.s); e != api.OK || got != f.v {
			t.Errorf("Read(%q) is %+v, %v", f.s, got, e)
		}
	}
}

func TestP13WrongForms(t *testing.T) {
	for _, s := range []string{
		"", "-", "--1", "-0", "00", "007", "-01", "+1", "+0", " 1", "1 ", "1\n", "1.0", "1e3", "1_000", "0x10", "0b1", "a", "y", "١",
		"9223372036854775808", "-9223372036854775809", "18446744073709551616", strings.Repeat("9", 5000), "0" + strings.Repeat("0", 40),
		"x6", "x617", "xAB", "xaB", "X61", "x6g", "xg6", "x/0", "x:0", "x@0", "x`0", "x-1", "x 6", "x61 ", " x61", "xx6", "x61x62", "\x00", "x\x00\x00", "x\xff\xff",
		"x" + strings.Repeat("00", api.MaxText+1), "x" + strings.Repeat("0", 2*api.MaxText+1), "x" + strings.Repeat("61", 5000), "-x61", "61x",
	} {
		if got, e := Read(s); e != api.ErrForm || got != (api.Value{}) {
			t.Errorf("Read(%q) is %+v, %v", s, got, e)
		}
	}
}

// The forms are told a second time here, by a pattern, so that Read is held against something that isn't Show.
func TestP13ReadsNothingElse(t *testing.T) {
	form := regexp.MustCompile(`^(0|-?[1-9][0-9]*|x([0-9a-f]{2})*)$`)
	for _, s := range words("-+019afgxAX_ ", 4) {
		v, e := Read(s)
		switch {
		case form.MatchString(s):
			if e != api.OK || !Right(v) || Show(v) != s {
				t.Errorf("Read(%q) is %+v, %v", s, v, e)
			}
		case e != api.ErrForm || v != (api.Value{}):
			t.Errorf("Read(%q) is %+v, %v", s, v, e)
		}
	}
}

// words are all texts of some letters, up to a length.
func words(letters string, longest int) []string {
	all, last := []string{""}, []string{""}
	for range longest {
		var next []string
		for _, w := range last {
			for i := range len(letters) {
				next = append(next, w+letters[i:i+1])
			}
		}
		all, last = append(all, next...), next
	}
	return all
}

func TestP14CompareIsAnOrder(t *testing.T) {
	all := append(wrongValues(), rising...)
	for _, a := range all {
		if Compare(a, a) != 0 {
			t.Errorf("%+v isn't its own like", a)
		}
		for _, b := range all {
			if Compare(a, b) != -Compare(b, a) {
				t.Errorf("%+v and %+v, turned", a, b)
			}
			if Right(a) && Right(b) && (Compare(a, b) == 0) != (a == b) {
				t.Errorf("%+v and %+v are told apart, or aren't", a, b)
			}
			for _, c := range all {
				if Compare(a, b) <= 0 && Compare(b, c) <= 0 && Compare(a, c) > 0 {
					t.Errorf("%+v, %+v, %+v go round", a, b, c)
				}
			}
		}
	}
}

func TestP14WhatIsShownIsRead(t *testing.T) {
	all := append([]api.Value{}, rising...)
	for _, n := range edges {
		all = append(all, number(n))
	}
	for b := range 256 {
		all = append(all, text(string([]byte{byte(b)})), text(string([]byte{'a', byte(b), 0})))
	}
	for n := range api.MaxText + 1 {
		all = append(all, text(strings.Repeat("\xfe", n)))
	}
	seen := map[string]api.Value{}
	for _, v := range all {
		s := Show(v)
		if got, e := Read(s); e != api.OK || got != v {
			t.Errorf("%+v is shown as %q, and read as %+v, %v", v, s, got, e)
		}
		if other, ok := seen[s]; ok && other != v {
			t.Errorf("%+v and %+v are both shown as %q", v, other, s)
		}
		seen[s] = v
	}
}
