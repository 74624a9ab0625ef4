package mode

import (
	"math"
	"testing"

	"ratline/api"
)

// The signatures are the chapter's: whoever changes one doesn't build.
var (
	_ func(api.Mode) bool          = Right
	_ func(a, b api.Mode) bool     = Fits
	_ func(a, b api.Mode) bool     = Covers
	_ func(a, b api.Mode) api.Mode = Join
	_ func(api.Mode) api.Mode      = Intent
	_ func(api.Mode) string        = Name
)

var modes = [...]api.Mode{api.NL, api.IS, api.IX, api.S, api.SIX, api.U, api.X}

// noModes are numbers next to those of modes, at the ends, and such as would be a mode's if they were cut to fewer bits.
var noModes = []api.Mode{
	-1, -2, -7, 7, 8, 9, 15, 31, 32, 63, 64, 65, 100, 127, 128, 255, 256, 257, 256 + api.X, -256, -256 + api.S,
	1 << 16, 1<<16 + api.IS, 1 << 32, 1<<32 + api.S, -1 << 32, -1<<32 + api.U,
	math.MinInt32, math.MaxInt32, math.MinInt, math.MinInt + 1, math.MinInt + api.X, math.MaxInt - 1, math.MaxInt,
}

func everyNumber() []api.Mode { return append(modes[:], noModes...) }

// fits is the chapter's table, with NL ahead: a row and a column for each of the modes, in their order.
var fits = [len(modes)]string{
	"yyyyyyy",
	"yyyyyyn",
	"yyynnnn",
	"yynynyn",
	"yynnnnn",
	"yynynnn",
	"ynnnnnn",
}

// covers tells by the same letters whether the row's mode covers the column's.
var covers = [len(modes)]string{
	"ynnnnnn",
	"yynnnnn",
	"yyynnnn",
	"yynynnn",
	"yyyyyyn",
	"yynynyn",
	"yyyyyyy",
}

var joins = [len(modes)][len(modes)]api.Mode{
	{api.NL, api.IS, api.IX, api.S, api.SIX, api.U, api.X},
	{api.IS, api.IS, api.IX, api.S, api.SIX, api.U, api.X},
	{api.IX, api.IX, api.IX, api.SIX, api.SIX, api.SIX, api.X},
	{api.S, api.S, api.SIX, api.S, api.SIX, api.U, api.X},
	{api.SIX, api.SIX, api.SIX, api.SIX, api.SIX, api.SIX, api.X},
	{api.U, api.U, api.SIX, api.U, api.SIX, api.U, api.X},
	{api.X, api.X, api.X, api.X, api.X, api.X, api.X},
}

// eachPair calls for each two modes, with their places.
func eachPair(ask func(i, k int, a, b api.Mode)) {
	for i, a := range modes {
		for k, b := range modes {
			ask(i, k, a, b)
		}
	}
}

// eachWrongPair calls for each two numbers of which one is no mode, or both.
func eachWrongPair(ask func(a, b api.Mode)) {
	for _, a := range noModes {
		for _, b := range everyNumber() {
			ask(a, b)
			ask(b, a)
		}
	}
}

func TestP81TheModesAreZeroToSix(t *testing.T) {
	for i, m := range modes {
		if m != api.Mode(i) || !Right(m) {
			t.Errorf("%d stands at %d, and Right tells %v", m, i, Right(m))
		}
	}
	for _, m := range noModes {
		if Right(m) {
			t.Errorf("%d isn't one", m)
		}
	}
}

func TestP81Fits(t *testing.T) {
	eachPair(func(i, k int, a, b api.Mode) {
		if got := Fits(a, b); got != (fits[i][k] == 'y') {
			t.Errorf("Fits(%d, %d) is %v", a, b, got)
		}
	})
}

func TestP81NLFitsEveryMode(t *testing.T) {
	for _, m := range modes {
		if !Fits(api.NL, m) || !Fits(m, api.NL) {
			t.Errorf("NL and %d", m)
		}
	}
}

func TestP81Covers(t *testing.T) {
	eachPair(func(i, k int, a, b api.Mode) {
		if got := Covers(a, b); got != (covers[i][k] == 'y') {
			t.Errorf("Covers(%d, %d) is %v", a, b, got)
		}
	})
}

// The promise's own words, over the chapter's table.
func TestP81CoversIsThatAllThatFitsTheOneFitsTheOther(t *testing.T) {
	eachPair(func(i, k int, a, b api.Mode) {
		want := true
		for n := range modes {
			want = want && (fits[n][i] == 'n' || fits[n][k] == 'y')
		}
		if got := Covers(a, b); got != want {
			t.Errorf("Covers(%d, %d) is %v", a, b, got)
		}
	})
}

func TestP81Join(t *testing.T) {
	eachPair(func(i, k int, a, b api.Mode) {
		if got := Join(a, b); got != joins[i][k] {
			t.Errorf("Join(%d, %d) is %d, not %d", a, b, got, joins[i][k])
		}
	})
}

func TestP81ExamplesOfTheChapter(t *testing.T) {
	for _, c := range []struct{ a, b, want api.Mode }{
		{api.S, api.IX, api.SIX},
		{api.U, api.IX, api.SIX},
		{api.IS, api.U, api.U},
	} {
		if got := Join(c.a, c.b); got != c.want {
			t.Errorf("Join(%d, %d) is %d, not %d", c.a, c.b, got, c.want)
		}
	}
	if !Covers(api.SIX, api.U) {
		t.Error("SIX covers U")
	}
	if Covers(api.U, api.IX) {
		t.Error("U doesn't cover IX")
	}
}

func TestP81NumbersThatAreNoMode(t *testing.T) {
	eachWrongPair(func(a, b api.Mode) {
		if Fits(a, b) {
			t.Errorf("Fits(%d, %d)", a, b)
		}
		if Covers(a, b) {
			t.Errorf("Covers(%d, %d)", a, b)
		}
		if got := Join(a, b); got != api.NL {
			t.Errorf("Join(%d, %d) is %d", a, b, got)
		}
	})
}

func TestP82Intent(t *testing.T) {
	want := [len(modes)]api.Mode{api.NL, api.IS, api.IX, api.IS, api.SIX, api.IX, api.IX}
	for i, m := range modes {
		if got := Intent(m); got != want[i] {
			t.Errorf("Intent(%d) is %d, not %d", m, got, want[i])
		}
	}
	for _, m := range noModes {
		if got := Intent(m); got != api.NL {
			t.Errorf("Intent(%d) is %d", m, got)
		}
	}
}

func TestP82Name(t *testing.T) {
	want := [len(modes)]string{"NL", "IS", "IX", "S", "SIX", "U", "X"}
	for i, m := range modes {
		if got := Name(m); got != want[i] {
			t.Errorf("Name(%d) is %q, not %q", m, got, want[i])
		}
	}
	for _, m := range noModes {
		if got := Name(m); got != "" {
			t.Errorf("Name(%d) is %q", m, got)
		}
	}
}

func TestP83WhatFitsAJoinFitsBoth(t *testing.T) {
	eachPair(func(_, _ int, a, b api.Mode) {
		for _, m := range everyNumber() {
			if both := Fits(m, a) && Fits(m, b); Fits(m, Join(a, b)) != both || Fits(Join(a, b), m) != both {
				t.Errorf("%d, and the join of %d and %d", m, a, b)
			}
		}
	})
}

func TestP83FitsCanBeTurnedAbout(t *testing.T) {
	for _, a := range everyNumber() {
		for _, b := range everyNumber() {
			if Fits(a, b) != Fits(b, a) {
				t.Errorf("%d and %d, turned", a, b)
			}
		}
	}
}

func TestP83CoversIsAnOrder(t *testing.T) {
	eachPair(func(_, _ int, a, b api.Mode) {
		if !Covers(a, a) {
			t.Errorf("%d doesn't cover itself", a)
		}
		if a != b && Covers(a, b) && Covers(b, a) {
			t.Errorf("%d and %d cover each other", a, b)
		}
		for _, c := range modes {
			if Covers(a, b) && Covers(b, c) && !Covers(a, c) {
				t.Errorf("%d covers %d, that covers %d", a, b, c)
			}
		}
	})
	for _, m := range noModes {
		if Covers(m, m) {
			t.Errorf("%d is no mode", m)
		}
	}
}

func TestP83NLAndXAreTheOrdersEnds(t *testing.T) {
	for _, m := range modes {
		if !Covers(m, api.NL) || !Covers(api.X, m) {
			t.Errorf("%d isn't between NL and X", m)
		}
		if Join(m, api.NL) != m || Join(m, api.X) != api.X {
			t.Errorf("%d, joined with NL or X", m)
		}
	}
}

func TestP83JoinIsTheLeastThatCovers(t *testing.T) {
	eachPair(func(_, _ int, a, b api.Mode) {
		j := Join(a, b)
		if !Covers(j, a) || !Covers(j, b) {
			t.Errorf("%d doesn't cover %d and %d", j, a, b)
		}
		for _, m := range modes {
			if Covers(m, a) && Covers(m, b) && !Covers(m, j) {
				t.Errorf("%d covers %d and %d, but not their join %d", m, a, b, j)
			}
		}
	})
}

func TestP83JoinsInAnyOrder(t *testing.T) {
	eachPair(func(_, _ int, a, b api.Mode) {
		if Join(a, b) != Join(b, a) {
			t.Errorf("%d and %d, turned", a, b)
		}
		if Covers(a, b) != (Join(a, b) == a) {
			t.Errorf("%d covers %d just if their join is it", a, b)
		}
		for _, c := range modes {
			if Join(Join(a, b), c) != Join(a, Join(b, c)) {
				t.Errorf("%d, %d and %d", a, b, c)
			}
		}
	})
}
