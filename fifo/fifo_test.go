package fifo

import (
	"fmt"
	"math"
	"slices"
	"strings"
	"testing"

	"ratline/api"
	"ratline/claim"
	"ratline/mode"
)

// The signatures are the chapter's: whoever changes one doesn't build.
var (
	_ func() *Queue[api.Claim]                             = Claims
	_ func() *Queue[api.Mode]                              = Modes
	_ func(*Queue[api.Claim], int, api.Claim) bool         = (*Queue[api.Claim]).Ask
	_ func(*Queue[api.Mode], int, api.Mode) bool           = (*Queue[api.Mode]).Try
	_ func(*Queue[api.Claim], int) []api.Claim             = (*Queue[api.Claim]).Holds
	_ func(*Queue[api.Mode], int) (api.Mode, bool)         = (*Queue[api.Mode]).Waits
	_ func(*Queue[api.Claim], int) []int                   = (*Queue[api.Claim]).Blockers
	_ func(*Queue[api.Claim], int, []api.Claim) []int      = (*Queue[api.Claim]).Drop
	_ func(*Queue[api.Mode], int) []int                    = (*Queue[api.Mode]).Clear
	_ func(*Queue[[]string], int) []int                    = (*Queue[[]string]).Leave
	_ func(*Queue[func()]) int                             = (*Queue[func()]).Len
	_ func(*Queue[map[string]int], int) []map[string]int   = (*Queue[map[string]int]).Holds
	_ func(*Queue[chan int], int) (chan int, bool)         = (*Queue[chan int]).Waits
	_ func(*Queue[struct{ c int }], int) []struct{ c int } = (*Queue[struct{ c int }]).Holds
)

var modes = [...]api.Mode{api.NL, api.IS, api.IX, api.S, api.SIX, api.U, api.X}

var noModes = []api.Mode{-1, 7, 256 + api.S, 1<<32 + api.X, math.MinInt, math.MaxInt}

func everyMode() []api.Mode { return append(modes[:], noModes...) }

func number(n int64) api.Value { return api.Value{N: n} }

// pair is a row of two numbers.
func pair(key, n int64) api.Row { return api.Row{number(key), number(n)} }

func onTable(m api.Mode) api.Claim { return api.Claim{Kind: api.OnTable, Mode: m} }

func onRow(m api.Mode, key int64, images ...api.Row) api.Claim {
	return api.Claim{Kind: api.OnRow, Mode: m, Key: number(key), Images: images}
}

// reads is S on a row, writes X on it.
func reads(key int64) api.Claim { return onRow(api.S, key) }

func writes(key int64, images ...api.Row) api.Claim { return onRow(api.X, key, images...) }

func onPred(p api.Pred) api.Claim { return api.Claim{Kind: api.OnPred, Mode: api.S, Pred: p} }

// above is the rows whose column 1 is above a number.
func above(n int64) api.Claim { return onPred(api.Pred{Op: api.PGt, Col: 1, V: number(n)}) }

// odd is a claim of no kind: it is the Same as none, itself included, and in conflict with none.
func odd(m api.Mode) api.Claim { return api.Claim{Mode: m, Key: number(1)} }

// show tells a thing in such a way that nil and empty lists are one.
func show[C any](c C) string { return fmt.Sprintf("%+v", c) }

// state is all that is told of some owners.
func state[C any](q *Queue[C], owners ...int) string {
	var b strings.Builder
	for _, o := range owners {
		c, waits := q.Waits(o)
		fmt.Fprintf(&b, "%d holds %+v waits %v %+v blockers %v; ", o, q.Holds(o), waits, c, q.Blockers(o))
	}
	fmt.Fprintf(&b, "%d in all", q.Len())
	return b.String()
}

func wantAsk[C any](t *testing.T, q *Queue[C], owner int, c C, want bool) {
	t.Helper()
	if got := q.Ask(owner, c); got != want {
		t.Errorf("%d asks for %+v: %v", owner, c, got)
	}
}

func wantTry[C any](t *testing.T, q *Queue[C], owner int, c C, want bool) {
	t.Helper()
	if got := q.Try(owner, c); got != want {
		t.Errorf("%d tries %+v: %v", owner, c, got)
	}
}

func wantHolds[C any](t *testing.T, q *Queue[C], owner int, want ...C) {
	t.Helper()
	if got := q.Holds(owner); show(got) != show(want) {
		t.Errorf("%d holds %+v, not %+v", owner, got, want)
	}
}

func wantWaits[C any](t *testing.T, q *Queue[C], owner int, want C, blockers ...int) {
	t.Helper()
	if got, waits := q.Waits(owner); !waits || show(got) != show(want) {
		t.Errorf("%d waits %v for %+v, not for %+v", owner, waits, got, want)
	}
	wantOwners(t, fmt.Sprintf("blockers of %d", owner), q.Blockers(owner), blockers...)
}

func wantNoWait[C any](t *testing.T, q *Queue[C], owner int) {
	t.Helper()
	var none C
	if got, waits := q.Waits(owner); waits || show(got) != show(none) {
		t.Errorf("%d waits %v for %+v", owner, waits, got)
	}
	wantOwners(t, fmt.Sprintf("blockers of %d", owner), q.Blockers(owner))
}

func wantOwners(t *testing.T, what string, got []int, want ...int) {
	t.Helper()
	if !slices.Equal(got, want) {
		t.Errorf("%s: %v, not %v", what, got, want)
	}
}

func wantLen[C any](t *testing.T, q *Queue[C], want int) {
	t.Helper()
	if got := q.Len(); got != want {
		t.Errorf("Len is %d, not %d", got, want)
	}
}

// wantEmpty asks whether nobody holds, nobody waits.
func wantEmpty[C any](t *testing.T, q *Queue[C]) {
	t.Helper()
	wantLen(t, q, 0)
	for _, owner := range []int{math.MinInt, -1, 0, 1, 2, 3, math.MaxInt} {
		wantHolds(t, q, owner)
		wantNoWait(t, q, owner)
		wantOwners(t, "Clear", q.Clear(owner))
		wantOwners(t, "Leave", q.Leave(owner))
		wantOwners(t, "Drop", q.Drop(owner, nil))
		var c C
		wantOwners(t, "Drop", q.Drop(owner, []C{c, c}))
	}
}

func TestP101NewQueuesAreEmpty(t *testing.T) {
	wantEmpty(t, Claims())
	wantEmpty(t, Modes())
}

func TestP101QueuesAreApart(t *testing.T) {
	a, b := Modes(), Modes()
	wantAsk(t, a, 1, api.X, true)
	wantEmpty(t, b)
	wantAsk(t, b, 2, api.X, true)
	wantNoWait(t, b, 2)
	c, d := Claims(), Claims()
	wantAsk(t, c, 1, writes(1), true)
	wantEmpty(t, d)
}

// wantTwo has one owner ask for a, then another one for b; and the same in another queue by trying.
func wantTwo[C any](t *testing.T, queue func() *Queue[C], a, b C, fits bool) {
	t.Helper()
	asked, tried := queue(), queue()
	wantAsk(t, asked, 1, a, true)
	wantAsk(t, asked, 2, b, fits)
	wantTry(t, tried, 1, a, true)
	wantTry(t, tried, 2, b, fits)
	wantHolds(t, asked, 1, a)
	wantLen(t, asked, 2)
	if fits {
		wantHolds(t, asked, 2, b)
		wantNoWait(t, asked, 2)
		wantHolds(t, tried, 2, b)
		return
	}
	wantHolds(t, asked, 2)
	wantWaits(t, asked, 2, b, 1)
	wantHolds(t, tried, 2)
	wantNoWait(t, tried, 2)
	wantLen(t, tried, 1)
}

func TestP101ModesOfTwoOwners(t *testing.T) {
	for _, a := range everyMode() {
		for _, b := range everyMode() {
			wantTwo(t, Modes, a, b, mode.Fits(a, b))
		}
	}
}

// All modes are the Same: who has one and asks for another one has the Join of both.
func TestP101ModesOfOneOwner(t *testing.T) {
	for _, a := range everyMode() {
		for _, b := range everyMode() {
			for name, take := range map[string]func(*Queue[api.Mode], int, api.Mode) bool{"Ask": (*Queue[api.Mode]).Ask, "Try": (*Queue[api.Mode]).Try} {
				q := Modes()
				want := mode.Join(a, b)
				if mode.Covers(a, b) {
					want = a
				}
				if !take(q, 1, a) || !take(q, 1, b) {
					t.Errorf("%s of %d, then %d", name, a, b)
				}
				wantHolds(t, q, 1, want)
				wantLen(t, q, 1)
			}
		}
	}
}

// someClaims are of all kinds, in two tables; some may not be.
func someClaims() []api.Claim {
	all := []api.Claim{odd(api.S), odd(api.X), above(5), above(6), onPred(api.Pred{Op: api.PTrue}), writes(1, pair(1, 6)), writes(1, pair(1, 7), nil), writes(1, nil), writes(2, pair(2, 6))}
	for _, m := range append(modes[:], -1, 7) {
		all = append(all, onTable(m), onRow(m, 1), onRow(m, 2))
	}
	for _, c := range slices.Clone(all) {
		c.Table = 1
		all = append(all, c)
	}
	return all
}

func TestP101ClaimsOfTwoOwners(t *testing.T) {
	clashes := 0
	for _, a := range someClaims() {
		for _, b := range someClaims() {
			wantTwo(t, Claims, a, b, !claim.Conflict(a, b))
			if claim.Conflict(a, b) {
				clashes++
			}
		}
	}
	if clashes == 0 {
		t.Error("nothing was in conflict")
	}
}

// What one owner holds is never against what it asks for.
func TestP101ClaimsOfOneOwner(t *testing.T) {
	for _, a := range someClaims() {
		for _, b := range someClaims() {
			q := Claims()
			wantAsk(t, q, 1, a, true)
			wantAsk(t, q, 1, b, true)
			switch {
			case claim.Covers(a, b):
				wantHolds(t, q, 1, a)
			case claim.Same(a, b):
				wantHolds(t, q, 1, claim.Join(a, b))
			default:
				wantHolds(t, q, 1, a, b)
			}
		}
	}
}

func TestP101WhatIsCoveredIsHeld(t *testing.T) {
	q := Modes()
	wantAsk(t, q, 1, api.S, true)
	wantAsk(t, q, 2, api.X, false)
	wantAsk(t, q, 3, api.X, false)
	was := state(q, 1, 2, 3)
	for _, m := range []api.Mode{api.NL, api.IS, api.S} {
		// It is, though others wait who are against it.
		wantAsk(t, q, 1, m, true)
		wantTry(t, q, 1, m, true)
	}
	if got := state(q, 1, 2, 3); got != was {
		t.Errorf("%s\nwas %s", got, was)
	}
}

// A thing covers nothing that isn't the Same, and what others hold covers nothing.
func TestP101OnlyOnesOwnCovers(t *testing.T) {
	q := Claims()
	wantAsk(t, q, 1, writes(1), true)
	wantAsk(t, q, 1, reads(2), true)
	wantHolds(t, q, 1, writes(1), reads(2))
	wantAsk(t, q, 2, reads(2), true)
	wantAsk(t, q, 2, reads(1), false)
	m := Modes()
	wantAsk(t, m, 1, api.S, true)
	wantAsk(t, m, 2, api.IS, true)
	wantHolds(t, m, 2, api.IS)
}

func TestP101WhoWaitsIsNotGivenMore(t *testing.T) {
	q := Claims()
	wantAsk(t, q, 1, reads(1), true)
	wantAsk(t, q, 2, reads(2), true)
	wantAsk(t, q, 2, writes(1), false)
	was := state(q, 1, 2)
	for _, c := range []api.Claim{reads(1), writes(1), reads(2), writes(2), reads(3), writes(1, nil), above(5), odd(api.S), {}} {
		wantAsk(t, q, 2, c, false)
		wantTry(t, q, 2, c, false)
		if got := state(q, 1, 2); got != was {
			t.Errorf("%s\nwas %s", got, was)
		}
	}
	// Others aren't hindered by that.
	wantAsk(t, q, 3, reads(2), true)
}

func TestP101TryWaitsForNothing(t *testing.T) {
	q := Modes()
	wantTry(t, q, 1, api.S, true)
	wantTry(t, q, 2, api.S, true)
	was := state(q, 1, 2, 3)
	wantTry(t, q, 3, api.X, false)
	wantTry(t, q, 1, api.X, false)
	wantTry(t, q, 1, api.IX, false)
	if got := state(q, 1, 2, 3); got != was {
		t.Errorf("%s\nwas %s", got, was)
	}
	wantTry(t, q, 1, api.U, true)
	wantHolds(t, q, 1, api.U)
	wantTry(t, q, 3, api.IS, true)
	wantLen(t, q, 3)
}

func TestP101WhoWaitsIsAhead(t *testing.T) {
	q := Modes()
	wantAsk(t, q, 1, api.S, true)
	wantAsk(t, q, 2, api.IX, false)
	// S goes with what is held, but not with what is waited for ahead of it.
	wantTry(t, q, 3, api.S, false)
	wantAsk(t, q, 3, api.S, false)
	// IS goes with all of them: it passes.
	wantTry(t, q, 4, api.IS, true)
	wantWaits(t, q, 3, api.S, 2)
	wantWaits(t, q, 2, api.IX, 1)
	wantLen(t, q, 4)
	// What is waited for behind something is nothing against it: 2, which is ahead of 3, is given IX.
	wantOwners(t, "Clear", q.Clear(1), 2)
}

// Who wants more isn't kept waiting by those who wait for the first thing.
func TestP101MoreComesAhead(t *testing.T) {
	q := Modes()
	wantAsk(t, q, 1, api.IS, true)
	wantAsk(t, q, 2, api.IX, true)
	wantAsk(t, q, 3, api.X, false)
	wantAsk(t, q, 4, api.X, false)
	wantTry(t, q, 1, api.IX, true)
	wantHolds(t, q, 1, api.IX)
	wantAsk(t, q, 1, api.S, false)
	wantWaits(t, q, 1, api.SIX, 2)
	wantWaits(t, q, 3, api.X, 1, 2)
	wantWaits(t, q, 4, api.X, 1, 2, 3)
	wantOwners(t, "Clear", q.Clear(2), 1)
	wantHolds(t, q, 1, api.SIX)
	wantWaits(t, q, 3, api.X, 1)
}

func TestP101MoreStandsBehindMore(t *testing.T) {
	q := Modes()
	for owner := range 3 {
		wantAsk(t, q, owner, api.IS, true)
	}
	wantAsk(t, q, 3, api.IX, true)
	wantAsk(t, q, 9, api.X, false)
	wantAsk(t, q, 1, api.S, false)
	// IX goes with what is held, but not with the S that 1 waits for, which is more as well.
	wantTry(t, q, 2, api.IX, false)
	wantAsk(t, q, 2, api.IX, false)
	wantAsk(t, q, 0, api.U, false)
	wantWaits(t, q, 1, api.S, 3)
	wantWaits(t, q, 2, api.IX, 1)
	wantWaits(t, q, 0, api.U, 2, 3)
	wantWaits(t, q, 9, api.X, 0, 1, 2, 3)
	wantOwners(t, "Clear", q.Clear(3), 1)
	wantWaits(t, q, 2, api.IX, 1)
	wantWaits(t, q, 0, api.U, 2)
	wantOwners(t, "Leave", q.Leave(2), 0)
	wantWaits(t, q, 9, api.X, 0, 1, 2)
}

func TestP101WhoWaitsForNoMoreStandsBehindAll(t *testing.T) {
	q := Modes()
	wantAsk(t, q, 5, api.X, true)
	for owner := range 5 {
		wantAsk(t, q, owner, api.U, false)
	}
	for owner := range 5 {
		want := []int{5}
		for ahead := range owner {
			want = append(want, ahead)
		}
		slices.Sort(want)
		wantWaits(t, q, owner, api.U, want...)
	}
	for owner := range 5 {
		last := owner - 1
		if owner == 0 {
			last = 5
		}
		wantOwners(t, "Clear", q.Clear(last), owner)
	}
}

func TestP101MoreIsGivenInItsPlace(t *testing.T) {
	q := Claims()
	wantAsk(t, q, 1, reads(1), true)
	wantAsk(t, q, 2, reads(1), true)
	wantAsk(t, q, 1, reads(2), true)
	wantAsk(t, q, 1, reads(3), true)
	wantAsk(t, q, 1, writes(2, pair(2, 6)), true)
	wantHolds(t, q, 1, reads(1), writes(2, pair(2, 6)), reads(3))
	wantTry(t, q, 1, writes(2, nil, pair(2, 6)), true)
	wantHolds(t, q, 1, reads(1), writes(2, pair(2, 6), nil), reads(3))
	wantAsk(t, q, 1, writes(1, nil), false)
	wantHolds(t, q, 1, reads(1), writes(2, pair(2, 6), nil), reads(3))
	wantOwners(t, "Clear", q.Clear(2), 1)
	wantHolds(t, q, 1, writes(1, nil), writes(2, pair(2, 6), nil), reads(3))
	wantLen(t, q, 3)
}

// What is wanted is the Join: it may be in conflict where what was asked for alone isn't.
func TestP101TheJoinIsWanted(t *testing.T) {
	q := Modes()
	wantAsk(t, q, 1, api.S, true)
	wantAsk(t, q, 2, api.IS, true)
	wantAsk(t, q, 3, api.S, true)
	wantAsk(t, q, 1, api.IX, false)
	wantWaits(t, q, 1, api.SIX, 3)
	wantOwners(t, "Clear", q.Clear(3), 1)
	wantHolds(t, q, 1, api.SIX)

	c := Claims()
	wantAsk(t, c, 1, writes(1, pair(1, 3)), true)
	wantAsk(t, c, 2, above(5), true)
	wantAsk(t, c, 1, writes(1, nil), true)
	wantAsk(t, c, 1, writes(1, pair(1, 9)), false)
	wantWaits(t, c, 1, writes(1, pair(1, 3), nil, pair(1, 9)), 2)
	wantAsk(t, c, 3, above(2), false)
	wantWaits(t, c, 3, above(2), 1)
}

func TestP101AnyOwner(t *testing.T) {
	owners := []int{math.MaxInt, 0, math.MinInt, -1, 1 << 32, 1}
	q := Modes()
	for _, owner := range owners {
		wantAsk(t, q, owner, api.IS, true)
	}
	for _, owner := range owners {
		wantHolds(t, q, owner, api.IS)
		wantNoWait(t, q, owner)
	}
	wantAsk(t, q, 7, api.X, false)
	sorted := slices.Clone(owners)
	slices.Sort(sorted)
	wantWaits(t, q, 7, api.X, sorted...)
}

// A claim of no kind is the Same as none: each that is asked for is one more, and none can be dropped alone.
func TestP101WhatIsTheSameAsNone(t *testing.T) {
	q := Claims()
	wantAsk(t, q, 1, odd(api.X), true)
	wantAsk(t, q, 1, odd(api.X), true)
	wantTry(t, q, 1, odd(api.S), true)
	wantAsk(t, q, 2, odd(api.X), true)
	wantHolds(t, q, 1, odd(api.X), odd(api.X), odd(api.S))
	wantOwners(t, "Drop", q.Drop(1, []api.Claim{odd(api.X), odd(api.S)}))
	wantLen(t, q, 4)
	wantOwners(t, "Clear", q.Clear(1))
	wantLen(t, q, 1)
	wantHolds(t, q, 2, odd(api.X))
}

func TestP102HoldsInTheOrderOfTheRow(t *testing.T) {
	q := Claims()
	for _, key := range []int64{3, 1, 2} {
		wantAsk(t, q, 1, reads(key), true)
		wantAsk(t, q, 2, reads(-key), true)
	}
	wantHolds(t, q, 1, reads(3), reads(1), reads(2))
	wantHolds(t, q, 2, reads(-3), reads(-1), reads(-2))
	wantHolds(t, q, 3)
	wantOwners(t, "Drop", q.Drop(1, []api.Claim{reads(1)}))
	wantHolds(t, q, 1, reads(3), reads(2))
	wantAsk(t, q, 1, reads(1), true)
	wantHolds(t, q, 1, reads(3), reads(2), reads(1))
	wantHolds(t, q, 2, reads(-3), reads(-1), reads(-2))
	wantLen(t, q, 6)
}

// What is waited for isn't held, and is counted once.
func TestP102WaitsAndLen(t *testing.T) {
	q := Claims()
	wantAsk(t, q, 1, writes(1, pair(1, 6)), true)
	wantAsk(t, q, 1, writes(2), true)
	wantAsk(t, q, 2, above(5), false)
	wantAsk(t, q, 3, reads(2), false)
	wantAsk(t, q, 4, reads(3), true)
	wantHolds(t, q, 2)
	wantWaits(t, q, 2, above(5), 1)
	wantWaits(t, q, 3, reads(2), 1)
	wantNoWait(t, q, 1)
	wantNoWait(t, q, 4)
	wantNoWait(t, q, 5)
	wantLen(t, q, 5)
	wantOwners(t, "Leave", q.Leave(3))
	wantNoWait(t, q, 3)
	wantLen(t, q, 4)
}

// Blockers rise, however they came; who holds several things, or holds one and waits, is there once; who stands behind isn't there.
func TestP102Blockers(t *testing.T) {
	q := Claims()
	for _, owner := range []int{9, -4, 6} {
		wantAsk(t, q, owner, writes(int64(owner), pair(int64(owner), 9)), true)
	}
	wantAsk(t, q, 9, writes(1, pair(1, 8)), true)
	wantAsk(t, q, 3, writes(2, pair(2, 3)), true)
	wantAsk(t, q, 2, writes(9, pair(9, 9)), false)
	wantAsk(t, q, 9, writes(6, pair(6, 9)), false)
	wantAsk(t, q, 5, above(5), false)
	wantAsk(t, q, 1, writes(9, pair(9, 9)), false)
	wantWaits(t, q, 5, above(5), -4, 2, 6, 9)
	wantWaits(t, q, 2, writes(9, pair(9, 9)), 9)
	wantWaits(t, q, 9, writes(6, pair(6, 9)), 6)
	wantWaits(t, q, 1, writes(9, pair(9, 9)), 2, 5, 9)
	wantNoWait(t, q, 3)
	wantNoWait(t, q, -4)
}

// One's own things are nothing against what one waits for.
func TestP102NobodyBlocksItself(t *testing.T) {
	q := Claims()
	wantAsk(t, q, 1, writes(1, pair(1, 9)), true)
	wantAsk(t, q, 2, writes(2, pair(2, 9)), true)
	wantAsk(t, q, 1, above(5), false)
	wantWaits(t, q, 1, above(5), 2)
	wantOwners(t, "Clear", q.Clear(2), 1)
	wantHolds(t, q, 1, writes(1, pair(1, 9)), above(5))
}

func TestTheChaptersExample(t *testing.T) {
	q := Modes()
	wantAsk(t, q, 1, api.S, true)
	wantAsk(t, q, 2, api.S, true)
	wantAsk(t, q, 3, api.X, false)
	wantAsk(t, q, 4, api.S, false)
	wantAsk(t, q, 1, api.X, false)
	wantWaits(t, q, 1, api.X, 2)
	wantWaits(t, q, 3, api.X, 1, 2)
	wantWaits(t, q, 4, api.S, 1, 3)
	wantOwners(t, "Drop", q.Drop(2, []api.Mode{api.S}), 1)
	wantHolds(t, q, 1, api.X)
	wantOwners(t, "Drop", q.Drop(1, []api.Mode{api.X}), 3)
	wantHolds(t, q, 1)
	wantHolds(t, q, 3, api.X)
	wantWaits(t, q, 4, api.S, 3)
	wantLen(t, q, 2)
}

func TestP103DropOfTheSameOnly(t *testing.T) {
	q := Claims()
	for key := range int64(5) {
		wantAsk(t, q, 1, reads(key), true)
		wantAsk(t, q, 2, reads(key), true)
	}
	wantOwners(t, "Drop", q.Drop(1, nil))
	wantOwners(t, "Drop", q.Drop(1, []api.Claim{}))
	wantOwners(t, "Drop", q.Drop(1, []api.Claim{reads(7), above(5), onTable(api.S), {}}))
	wantOwners(t, "Drop", q.Drop(3, []api.Claim{reads(1)}))
	wantLen(t, q, 10)
	// What is the Same goes, whatever its mode and its images are.
	wantOwners(t, "Drop", q.Drop(1, []api.Claim{writes(3, nil), reads(7), reads(0), reads(3)}))
	wantHolds(t, q, 1, reads(1), reads(2), reads(4))
	wantHolds(t, q, 2, reads(0), reads(1), reads(2), reads(3), reads(4))
	wantLen(t, q, 8)

	m := Modes()
	wantAsk(t, m, 1, api.X, true)
	wantOwners(t, "Drop", m.Drop(1, []api.Mode{-1}))
	wantLen(t, m, 0)
}

func TestP103DropOfWhatIsWaitedFor(t *testing.T) {
	q := Claims()
	wantAsk(t, q, 1, reads(1), true)
	wantAsk(t, q, 2, writes(1), false)
	wantOwners(t, "Drop", q.Drop(2, []api.Claim{writes(1)}))
	wantOwners(t, "Clear", q.Clear(2))
	wantWaits(t, q, 2, writes(1), 1)
	wantOwners(t, "Drop", q.Drop(1, []api.Claim{reads(1)}), 2)
	wantHolds(t, q, 2, writes(1))
}

// Who drops, while it waits for more, what it held waits for more still: for the Join, ahead of the others; it has that behind all then.
func TestP103MoreStaysMore(t *testing.T) {
	for name, drop := range map[string]func(q *Queue[api.Claim]) []int{
		"Drop":  func(q *Queue[api.Claim]) []int { return q.Drop(1, []api.Claim{reads(1)}) },
		"Clear": func(q *Queue[api.Claim]) []int { return q.Clear(1) },
	} {
		q := Claims()
		wantAsk(t, q, 1, writes(1, pair(1, 3)), true)
		wantOwners(t, name, q.Clear(1))
		wantAsk(t, q, 1, reads(1), true)
		wantAsk(t, q, 2, reads(1), true)
		wantAsk(t, q, 3, reads(1), true)
		wantAsk(t, q, 2, reads(2), true)
		wantAsk(t, q, 4, writes(1), false)
		wantAsk(t, q, 1, writes(1, nil), false)
		wantOwners(t, name, drop(q))
		wantHolds(t, q, 1)
		wantWaits(t, q, 1, writes(1, nil), 2, 3)
		wantWaits(t, q, 4, writes(1), 1, 2, 3)
		// 3 holds the row: it asks for more, and stands behind 1, which waits for more still.
		wantAsk(t, q, 3, onRow(api.U, 1), false)
		wantWaits(t, q, 3, onRow(api.U, 1), 1)
		wantWaits(t, q, 4, writes(1), 1, 2, 3)
		wantOwners(t, name, q.Drop(2, []api.Claim{reads(1)}))
		wantOwners(t, name, q.Clear(3), 1)
		wantHolds(t, q, 1, writes(1, nil))
	}
}

func TestP103WhatWasDroppedIsGivenBehindAll(t *testing.T) {
	for _, dropped := range []bool{false, true} {
		q := Claims()
		wantAsk(t, q, 1, reads(1), true)
		wantAsk(t, q, 1, reads(2), true)
		wantAsk(t, q, 2, reads(1), true)
		wantAsk(t, q, 1, onRow(api.X, 1, nil), false)
		want := []api.Claim{onRow(api.X, 1, nil), reads(2)}
		if dropped {
			wantOwners(t, "Drop", q.Drop(1, []api.Claim{reads(1)}))
			slices.Reverse(want)
		}
		wantOwners(t, "Clear", q.Clear(2), 1)
		wantHolds(t, q, 1, want...)
	}
}

// The Join is what was wanted when it was asked for: what is dropped meanwhile takes nothing from it.
func TestP103TheJoinStays(t *testing.T) {
	q := Modes()
	wantAsk(t, q, 1, api.S, true)
	wantAsk(t, q, 2, api.S, true)
	wantAsk(t, q, 1, api.IX, false)
	wantOwners(t, "Drop", q.Drop(1, []api.Mode{api.S}))
	wantWaits(t, q, 1, api.SIX, 2)
	wantOwners(t, "Clear", q.Clear(2), 1)
	wantHolds(t, q, 1, api.SIX)
}

func TestP103OthersAreGivenInTheirOrder(t *testing.T) {
	q := Modes()
	wantAsk(t, q, 1, api.X, true)
	for _, owner := range []int{8, 3, 5} {
		wantAsk(t, q, owner, api.S, false)
	}
	wantAsk(t, q, 7, api.IX, false)
	wantAsk(t, q, 2, api.IS, false)
	wantAsk(t, q, 4, api.S, false)
	// 2 passes 7, which waits on; 4 doesn't.
	wantOwners(t, "Clear", q.Clear(1), 8, 3, 5, 2)
	wantWaits(t, q, 7, api.IX, 3, 5, 8)
	wantWaits(t, q, 4, api.S, 7)
	wantOwners(t, "Clear", q.Clear(3))
	wantOwners(t, "Drop", q.Drop(8, []api.Mode{api.NL}))
	wantOwners(t, "Drop", q.Drop(5, []api.Mode{api.NL}), 7)
	wantOwners(t, "Clear", q.Clear(2))
	wantOwners(t, "Clear", q.Clear(7), 4)
	wantLen(t, q, 1)
}

func TestP103WhoWaitsForMoreIsGivenFirst(t *testing.T) {
	q := Modes()
	wantAsk(t, q, 1, api.S, true)
	wantAsk(t, q, 2, api.S, true)
	wantAsk(t, q, 3, api.S, true)
	wantAsk(t, q, 4, api.IX, false)
	wantAsk(t, q, 5, api.IS, true)
	wantAsk(t, q, 2, api.X, false)
	wantAsk(t, q, 1, api.IX, false)
	wantOwners(t, "Clear", q.Clear(3))
	wantOwners(t, "Clear", q.Clear(5))
	wantOwners(t, "Leave", q.Leave(2))
	wantOwners(t, "Clear", q.Clear(2), 1)
	wantHolds(t, q, 1, api.SIX)
	wantOwners(t, "Clear", q.Clear(1), 4)
}

func TestP103LeaveLetsOthersThrough(t *testing.T) {
	q := Modes()
	wantAsk(t, q, 1, api.S, true)
	wantAsk(t, q, 2, api.S, true)
	wantAsk(t, q, 2, api.X, false)
	wantAsk(t, q, 3, api.S, false)
	wantAsk(t, q, 4, api.IS, false)
	wantAsk(t, q, 5, api.IX, false)
	wantOwners(t, "Leave", q.Leave(1))
	wantOwners(t, "Leave", q.Leave(7))
	wantLen(t, q, 6)
	// What 2 holds stays.
	wantOwners(t, "Leave", q.Leave(2), 3, 4)
	wantHolds(t, q, 2, api.S)
	wantNoWait(t, q, 2)
	wantWaits(t, q, 5, api.IX, 1, 2, 3)
	wantOwners(t, "Leave", q.Leave(5))
	wantLen(t, q, 4)
	// Who left may ask again.
	wantAsk(t, q, 5, api.IS, true)
	wantAsk(t, q, 2, api.X, false)
}

func TestP103ClearTakesAllOfOne(t *testing.T) {
	q := Claims()
	for key := range int64(4) {
		wantAsk(t, q, 1, writes(key), true)
		wantAsk(t, q, 2, reads(10+key), true)
	}
	wantAsk(t, q, 1, onTable(api.IX), true)
	wantAsk(t, q, 1, above(3), true)
	wantAsk(t, q, 1, odd(api.X), true)
	wantAsk(t, q, 3, reads(2), false)
	wantAsk(t, q, 4, onTable(api.S), false)
	wantAsk(t, q, 2, reads(0), false)
	wantOwners(t, "Clear", q.Clear(1), 3, 4, 2)
	wantHolds(t, q, 1)
	wantHolds(t, q, 2, reads(10), reads(11), reads(12), reads(13), reads(0))
	wantLen(t, q, 7)
}

// Where a Join is in conflict with less than one of both, a thing is free behind Ask for which somebody waits: whichever of these is called next, of whomever, gives it.
func TestP103WhatIsFreeIsGivenBehindEach(t *testing.T) {
	for name, call := range map[string]func(q *Queue[api.Mode]) []int{
		"Drop":  func(q *Queue[api.Mode]) []int { return q.Drop(2, nil) },
		"Clear": func(q *Queue[api.Mode]) []int { return q.Clear(2) },
		"Leave": func(q *Queue[api.Mode]) []int { return q.Leave(9) },
	} {
		q := Modes()
		wantAsk(t, q, 1, -1, true)
		wantAsk(t, q, 2, api.S, false)
		wantAsk(t, q, 3, api.IX, false)
		wantAsk(t, q, 1, api.S, true)
		wantHolds(t, q, 1, api.NL) // of -1, which is no mode, and S
		wantWaits(t, q, 2, api.S)
		wantOwners(t, name, call(q), 2)
		wantHolds(t, q, 2, api.S)
		wantWaits(t, q, 3, api.IX, 2)
	}
}

// tens is a queue of numbers: two of them are the Same, if they have their tens in common, and a greater one covers a lesser one, the Same or not. What is in conflict is told by a function.
func tens(conflict func(a, b int) bool) *Queue[int] {
	return &Queue[int]{rules: rules[int]{
		same:     func(a, b int) bool { return a/10 == b/10 },
		conflict: conflict,
		covers:   func(a, b int) bool { return a >= b },
		join:     func(a, b int) int { return max(a, b) },
		clone:    func(c int) int { return c },
	}}
}

// Each time the search begins with the first one, also where that is free only since one behind it was given something.
func TestP103AgainFromTheFirstOne(t *testing.T) {
	// What ends in 1 is against 20, which 1 holds till it has 25; 25 is against 40.
	q := tens(func(a, b int) bool { return a%10 == 1 && b == 20 || a == 25 && b == 40 })
	wantAsk(t, q, 1, 20, true)
	wantAsk(t, q, 2, 50, true)
	wantAsk(t, q, 3, 60, true)
	wantAsk(t, q, 4, 40, true)
	wantAsk(t, q, 2, 51, false)
	wantAsk(t, q, 3, 61, false)
	wantAsk(t, q, 5, 71, false)
	wantAsk(t, q, 1, 25, false)
	wantOwners(t, "Clear", q.Clear(4), 1, 2, 3, 5)
	wantHolds(t, q, 1, 25)
	wantLen(t, q, 4)
}

// noQueues are such as nobody made.
func noQueues[C any]() []*Queue[C] { return []*Queue[C]{nil, {}} }

func wantNone[C any](t *testing.T, c C) {
	t.Helper()
	for _, q := range noQueues[C]() {
		for range 2 {
			wantAsk(t, q, 1, c, false)
			wantTry(t, q, 1, c, false)
			wantHolds(t, q, 1)
			wantNoWait(t, q, 1)
			wantOwners(t, "Drop", q.Drop(1, []C{c}))
			wantOwners(t, "Clear", q.Clear(1))
			wantOwners(t, "Leave", q.Leave(1))
			wantLen(t, q, 0)
		}
		wantEmpty(t, q)
	}
}

func TestP104OfNone(t *testing.T) {
	wantNone(t, api.S)
	wantNone(t, writes(1, nil))
	wantNone(t, api.Claim{})
	wantNone(t, 7)
	wantNone(t, "text")
	wantNone(t, []int{1})
	wantNone(t, struct{ a []string }{[]string{"a"}})
}

// draws answers numbers below others, by a rule.
func draws(seed uint64) func(n int) int {
	return func(n int) int {
		seed = seed*6364136223846793005 + 1442695040888963407
		return int(seed>>33) % n
	}
}

// plain is a queue that does what the chapter says word by word, by new lists each time.
type plain[C any] struct {
	rules rules[C]
	held  []stand[C]
	waits []stand[C]
}

func (p *plain[C]) isFree(w stand[C], ahead []stand[C]) bool {
	for _, other := range append(slices.Clone(p.held), ahead...) {
		if other.owner != w.owner && p.rules.conflict(w.thing, other.thing) {
			return false
		}
	}
	return true
}

func (p *plain[C]) give(w stand[C]) {
	var held []stand[C]
	given := false
	for _, h := range p.held {
		if !given && h.owner == w.owner && p.rules.same(h.thing, w.thing) {
			h, given = w, true
		}
		held = append(held, h)
	}
	if !given {
		held = append(held, w)
	}
	p.held = held
}

func (p *plain[C]) ask(owner int, c C, wait bool) bool {
	wanted := stand[C]{owner: owner, thing: c}
	for _, w := range p.waits {
		if w.owner == owner {
			return false
		}
	}
	for _, h := range p.held {
		if h.owner != owner || !p.rules.same(h.thing, c) {
			continue
		}
		if p.rules.covers(h.thing, c) {
			return true
		}
		if !wanted.more {
			wanted = stand[C]{owner: owner, thing: p.rules.join(h.thing, c), more: true}
		}
	}
	var ahead, behind []stand[C]
	for _, w := range p.waits {
		if w.more || !wanted.more {
			ahead = append(ahead, w)
		} else {
			behind = append(behind, w)
		}
	}
	if p.isFree(wanted, ahead) {
		p.give(wanted)
		return true
	}
	if wait {
		p.waits = append(append(ahead, wanted), behind...)
	}
	return false
}

func (p *plain[C]) drop(owner int, goes func(C) bool, leaves bool) []int {
	var held, waits []stand[C]
	for _, h := range p.held {
		if h.owner != owner || !goes(h.thing) {
			held = append(held, h)
		}
	}
	for _, w := range p.waits {
		if !leaves || w.owner != owner {
			waits = append(waits, w)
		}
	}
	p.held, p.waits = held, waits
	var served []int
	for place := 0; place < len(p.waits); place++ {
		w := p.waits[place]
		if p.isFree(w, p.waits[:place]) {
			p.waits = append(slices.Clone(p.waits[:place]), p.waits[place+1:]...)
			p.give(w)
			served = append(served, w.owner)
			place = -1
		}
	}
	return served
}

// state is what Queue's state tells.
func (p *plain[C]) state(owners ...int) string {
	var b strings.Builder
	for _, o := range owners {
		var things []C
		var thing C
		blockers := map[int]bool{}
		waits := false
		for _, h := range p.held {
			if h.owner == o {
				things = append(things, h.thing)
			}
		}
		for place, w := range p.waits {
			if w.owner != o {
				continue
			}
			waits, thing = true, w.thing
			for _, other := range append(slices.Clone(p.held), p.waits[:place]...) {
				if other.owner != o && p.rules.conflict(thing, other.thing) {
					blockers[other.owner] = true
				}
			}
		}
		var rising []int
		for _, other := range owners {
			if blockers[other] {
				rising = append(rising, other)
			}
		}
		fmt.Fprintf(&b, "%d holds %+v waits %v %+v blockers %v; ", o, things, waits, thing, rising)
	}
	fmt.Fprintf(&b, "%d in all", len(p.held)+len(p.waits))
	return b.String()
}

var crowd = []int{-2, -1, 0, 1, 2, 3, 4}

// runBeside does the same with a queue and a plain one, by chance, and holds them against one another.
func runBeside[C any](t *testing.T, q *Queue[C], things []C, seed uint64, steps int) {
	t.Helper()
	draw := draws(seed)
	p := &plain[C]{rules: q.rules}
	for step := range steps {
		owner, c := crowd[draw(len(crowd))], things[draw(len(things))]
		var got, want string
		switch draw(12) {
		case 0, 1, 2, 3, 4, 5:
			got, want = show(q.Ask(owner, c)), show(p.ask(owner, c, true))
		case 6, 7:
			got, want = show(q.Try(owner, c)), show(p.ask(owner, c, false))
		case 8, 9:
			gone := []C{c, things[draw(len(things))], things[draw(len(things))]}[:draw(4)]
			got = show(q.Drop(owner, gone))
			want = show(p.drop(owner, func(h C) bool {
				return slices.ContainsFunc(gone, func(g C) bool { return q.rules.same(h, g) })
			}, false))
		case 10:
			got, want = show(q.Clear(owner)), show(p.drop(owner, func(C) bool { return true }, false))
		case 11:
			got, want = show(q.Leave(owner)), show(p.drop(owner, func(C) bool { return false }, true))
		}
		if got != want {
			t.Fatalf("seed %d, step %d: %s, not %s", seed, step, got, want)
		}
		if got, want := state(q, crowd...), p.state(crowd...); got != want {
			t.Fatalf("seed %d, step %d:\n%s\nnot\n%s", seed, step, got, want)
		}
	}
}

func TestP101To103WordByWord(t *testing.T) {
	for seed := range uint64(50) {
		runBeside(t, Modes(), modes[:], seed, 200)
		runBeside(t, Modes(), everyMode(), seed, 200)
		runBeside(t, Claims(), claimsThatMayBe(), seed, 200)
		runBeside(t, Claims(), someClaims(), seed, 200)
		draw := draws(seed)
		clashes := map[[2]int]bool{}
		var numbers []int
		for a := range 30 {
			numbers = append(numbers, a)
			for b := range 30 {
				clashes[[2]int{a, b}] = draw(6) == 0
			}
		}
		// A conflict that can't be turned about.
		runBeside(t, tens(func(a, b int) bool { return clashes[[2]int{a, b}] }), numbers, seed, 200)
	}
}

// claimsThatMayBe are of two tables, and close enough to one another to be in conflict often.
func claimsThatMayBe() []api.Claim {
	var all []api.Claim
	for _, m := range modes[1:] {
		all = append(all, onTable(m))
	}
	for key := range int64(2) {
		all = append(all, reads(key), onRow(api.U, key), writes(key), writes(key, nil), writes(key, pair(key, 3)), writes(key, pair(key, 9), nil), writes(key, pair(key, 3), pair(key, 9)))
	}
	all = append(all, above(2), above(5), onPred(api.Pred{Op: api.PNot, L: []api.Pred{above(5).Pred}}), onPred(api.Pred{Op: api.PFalse}))
	other := reads(0)
	other.Table = 1
	return append(all, other)
}

// runAndAsk has owners ask and drop by chance, and asks behind each step what follows.
func runAndAsk[C any](t *testing.T, q *Queue[C], things []C, seed uint64) {
	t.Helper()
	draw := draws(seed)
	waited := 0
	for range 300 {
		owner, c := crowd[draw(len(crowd))], things[draw(len(things))]
		switch draw(10) {
		case 0:
			q.Clear(owner)
		case 1:
			q.Leave(owner)
		case 2, 3:
			q.Drop(owner, []C{c})
		case 4:
			q.Try(owner, c)
		default:
			q.Ask(owner, c)
		}
		for _, o := range crowd {
			if _, waits := q.Waits(o); waits {
				waited++
			}
		}
		wantPeace(t, q)
	}
	if waited == 0 {
		t.Error("nobody waited")
	}
	for _, o := range crowd {
		q.Leave(o)
		q.Clear(o)
	}
	wantEmpty(t, q)
}

// wantPeace asks what P10.5 says, of what the queue tells.
func wantPeace[C any](t *testing.T, q *Queue[C]) {
	t.Helper()
	for _, a := range crowd {
		for _, b := range crowd {
			for _, x := range q.Holds(a) {
				for _, y := range q.Holds(b) {
					if a != b && q.rules.conflict(x, y) {
						t.Fatalf("%d holds %+v, %d %+v", a, x, b, y)
					}
				}
			}
		}
		if _, waits := q.Waits(a); waits != (len(q.Blockers(a)) > 0) {
			t.Fatalf("%d waits: %v, for %v", a, waits, q.Blockers(a))
		}
	}
	// Nobody is called 99: its leaving gives only what was free ahead of it.
	if served := q.Leave(99); len(served) > 0 {
		t.Fatalf("%v waited for what was free", served)
	}
}

func TestP105WhatFollows(t *testing.T) {
	for seed := range uint64(40) {
		runAndAsk(t, Modes(), modes[:], seed)
		runAndAsk(t, Claims(), claimsThatMayBe(), seed)
	}
}

// roomyClaim has room behind the ends of all its lists.
func roomyClaim() api.Claim {
	c := writes(1, append(make(api.Row, 0, 9), pair(1, 3)...), nil)
	c.Images = append(make([]api.Row, 0, 9), c.Images...)
	part := api.Pred{Op: api.PNot, L: append(make([]api.Pred, 0, 9), above(5).Pred)}
	c.Pred = api.Pred{Op: api.PAnd, L: append(make([]api.Pred, 0, 9), part)}
	return c
}

// spoil changes all that a claim leads to, the room behind its lists' ends included.
func spoil(c api.Claim) {
	images := c.Images[:cap(c.Images)]
	for i := range images {
		values := images[i][:cap(images[i])]
		for k := range values {
			values[k] = number(99)
		}
		images[i] = pair(99, 99)
	}
	spoilPred(c.Pred)
}

func spoilPred(p api.Pred) {
	l := p.L[:cap(p.L)]
	for i := range l {
		spoilPred(l[i])
		l[i] = api.Pred{Op: 99}
	}
}

func TestWhatIsHandedInIsNotKept(t *testing.T) {
	want, more := show(roomyClaim()), show(claim.Join(reads(1), roomyClaim()))
	q := Claims()
	given, waited, joined, tried := roomyClaim(), roomyClaim(), roomyClaim(), roomyClaim()
	tried.Key = number(2)
	wantAsk(t, q, 1, given, true)
	wantAsk(t, q, 2, waited, false)
	wantAsk(t, q, 3, reads(3), true)
	joined.Key = number(3)
	wantAsk(t, q, 3, joined, true)
	wantTry(t, q, 4, tried, true)
	was := state(q, 1, 2, 3, 4)
	for _, c := range []api.Claim{given, waited, joined, tried} {
		spoil(c)
	}
	if got := state(q, 1, 2, 3, 4); got != was {
		t.Errorf("%s\nwas %s", got, was)
	}
	if got := show(q.Holds(1)[0]); got != want {
		t.Errorf("%s, not %s", got, want)
	}

	q = Claims()
	wantAsk(t, q, 1, reads(1), true)
	wantAsk(t, q, 2, reads(1), true)
	waited = roomyClaim()
	wantAsk(t, q, 1, waited, false)
	spoil(waited)
	wantOwners(t, "Clear", q.Clear(2), 1)
	if got := show(q.Holds(1)[0]); got != more {
		t.Errorf("%s, not %s", got, more)
	}
}

func TestWhatIsAnsweredIsNewMemory(t *testing.T) {
	q := Claims()
	wantAsk(t, q, 1, roomyClaim(), true)
	wantAsk(t, q, 1, onRow(api.X, 2, pair(2, 3)), true)
	wantAsk(t, q, 2, roomyClaim(), false)
	wantAsk(t, q, 3, reads(1), false)
	was := state(q, 1, 2, 3)
	for range 2 {
		holds := q.Holds(1)
		for i, c := range holds {
			spoil(c)
			holds[i] = api.Claim{}
		}
		_ = append(holds[:0], api.Claim{}, api.Claim{}, api.Claim{})
		c, _ := q.Waits(2)
		spoil(c)
		blockers := q.Blockers(3)
		for i := range blockers[:cap(blockers)] {
			blockers[:cap(blockers)][i] = 99
		}
		if got := state(q, 1, 2, 3); got != was {
			t.Fatalf("%s\nwas %s", got, was)
		}
	}
	a, b := q.Holds(1), q.Holds(1)
	spoil(a[0])
	if show(b[0]) != show(roomyClaim()) {
		t.Error("two answers share something")
	}
}

func TestWhatIsHandedInStays(t *testing.T) {
	for _, owner := range []int{1, 2} {
		q := Claims()
		wantAsk(t, q, 1, writes(1, pair(1, 4)), true)
		wantAsk(t, q, 1, reads(2), true)
		c, gone := roomyClaim(), []api.Claim{reads(2), roomyClaim(), writes(7, nil)}
		whole := gone
		gone = gone[:2]
		q.Try(owner, c)
		q.Ask(owner, c)
		q.Drop(owner, gone)
		if show(c) != show(roomyClaim()) || show(whole) != show([]api.Claim{reads(2), roomyClaim(), writes(7, nil)}) {
			t.Errorf("%+v, %+v", c, whole)
		}
	}
}

// What asks only changes nothing, however often it is asked.
func TestP102AsksChangeNothing(t *testing.T) {
	q := Modes()
	wantAsk(t, q, 1, api.S, true)
	wantAsk(t, q, 2, api.X, false)
	wantAsk(t, q, 3, api.S, false)
	first := state(q, 1, 2, 3, 4)
	for range 3 {
		if got := state(q, 1, 2, 3, 4); got != first {
			t.Errorf("%s\nwas %s", got, first)
		}
	}
}

// There is no limit to how many there are.
func TestManyOwners(t *testing.T) {
	const many = 1500
	q := Modes()
	wantAsk(t, q, 0, api.X, true)
	for owner := 1; owner <= many; owner++ {
		wantAsk(t, q, owner, api.S, false)
	}
	wantLen(t, q, many+1)
	wantWaits(t, q, many, api.S, 0)
	served := q.Clear(0)
	if len(served) != many || !slices.IsSorted(served) {
		t.Errorf("%d were given something", len(served))
	}
	wantAsk(t, q, 0, api.X, false)
	if got := len(q.Blockers(0)); got != many {
		t.Errorf("0 waits for %d", got)
	}
}

// A claim may be deep, and wrong: each call ends.
func TestGreatClaims(t *testing.T) {
	deep := api.Pred{Op: api.PTrue}
	for range 1 << 15 {
		deep = api.Pred{Op: api.PNot, L: []api.Pred{deep}}
	}
	q := Claims()
	wantAsk(t, q, 1, onPred(deep), true)
	wantAsk(t, q, 2, writes(1, pair(1, 1)), false) // it holds of all rows
	wantAsk(t, q, 1, onPred(deep), true)
	wantLen(t, q, 2)
	if got := q.Drop(1, []api.Claim{onPred(deep)}); !slices.Equal(got, []int{2}) {
		t.Errorf("%v were given something", got)
	}
}
