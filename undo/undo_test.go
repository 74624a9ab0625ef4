package undo

import (
	"math"
	"slices"
	"strings"
	"testing"

	"ratline/api"
	"ratline/row"
)

// The signatures are the chapter's: whoever changes one doesn't build.
var (
	_ func(int) *Log                           = New
	_ func(*Log, api.Entry) api.Errno          = (*Log).Push
	_ func(*Log, int) api.Errno                = (*Log).Save
	_ func(*Log, int) ([]api.Entry, api.Errno) = (*Log).Back
	_ func(*Log) []api.Entry                   = (*Log).All
	_ func(*Log) int                           = (*Log).Len
	_ func(*Log) []api.Entry                   = (*Log).Touched
)

func number(n int64) api.Value { return api.Value{N: n} }

func text(s string) api.Value { return api.Value{Text: true, S: s} }

// entry is one of the table 0.
func entry(key int64, was ...int64) api.Entry {
	e := api.Entry{Key: number(key)}
	for _, n := range was {
		e.Was = append(e.Was, number(n))
	}
	return e
}

// of is an entry as Touched tells it.
func of(table int, key api.Value) api.Entry { return api.Entry{Table: table, Key: key} }

// a, b, c and d are entries of keys that differ; the row of b wasn't there.
var (
	a = entry(1, 1, 10)
	b = entry(2)
	c = entry(3, 3, 30, 300)
	d = entry(4, 4)
)

// noSaves are numbers that no savepoint has.
var noSaves = []int{0, -1, api.MaxSaves + 1, api.MaxSaves + 2, math.MinInt, math.MaxInt, 1 << 32, 1<<32 + 1}

// strange are entries that no table could have; a log takes them all.
func strange() []api.Entry {
	return []api.Entry{
		{},
		{Table: -1},
		{Table: math.MinInt, Key: number(1)},
		{Table: math.MaxInt, Key: text(strings.Repeat("a", api.MaxText+1))},
		{Key: api.Value{N: 1, S: "a"}},
		{Key: api.Value{Text: true, N: 1, S: "a"}},
		{Key: number(1), Was: api.Row{text("a")}},
		{Key: number(math.MinInt64), Was: make(api.Row, 1000)},
	}
}

// draws answers numbers below others, by a rule.
func draws(seed uint64) func(n int) int {
	return func(n int) int {
		seed = seed*6364136223846793005 + 1442695040888963407
		return int(seed>>33) % n
	}
}

func sameEntry(x, y api.Entry) bool {
	return x.Table == y.Table && x.Key == y.Key && row.Same(x.Was, y.Was)
}

func wantErr(t *testing.T, what string, got, want api.Errno) {
	t.Helper()
	if got != want {
		t.Errorf("%s: %d, not %d", what, got, want)
	}
}

func wantList(t *testing.T, what string, got, want []api.Entry) {
	t.Helper()
	if !slices.EqualFunc(got, want, sameEntry) {
		t.Errorf("%s: %v, not %v", what, got, want)
	}
}

func wantPush(t *testing.T, l *Log, e api.Entry, want api.Errno) {
	t.Helper()
	wantErr(t, "Push", l.Push(e), want)
}

func wantSave(t *testing.T, l *Log, n int, want api.Errno) {
	t.Helper()
	wantErr(t, "Save", l.Save(n), want)
}

func wantBack(t *testing.T, l *Log, n int, want ...api.Entry) {
	t.Helper()
	got, e := l.Back(n)
	wantErr(t, "Back", e, api.OK)
	wantList(t, "Back", got, want)
}

func wantNoBack(t *testing.T, l *Log, n int, want api.Errno) {
	t.Helper()
	got, e := l.Back(n)
	wantErr(t, "Back", e, want)
	wantList(t, "Back", got, nil)
}

func wantAll(t *testing.T, l *Log, want ...api.Entry) {
	t.Helper()
	wantList(t, "All", l.All(), want)
}

func wantLen(t *testing.T, l *Log, want int) {
	t.Helper()
	if n := l.Len(); n != want {
		t.Errorf("Len: %d, not %d", n, want)
	}
}

func wantTouched(t *testing.T, l *Log, want ...api.Entry) {
	t.Helper()
	wantList(t, "Touched", l.Touched(), want)
}

// wantEmpty asks whether a log is as a new one.
func wantEmpty(t *testing.T, l *Log) {
	t.Helper()
	wantLen(t, l, 0)
	wantTouched(t, l)
	for n := 1; n <= api.MaxSaves; n++ {
		wantNoBack(t, l, n, api.ErrSave)
	}
}

func pushed(t *testing.T, l *Log, entries ...api.Entry) {
	t.Helper()
	for _, e := range entries {
		wantPush(t, l, e, api.OK)
	}
}

func TestP71NewHasRoomForSoMany(t *testing.T) {
	rooms := []struct{ room, most int }{
		{math.MinInt, 0}, {-3, 0}, {-1, 0}, {0, 0}, {1, 1}, {2, 2}, {59, 59}, {60, 60},
		{61, 60}, {100, 60}, {math.MaxInt, 60}, {1 << 32, 60}, {1<<32 + 5, 60},
	}
	for _, r := range rooms {
		l := New(r.room)
		if l == nil {
			t.Fatalf("New(%d): nil", r.room)
		}
		wantEmpty(t, l)
		for n := range r.most {
			wantPush(t, l, entry(int64(n)), api.OK)
			wantLen(t, l, n+1)
		}
		wantPush(t, l, entry(-1), api.ErrRoom)
		wantPush(t, l, entry(-1, 1), api.ErrRoom)
		wantLen(t, l, r.most)
	}
}

func TestP71EntriesAreCountedNotKeys(t *testing.T) {
	l := New(3)
	pushed(t, l, a, a, a)
	wantPush(t, l, a, api.ErrRoom)
	wantLen(t, l, 3)
	wantAll(t, l, a, a, a)
}

func TestP71PushThatIsRefusedChangesNothing(t *testing.T) {
	l := New(2)
	pushed(t, l, a)
	wantSave(t, l, 1, api.OK)
	pushed(t, l, b)
	wantPush(t, l, c, api.ErrRoom)
	wantLen(t, l, 2)
	wantTouched(t, l, of(0, a.Key), of(0, b.Key))
	wantBack(t, l, 1, b)
	wantAll(t, l, a)
}

func TestP71PushTakesAnyEntry(t *testing.T) {
	l := New(api.MaxUndo)
	pushed(t, l, strange()...)
	want := strange()
	slices.Reverse(want)
	wantAll(t, l, want...)
}

func TestP71WhatIsTakenOutMakesRoom(t *testing.T) {
	l := New(2)
	wantSave(t, l, 1, api.OK)
	for range 100 {
		pushed(t, l, a, b)
		wantPush(t, l, c, api.ErrRoom)
		wantBack(t, l, 1, b, a)
		wantLen(t, l, 0)
	}
	for range 100 {
		pushed(t, l, a, b)
		wantPush(t, l, c, api.ErrRoom)
		wantAll(t, l, b, a)
		wantLen(t, l, 0)
	}
}

func TestP71LogsHaveNothingInCommon(t *testing.T) {
	l, other := New(3), New(3)
	pushed(t, l, a, b)
	wantSave(t, l, 1, api.OK)
	wantEmpty(t, other)
	pushed(t, other, c)
	wantAll(t, other, c)
	wantLen(t, l, 2)
	wantTouched(t, l, of(0, a.Key), of(0, b.Key))
	wantBack(t, l, 1)
}

func TestP72SaveAsksForItsNumber(t *testing.T) {
	l := New(9)
	pushed(t, l, a)
	for n := 1; n <= api.MaxSaves; n++ {
		wantSave(t, l, n, api.OK)
	}
	pushed(t, l, b)
	for _, n := range noSaves {
		wantSave(t, l, n, api.ErrSave)
		wantNoBack(t, l, n, api.ErrSave)
	}
	wantLen(t, l, 2)
	wantBack(t, l, 1, b)
	wantBack(t, l, 2)
	wantBack(t, l, 3)
	wantAll(t, l, a)
}

func TestP72BackAsksForASavepointThatIsSet(t *testing.T) {
	for set := 1; set <= api.MaxSaves; set++ {
		l := New(9)
		pushed(t, l, a)
		wantSave(t, l, set, api.OK)
		pushed(t, l, b, c)
		for n := 1; n <= api.MaxSaves; n++ {
			if n != set {
				wantNoBack(t, l, n, api.ErrSave)
			}
		}
		wantLen(t, l, 3)
		wantBack(t, l, set, c, b)
		wantLen(t, l, 1)
	}
}

func TestP72ExampleOfTheChapter(t *testing.T) {
	l := New(5)
	pushed(t, l, a)
	wantSave(t, l, 1, api.OK)
	pushed(t, l, b, c)
	wantSave(t, l, 2, api.OK)
	wantBack(t, l, 1, c, b)
	wantNoBack(t, l, 2, api.ErrSave)
	wantBack(t, l, 1)
	wantAll(t, l, a)
}

func TestP72SavepointAheadOfAllEntries(t *testing.T) {
	l := New(5)
	wantSave(t, l, 2, api.OK)
	wantBack(t, l, 2)
	pushed(t, l, a, b)
	wantBack(t, l, 2, b, a)
	wantLen(t, l, 0)
	wantBack(t, l, 2)
	pushed(t, l, c)
	wantBack(t, l, 2, c)
}

func TestP72SaveAgainMovesTheSavepoint(t *testing.T) {
	l := New(5)
	wantSave(t, l, 1, api.OK)
	pushed(t, l, a)
	wantSave(t, l, 1, api.OK)
	pushed(t, l, b)
	wantBack(t, l, 1, b)
	wantBack(t, l, 1)
	wantAll(t, l, a)
}

func TestP72SavepointThatWasMovedIsBehindWhatItWasMovedOver(t *testing.T) {
	l := New(5)
	wantSave(t, l, 1, api.OK)
	wantSave(t, l, 2, api.OK)
	pushed(t, l, a)
	wantSave(t, l, 1, api.OK)
	pushed(t, l, b)
	wantBack(t, l, 2, b, a)
	wantNoBack(t, l, 1, api.ErrSave)
	wantBack(t, l, 2)
}

func TestP72SavepointsInAnyOrderOfTheirNumbers(t *testing.T) {
	l := New(9)
	wantSave(t, l, 3, api.OK)
	pushed(t, l, a)
	wantSave(t, l, 1, api.OK)
	pushed(t, l, b)
	wantSave(t, l, 2, api.OK)
	pushed(t, l, c)
	wantBack(t, l, 1, c, b)
	wantNoBack(t, l, 2, api.ErrSave)
	wantBack(t, l, 1)
	wantBack(t, l, 3, a)
	wantNoBack(t, l, 1, api.ErrSave)
	wantNoBack(t, l, 2, api.ErrSave)
	wantBack(t, l, 3)
}

func TestP72SavepointsThatStandAsFarStay(t *testing.T) {
	for back := 1; back <= api.MaxSaves; back++ {
		l := New(9)
		pushed(t, l, a)
		for n := 1; n <= api.MaxSaves; n++ {
			wantSave(t, l, n, api.OK)
		}
		pushed(t, l, b)
		wantBack(t, l, back, b)
		pushed(t, l, c)
		for n := 1; n <= api.MaxSaves; n++ {
			pushed(t, l, d)
			want := []api.Entry{d}
			if n == 1 {
				want = []api.Entry{d, c}
			}
			wantBack(t, l, n, want...)
		}
		wantAll(t, l, a)
	}
}

func TestP72SavepointThatWentCanBeSetAgain(t *testing.T) {
	l := New(9)
	wantSave(t, l, 1, api.OK)
	pushed(t, l, a)
	wantSave(t, l, 2, api.OK)
	wantBack(t, l, 1, a)
	wantNoBack(t, l, 2, api.ErrSave)
	pushed(t, l, b, c)
	wantNoBack(t, l, 2, api.ErrSave)
	wantSave(t, l, 2, api.OK)
	pushed(t, l, d)
	wantBack(t, l, 2, d)
	wantBack(t, l, 1, c, b)
}

func TestP72BackThatIsRefusedChangesNothing(t *testing.T) {
	l := New(9)
	pushed(t, l, a)
	wantSave(t, l, 1, api.OK)
	pushed(t, l, b)
	for _, n := range append(noSaves, 2, 3) {
		wantNoBack(t, l, n, api.ErrSave)
		wantLen(t, l, 2)
		wantTouched(t, l, of(0, a.Key), of(0, b.Key))
	}
	wantBack(t, l, 1, b)
	wantAll(t, l, a)
}

func TestP72AllTakesSavepointsToo(t *testing.T) {
	l := New(9)
	for n := 1; n <= api.MaxSaves; n++ {
		wantSave(t, l, n, api.OK)
		pushed(t, l, a)
	}
	wantAll(t, l, a, a, a)
	wantEmpty(t, l)
	wantAll(t, l)
	pushed(t, l, b)
	for n := 1; n <= api.MaxSaves; n++ {
		wantNoBack(t, l, n, api.ErrSave)
	}
	wantSave(t, l, 3, api.OK)
	pushed(t, l, c)
	wantBack(t, l, 3, c)
}

func TestP72AllWithoutEntriesTakesSavepointsToo(t *testing.T) {
	l := New(9)
	wantSave(t, l, 1, api.OK)
	wantAll(t, l)
	wantNoBack(t, l, 1, api.ErrSave)
}

func TestP72SavepointsNeedNoRoom(t *testing.T) {
	l := New(0)
	for n := 1; n <= api.MaxSaves; n++ {
		wantSave(t, l, n, api.OK)
		wantBack(t, l, n)
	}
	wantAll(t, l)
	wantEmpty(t, l)
}

func TestP73TouchedIsEachKeyOnceInOrder(t *testing.T) {
	l := New(api.MaxUndo)
	wantTouched(t, l)
	keys := []struct {
		table int
		key   api.Value
	}{
		{2, number(5)}, {0, number(5)}, {2, text("5")}, {2, number(-5)}, {0, text("")}, {0, number(0)},
		{-1, number(5)}, {1, text("ab")}, {1, text("a")}, {0, api.Value{N: 5, S: "5"}}, {2, api.Value{Text: true, N: 1, S: "5"}},
		{0, number(math.MaxInt64)}, {0, number(math.MinInt64)},
	}
	var want []api.Entry
	for round := range int64(3) {
		for _, k := range keys {
			pushed(t, l, api.Entry{Table: k.table, Key: k.key, Was: api.Row{k.key, number(round)}})
			if round == 0 {
				want = append(want, of(k.table, k.key))
			}
			wantTouched(t, l, want...)
		}
		slices.Reverse(keys)
	}
}

func TestP73TouchedIsWithoutWas(t *testing.T) {
	l := New(9)
	pushed(t, l, c, entry(3), entry(3, 3, 31, 301))
	got := l.Touched()
	if len(got) != 1 || len(got[0].Was) != 0 {
		t.Errorf("%v", got)
	}
	wantTouched(t, l, of(0, c.Key))
	wantAll(t, l, entry(3, 3, 31, 301), entry(3), c)
}

func TestP73TouchedStaysWhenBackTakesItOut(t *testing.T) {
	l := New(9)
	pushed(t, l, a)
	wantSave(t, l, 1, api.OK)
	pushed(t, l, b)
	wantBack(t, l, 1, b)
	wantTouched(t, l, of(0, a.Key), of(0, b.Key))
	pushed(t, l, c, b)
	wantTouched(t, l, of(0, a.Key), of(0, b.Key), of(0, c.Key))
	wantBack(t, l, 1, b, c)
	wantTouched(t, l, of(0, a.Key), of(0, b.Key), of(0, c.Key))
}

func TestP73TouchedIsMoreThanThereIsRoomFor(t *testing.T) {
	l := New(1)
	wantSave(t, l, 1, api.OK)
	var want []api.Entry
	for n := range int64(200) {
		pushed(t, l, entry(n, n))
		wantPush(t, l, entry(-n-1, n), api.ErrRoom)
		wantBack(t, l, 1, entry(n, n))
		want = append(want, of(0, number(n)))
	}
	wantTouched(t, l, want...)
}

func TestP73TouchedBeginsAnewBehindAll(t *testing.T) {
	l := New(9)
	pushed(t, l, a, b)
	wantAll(t, l, b, a)
	wantTouched(t, l)
	pushed(t, l, b, c, a)
	wantTouched(t, l, of(0, b.Key), of(0, c.Key), of(0, a.Key))
	wantAll(t, l, a, c, b)
	wantTouched(t, l)
}

func TestP73TouchedBeginsAnewBehindAllOfNoEntries(t *testing.T) {
	l := New(9)
	wantSave(t, l, 1, api.OK)
	pushed(t, l, a)
	wantBack(t, l, 1, a)
	wantTouched(t, l, of(0, a.Key))
	wantAll(t, l)
	wantTouched(t, l)
}

func TestP73AskingChangesNothing(t *testing.T) {
	l := New(9)
	pushed(t, l, a)
	wantSave(t, l, 1, api.OK)
	pushed(t, l, b)
	for range 3 {
		wantTouched(t, l, of(0, a.Key), of(0, b.Key))
		wantLen(t, l, 2)
	}
	wantBack(t, l, 1, b)
}

// spoil changes a list of entries, their rows too, and what stands in the room behind the ends.
func spoil(entries []api.Entry) {
	entries = entries[:cap(entries)]
	for i := range entries {
		r := entries[i].Was[:cap(entries[i].Was)]
		for j := range r {
			r[j] = number(12345)
		}
		entries[i] = entry(54321, 9, 9)
	}
}

func TestP73WhatIsHandedInIsNeitherChangedNorKept(t *testing.T) {
	l := New(9)
	was := api.Row{number(1), text("a"), number(71), number(72)}
	e := api.Entry{Table: 1, Key: number(1), Was: was[:2]}
	pushed(t, l, e, e)
	if !row.Same(was, api.Row{number(1), text("a"), number(71), number(72)}) {
		t.Errorf("%v", was)
	}
	for i := range was {
		was[i] = number(12345)
	}
	want := api.Entry{Table: 1, Key: number(1), Was: api.Row{number(1), text("a")}}
	wantAll(t, l, want, want)
}

func TestP73TouchedIsNewMemory(t *testing.T) {
	l := New(9)
	pushed(t, l, a, b, c)
	first, second := l.Touched(), l.Touched()
	spoil(first)
	spoil(append(first, d))
	want := []api.Entry{of(0, a.Key), of(0, b.Key), of(0, c.Key)}
	wantList(t, "the second one", second, want)
	wantTouched(t, l, want...)
	pushed(t, l, d)
	wantTouched(t, l, append(want, of(0, d.Key))...)
	wantList(t, "the second one", second, want)
	wantAll(t, l, d, c, b, a)
}

func TestP73WhatIsTakenOutIsNewMemory(t *testing.T) {
	l := New(9)
	pushed(t, l, a)
	wantSave(t, l, 1, api.OK)
	pushed(t, l, b, c)
	wantSave(t, l, 2, api.OK)
	pushed(t, l, d, a)

	first, _ := l.Back(2)
	second, _ := l.Back(1)
	pushed(t, l, d, c, b, a)
	wantList(t, "the first one", first, []api.Entry{a, d})
	wantList(t, "the second one", second, []api.Entry{c, b})
	spoil(append(first, d))
	spoil(first)
	wantList(t, "the second one", second, []api.Entry{c, b})
	spoil(append(second, d))
	spoil(second)
	wantLen(t, l, 5)
	wantTouched(t, l, of(0, a.Key), of(0, b.Key), of(0, c.Key), of(0, d.Key))

	third := l.All()
	wantList(t, "the third one", third, []api.Entry{a, b, c, d, a})
	pushed(t, l, c, c)
	wantList(t, "the third one", third, []api.Entry{a, b, c, d, a})
	spoil(append(third, d))
	spoil(third)
	wantTouched(t, l, of(0, c.Key))
	wantAll(t, l, c, c)
}

func TestP73RowsOfOneAnswerShareNothing(t *testing.T) {
	for spoiled := range 3 {
		l := New(9)
		r := api.Row{number(1), number(2)}
		for range 3 {
			pushed(t, l, api.Entry{Key: number(1), Was: r})
		}
		got := l.All()
		spoil(got[spoiled : spoiled+1 : spoiled+1])
		for i, e := range got {
			if i != spoiled && !row.Same(e.Was, api.Row{number(1), number(2)}) {
				t.Errorf("row %d changed with row %d", i, spoiled)
			}
		}
	}
}

func TestP74Nil(t *testing.T) {
	var l *Log
	for _, e := range append(strange(), a, b) {
		wantPush(t, l, e, api.ErrArg)
	}
	for _, n := range append(noSaves, 1, 2, 3) {
		wantSave(t, l, n, api.ErrArg)
		wantNoBack(t, l, n, api.ErrArg)
	}
	wantAll(t, l)
	wantLen(t, l, 0)
	wantTouched(t, l)
}

func TestP74LogThatNewDidNotMake(t *testing.T) {
	var l Log
	wantEmpty(t, &l)
	wantPush(t, &l, a, api.ErrRoom)
	wantSave(t, &l, 1, api.OK)
	wantBack(t, &l, 1)
	wantAll(t, &l)
	wantEmpty(t, &l)
}

func TestP75BackASecondTimeTakesNothingOut(t *testing.T) {
	for n := 1; n <= api.MaxSaves; n++ {
		for behind := range int64(5) {
			l := New(9)
			pushed(t, l, a)
			wantSave(t, l, n, api.OK)
			var want []api.Entry
			for key := range behind {
				pushed(t, l, entry(key, key))
				want = append(want, entry(key, key))
			}
			slices.Reverse(want)
			wantBack(t, l, n, want...)
			for range 3 {
				wantBack(t, l, n)
				wantLen(t, l, 1)
			}
		}
	}
}

func TestP75EachEntryOnceInTheTurnedOrder(t *testing.T) {
	l := New(api.MaxUndo)
	var pushedAll, taken []api.Entry
	push := func(n int) {
		for range n {
			e := entry(int64(len(pushedAll)), int64(len(pushedAll)))
			pushed(t, l, e)
			pushedAll = append(pushedAll, e)
		}
	}
	push(13)
	l.Save(3)
	push(1)
	l.Save(1)
	push(30)
	l.Save(2)
	push(16)
	wantPush(t, l, a, api.ErrRoom)
	for _, n := range []int{2, 1, 3} {
		got, e := l.Back(n)
		wantErr(t, "Back", e, api.OK)
		taken = append(taken, got...)
	}
	taken = append(taken, l.All()...)
	slices.Reverse(taken)
	wantList(t, "what was taken out", taken, pushedAll)
}

// model does what the chapter says with a list of all that was done: entries, and savepoints between them.
type model struct {
	room    int
	done    []mark
	touched []api.Entry
}

// mark is an entry, or, with a number, a savepoint.
type mark struct {
	e    api.Entry
	save int
}

func (m *model) size() int {
	n := 0
	for _, x := range m.done {
		if x.save == 0 {
			n++
		}
	}
	return n
}

func (m *model) push(e api.Entry) api.Errno {
	if m.size() == m.room {
		return api.ErrRoom
	}
	m.done = append(m.done, mark{e: e})
	met := of(e.Table, e.Key)
	if !slices.ContainsFunc(m.touched, func(x api.Entry) bool { return sameEntry(x, met) }) {
		m.touched = append(m.touched, met)
	}
	return api.OK
}

func (m *model) save(n int) api.Errno {
	if n < 1 || n > 3 {
		return api.ErrSave
	}
	m.done = slices.DeleteFunc(m.done, func(x mark) bool { return x.save == n })
	m.done = append(m.done, mark{save: n})
	return api.OK
}

// back keeps the savepoints that stand between the one it is asked for and the first entry behind that.
func (m *model) back(n int) ([]api.Entry, api.Errno) {
	at := slices.IndexFunc(m.done, func(x mark) bool { return n != 0 && x.save == n })
	if at < 0 {
		return nil, api.ErrSave
	}
	end := at + 1
	for end < len(m.done) && m.done[end].save != 0 {
		end++
	}
	taken := entriesOf(m.done[end:])
	m.done = slices.Clone(m.done[:end])
	return taken, api.OK
}

func (m *model) all() []api.Entry {
	taken := entriesOf(m.done)
	m.done, m.touched = nil, nil
	return taken
}

// entriesOf is the entries among marks, the last one first.
func entriesOf(marks []mark) []api.Entry {
	var l []api.Entry
	for _, x := range slices.Backward(marks) {
		if x.save == 0 {
			l = append(l, x.e)
		}
	}
	return l
}

func drawEntry(draw func(int) int) api.Entry {
	e := api.Entry{Table: draw(4) - 1, Key: number(int64(draw(4)))}
	if draw(2) == 0 {
		e.Key = text(strings.Repeat("a", draw(4)))
	}
	for range draw(api.MaxCols + 1) {
		e.Was = append(e.Was, number(int64(draw(1000))))
	}
	return e
}

// step makes one call on a log, and on its model.
func step(t *testing.T, l *Log, m *model, draw func(int) int) {
	t.Helper()
	n := draw(api.MaxSaves + 2)
	switch k := draw(40); {
	case k < 20:
		e := drawEntry(draw)
		wantPush(t, l, e, m.push(e))
	case k < 30:
		wantSave(t, l, n, m.save(n))
	case k < 39:
		want, wantE := m.back(n)
		got, e := l.Back(n)
		wantErr(t, "Back", e, wantE)
		wantList(t, "Back", got, want)
		spoil(got)
	default:
		got := l.All()
		wantList(t, "All", got, m.all())
		spoil(got)
	}
}

func TestP75AnyCallsAgainstAModel(t *testing.T) {
	for seed := range 80 {
		draw := draws(uint64(seed))
		room := []int{0, 1, 2, 3, 5, 8, 13, 60}[seed%8]
		l, m := New(room), &model{room: room}
		for range 600 {
			step(t, l, m, draw)
			wantLen(t, l, m.size())
			wantTouched(t, l, m.touched...)
		}
		wantAll(t, l, m.all()...)
		if t.Failed() {
			t.Fatalf("seed %d", seed)
		}
	}
}
