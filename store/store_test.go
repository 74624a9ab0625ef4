package store

import (
	"cmp"
	"iter"
	"math"
	"slices"
	"strings"
	"testing"

	"ratline/api"
	"ratline/normal"
	"ratline/row"
	"ratline/value"
)

// The signatures are the chapter's: whoever changes one doesn't build.
var (
	_ func([]api.Table, int) *Store                           = New
	_ func(*Store, int, api.Value) (api.Row, int, bool)       = (*Store).Get
	_ func(*Store, int, api.Row) (int, api.Errno)             = (*Store).Insert
	_ func(*Store, int, api.Row) api.Errno                    = (*Store).Replace
	_ func(*Store, int, api.Value) api.Errno                  = (*Store).Remove
	_ func(*Store, int, api.Row, int) api.Errno               = (*Store).Restore
	_ func(*Store, int, api.Value) api.Errno                  = (*Store).Free
	_ func(*Store) int                                        = (*Store).Used
	_ func(s *Store, table int, _ api.Span) iter.Seq[api.Row] = (*Store).Scan
)

var all = api.Span{}

func number(n int64) api.Value { return api.Value{N: n} }

func text(s string) api.Value { return api.Value{Text: true, S: s} }

// pair is a row of the table 0 of trio, single one of its table 1, wide one of its table 2.
func pair(key, n int64) api.Row { return api.Row{number(key), number(n)} }

func single(s string) api.Row { return api.Row{text(s)} }

func wide(s string, n int64) api.Row {
	return api.Row{text(s), number(n), text(s + s), number(-n)}
}

// trio are as many tables as there may be: of two numbers, of one text, of as many columns as there may be.
func trio() []api.Table {
	return []api.Table{{Cols: []bool{false, false}}, {Cols: []bool{true}}, {Cols: []bool{true, false, true, false}}}
}

// noTables are numbers of tables that trio has none of.
var noTables = []int{-1, 3, 4, math.MinInt, math.MaxInt}

// wrong are keys that may not be; some of them are, by value.Compare, the same as one that may be.
var wrong = []api.Value{
	{N: 1, S: "a"},
	{N: 0, S: "\x00"},
	{Text: true, N: 1},
	{Text: true, N: -1, S: "a"},
	{Text: true, N: math.MaxInt64, S: "abcdefghijkl"},
	text(strings.Repeat("a", api.MaxText+1)),
}

// wrongRows are rows that don't fit the table 0 of trio, though their first value may be the key of one that does.
func wrongRows() []api.Row {
	return []api.Row{
		nil,
		{},
		{number(1)},
		{number(1), number(1), number(1)},
		{number(1), text("a")},
		{text("a"), number(1)},
		{number(1), {N: 1, S: "a"}},
		{{N: 1, S: "a"}, number(1)},
		{{N: 1, Text: true}, number(1)},
		wide("a", 1),
		make(api.Row, 1000),
	}
}

// draws answers numbers below others, by a rule.
func draws(seed uint64) func(n int) int {
	return func(n int) int {
		seed = seed*6364136223846793005 + 1442695040888963407
		return int(seed>>33) % n
	}
}

func wantErr(t *testing.T, what string, got, want api.Errno) {
	t.Helper()
	if got != want {
		t.Errorf("%s: %d, not %d", what, got, want)
	}
}

func wantInsert(t *testing.T, s *Store, table int, r api.Row, want int, wantE api.Errno) {
	t.Helper()
	if n, e := s.Insert(table, r); n != want || e != wantE {
		t.Errorf("Insert of %v: %d, %d, not %d, %d", r, n, e, want, wantE)
	}
}

func wantRow(t *testing.T, s *Store, table int, r api.Row, number int) {
	t.Helper()
	if got, n, is := s.Get(table, r[0]); !row.Same(got, r) || n != number || !is {
		t.Errorf("Get of %v: %v, %d, %t, not %v, %d", r[0], got, n, is, r, number)
	}
}

func wantNoRow(t *testing.T, s *Store, table int, key api.Value) {
	t.Helper()
	if r, n, is := s.Get(table, key); len(r) != 0 || n != 0 || is {
		t.Errorf("Get of %v: %v, %d, %t", key, r, n, is)
	}
}

func wantUsed(t *testing.T, s *Store, want int) {
	t.Helper()
	if n := s.Used(); n != want {
		t.Errorf("Used: %d, not %d", n, want)
	}
}

func wantScan(t *testing.T, s *Store, table int, span api.Span, want ...api.Row) {
	t.Helper()
	if got := slices.Collect(s.Scan(table, span)); !sameRows(got, want) {
		t.Errorf("Scan of table %d, %v: %v, not %v", table, span, got, want)
	}
}

func sameRows(a, b []api.Row) bool {
	return slices.EqualFunc(a, b, row.Same)
}

func full(t *testing.T, tables []api.Table, room int) *Store {
	t.Helper()
	s := New(tables, room)
	if s == nil {
		t.Fatalf("New of %d tables, room %d: nil", len(tables), room)
	}
	return s
}

func TestP61NewAsksForTablesThatMayBe(t *testing.T) {
	one := api.Table{Cols: []bool{false}}
	for n := range 6 {
		s := New(slices.Repeat([]api.Table{one}, n), 1)
		if is := s != nil; is != (n >= 1 && n <= api.MaxTables) {
			t.Errorf("New of %d tables: %t", n, is)
		}
	}
	for n := range 7 {
		form := api.Table{Cols: make([]bool, n)}
		for place := range 3 {
			tables := trio()
			tables[place] = form
			if is := New(tables, 1) != nil; is != (n >= 1 && n <= api.MaxCols) {
				t.Errorf("New with %d columns in table %d: %t", n, place, is)
			}
		}
	}
	if New(nil, 1) != nil || New([]api.Table{}, 1) != nil || New([]api.Table{{}}, 1) != nil || New(make([]api.Table, 1000), 1) != nil {
		t.Error("New without tables, or with ones that may not be")
	}
}

func TestP61NewAsksForRoomThatMayBe(t *testing.T) {
	for _, room := range []int{0, 1, 2, 39, 40} {
		s := full(t, trio(), room)
		wantUsed(t, s, 0)
		for table := range 3 {
			wantScan(t, s, table, all)
		}
	}
	for _, room := range []int{-1, 41, 200, math.MinInt, math.MaxInt} {
		if New(trio(), room) != nil {
			t.Errorf("New with room %d", room)
		}
	}
}

func TestP61EachNewIsAStoreOfItsOwn(t *testing.T) {
	a, b := full(t, trio(), 5), full(t, trio(), 5)
	wantInsert(t, a, 0, pair(1, 1), 1, api.OK)
	wantInsert(t, a, 0, pair(2, 1), 2, api.OK)
	wantNoRow(t, b, 0, number(1))
	wantUsed(t, b, 0)
	wantInsert(t, b, 0, pair(1, 7), 1, api.OK)
	wantRow(t, a, 0, pair(1, 1), 1)
}

func TestP61Get(t *testing.T) {
	s := full(t, trio(), 10)
	wantInsert(t, s, 0, pair(1, 5), 1, api.OK)
	wantInsert(t, s, 1, single(""), 2, api.OK)
	wantInsert(t, s, 2, wide("", 7), 3, api.OK)
	wantInsert(t, s, 2, wide("abcdef", 8), 4, api.OK)
	wantInsert(t, s, 0, pair(math.MinInt64, math.MaxInt64), 5, api.OK)
	wantInsert(t, s, 0, pair(0, 0), 6, api.OK)

	wantRow(t, s, 0, pair(1, 5), 1)
	wantRow(t, s, 1, single(""), 2)
	wantRow(t, s, 2, wide("", 7), 3)
	wantRow(t, s, 2, wide("abcdef", 8), 4)
	wantRow(t, s, 0, pair(math.MinInt64, math.MaxInt64), 5)
	wantRow(t, s, 0, pair(0, 0), 6)

	wantNoRow(t, s, 0, number(2))
	wantNoRow(t, s, 1, text("a"))
	wantNoRow(t, s, 1, number(1)) // a key of another table, of another kind
	wantNoRow(t, s, 0, text(""))
	wantNoRow(t, s, 2, text("abcde"))
	for _, table := range noTables {
		wantNoRow(t, s, table, number(1))
		wantNoRow(t, s, table, text(""))
	}
}

func TestP61AKeyThatMayNotBeIsNeverThere(t *testing.T) {
	s := full(t, trio(), 10)
	for _, n := range []int64{0, 1} {
		s.Insert(0, pair(n, n))
	}
	for _, k := range []string{"", "a", "abcdefghijkl"} {
		s.Insert(1, single(k))
	}
	for _, removed := range []bool{false, true} {
		for table := range 2 {
			for _, k := range wrong {
				wantNoRow(t, s, table, k)
				wantErr(t, "Remove", s.Remove(table, k), api.ErrNone)
				wantErr(t, "Free", s.Free(table, k), api.ErrNone)
				r := pair(0, 0)
				if table == 1 {
					r = single("")
				}
				r[0] = k
				wantInsert(t, s, table, r, 0, api.ErrArg)
				wantErr(t, "Replace", s.Replace(table, r), api.ErrArg)
				wantErr(t, "Restore", s.Restore(table, r, 1), api.ErrArg)
			}
		}
		wantUsed(t, s, 5)
		if !removed {
			wantScan(t, s, 0, all, pair(0, 0), pair(1, 1))
			wantScan(t, s, 1, all, single(""), single("a"), single("abcdefghijkl"))
			// Once more, while their places are kept.
			for _, n := range []int64{0, 1} {
				wantErr(t, "Remove", s.Remove(0, number(n)), api.OK)
			}
			for _, k := range []string{"", "a", "abcdefghijkl"} {
				wantErr(t, "Remove", s.Remove(1, text(k)), api.OK)
			}
		}
	}
}

func TestP62ErrArgComesFirst(t *testing.T) {
	s := full(t, trio(), 2)
	wantInsert(t, s, 0, pair(1, 5), 1, api.OK)
	wantInsert(t, s, 1, single("b"), 2, api.OK)
	wantErr(t, "Remove", s.Remove(1, text("b")), api.OK)
	for _, table := range noTables {
		wantInsert(t, s, table, pair(1, 5), 0, api.ErrArg)
		wantErr(t, "Replace", s.Replace(table, pair(1, 5)), api.ErrArg)
		wantErr(t, "Restore", s.Restore(table, single("b"), 2), api.ErrArg)
		for _, k := range append(wrong, number(1), text("b")) {
			wantErr(t, "Remove", s.Remove(table, k), api.ErrArg)
			wantErr(t, "Free", s.Free(table, k), api.ErrArg)
		}
	}
	for _, r := range wrongRows() {
		wantInsert(t, s, 0, r, 0, api.ErrArg) // neither ErrThere nor ErrRoom
		wantErr(t, "Replace", s.Replace(0, r), api.ErrArg)
		wantErr(t, "Restore", s.Restore(0, r, 1), api.ErrArg)
	}
	for _, r := range []api.Row{nil, {text("b"), text("b")}, {number(1)}} {
		wantInsert(t, s, 1, r, 0, api.ErrArg)
		wantErr(t, "Restore", s.Restore(1, r, 1), api.ErrArg) // not ErrNone
	}
	wantRow(t, s, 0, pair(1, 5), 1)
	wantNoRow(t, s, 1, text("b"))
	wantUsed(t, s, 2)
	wantErr(t, "Restore", s.Restore(1, single("b"), 2), api.OK)
}

func TestP62InsertOfAKeyThatIsThere(t *testing.T) {
	s := full(t, trio(), 2)
	wantInsert(t, s, 0, pair(1, 5), 1, api.OK)
	wantInsert(t, s, 0, pair(1, 6), 0, api.ErrThere)
	wantInsert(t, s, 0, pair(1, 5), 0, api.ErrThere)
	wantRow(t, s, 0, pair(1, 5), 1)
	wantUsed(t, s, 1)
	wantInsert(t, s, 0, pair(2, 5), 2, api.OK)       // what was refused had no number
	wantInsert(t, s, 0, pair(1, 6), 0, api.ErrThere) // ahead of ErrRoom
	wantInsert(t, s, 0, pair(3, 6), 0, api.ErrRoom)
	wantRow(t, s, 0, pair(1, 5), 1)
	wantNoRow(t, s, 0, number(3))
}

func TestP62TheSameKeyInTwoTables(t *testing.T) {
	s := full(t, trio(), 3)
	wantInsert(t, s, 1, single("a"), 1, api.OK)
	wantInsert(t, s, 2, wide("a", 3), 2, api.OK)
	wantErr(t, "Remove", s.Remove(1, text("a")), api.OK)
	wantRow(t, s, 2, wide("a", 3), 2)
	wantErr(t, "Free", s.Free(2, text("a")), api.ErrThere)
	wantErr(t, "Restore", s.Restore(2, wide("a", 4), 9), api.ErrNone)
	wantErr(t, "Replace", s.Replace(1, single("a")), api.ErrNone)
	wantErr(t, "Free", s.Free(1, text("a")), api.OK)
	wantRow(t, s, 2, wide("a", 3), 2)
	wantUsed(t, s, 1)
}

func TestP62RoomIsForAllTablesTogether(t *testing.T) {
	for room := range api.MaxRows + 1 {
		s := full(t, trio(), room)
		for n := range room {
			if n%3 == 0 {
				wantInsert(t, s, 1, single(strings.Repeat("a", 1+n/3%12)+strings.Repeat("b", n/36)), n+1, api.OK)
			} else {
				wantInsert(t, s, 0, pair(int64(n), 0), n+1, api.OK)
			}
		}
		wantUsed(t, s, room)
		wantInsert(t, s, 0, pair(-1, 0), 0, api.ErrRoom)
		wantInsert(t, s, 1, single("z"), 0, api.ErrRoom)
		wantInsert(t, s, 2, wide("", 0), 0, api.ErrRoom)
		wantUsed(t, s, room)
		wantNoRow(t, s, 0, number(-1))
		wantNoRow(t, s, 1, text("z"))
		wantNoRow(t, s, 2, text(""))
	}
}

func TestP62ReplaceKeepsTheNumber(t *testing.T) {
	s := full(t, trio(), 2)
	wantInsert(t, s, 0, pair(1, 5), 1, api.OK)
	wantInsert(t, s, 0, pair(2, 5), 2, api.OK)
	wantErr(t, "Replace", s.Replace(0, pair(1, 9)), api.OK)
	wantErr(t, "Replace", s.Replace(0, pair(1, 10)), api.OK)
	wantRow(t, s, 0, pair(1, 10), 1)
	wantRow(t, s, 0, pair(2, 5), 2)
	wantErr(t, "Replace", s.Replace(0, pair(3, 9)), api.ErrNone)
	wantNoRow(t, s, 0, number(3))
	wantErr(t, "Remove", s.Remove(0, number(1)), api.OK)
	wantErr(t, "Replace", s.Replace(0, pair(1, 11)), api.ErrNone) // its place is kept, but without a row
	wantNoRow(t, s, 0, number(1))
	wantUsed(t, s, 2)
	wantErr(t, "Restore", s.Restore(0, pair(1, 12), 77), api.OK)
	wantErr(t, "Replace", s.Replace(0, pair(1, 13)), api.OK)
	wantRow(t, s, 0, pair(1, 13), 77)
}

func TestP62RemoveKeepsThePlace(t *testing.T) {
	s := full(t, trio(), 2)
	wantErr(t, "Remove", s.Remove(0, number(1)), api.ErrNone)
	wantInsert(t, s, 0, pair(1, 5), 1, api.OK)
	wantErr(t, "Remove", s.Remove(0, number(2)), api.ErrNone)
	wantErr(t, "Remove", s.Remove(0, text("a")), api.ErrNone)
	wantErr(t, "Remove", s.Remove(0, number(1)), api.OK)
	wantNoRow(t, s, 0, number(1))
	wantUsed(t, s, 1)
	wantErr(t, "Remove", s.Remove(0, number(1)), api.ErrNone)
	wantUsed(t, s, 1)
	wantInsert(t, s, 0, pair(1, 6), 2, api.OK)
	wantRow(t, s, 0, pair(1, 6), 2)
	wantUsed(t, s, 1)
}

func TestP62RestoreAsksForAPlaceThatIsKept(t *testing.T) {
	s := full(t, trio(), 3)
	wantErr(t, "Restore", s.Restore(0, pair(1, 5), 1), api.ErrNone) // there is room, but no place
	wantUsed(t, s, 0)
	wantInsert(t, s, 0, pair(1, 5), 1, api.OK)
	wantErr(t, "Restore", s.Restore(0, pair(1, 6), 4), api.ErrNone) // it is taken
	wantRow(t, s, 0, pair(1, 5), 1)
	s.Remove(0, number(1))
	s.Free(0, number(1))
	wantErr(t, "Restore", s.Restore(0, pair(1, 5), 1), api.ErrNone) // it was given up
	wantNoRow(t, s, 0, number(1))
	wantUsed(t, s, 0)
}

func TestP62RestoreTakesAnyNumber(t *testing.T) {
	for _, n := range []int{0, 1, 2, -1, 41, math.MinInt, math.MaxInt} {
		for _, r := range []api.Row{pair(0, 0), pair(3, 4)} {
			s := full(t, trio(), 1)
			wantInsert(t, s, 0, pair(r[0].N, 9), 1, api.OK)
			wantErr(t, "Remove", s.Remove(0, r[0]), api.OK)
			wantErr(t, "Restore", s.Restore(0, r, n), api.OK)
			wantRow(t, s, 0, r, n)
			wantScan(t, s, 0, all, r)
			wantInsert(t, s, 0, r, 0, api.ErrThere)
			wantErr(t, "Free", s.Free(0, r[0]), api.ErrThere)
			wantErr(t, "Restore", s.Restore(0, r, n), api.ErrNone)
			// The numbers of Insert go on as if there had been no other.
			wantErr(t, "Remove", s.Remove(0, r[0]), api.OK)
			wantInsert(t, s, 0, r, 2, api.OK)
		}
	}
}

// A row of zero values with the number 0 is a row nevertheless.
func TestP62ARowOfZeroValues(t *testing.T) {
	s := full(t, []api.Table{{Cols: []bool{false}}, {Cols: make([]bool, api.MaxCols)}}, 2)
	for table, width := range []int{1, api.MaxCols} {
		r := make(api.Row, width)
		wantInsert(t, s, table, r, table+1, api.OK)
		s.Remove(table, number(0))
		wantScan(t, s, table, all)
		wantErr(t, "Restore", s.Restore(table, r, 0), api.OK)
		wantRow(t, s, table, r, 0)
		wantScan(t, s, table, all, r)
		wantErr(t, "Replace", s.Replace(table, r), api.OK)
		wantErr(t, "Remove", s.Remove(table, number(0)), api.OK)
		wantNoRow(t, s, table, number(0))
	}
}

func TestP62Free(t *testing.T) {
	s := full(t, trio(), 3)
	wantErr(t, "Free", s.Free(0, number(1)), api.ErrNone)
	wantInsert(t, s, 0, pair(1, 5), 1, api.OK)
	wantInsert(t, s, 0, pair(2, 5), 2, api.OK)
	wantErr(t, "Free", s.Free(0, number(1)), api.ErrThere)
	wantRow(t, s, 0, pair(1, 5), 1)
	s.Remove(0, number(1))
	wantErr(t, "Free", s.Free(0, number(3)), api.ErrNone)
	wantErr(t, "Free", s.Free(0, number(1)), api.OK)
	wantUsed(t, s, 1)
	wantErr(t, "Free", s.Free(0, number(1)), api.ErrNone)
	wantErr(t, "Remove", s.Remove(0, number(1)), api.ErrNone)
	wantErr(t, "Free", s.Free(0, number(2)), api.ErrThere)
	wantRow(t, s, 0, pair(2, 5), 2)
	wantUsed(t, s, 1)
}

// The chapter's example.
func TestP62RoomForOne(t *testing.T) {
	s := full(t, trio(), 1)
	wantInsert(t, s, 0, pair(1, 0), 1, api.OK)
	wantInsert(t, s, 0, pair(2, 0), 0, api.ErrRoom)
	wantErr(t, "Remove", s.Remove(0, number(1)), api.OK)
	wantInsert(t, s, 0, pair(2, 0), 0, api.ErrRoom)
	wantInsert(t, s, 0, pair(1, 0), 2, api.OK)
	wantErr(t, "Remove", s.Remove(0, number(1)), api.OK)
	wantErr(t, "Free", s.Free(0, number(1)), api.OK)
	wantInsert(t, s, 0, pair(2, 0), 3, api.OK)
}

func TestP63Used(t *testing.T) {
	s := full(t, trio(), api.MaxRows)
	wantUsed(t, s, 0)
	s.Insert(0, pair(1, 1))
	s.Insert(1, single("a"))
	s.Insert(2, wide("a", 1))
	s.Insert(2, wide("b", 1))
	wantUsed(t, s, 4)
	s.Remove(2, text("a"))
	wantUsed(t, s, 4)
	s.Insert(2, wide("a", 2))
	wantUsed(t, s, 4)
	s.Remove(2, text("a"))
	s.Free(2, text("a"))
	wantUsed(t, s, 3)
	s.Replace(0, pair(1, 2))
	wantUsed(t, s, 3)
}

func TestP63ScanIsRisingAndWithinTheSpan(t *testing.T) {
	s := full(t, trio(), api.MaxRows)
	for _, n := range []int64{4, 2, 9, math.MaxInt64, 7, -3, math.MinInt64} {
		s.Insert(0, pair(n, n/2))
	}
	for _, k := range []string{"b", "", "ab", "a", "\xff", "B"} {
		s.Insert(1, single(k))
	}
	s.Remove(0, number(4))
	s.Remove(1, text("ab"))
	least, greatest := pair(math.MinInt64, math.MinInt64/2), pair(math.MaxInt64, math.MaxInt64/2)

	wantScan(t, s, 0, all, least, pair(-3, -1), pair(2, 1), pair(7, 3), pair(9, 4), greatest)
	wantScan(t, s, 1, all, single(""), single("B"), single("a"), single("b"), single("\xff"))
	wantScan(t, s, 2, all)
	wantScan(t, s, 0, api.Span{HasLo: true, Lo: number(2), HasHi: true, Hi: number(9), OpenHi: true}, pair(2, 1), pair(7, 3))
	wantScan(t, s, 0, api.Span{HasLo: true, Lo: number(2), OpenLo: true, HasHi: true, Hi: number(9)}, pair(7, 3), pair(9, 4))
	wantScan(t, s, 0, api.Span{HasLo: true, Lo: number(4), HasHi: true, Hi: number(4)}) // its place is kept
	wantScan(t, s, 0, api.Span{HasLo: true, Lo: number(7), HasHi: true, Hi: number(7)}, pair(7, 3))
	wantScan(t, s, 0, api.Span{HasLo: true, Lo: number(9), HasHi: true, Hi: number(2)})
	wantScan(t, s, 0, api.Span{HasHi: true, Hi: number(-3)}, least, pair(-3, -1))
	wantScan(t, s, 0, api.Span{HasHi: true, Hi: text("")}, least, pair(-3, -1), pair(2, 1), pair(7, 3), pair(9, 4), greatest)
	wantScan(t, s, 0, api.Span{HasLo: true, Lo: text("")})
	wantScan(t, s, 0, api.Span{None: true})
	wantScan(t, s, 0, api.Span{None: true, HasLo: true, Lo: number(2)})
	wantScan(t, s, 0, api.Span{OpenLo: true, Lo: number(8), OpenHi: true, Hi: number(3)}, least, pair(-3, -1), pair(2, 1), pair(7, 3), pair(9, 4), greatest)
	wantScan(t, s, 1, api.Span{HasLo: true, Lo: text("a"), OpenLo: true}, single("b"), single("\xff"))
	for _, table := range noTables {
		wantScan(t, s, table, all)
		wantScan(t, s, table, api.Span{None: true})
	}
}

func TestP63ScanGoesOnAsLongAsItIsWanted(t *testing.T) {
	s := full(t, trio(), api.MaxRows)
	var rows []api.Row
	for n := range int64(api.MaxRows) {
		s.Insert(0, pair(n, -n))
		rows = append(rows, pair(n, -n))
	}
	for wanted := range api.MaxRows + 1 {
		var got []api.Row
		calls := 0
		s.Scan(0, all)(func(r api.Row) bool {
			calls++
			got = append(got, r)
			return calls <= wanted
		})
		most := min(wanted+1, api.MaxRows)
		if calls != most || !sameRows(got, rows[:most]) {
			t.Errorf("wanted %d more: %d calls, %v", wanted, calls, got)
		}
	}
}

func TestP63ScanCanBeGoneThroughAgain(t *testing.T) {
	s := full(t, trio(), 3)
	s.Insert(0, pair(1, 1))
	s.Insert(0, pair(2, 2))
	scan := s.Scan(0, all)
	for range 2 {
		if got := slices.Collect(scan); !sameRows(got, []api.Row{pair(1, 1), pair(2, 2)}) {
			t.Errorf("%v", got)
		}
	}
}

func TestP63WhatIsDoneWhileAScanGoesOnPlaysNoPart(t *testing.T) {
	change := []func(s *Store, n int64){
		func(s *Store, n int64) { s.Insert(0, pair(n*2+1, 0)) },
		func(s *Store, n int64) { s.Replace(0, pair((n+1)*2, 99)) },
		func(s *Store, n int64) { s.Remove(0, number((n+1)*2)) },
		func(s *Store, n int64) {
			for k := range int64(10) {
				s.Remove(0, number(k*2))
				s.Free(0, number(k*2))
			}
		},
		func(s *Store, n int64) { s.Restore(0, pair(100, 100), 5) },
		func(s *Store, n int64) {
			for range s.Scan(0, all) {
				s.Remove(0, number(6))
			}
		},
	}
	for i, do := range change {
		s := full(t, trio(), api.MaxRows)
		s.Insert(0, pair(100, 0))
		s.Remove(0, number(100))
		var want, got []api.Row
		for n := range int64(10) {
			s.Insert(0, pair(n*2, n))
			want = append(want, pair(n*2, n))
		}
		for r := range s.Scan(0, all) {
			do(s, int64(len(got)))
			got = append(got, r)
		}
		if !sameRows(got, want) {
			t.Errorf("change %d: %v", i, got)
		}
		if sameRows(slices.Collect(s.Scan(0, all)), want) {
			t.Errorf("change %d was none", i)
		}
	}
}

// spoil changes a row, and what stands in the room behind its end.
func spoil(r api.Row) {
	r = r[:cap(r)]
	for i := range r {
		r[i] = number(12345)
	}
}

func TestP63AnswersAreNewMemory(t *testing.T) {
	s := full(t, trio(), 9)
	s.Insert(2, wide("a", 1))
	s.Insert(2, wide("b", 2))
	r, _, _ := s.Get(2, text("a"))
	again, _, _ := s.Get(2, text("a"))
	scan := s.Scan(2, all)
	first, second := slices.Collect(scan), slices.Collect(scan)
	spoil(r)
	spoil(append(r, number(1)))
	spoil(first[0])
	spoil(append(first[1], number(1)))
	for r := range scan {
		spoil(r)
	}
	if !row.Same(again, wide("a", 1)) || !sameRows(second, []api.Row{wide("a", 1), wide("b", 2)}) {
		t.Errorf("%v, %v", again, second)
	}
	wantRow(t, s, 2, wide("a", 1), 1)
	wantScan(t, s, 2, all, wide("a", 1), wide("b", 2))
}

func TestP63RowsToldByOneScanShareNothing(t *testing.T) {
	s := full(t, trio(), 9)
	for _, k := range []string{"a", "b", "c"} {
		s.Insert(2, wide(k, 1))
	}
	for spoiled := range 3 {
		rows := slices.Collect(s.Scan(2, all))
		spoil(rows[spoiled])
		for i, k := range []string{"a", "b", "c"} {
			if i != spoiled && !row.Same(rows[i], wide(k, 1)) {
				t.Errorf("row %d changed with row %d", i, spoiled)
			}
		}
	}
}

// roomy is a row with room behind its end, where something stands.
func roomy(r api.Row) api.Row {
	return append(slices.Clone(r), number(71), number(72))[:len(r)]
}

func TestP63WhatIsHandedInIsNeitherChangedNorKept(t *testing.T) {
	tables := trio()
	s := full(t, tables, 9)
	for _, form := range tables {
		for i := range form.Cols {
			form.Cols[i] = !form.Cols[i]
		}
	}
	tables[1] = api.Table{}

	handed := func(r api.Row, do func(api.Row)) {
		t.Helper()
		mine := roomy(r)
		do(mine)
		if !row.Same(mine[:len(r)+2], append(slices.Clone(r), number(71), number(72))) {
			t.Errorf("%v was changed to %v", r, mine)
		}
		spoil(mine)
	}
	handed(pair(1, 5), func(r api.Row) { wantInsert(t, s, 0, r, 1, api.OK) })
	wantRow(t, s, 0, pair(1, 5), 1)
	handed(pair(1, 6), func(r api.Row) { wantErr(t, "Replace", s.Replace(0, r), api.OK) })
	wantRow(t, s, 0, pair(1, 6), 1)
	s.Remove(0, number(1))
	handed(pair(1, 7), func(r api.Row) { wantErr(t, "Restore", s.Restore(0, r, 1), api.OK) })
	wantRow(t, s, 0, pair(1, 7), 1)
	wantScan(t, s, 0, all, pair(1, 7))
	handed(single("a"), func(r api.Row) { wantInsert(t, s, 1, r, 2, api.OK) })
	wantRow(t, s, 1, single("a"), 2)
}

func TestP64Nil(t *testing.T) {
	var s *Store
	for _, table := range append(noTables, 0, 1, 2) {
		for _, k := range append(wrong, number(1), text("a")) {
			wantNoRow(t, s, table, k)
			wantErr(t, "Remove", s.Remove(table, k), api.ErrArg)
			wantErr(t, "Free", s.Free(table, k), api.ErrArg)
		}
		for _, r := range append(wrongRows(), pair(1, 1), single("a"), wide("a", 1)) {
			wantInsert(t, s, table, r, 0, api.ErrArg)
			wantErr(t, "Replace", s.Replace(table, r), api.ErrArg)
			wantErr(t, "Restore", s.Restore(table, r, 1), api.ErrArg)
		}
		wantScan(t, s, table, all)
		wantScan(t, s, table, api.Span{None: true})
	}
	wantUsed(t, s, 0)
}

func TestP65WhatWasRemovedCanBeRestored(t *testing.T) {
	s := full(t, trio(), api.MaxRows)
	for n := range int64(api.MaxRows) {
		wantInsert(t, s, 0, pair(n, n), int(n)+1, api.OK)
	}
	before := slices.Collect(s.Scan(0, all))
	for n := range int64(api.MaxRows) {
		wantErr(t, "Remove", s.Remove(0, number(n)), api.OK)
		wantInsert(t, s, 0, pair(-1, 0), 0, api.ErrRoom)
	}
	wantScan(t, s, 0, all)
	wantUsed(t, s, api.MaxRows)
	for n := int64(api.MaxRows) - 1; n >= 0; n-- {
		wantErr(t, "Restore", s.Restore(0, pair(n, n), int(n)+1), api.OK)
	}
	for n := range int64(api.MaxRows) {
		wantRow(t, s, 0, pair(n, n), int(n)+1)
	}
	wantScan(t, s, 0, all, before...)
	wantUsed(t, s, api.MaxRows)
}

func TestP65WhatIsGivenUpLeavesNoTraceButInTheNumbers(t *testing.T) {
	s := full(t, trio(), 3)
	wantInsert(t, s, 0, pair(1, 5), 1, api.OK)
	for round := range 100 {
		for i, k := range []int64{7, -7} {
			wantInsert(t, s, 0, pair(k, 0), 2*round+2+i, api.OK)
		}
		wantInsert(t, s, 1, single("a"), 0, api.ErrRoom)
		for _, k := range []int64{7, -7} {
			wantErr(t, "Remove", s.Remove(0, number(k)), api.OK)
			wantErr(t, "Free", s.Free(0, number(k)), api.OK)
			wantNoRow(t, s, 0, number(k))
		}
		wantUsed(t, s, 1)
		wantScan(t, s, 0, all, pair(1, 5))
		wantRow(t, s, 0, pair(1, 5), 1)
	}
	wantInsert(t, s, 1, single("a"), 202, api.OK)
}

// spot is what a model keeps of a key: a row, or none where the place is kept.
type spot struct {
	key    api.Value
	r      api.Row
	number int
}

// model does what the chapter says with lists that are gone through from the front.
type model struct {
	tables []api.Table
	spots  [][]spot
	room   int
	last   int
}

func (m *model) find(table int, key api.Value) int {
	return slices.IndexFunc(m.spots[table], func(s spot) bool { return s.key == key })
}

func (m *model) isTable(table int) bool { return table >= 0 && table < len(m.tables) }

func (m *model) used() int {
	n := 0
	for _, l := range m.spots {
		n += len(l)
	}
	return n
}

func (m *model) insert(table int, r api.Row) (int, api.Errno) {
	if !m.isTable(table) || !row.Fits(m.tables[table], r) {
		return 0, api.ErrArg
	}
	i := m.find(table, r[0])
	if i >= 0 && m.spots[table][i].r != nil {
		return 0, api.ErrThere
	}
	if i < 0 {
		if m.used() == m.room {
			return 0, api.ErrRoom
		}
		m.spots[table] = append(m.spots[table], spot{key: r[0]})
		i = len(m.spots[table]) - 1
	}
	m.last++
	m.spots[table][i].r, m.spots[table][i].number = slices.Clone(r), m.last
	return m.last, api.OK
}

func (m *model) put(table int, r api.Row, number int, restore bool) api.Errno {
	if !m.isTable(table) || !row.Fits(m.tables[table], r) {
		return api.ErrArg
	}
	i := m.find(table, r[0])
	if i < 0 || (m.spots[table][i].r == nil) != restore {
		return api.ErrNone
	}
	m.spots[table][i].r = slices.Clone(r)
	if restore {
		m.spots[table][i].number = number
	}
	return api.OK
}

func (m *model) remove(table int, key api.Value) api.Errno {
	if !m.isTable(table) {
		return api.ErrArg
	}
	i := m.find(table, key)
	if i < 0 || m.spots[table][i].r == nil {
		return api.ErrNone
	}
	m.spots[table][i].r = nil
	return api.OK
}

func (m *model) free(table int, key api.Value) api.Errno {
	if !m.isTable(table) {
		return api.ErrArg
	}
	i := m.find(table, key)
	if i < 0 {
		return api.ErrNone
	}
	if m.spots[table][i].r != nil {
		return api.ErrThere
	}
	m.spots[table] = slices.Delete(m.spots[table], i, i+1)
	return api.OK
}

func (m *model) scan(table int, span api.Span) []api.Row {
	if !m.isTable(table) {
		return nil
	}
	var rows []api.Row
	for _, s := range m.spots[table] {
		if s.r != nil && normal.Within(span, s.key) {
			rows = append(rows, s.r)
		}
	}
	slices.SortFunc(rows, func(a, b api.Row) int { return value.Compare(a[0], b[0]) })
	return rows
}

// hold holds a store against a model of it.
func hold(t *testing.T, s *Store, m *model, draw func(int) int) {
	t.Helper()
	wantUsed(t, s, m.used())
	if s.Used() > m.room {
		t.Errorf("%d places, room for %d", s.Used(), m.room)
	}
	for table := -1; table <= len(m.tables); table++ {
		wantScan(t, s, table, all, m.scan(table, all)...)
		span := drawSpan(draw)
		wantScan(t, s, table, span, m.scan(table, span)...)
	}
	for table, spots := range m.spots {
		for _, p := range spots {
			if p.r == nil {
				wantNoRow(t, s, table, p.key)
			} else {
				wantRow(t, s, table, p.r, p.number)
			}
		}
	}
}

func drawKey(draw func(int) int) api.Value {
	if draw(2) == 0 {
		return number(int64(draw(9)) - 4)
	}
	return text(strings.Repeat("a", draw(5)))
}

func drawSpan(draw func(int) int) api.Span {
	return api.Span{
		None: draw(9) == 0, HasLo: draw(2) == 0, OpenLo: draw(2) == 0, Lo: drawKey(draw),
		HasHi: draw(2) == 0, OpenHi: draw(2) == 0, Hi: drawKey(draw),
	}
}

// drawRow is mostly a row that fits.
func drawRow(draw func(int) int, table int) api.Row {
	n := int64(draw(9)) - 4
	k := strings.Repeat("a", draw(5))
	if draw(12) == 0 {
		table = draw(3)
	}
	return []api.Row{pair(n, int64(draw(3))), single(k), wide(k, int64(draw(3)))}[cmp.Compare(table, 1)+1]
}

func TestP65AnyCallsAgainstAModel(t *testing.T) {
	for seed := range 60 {
		draw := draws(uint64(seed))
		room := []int{0, 1, 2, 3, 5, 8, 13, 40}[seed%8]
		s := full(t, trio(), room)
		m := &model{tables: trio(), spots: make([][]spot, 3), room: room}
		for range 400 {
			step(t, s, m, draw)
			hold(t, s, m, draw)
		}
		if t.Failed() {
			t.Fatalf("seed %d", seed)
		}
	}
}

// step makes one call on a store, and on its model.
func step(t *testing.T, s *Store, m *model, draw func(int) int) {
	t.Helper()
	table := draw(3)
	if draw(15) == 0 {
		table = noTables[draw(len(noTables))]
	}
	r, n := drawRow(draw, table), draw(5)
	key := drawKey(draw)
	if len(r) > 0 && draw(3) > 0 {
		key = r[0]
	}
	switch draw(8) {
	case 0, 1, 2:
		wantN, wantE := m.insert(table, r)
		wantInsert(t, s, table, r, wantN, wantE)
	case 3:
		wantErr(t, "Replace", s.Replace(table, r), m.put(table, r, 0, false))
	case 4, 5:
		wantErr(t, "Remove", s.Remove(table, key), m.remove(table, key))
	case 6:
		wantErr(t, "Restore", s.Restore(table, r, n), m.put(table, r, n, true))
	case 7:
		wantErr(t, "Free", s.Free(table, key), m.free(table, key))
	}
}
