package claim

import (
	"math"
	"reflect"
	"slices"
	"strings"
	"testing"

	"ratline/api"
	"ratline/mode"
)

// The signatures are the chapter's: whoever changes one doesn't build.
var (
	_ func([]api.Table, api.Claim) api.Errno = Check
	_ func(a, b api.Claim) bool              = Same
	_ func(a, b api.Claim) bool              = Conflict
	_ func(a, b api.Claim) bool              = Covers
	_ func(a, b api.Claim) api.Claim         = Join
	_ func(api.Claim) api.Claim              = Clone
)

func number(n int64) api.Value { return api.Value{N: n} }

func text(s string) api.Value { return api.Value{Text: true, S: s} }

// pair is a row of two numbers.
func pair(key, n int64) api.Row { return api.Row{number(key), number(n)} }

// columns are a table's, told by letters: n is a column of numbers, t one of texts.
func columns(kinds string) api.Table {
	var t api.Table
	for _, k := range kinds {
		t.Cols = append(t.Cols, k == 't')
	}
	return t
}

// tables are of two columns of numbers, of a text and a number, and of a text alone.
func tables() []api.Table { return []api.Table{columns("nn"), columns("tn"), columns("t")} }

func onTable(m api.Mode) api.Claim { return api.Claim{Kind: api.OnTable, Mode: m} }

func onRow(m api.Mode, key api.Value, images ...api.Row) api.Claim {
	return api.Claim{Kind: api.OnRow, Mode: m, Key: key, Images: images}
}

// writer is X on the row with key 1.
func writer(images ...api.Row) api.Claim { return onRow(api.X, number(1), images...) }

func onPred(p api.Pred) api.Claim { return api.Claim{Kind: api.OnPred, Mode: api.S, Pred: p} }

// at is the claim in another table.
func at(table int, c api.Claim) api.Claim {
	c.Table = table
	return c
}

// in is the claim in another mode.
func in(m api.Mode, c api.Claim) api.Claim {
	c.Mode = m
	return c
}

var (
	yes   = api.Pred{Op: api.PTrue}
	no    = api.Pred{Op: api.PFalse}
	above = api.Pred{Op: api.PGt, Col: 1, V: number(5)}
)

func of(op int, l ...api.Pred) api.Pred { return api.Pred{Op: op, L: l} }

var modes = [...]api.Mode{api.NL, api.IS, api.IX, api.S, api.SIX, api.U, api.X}

var noModes = []api.Mode{-1, 7, 8, 256 + api.S, 256 + api.X, 1<<32 + api.X, math.MinInt, math.MaxInt}

func everyMode() []api.Mode { return append(modes[:], noModes...) }

var noKinds = []int{math.MinInt, -1, 0, api.OnPred + 1, api.OnPred + 2, 256 + api.OnRow, math.MaxInt}

var noPlaces = []int{math.MinInt, -1, 3, 4, math.MaxInt}

var wrongValues = []api.Value{
	text(strings.Repeat("a", api.MaxText+1)),
	{Text: true, N: 1},
	{Text: true, N: -1, S: "a"},
	{S: "a"},
	{N: 1, S: "1"},
}

// wrongPreds are such as no table of ours has.
var wrongPreds = []api.Pred{
	{},
	{Op: -1},
	{Op: api.POr + 1},
	of(api.PTrue, yes),
	of(api.PNot),
	of(api.PAnd),
	of(api.PAnd, yes, of(api.PNot)),
	{Op: api.PEq, Col: 2},
	{Op: api.PEq, Col: -1},
	{Op: api.PEq, V: api.Value{S: "a"}},
	{Op: api.PIn, Col: 1, W: text("")},
	of(api.PAnd, slices.Repeat([]api.Pred{yes}, api.MaxNodes)...),
}

// like tells whether two claims are the same in all fields. Nil and empty lists are one.
func like(a, b api.Claim) bool {
	return a.Kind == b.Kind && a.Table == b.Table && a.Mode == b.Mode && a.Key == b.Key && slices.EqualFunc(a.Images, b.Images, slices.Equal) && likePred(a.Pred, b.Pred)
}

func likePred(a, b api.Pred) bool {
	return a.Op == b.Op && a.Col == b.Col && a.V == b.V && a.W == b.W && slices.EqualFunc(a.L, b.L, likePred)
}

func wantCheck(t *testing.T, c api.Claim, want api.Errno) {
	t.Helper()
	if e := Check(tables(), c); e != want {
		t.Errorf("Check(%+v) is %v, not %v", c, e, want)
	}
}

// wantBoth holds what is answered of two claims, and of the two turned about, against one answer.
func wantBoth(t *testing.T, name string, ask func(a, b api.Claim) bool, a, b api.Claim, want bool) {
	t.Helper()
	if got := ask(a, b); got != want {
		t.Errorf("%s(%+v, %+v) is %v", name, a, b, got)
	}
	if got := ask(b, a); got != want {
		t.Errorf("%s(%+v, %+v) is %v", name, b, a, got)
	}
}

func TestP91ModesOfKinds(t *testing.T) {
	for _, m := range everyMode() {
		table, row, pred := api.ErrClaim, api.ErrClaim, api.ErrClaim
		switch m {
		case api.S:
			table, row, pred = api.OK, api.OK, api.OK
		case api.U, api.X:
			table, row = api.OK, api.OK
		case api.IS, api.IX, api.SIX:
			table = api.OK
		}
		wantCheck(t, onTable(m), table)
		wantCheck(t, onRow(m, number(1)), row)
		wantCheck(t, in(m, onPred(above)), pred)
	}
}

func TestP91NoKind(t *testing.T) {
	for _, kind := range noKinds {
		for _, m := range everyMode() {
			wantCheck(t, api.Claim{Kind: kind, Mode: m, Pred: yes}, api.ErrClaim)
		}
	}
}

func TestP91TablesPlace(t *testing.T) {
	// Each is one that may be in the table of that place.
	for table, c := range []api.Claim{writer(pair(1, 2)), onRow(api.X, text("a"), api.Row{text("a"), number(2)}), onRow(api.X, text("a"), api.Row{text("a")})} {
		for place := range 3 {
			want := api.ErrClaim
			if place == table {
				want = api.OK
			}
			wantCheck(t, at(place, c), want)
		}
	}
	for _, place := range noPlaces {
		for _, c := range []api.Claim{onTable(api.S), onRow(api.S, number(1)), writer(pair(1, 2)), onPred(yes), {}} {
			wantCheck(t, at(place, c), api.ErrClaim)
			for _, none := range [][]api.Table{nil, {}} {
				if e := Check(none, at(place, c)); e != api.ErrClaim {
					t.Errorf("without tables Check(%+v) is %v", at(place, c), e)
				}
			}
		}
	}
}

func TestP91TablesThatMayNotBe(t *testing.T) {
	for _, wrong := range []api.Table{{}, {Cols: []bool{}}, columns("nnnnn"), columns(strings.Repeat("n", 500))} {
		all := []api.Table{columns("nn"), wrong}
		for _, c := range []api.Claim{onTable(api.S), onTable(api.X), onRow(api.S, number(1)), onRow(api.X, number(1), nil), onPred(yes)} {
			if e := Check(all, at(1, c)); e != api.ErrClaim {
				t.Errorf("Check(%+v) is %v in a table of %d columns", c, e, len(wrong.Cols))
			}
			if e := Check(all, c); e != api.OK {
				t.Errorf("Check(%+v) is %v beside a table that may not be", c, e)
			}
		}
	}
	for _, cols := range []string{"n", "nn", "ntt", "nnnt"} {
		if e := Check([]api.Table{columns(cols)}, onTable(api.S)); e != api.OK {
			t.Errorf("in %s it is %v", cols, e)
		}
	}
}

func TestP91Keys(t *testing.T) {
	for _, m := range []api.Mode{api.S, api.U, api.X} {
		for _, n := range []int64{math.MinInt64, -1, 0, 1, math.MaxInt64} {
			wantCheck(t, onRow(m, number(n)), api.OK)
			wantCheck(t, at(1, onRow(m, number(n))), api.ErrClaim)
		}
		for _, s := range []string{"", "a", "\x00", "abcdefghijkl"} {
			wantCheck(t, onRow(m, text(s)), api.ErrClaim)
			wantCheck(t, at(1, onRow(m, text(s))), api.OK)
			wantCheck(t, at(2, onRow(m, text(s))), api.OK)
		}
		for _, key := range wrongValues {
			for place := range 3 {
				wantCheck(t, at(place, onRow(m, key)), api.ErrClaim)
				wantCheck(t, at(place, onRow(m, key, nil)), api.ErrClaim)
			}
		}
	}
}

func TestP91ImagesOfAWriter(t *testing.T) {
	for _, images := range [][]api.Row{
		nil,
		{},
		{nil},
		{{}},
		{nil, nil, {}},
		{pair(1, 3)},
		{pair(1, 3), nil},
		{nil, pair(1, 3), pair(1, 3), pair(1, math.MinInt64), {}},
		slices.Repeat([]api.Row{pair(1, 3)}, 500),
	} {
		wantCheck(t, writer(images...), api.OK)
	}
	for _, wrong := range []api.Row{
		{number(1)},
		{number(1), number(2), number(3)},
		pair(2, 3),
		pair(-1, 1),
		{number(1), text("a")},
		{text("a"), number(1)},
		{number(1), {N: 3, S: "3"}},
		{number(1), {Text: true, N: 3}},
		{{N: 1, S: "1"}, number(3)},
		{{N: 1, Text: true}, number(3)},
	} {
		wantCheck(t, writer(wrong), api.ErrClaim)
		wantCheck(t, writer(wrong, nil), api.ErrClaim)
		wantCheck(t, writer(wrong, pair(1, 3)), api.ErrClaim)
		wantCheck(t, writer(pair(1, 3), nil, wrong), api.ErrClaim)
		wantCheck(t, writer(nil, wrong, pair(1, 3)), api.ErrClaim)
	}
	wantCheck(t, at(1, onRow(api.X, text("a"), api.Row{text("a"), number(1)}, nil)), api.OK)
	wantCheck(t, at(1, onRow(api.X, text("a"), api.Row{text("b"), number(1)})), api.ErrClaim)
	wantCheck(t, at(1, onRow(api.X, text("a"), api.Row{text("aa"), number(1)})), api.ErrClaim)
}

func TestP91ReadersHaveNoImages(t *testing.T) {
	for _, m := range []api.Mode{api.S, api.U} {
		wantCheck(t, onRow(m, number(1), []api.Row{}...), api.OK)
		wantCheck(t, onRow(m, number(1), []api.Row{pair(1, 3)}[:0]...), api.OK)
		wantCheck(t, onRow(m, number(1), nil), api.ErrClaim)
		wantCheck(t, onRow(m, number(1), api.Row{}), api.ErrClaim)
		wantCheck(t, onRow(m, number(1), pair(1, 3)), api.ErrClaim)
		wantCheck(t, onRow(m, number(1), nil, nil), api.ErrClaim)
	}
}

func TestP91Preds(t *testing.T) {
	for _, p := range []api.Pred{
		yes,
		no,
		above,
		{Op: api.PEq, V: number(1)},
		{Op: api.PIn, Col: 1, V: number(3), W: number(-3)},
		of(api.PNot, above),
		of(api.PAnd, slices.Repeat([]api.Pred{yes}, api.MaxNodes-1)...),
	} {
		wantCheck(t, onPred(p), api.OK)
	}
	for _, p := range wrongPreds {
		wantCheck(t, onPred(p), api.ErrClaim)
	}
	wantCheck(t, at(1, onPred(api.Pred{Op: api.PEq, V: text("a")})), api.OK)
	wantCheck(t, at(1, onPred(api.Pred{Op: api.PEq, V: number(1)})), api.ErrClaim)
	wantCheck(t, at(2, onPred(above)), api.ErrClaim)
}

// withOddFields are of a claim such as differ from it only in fields that its Kind doesn't name.
func withOddFields(c api.Claim) []api.Claim {
	table, row, pred := c, c, c
	row.Pred = of(api.PNot)
	pred.Key, pred.Images = api.Value{N: 9, S: "odd"}, []api.Row{{text("odd")}, nil}
	table.Key, table.Images, table.Pred = pred.Key, pred.Images, row.Pred
	switch c.Kind {
	case api.OnTable:
		return []api.Claim{c, table, row, pred}
	case api.OnRow:
		return []api.Claim{c, row}
	}
	return []api.Claim{c, pred}
}

func TestP91FieldsThatPlayNoPart(t *testing.T) {
	for _, c := range []api.Claim{onTable(api.IS), onTable(api.X), onRow(api.U, number(1)), writer(pair(1, 3), nil), onPred(above)} {
		for _, odd := range withOddFields(c) {
			wantCheck(t, odd, api.OK)
			wantCheck(t, in(api.NL, odd), api.ErrClaim)
		}
	}
}

// things are claims that are about different ones, each two of them.
func things() []api.Claim {
	return []api.Claim{
		onTable(api.S),
		at(1, onTable(api.S)),
		at(-1, onTable(api.S)),
		onRow(api.S, number(1)),
		onRow(api.S, number(-1)),
		onRow(api.S, number(0)),
		onRow(api.S, text("")),
		onRow(api.S, text("a")),
		at(1, onRow(api.S, text("a"))),
		at(1, onRow(api.S, number(1))),
		onPred(yes),
		onPred(no),
		onPred(above),
		at(1, onPred(above)),
		onPred(api.Pred{Op: api.PGe, Col: 1, V: number(5)}),
		onPred(api.Pred{Op: api.PGt, Col: 0, V: number(5)}),
		onPred(api.Pred{Op: api.PGt, Col: 1, V: number(6)}),
		onPred(api.Pred{Op: api.PGt, Col: 1, V: number(5), W: number(1)}),
		onPred(of(api.PNot, above)),
		onPred(of(api.PAnd, above)),
		onPred(of(api.PAnd, above, yes)),
		onPred(of(api.PAnd, yes, above)),
		onPred(of(api.PNot, of(api.PNot, above))),
		onPred(api.Pred{}),
	}
}

func TestP92Same(t *testing.T) {
	for i, a := range things() {
		for k, b := range things() {
			wantBoth(t, "Same", Same, a, b, i == k)
		}
	}
}

func TestP92ModesAndImagesPlayNoPartInSame(t *testing.T) {
	for _, c := range things() {
		for _, m := range everyMode() {
			wantBoth(t, "Same", Same, c, in(m, c), true)
		}
		other := c
		other.Images = []api.Row{nil, pair(1, 3)}
		wantBoth(t, "Same", Same, c, other, true)
	}
}

// Keys go by all their fields, as rows do; of those that may be no two differ only where it plays no part.
func TestP92KeysThatMayNotBe(t *testing.T) {
	for i, a := range append(wrongValues, number(1), text(""), text("a")) {
		for k, b := range append(wrongValues, number(1), text(""), text("a")) {
			wantBoth(t, "Same", Same, onRow(api.S, a), onRow(api.S, b), i == k)
			wantBoth(t, "Conflict", Conflict, onRow(api.X, a), onRow(api.X, b), i == k)
		}
	}
}

func TestP92FieldsThatPlayNoPart(t *testing.T) {
	for _, a := range things() {
		for _, b := range things() {
			same, clash := Same(a, b), Conflict(a, b)
			for _, oddA := range withOddFields(a) {
				for _, oddB := range withOddFields(b) {
					wantBoth(t, "Same", Same, oddA, oddB, same)
					wantBoth(t, "Conflict", Conflict, oddA, oddB, clash)
				}
			}
		}
	}
}

func TestP92OtherKinds(t *testing.T) {
	for _, kind := range noKinds {
		for _, c := range append(things(), onTable(api.X), writer(), writer(pair(1, 9))) {
			other := c
			other.Kind = kind
			wantBoth(t, "Same", Same, other, other, false)
			wantBoth(t, "Same", Same, other, c, false)
			wantBoth(t, "Conflict", Conflict, in(api.X, other), in(api.X, other), false)
			wantBoth(t, "Conflict", Conflict, other, c, false)
			wantBoth(t, "Conflict", Conflict, in(api.X, other), writer(pair(1, 9)), false)
			wantBoth(t, "Conflict", Conflict, other, onPred(yes), false)
		}
	}
}

// fits is chapter 8's table, with NL ahead: a row and a column for each of the modes, in their order.
var fits = [len(modes)]string{
	"yyyyyyy",
	"yyyyyyn",
	"yyynnnn",
	"yynynyn",
	"yynnnnn",
	"yynynnn",
	"ynnnnnn",
}

func TestP92ConflictOfModes(t *testing.T) {
	for i, a := range modes {
		for k, b := range modes {
			clash := fits[i][k] == 'n'
			wantBoth(t, "Conflict", Conflict, onTable(a), onTable(b), clash)
			wantBoth(t, "Conflict", Conflict, at(1, onTable(a)), at(1, onTable(b)), clash)
			wantBoth(t, "Conflict", Conflict, onTable(a), at(1, onTable(b)), false)
			wantBoth(t, "Conflict", Conflict, onRow(a, number(1)), onRow(b, number(1)), clash)
			wantBoth(t, "Conflict", Conflict, onRow(a, number(1), pair(1, 9)), onRow(b, number(1), pair(1, 9)), clash)
			wantBoth(t, "Conflict", Conflict, onRow(a, text("a")), onRow(b, text("a")), clash)
			wantBoth(t, "Conflict", Conflict, onRow(a, number(1)), onRow(b, number(2)), false)
			wantBoth(t, "Conflict", Conflict, onRow(a, number(0)), onRow(b, text("")), false)
			wantBoth(t, "Conflict", Conflict, onRow(a, number(1)), at(1, onRow(b, number(1))), false)
			wantBoth(t, "Conflict", Conflict, onTable(a), onRow(b, number(1)), false)
			wantBoth(t, "Conflict", Conflict, onTable(a), in(b, onPred(yes)), false)
			wantBoth(t, "Conflict", Conflict, in(a, onPred(yes)), in(b, onPred(yes)), false)
			wantBoth(t, "Conflict", Conflict, in(a, onPred(yes)), in(b, onPred(above)), false)
		}
	}
}

// Numbers that are no mode may be held at once with none.
func TestP92ConflictOfNoModes(t *testing.T) {
	for _, a := range noModes {
		for _, b := range everyMode() {
			wantBoth(t, "Conflict", Conflict, onTable(a), onTable(b), true)
			wantBoth(t, "Conflict", Conflict, onRow(a, number(1)), onRow(b, number(1)), true)
			wantBoth(t, "Conflict", Conflict, onRow(a, number(1)), onRow(b, number(2)), false)
			wantBoth(t, "Conflict", Conflict, in(a, onPred(yes)), in(b, onPred(yes)), false)
		}
	}
}

func TestP92ConflictExamplesOfTheChapter(t *testing.T) {
	wantBoth(t, "Conflict", Conflict, onPred(above), writer(pair(1, 3), pair(1, 9)), true)
	wantBoth(t, "Conflict", Conflict, onPred(above), writer(pair(1, 3), nil), false)
	wantBoth(t, "Conflict", Conflict, onPred(above), onPred(yes), false)
}

func TestP92ConflictOfPredsAndWriters(t *testing.T) {
	key := api.Pred{Op: api.PEq, V: number(1)}
	for _, c := range []struct {
		p      api.Pred
		images []api.Row
		want   bool
	}{
		{above, nil, false},
		{above, []api.Row{pair(1, 5)}, false},
		{above, []api.Row{pair(1, 6)}, true},
		{above, []api.Row{pair(1, 6), pair(1, 3)}, true},
		{above, []api.Row{pair(1, 6), nil}, true},
		{above, []api.Row{nil, pair(1, 3), pair(1, 6)}, true},
		{above, []api.Row{nil, pair(1, 6), pair(1, 3)}, true},
		{above, []api.Row{pair(1, 3), pair(1, 4), pair(1, -9)}, false},
		{above, []api.Row{{number(1)}}, false},
		{above, []api.Row{{number(1), text("")}}, true},
		{key, []api.Row{pair(1, 3)}, true},
		{key, []api.Row{pair(2, 3)}, false},
		{key, nil, false},
		{yes, []api.Row{pair(1, 3)}, true},
		{no, []api.Row{pair(1, 3), pair(1, 9)}, false},
		{api.Pred{}, []api.Row{pair(1, 3)}, false},
		{of(api.PNot, above), []api.Row{pair(1, 9)}, false},
		{of(api.PNot, above), []api.Row{pair(1, 9), pair(1, 3)}, true},
		{of(api.PAnd, above, key), []api.Row{pair(1, 3), pair(1, 9)}, true},
		{of(api.PAnd, above, of(api.PNot, above)), []api.Row{pair(1, 3), pair(1, 9)}, false},
	} {
		wantBoth(t, "Conflict", Conflict, onPred(c.p), writer(c.images...), c.want)
		wantBoth(t, "Conflict", Conflict, at(2, onPred(c.p)), at(2, writer(c.images...)), c.want)
		wantBoth(t, "Conflict", Conflict, onPred(c.p), at(2, writer(c.images...)), false)
		wantBoth(t, "Conflict", Conflict, onTable(api.X), writer(c.images...), false)
	}
}

// A predicate that holds of a row without values, too, says nothing of a row that isn't there.
func TestP92EmptyImagesAreNoRows(t *testing.T) {
	for _, p := range []api.Pred{yes, of(api.PNot, above), of(api.PNot), of(api.PAnd), of(api.POr, no, of(api.PNot, no))} {
		for _, images := range [][]api.Row{{nil}, {{}}, {nil, {}, nil}, {pair(1, 9)[:0]}} {
			wantBoth(t, "Conflict", Conflict, onPred(p), writer(images...), false)
		}
		wantBoth(t, "Conflict", Conflict, onPred(p), writer(nil, pair(1, 3)), true)
	}
}

// Of a claim on a row only X is a writer's; the mode of the one on the predicate isn't asked.
func TestP92ConflictOfPredsAndOtherModes(t *testing.T) {
	for _, a := range everyMode() {
		for _, b := range everyMode() {
			wantBoth(t, "Conflict", Conflict, in(a, onPred(above)), onRow(b, number(1), pair(1, 9)), b == api.X)
		}
	}
}

func TestP93CoversOfModes(t *testing.T) {
	for _, a := range everyMode() {
		for _, b := range everyMode() {
			want := mode.Covers(a, b)
			for _, c := range things() {
				if got := Covers(in(a, c), in(b, c)); got != want {
					t.Errorf("Covers is %v of %d and %d on %+v", got, a, b, c)
				}
			}
		}
	}
}

func TestP93CoversOneThingOnly(t *testing.T) {
	for i, a := range things() {
		for k, b := range things() {
			if got := Covers(in(api.X, a), in(api.NL, b)); got != (i == k) {
				t.Errorf("Covers(%+v, %+v) is %v", a, b, got)
			}
		}
		for _, kind := range noKinds {
			other := a
			other.Kind = kind
			if Covers(other, other) || Covers(a, other) || Covers(other, a) {
				t.Errorf("the kind %d covers, or is covered by %+v", kind, a)
			}
		}
	}
}

func TestP93CoversOfImages(t *testing.T) {
	for _, c := range []struct {
		a, b []api.Row
		want bool
	}{
		{nil, nil, true},
		{nil, []api.Row{}, true},
		{nil, []api.Row{nil}, false},
		{[]api.Row{nil}, nil, true},
		{[]api.Row{nil}, []api.Row{{}}, true},
		{[]api.Row{{}}, []api.Row{nil, nil}, true},
		{[]api.Row{pair(1, 3)}, []api.Row{nil}, false},
		{[]api.Row{pair(1, 3)}, []api.Row{pair(1, 3), pair(1, 3)}, true},
		{[]api.Row{pair(1, 3)}, []api.Row{pair(1, 4)}, false},
		{[]api.Row{pair(1, 3)}, []api.Row{{number(1)}}, false},
		{[]api.Row{pair(1, 3)}, []api.Row{{number(1), {Text: true, N: 3}}}, false},
		{[]api.Row{pair(1, 3)}, []api.Row{{number(1), {N: 3, S: "3"}}}, false},
		{[]api.Row{{number(1)}}, []api.Row{pair(1, 3)}, false},
		{[]api.Row{pair(1, 3), nil}, []api.Row{nil, pair(1, 3)}, true},
		{[]api.Row{pair(1, 3), pair(1, 4), nil}, []api.Row{pair(1, 4)}, true},
		{[]api.Row{pair(1, 3), pair(1, 4)}, []api.Row{pair(1, 4), pair(1, 5)}, false},
		{[]api.Row{pair(1, 3), pair(1, 4)}, []api.Row{pair(1, 5), pair(1, 4)}, false},
	} {
		for _, thing := range things() {
			a, b := thing, thing
			a.Images, b.Images = c.a, c.b
			if got := Covers(a, b); got != c.want {
				t.Errorf("Covers(%+v, %+v) is %v", a, b, got)
			}
		}
	}
}

func TestP93JoinOfModes(t *testing.T) {
	for _, a := range everyMode() {
		for _, b := range everyMode() {
			for _, c := range things() {
				if got, want := Join(in(a, c), in(b, c)), in(mode.Join(a, b), c); !like(got, want) {
					t.Errorf("the join of %d and %d is %+v, not %+v", a, b, got, want)
				}
			}
		}
	}
}

func TestP93JoinOfImages(t *testing.T) {
	wrong := api.Row{text("wrong")}
	for _, c := range []struct{ a, b, want []api.Row }{
		{nil, nil, nil},
		{nil, []api.Row{nil}, []api.Row{nil}},
		{nil, []api.Row{pair(1, 3), nil, pair(1, 3), {}}, []api.Row{pair(1, 3), nil}},
		{[]api.Row{nil}, []api.Row{{}}, []api.Row{nil}},
		{[]api.Row{pair(1, 3)}, nil, []api.Row{pair(1, 3)}},
		{[]api.Row{pair(1, 3)}, []api.Row{pair(1, 3)}, []api.Row{pair(1, 3)}},
		{[]api.Row{pair(1, 3), nil}, []api.Row{nil, pair(1, 4), pair(1, 4)}, []api.Row{pair(1, 3), nil, pair(1, 4)}},
		{[]api.Row{pair(1, 9)}, []api.Row{pair(1, 4), pair(1, 9), pair(1, 2), nil}, []api.Row{pair(1, 9), pair(1, 4), pair(1, 2), nil}},
		// What a has twice stays so.
		{[]api.Row{pair(1, 3), pair(1, 3)}, []api.Row{pair(1, 4)}, []api.Row{pair(1, 3), pair(1, 3), pair(1, 4)}},
		{[]api.Row{{number(1)}}, []api.Row{pair(1, 3), wrong, {number(1)}}, []api.Row{{number(1)}, pair(1, 3), wrong}},
		{[]api.Row{pair(1, 3)}, []api.Row{{number(1), {N: 3, S: "3"}}}, []api.Row{pair(1, 3), {number(1), {N: 3, S: "3"}}}},
	} {
		for _, thing := range things() {
			a, b, want := in(api.S, thing), in(api.X, thing), in(api.X, thing)
			a.Images, b.Images, want.Images = c.a, c.b, c.want
			if got := Join(a, b); !like(got, want) {
				t.Errorf("Join(%+v, %+v) is %+v", a, b, got)
			}
		}
	}
}

func TestP93JoinIsTheFirstOneWithMore(t *testing.T) {
	for _, a := range things() {
		for _, odd := range withOddFields(a) {
			want := in(api.X, odd)
			if got := Join(odd, in(api.X, a)); a.Kind != api.OnRow && !like(got, want) {
				t.Errorf("it is %+v, not %+v", got, want)
			}
		}
	}
	// What the second one has in fields that its Kind doesn't name isn't taken over.
	a, b := writer(pair(1, 3)), writer()
	a.Pred, b.Pred = above, of(api.PNot, yes)
	if got := Join(a, b); !like(got, a) {
		t.Errorf("it is %+v", got)
	}
}

func TestP93JoinOfTwoThings(t *testing.T) {
	for i, a := range things() {
		a.Images = []api.Row{pair(1, 3), nil, pair(1, 3)}
		for k, b := range things() {
			b.Mode, b.Images = api.X, []api.Row{pair(1, 4)}
			if got := Join(a, b); i != k && !like(got, a) {
				t.Errorf("Join(%+v, %+v) is %+v", a, b, got)
			}
		}
		for _, kind := range noKinds {
			other, more := a, in(api.X, a)
			other.Kind, more.Kind = kind, kind
			more.Images = []api.Row{pair(1, 4)}
			if got := Join(other, more); !like(got, other) {
				t.Errorf("of the kind %d it is %+v", kind, got)
			}
		}
	}
}

// fullClaims have something in each of their fields, whatever their Kind is.
func fullClaims() []api.Claim {
	var all []api.Claim
	for _, kind := range append([]int{api.OnTable, api.OnRow, api.OnPred}, noKinds...) {
		all = append(all, api.Claim{
			Kind: kind, Table: 2, Mode: api.SIX, Key: api.Value{Text: true, N: 1, S: "k"},
			Images: []api.Row{pair(1, 3), nil, {text("a")}, pair(1, 3)},
			Pred:   api.Pred{Op: api.POr, Col: 3, V: number(1), W: text("w"), L: []api.Pred{of(api.PAnd, above, of(api.PNot, yes)), no}},
		})
	}
	return all
}

func TestP93Clone(t *testing.T) {
	for _, c := range slices.Concat(things(), fullClaims(), []api.Claim{{}, {Images: []api.Row{}}, writer(nil), {Table: -1, Mode: 99}}) {
		if got := Clone(c); !like(got, c) {
			t.Errorf("Clone(%+v) is %+v", c, got)
		}
	}
}

// spoil changes all that a claim leads to, the room behind its lists' ends included.
func spoil(c api.Claim) {
	images := c.Images[:cap(c.Images)]
	for i := range images {
		values := images[i][:cap(images[i])]
		for k := range values {
			values[k] = text("spoilt")
		}
		images[i] = api.Row{text("spoilt")}
	}
	spoilPred(c.Pred)
}

func spoilPred(p api.Pred) {
	l := p.L[:cap(p.L)]
	for i := range l {
		spoilPred(l[i])
		l[i] = api.Pred{Op: 99}
	}
}

// roomy is a claim with room behind the ends of all its lists; all of it, with what stands in that room, is told by whole.
func roomy(c api.Claim) api.Claim {
	own := c
	own.Images = nil
	for _, r := range c.Images {
		values := append(append(api.Row{}, r...), text("behind"), text("it"))
		own.Images = append(own.Images, values[:len(r)])
	}
	own.Images = append(own.Images, pair(8, 8), pair(9, 9))[:len(c.Images)]
	own.Pred = roomyPred(c.Pred)
	return own
}

func roomyPred(p api.Pred) api.Pred {
	var l []api.Pred
	for _, part := range p.L {
		l = append(l, roomyPred(part))
	}
	p.L = append(l, yes, no)[:len(l)]
	return p
}

// whole is a claim with what stands in the room behind its lists' ends as a part of them.
func whole(c api.Claim) api.Claim {
	images := c.Images[:cap(c.Images)]
	c.Images = nil
	for _, r := range images {
		c.Images = append(c.Images, slices.Clone(r[:cap(r)]))
	}
	c.Pred = wholePred(c.Pred)
	return c
}

func wholePred(p api.Pred) api.Pred {
	l := p.L[:cap(p.L)]
	p.L = nil
	for _, part := range l {
		p.L = append(p.L, wholePred(part))
	}
	return p
}

// someClaims have images and predicates, and are about a thing that others of them are about, too.
func someClaims() []api.Claim {
	more := in(api.X, onPred(of(api.PAnd, above, of(api.PNot, yes))))
	more.Images = []api.Row{pair(1, 3)}
	return append(fullClaims(), writer(pair(1, 3), nil), writer(pair(1, 4), pair(1, 3), pair(1, 5)), writer(), more, onPred(more.Pred), onTable(api.X))
}

func TestP93ClonesAndJoinsAreNewMemory(t *testing.T) {
	for _, made := range someClaims() {
		c := roomy(made)
		was := whole(c)
		spoil(Clone(c))
		if !reflect.DeepEqual(whole(c), was) {
			t.Errorf("Clone(%+v) leads to what it is given", made)
		}
		for _, other := range someClaims() {
			b := roomy(other)
			wasB := whole(b)
			spoil(Join(c, b))
			if !reflect.DeepEqual(whole(c), was) || !reflect.DeepEqual(whole(b), wasB) {
				t.Errorf("Join(%+v, %+v) leads to what it is given", made, other)
			}
			spoil(Join(c, c))
			if !reflect.DeepEqual(whole(c), was) {
				t.Errorf("Join(%+v, itself) leads to what it is given", made)
			}
		}
	}
}

func TestP93WhatIsToldStays(t *testing.T) {
	for _, made := range someClaims() {
		for _, other := range someClaims() {
			a, b := roomy(made), roomy(other)
			want := Join(made, other)
			joined, again, cloned := Join(a, b), Join(a, b), Clone(a)
			spoil(again)
			spoil(a)
			spoil(b)
			if !like(joined, want) || !like(cloned, made) {
				t.Errorf("of %+v and %+v something is kept", made, other)
			}
		}
	}
}

// No two lists of an answer share anything, also where those that were given do.
func TestP93NoTwoListsShare(t *testing.T) {
	image, part := pair(1, 3), of(api.PNot, above)
	c := api.Claim{Kind: api.OnRow, Mode: api.X, Key: number(1), Images: []api.Row{image, image}, Pred: of(api.PAnd, part, part)}
	d := c
	d.Images = []api.Row{pair(1, 4), image}
	for _, got := range []api.Claim{Clone(c), Join(c, d), Join(c, c), Join(c, onTable(api.S))} {
		got.Images[0][1] = text("spoilt")
		_ = append(got.Images[0], text("spoilt"))
		got.Pred.L[0].L[0].Op = 99
		if !slices.Equal(got.Images[1], image) || got.Pred.L[1].L[0].Op != above.Op {
			t.Errorf("it is %+v", got)
		}
	}
}

func TestWhatIsHandedInStays(t *testing.T) {
	for _, made := range someClaims() {
		for _, other := range someClaims() {
			a, b, all := roomy(made), roomy(other), tables()
			wasA, wasB := whole(a), whole(b)
			Check(all, a)
			Same(a, b)
			Conflict(a, b)
			Covers(a, b)
			Join(a, b)
			Clone(a)
			if !reflect.DeepEqual(whole(a), wasA) || !reflect.DeepEqual(whole(b), wasB) || !reflect.DeepEqual(all, tables()) {
				t.Errorf("%+v or %+v is changed", made, other)
			}
		}
	}
}

// claimsThatMayBe are of the first table: of each kind all modes, images in several orders.
func claimsThatMayBe(t *testing.T) []api.Claim {
	var all []api.Claim
	for _, m := range modes[1:] {
		all = append(all, onTable(m))
	}
	for key := range int64(2) {
		a, b := pair(key, 3), pair(key, 9)
		all = append(all, onRow(api.S, number(key)), onRow(api.U, number(key)))
		for _, images := range [][]api.Row{nil, {nil}, {a}, {b}, {a, b}, {b, a}, {nil, a}, {b, nil}, {a, a}, {nil, pair(key, 7), a}} {
			all = append(all, onRow(api.X, number(key), images...))
		}
	}
	for _, p := range []api.Pred{yes, no, above, of(api.PNot, above), {Op: api.PEq, V: number(1)}, {Op: api.PIn, Col: 1, V: number(3), W: number(7)}} {
		all = append(all, onPred(p))
	}
	for _, c := range all {
		wantCheck(t, c, api.OK)
	}
	for _, c := range slices.Clone(all) {
		all = append(all, at(1, c)) // in another table they may not be, but what follows holds of them, too
	}
	return all
}

func TestP94ConflictCanBeTurnedAbout(t *testing.T) {
	all := slices.Concat(claimsThatMayBe(t), things(), someClaims())
	clashes := 0
	for _, a := range all {
		for _, b := range all {
			clash := Conflict(a, b)
			if clash != Conflict(b, a) {
				t.Errorf("%+v and %+v, turned", a, b)
			}
			if clash {
				clashes++
			}
		}
	}
	if clashes == 0 {
		t.Error("nothing was in conflict")
	}
}

func TestP94ConflictWithAJoin(t *testing.T) {
	all := claimsThatMayBe(t)
	for _, a := range all {
		for _, b := range all {
			if !Same(a, b) {
				continue
			}
			j := Join(a, b)
			for _, c := range all {
				if got, want := Conflict(c, j), Conflict(c, a) || Conflict(c, b); got != want || Conflict(j, c) != want {
					t.Errorf("%+v and the join of %+v and %+v: %v", c, a, b, got)
				}
			}
		}
	}
}

func TestP94AJoinCoversBoth(t *testing.T) {
	all := claimsThatMayBe(t)
	for _, a := range all {
		for _, b := range all {
			j := Join(a, b)
			if Same(a, b) && (!Covers(j, a) || !Covers(j, b) || !Same(j, a) || !Same(j, b)) {
				t.Errorf("%+v, the join of %+v and %+v", j, a, b)
			}
			if Same(a, b) && a.Table == 0 && Check(tables(), j) != api.OK {
				t.Errorf("%+v, the join of %+v and %+v, may not be", j, a, b)
			}
			// Who covers both covers their join.
			for _, c := range all {
				if Same(a, b) && Covers(c, a) && Covers(c, b) && !Covers(c, j) {
					t.Errorf("%+v covers %+v and %+v, but not their join", c, a, b)
				}
			}
		}
	}
}

// A claim that covers another one is in conflict with whatever that is.
func TestP94WhoCoversClashesWithMore(t *testing.T) {
	all := claimsThatMayBe(t)
	for _, a := range all {
		for _, b := range all {
			for _, c := range all {
				if Covers(a, b) && Conflict(b, c) && !Conflict(a, c) {
					t.Errorf("%+v covers %+v, but is in no conflict with %+v", a, b, c)
				}
			}
		}
	}
}

// Each call ends, whatever it is given.
func TestGreatAndWrongClaims(t *testing.T) {
	deep := yes
	for range 1 << 15 {
		deep = of(api.PNot, deep)
	}
	great := onPred(deep)
	wide := writer(slices.Repeat([]api.Row{nil, pair(1, 3), {text("wrong")}}, 2000)...)
	wantCheck(t, great, api.ErrClaim)
	wantCheck(t, wide, api.ErrClaim)
	if !Same(great, great) || !Covers(great, great) || !like(Join(great, great), great) || !like(Clone(great), great) {
		t.Error("the deep one")
	}
	// The deep one holds of all rows, as PTrue does.
	wantBoth(t, "Conflict", Conflict, great, wide, true)
	wantBoth(t, "Conflict", Conflict, great, writer(nil), false)
	if j := Join(wide, wide); !Covers(wide, j) || len(j.Images) != len(wide.Images) {
		t.Error("the wide one, with itself")
	}
	if j := Join(writer(), wide); len(j.Images) != 3 {
		t.Error("the wide one has three images")
	}
	wantCheck(t, api.Claim{}, api.ErrClaim)
	wantCheck(t, api.Claim{Kind: math.MinInt, Table: math.MinInt, Mode: math.MinInt}, api.ErrClaim)
}
