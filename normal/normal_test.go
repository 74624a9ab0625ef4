package normal

import (
	"math"
	"reflect"
	"slices"
	"strings"
	"testing"

	"ratline/api"
	"ratline/pred"
)

// The signatures are the chapter's: whoever changes one doesn't build.
var (
	_ func(api.Table, api.Pred) api.Pred = Normal
	_ func(api.Span, api.Value) bool     = Within
	_ func(a, b api.Span) api.Span       = Meet
	_ func(a, b api.Span) api.Span       = Hull
	_ func(api.Table, api.Pred) api.Span = Keys
)

func number(n int64) api.Value { return api.Value{N: n} }

func text(s string) api.Value { return api.Value{Text: true, S: s} }

// columns are a table's, told by letters: n is a column of numbers, t one of texts.
func columns(kinds string) api.Table {
	var t api.Table
	for _, k := range kinds {
		t.Cols = append(t.Cols, k == 't')
	}
	return t
}

var (
	yes = api.Pred{Op: api.PTrue}
	no  = api.Pred{Op: api.PFalse}
)

func of(op int, l ...api.Pred) api.Pred { return api.Pred{Op: op, L: l} }

func not(p api.Pred) api.Pred { return of(api.PNot, p) }

func leaf(op, col int, v api.Value) api.Pred { return api.Pred{Op: op, Col: col, V: v} }

func from(col int, v, w api.Value) api.Pred {
	return api.Pred{Op: api.PIn, Col: col, V: v, W: w}
}

// nested is a predicate with so many PNot about it.
func nested(p api.Pred, times int) api.Pred {
	for range times {
		p = not(p)
	}
	return p
}

// listed is a predicate in which no list and an empty list are one.
func listed(p api.Pred) api.Pred {
	var l []api.Pred
	for _, part := range p.L {
		l = append(l, listed(part))
	}
	p.L = l
	return p
}

func alike(a, b api.Pred) bool { return reflect.DeepEqual(listed(a), listed(b)) }

var compares = []int{api.PEq, api.PNe, api.PLt, api.PLe, api.PGt, api.PGe}

var against = []int{api.PNe, api.PEq, api.PGe, api.PGt, api.PLe, api.PLt}

type normalCase struct {
	p    api.Pred
	want api.Pred
}

func checkNormal(t *testing.T, table api.Table, cases []normalCase) {
	t.Helper()
	for _, c := range cases {
		if got := Normal(table, c.p); !alike(got, c.want) {
			t.Errorf("Normal(%+v) is %+v, not %+v", c.p, got, c.want)
		}
	}
}

func TestP41Example(t *testing.T) {
	checkNormal(t, columns("nn"), []normalCase{{
		not(of(api.PAnd, leaf(api.PLt, 1, number(5)), from(1, number(2), number(3)))),
		of(api.POr, leaf(api.PGe, 1, number(5)), of(api.POr, leaf(api.PLt, 1, number(2)), leaf(api.PGt, 1, number(3)))),
	}})
}

func TestP41LeavesAndTheirOpposites(t *testing.T) {
	table := columns("ntnt")
	for col, values := range [][]api.Value{
		{number(0), number(-5), number(math.MaxInt64), number(math.MinInt64)},
		{text(""), text("a"), text("abcdefghijkl")},
		{number(7)},
		{text("\x00\xff")},
	} {
		for _, v := range values {
			for i, op := range compares {
				p, other := leaf(op, col, v), leaf(against[i], col, v)
				checkNormal(t, table, []normalCase{{p, p}, {not(p), other}, {not(not(p)), p}, {nested(p, 13), other}, {nested(p, 14), p}})
			}
			for _, w := range values {
				p, other := from(col, v, w), of(api.POr, leaf(api.PLt, col, v), leaf(api.PGt, col, w))
				checkNormal(t, table, []normalCase{{p, p}, {not(p), other}, {not(not(p)), p}, {nested(p, 13), other}, {nested(p, 14), p}})
			}
		}
	}
	checkNormal(t, table, []normalCase{
		{yes, yes}, {not(yes), no}, {not(not(yes)), yes}, {nested(yes, 13), no}, {nested(yes, 14), yes},
		{no, no}, {not(no), yes}, {not(not(no)), no}, {nested(no, 13), yes}, {nested(no, 14), no},
	})
}

func TestP41OfParts(t *testing.T) {
	one, two, three := leaf(api.PEq, 0, number(1)), leaf(api.PLt, 1, number(2)), from(0, number(3), number(4))
	noOne, noTwo := leaf(api.PNe, 0, number(1)), leaf(api.PGe, 1, number(2))
	noThree := of(api.POr, leaf(api.PLt, 0, number(3)), leaf(api.PGt, 0, number(4)))
	for _, op := range []int{api.PAnd, api.POr} {
		other := api.PAnd + api.POr - op
		checkNormal(t, columns("nn"), []normalCase{
			{of(op, one), of(op, one)},
			{of(op, not(one)), of(op, noOne)},
			{not(of(op, one)), of(other, noOne)},
			{not(of(op, not(one))), of(other, one)},
			{not(of(op, not(not(one)))), of(other, noOne)},
			{not(not(of(op, one))), of(op, one)},
			// All parts, in their order, one that stands there twice among them.
			{of(op, one, two, three, one), of(op, one, two, three, one)},
			{of(op, not(three), two, not(one)), of(op, noThree, two, noOne)},
			{not(of(op, three, one, not(two), one)), of(other, noThree, noOne, two, noOne)},
			{nested(of(op, yes, two, no), 3), of(other, no, noTwo, yes)},
			// Neither are lists of lists made one, nor lists of one part that part.
			{of(op, of(op, one), of(other, two)), of(op, of(op, one), of(other, two))},
			{not(of(op, of(op, one, not(three)), of(other, not(two)), not(of(op, no, one)))),
				of(other, of(other, noOne, three), of(op, two), of(op, no, one))},
			{of(op, one, not(of(other, two, not(of(op, three, not(of(op, one))))))),
				of(op, one, of(op, noTwo, of(op, three, of(other, noOne))))},
		})
	}
}

// spoiled is a predicate whose fields are all set; which of them it keeps hangs on its Op.
func spoiled(op int, l ...api.Pred) api.Pred {
	return api.Pred{Op: op, Col: 1, V: number(3), W: number(4), L: l}
}

func TestP41FieldsThatPlayNoPart(t *testing.T) {
	odd := api.Value{Text: true, N: 5, S: strings.Repeat("b", 99)}
	checkNormal(t, columns("nn"), []normalCase{
		{spoiled(api.PTrue), yes},
		{spoiled(api.PFalse), no},
		{spoiled(api.PNot, spoiled(api.PTrue)), no},
		{spoiled(api.PNot, spoiled(api.PFalse)), yes},
		{spoiled(api.PNot, spoiled(api.PNot, spoiled(api.PTrue))), yes},
		{spoiled(api.PAnd, spoiled(api.PTrue), spoiled(api.POr, yes)), of(api.PAnd, yes, of(api.POr, yes))},
		{spoiled(api.PNot, spoiled(api.PAnd, yes, spoiled(api.POr, spoiled(api.PTrue)))), of(api.POr, no, of(api.PAnd, no))},
		// Columns that there aren't, and values that may not be, are no fault in fields that an Op doesn't name.
		{api.Pred{Op: api.PTrue, Col: -7, V: odd, W: odd}, yes},
		{api.Pred{Op: api.POr, Col: 9, V: odd, W: odd, L: []api.Pred{{Op: api.PNot, Col: 9, V: odd, W: odd, L: []api.Pred{yes}}}}, of(api.POr, no)},
		// Where a PIn is made anew, it is by leaves that name V alone.
		{not(spoiled(api.PIn)), of(api.POr, leaf(api.PLt, 1, number(3)), leaf(api.PGt, 1, number(4)))},
		{spoiled(api.PIn), from(1, number(3), number(4))},
	})
	for i, op := range compares {
		p := api.Pred{Op: op, Col: 1, V: number(3), W: odd}
		other := leaf(against[i], 1, number(3))
		checkNormal(t, columns("nn"), []normalCase{
			{p, p},
			{not(p), other},
			{not(not(p)), p},
			{of(api.PAnd, p, not(p)), of(api.PAnd, p, other)},
			{not(of(api.PAnd, p, not(p))), of(api.POr, other, p)},
		})
	}
}

// wrong are predicates that may not be of a table with a column of numbers and one of texts.
func wrong() []api.Pred {
	l := []api.Pred{
		{},
		of(-1),
		of(api.POr+1, yes),
		of(math.MinInt, yes),
		of(math.MaxInt),
		of(api.PTrue, yes),
		of(api.PFalse, yes),
		of(api.PNot),
		of(api.PNot, yes, yes),
		of(api.PAnd),
		of(api.POr),
		leaf(api.PEq, -1, number(1)),
		leaf(api.PEq, 2, number(1)),
		leaf(api.PEq, math.MaxInt, number(1)),
		leaf(api.PLt, math.MinInt, number(1)),
		leaf(api.PGe, 0, text("a")),
		leaf(api.PGe, 1, number(1)),
		leaf(api.PNe, 0, api.Value{N: 1, S: "a"}),
		leaf(api.PNe, 1, api.Value{Text: true, N: 1}),
		leaf(api.PGt, 1, text("abcdefghijklm")),
		{Op: api.PLe, V: number(1), L: []api.Pred{yes}},
		{Op: api.PIn, V: number(1), W: number(2), L: []api.Pred{yes}},
		from(0, number(1), text("a")),
		from(0, text("a"), number(1)),
		from(1, text("a"), text("abcdefghijklm")),
		from(2, number(1), number(2)),
		of(api.PAnd, slices.Repeat([]api.Pred{yes}, 15)...),
		nested(yes, 15),
		of(api.POr, slices.Repeat([]api.Pred{not(yes)}, 8)...),
		nested(yes, 1<<16-1),
	}
	for _, p := range l[:len(l)-1] {
		l = append(l, not(p), of(api.PAnd, yes, p), not(of(api.POr, p, yes)))
	}
	return l
}

func TestP41PredicatesThatMayNotBe(t *testing.T) {
	for _, p := range wrong() {
		if got := Normal(columns("nt"), p); !alike(got, no) {
			t.Errorf("Normal is %+v", got)
		}
	}
	for _, table := range []api.Table{{}, {Cols: []bool{}}, columns("nnnnn"), columns(strings.Repeat("n", 1000))} {
		for _, p := range []api.Pred{yes, not(no), leaf(api.PEq, 0, number(1)), {}} {
			if got := Normal(table, p); !alike(got, no) {
				t.Errorf("Normal(%+v) is %+v of a table that may not be", p, got)
			}
		}
	}
}

// What it comes to may have more parts than a predicate may have.
func TestP41GreaterThanMayBe(t *testing.T) {
	in, apart := from(0, number(2), number(3)), of(api.POr, leaf(api.PLt, 0, number(2)), leaf(api.PGt, 0, number(3)))
	p, want := not(of(api.PAnd, slices.Repeat([]api.Pred{in}, 13)...)), of(api.POr, slices.Repeat([]api.Pred{apart}, 13)...)
	checkNormal(t, columns("n"), []normalCase{{p, want}})
	if size := pred.Size(Normal(columns("n"), p)); size != 40 {
		t.Errorf("it has %d parts", size)
	}
	if got := Keys(columns("n"), p); got != (api.Span{}) {
		t.Errorf("its keys are %+v", got)
	}
	if got := Keys(columns("n"), of(api.PAnd, p, leaf(api.PEq, 0, number(7)))); got != (api.Span{None: true}) {
		t.Errorf("with one part too many its keys are %+v", got)
	}
}

// behind is what stands in the room behind the lists of roomy predicates.
var behind = api.Pred{Op: api.PEq, Col: 1, V: text("behind")}

// roomy is a predicate all of whose lists have room behind their ends, in which something stands.
func roomy(p api.Pred) api.Pred {
	var l []api.Pred
	for _, part := range p.L {
		l = append(l, roomy(part))
	}
	p.L = append(l, behind, behind)[:len(l)]
	return p
}

// touched tells whether the room behind a roomy predicate's lists was written to.
func touched(p api.Pred) bool {
	for _, room := range p.L[len(p.L) : len(p.L)+2] {
		if !reflect.DeepEqual(room, behind) {
			return true
		}
	}
	return slices.ContainsFunc(p.L, touched)
}

// spoil changes all that a predicate reaches, behind its lists' ends too.
func spoil(p api.Pred) {
	for i := range p.L {
		spoil(p.L[i])
		p.L[i] = of(99, behind)
	}
	room := p.L[:cap(p.L)]
	for i := range room {
		room[i] = of(98, behind)
	}
}

func TestP41NewMemory(t *testing.T) {
	table := columns("nt")
	for _, p := range []api.Pred{
		yes,
		not(no),
		leaf(api.PEq, 0, number(1)),
		not(leaf(api.PEq, 0, number(1))),
		from(0, number(1), number(2)),
		not(from(0, number(1), number(2))),
		not(not(of(api.PAnd, yes, leaf(api.PLt, 1, text("a"))))),
		of(api.POr, leaf(api.PGt, 1, text("a")), of(api.PAnd, no, not(from(0, number(1), number(2))))),
	} {
		given := roomy(p)
		got := Normal(table, given)
		want := listed(got)
		Keys(table, given)
		if !alike(given, p) || touched(given) {
			t.Errorf("%+v was changed", p)
		}
		spoil(got)
		if !alike(given, p) || touched(given) {
			t.Errorf("%+v shares memory with what it comes to", p)
		}
		got = Normal(table, given)
		spoil(given)
		if !alike(got, want) {
			t.Errorf("what %+v comes to shares memory with it", p)
		}
	}
	// What one list stands for twice has memory of its own in each place.
	part := of(api.PAnd, not(from(0, number(1), number(2))), yes)
	for _, p := range []api.Pred{of(api.POr, part, part), not(of(api.PAnd, not(part), not(part)))} {
		got := Normal(table, p)
		want := listed(got.L[1])
		spoil(got.L[0])
		if !alike(got.L[1], want) {
			t.Errorf("two lists of %+v share memory", got)
		}
	}
}

func TestTableIsLeftAlone(t *testing.T) {
	cols := []bool{false, true, false, true}
	Normal(api.Table{Cols: cols[:2]}, not(leaf(api.PEq, 1, text("a"))))
	Keys(api.Table{Cols: cols[:2]}, not(leaf(api.PEq, 0, number(1))))
	if !slices.Equal(cols, []bool{false, true, false, true}) {
		t.Errorf("it was changed to %v", cols)
	}
}

// span is one told as it is written: [1 2], (1 2), [1 - (from 1 on), - 2) (below 2), - - (all values).
func span(lo string, low api.Value, high api.Value, hi string) api.Span {
	return api.Span{
		HasLo: lo != "-", OpenLo: lo == "(", Lo: low,
		HasHi: hi != "-", OpenHi: hi == ")", Hi: high,
	}
}

func numbers(lo string, low, high int64, hi string) api.Span {
	return span(lo, number(low), number(high), hi)
}

var (
	all     = api.Span{}
	nothing = api.Span{None: true}
)

func TestP42Within(t *testing.T) {
	for _, c := range []struct {
		s    api.Span
		in   []api.Value
		outs []api.Value
	}{
		{all, []api.Value{number(0), number(math.MinInt64), number(math.MaxInt64), text(""), text("\xff")}, nil},
		{nothing, nil, []api.Value{number(0), number(math.MinInt64), text("")}},
		{numbers("[", 1, 5, ")"), []api.Value{number(1), number(4)}, []api.Value{number(0), number(5), number(6), text("")}},
		{numbers("(", 1, 5, "]"), []api.Value{number(2), number(5)}, []api.Value{number(1), number(0), number(6), text("")}},
		{numbers("[", 1, 0, "-"), []api.Value{number(1), number(2), text("")}, []api.Value{number(0)}},
		{numbers("(", 1, 0, "-"), []api.Value{number(2), text("")}, []api.Value{number(1), number(0)}},
		{numbers("-", 0, 1, "]"), []api.Value{number(1), number(0), number(math.MinInt64)}, []api.Value{number(2), text("")}},
		{numbers("-", 0, 1, ")"), []api.Value{number(0), number(math.MinInt64)}, []api.Value{number(1), text("")}},
		{numbers("[", 3, 3, "]"), []api.Value{number(3)}, []api.Value{number(2), number(4)}},
		{span("(", text("a"), text("b"), ")"), []api.Value{text("aa"), text("a\x00")}, []api.Value{text("a"), text("b"), number(7), text("")}},
		{span("[", number(9), text("a"), "]"), []api.Value{number(9), number(10), text(""), text("a")}, []api.Value{number(8), text("aa")}},
		// Spans that aren't clean: None goes ahead of all, what Has.. doesn't ask for plays no part.
		{api.Span{None: true, HasLo: true, Lo: number(1), HasHi: true, Hi: number(5)}, nil, []api.Value{number(1), number(3)}},
		{api.Span{OpenLo: true, Lo: number(9), OpenHi: true, Hi: number(-9)}, []api.Value{number(0), number(9), number(-9), text("")}, nil},
		{numbers("[", 5, 4, "]"), nil, []api.Value{number(4), number(5)}},
		{numbers("[", 3, 3, ")"), nil, []api.Value{number(3)}},
		{numbers("(", 3, 3, "]"), nil, []api.Value{number(3)}},
		// What lies there hangs on no field that plays no part in a value.
		{numbers("[", 3, 3, "]"), []api.Value{{N: 3, S: "a"}}, []api.Value{{Text: true, N: 3}}},
		{span("[", api.Value{N: 3, S: "a"}, api.Value{Text: true, N: 7, S: "a"}, "]"), []api.Value{number(3), text("a")}, []api.Value{number(2), text("aa")}},
		{span("(", api.Value{N: 3, S: "a"}, api.Value{Text: true, N: 7, S: "a"}, ")"), []api.Value{number(4)}, []api.Value{number(3), text("a")}},
	} {
		for _, v := range c.in {
			if !Within(c.s, v) {
				t.Errorf("%+v doesn't lie in %+v", v, c.s)
			}
		}
		for _, v := range c.outs {
			if Within(c.s, v) {
				t.Errorf("%+v lies in %+v", v, c.s)
			}
		}
	}
}

type pairCase struct {
	a, b api.Span
	meet api.Span
	hull api.Span
}

func TestP42MeetAndHull(t *testing.T) {
	for _, c := range []pairCase{
		// The chapter's example.
		{numbers("[", 1, 2, "]"), numbers("[", 5, 0, "-"), nothing, numbers("[", 1, 0, "-")},
		{all, all, all, all},
		{all, nothing, nothing, all},
		{nothing, nothing, nothing, nothing},
		{numbers("(", 1, 5, "]"), nothing, nothing, numbers("(", 1, 5, "]")},
		{numbers("(", 1, 5, "]"), all, numbers("(", 1, 5, "]"), all},
		{numbers("[", 1, 5, "]"), numbers("[", 2, 7, "]"), numbers("[", 2, 5, "]"), numbers("[", 1, 7, "]")},
		{numbers("[", 1, 7, "]"), numbers("(", 2, 5, ")"), numbers("(", 2, 5, ")"), numbers("[", 1, 7, "]")},
		{numbers("(", 1, 7, ")"), numbers("[", 2, 5, "]"), numbers("[", 2, 5, "]"), numbers("(", 1, 7, ")")},
		{numbers("[", 1, 5, "]"), numbers("(", 1, 5, ")"), numbers("(", 1, 5, ")"), numbers("[", 1, 5, "]")},
		{numbers("(", 1, 5, "]"), numbers("[", 1, 5, ")"), numbers("(", 1, 5, ")"), numbers("[", 1, 5, "]")},
		{numbers("(", 1, 5, ")"), numbers("(", 1, 5, ")"), numbers("(", 1, 5, ")"), numbers("(", 1, 5, ")")},
		{numbers("[", 1, 5, "]"), numbers("[", 5, 9, "]"), numbers("[", 5, 5, "]"), numbers("[", 1, 9, "]")},
		{numbers("[", 1, 5, ")"), numbers("[", 5, 9, "]"), nothing, numbers("[", 1, 9, "]")},
		{numbers("[", 1, 5, "]"), numbers("(", 5, 9, "]"), nothing, numbers("[", 1, 9, "]")},
		{numbers("[", 1, 0, "-"), numbers("-", 0, 5, ")"), numbers("[", 1, 5, ")"), all},
		{numbers("[", 7, 0, "-"), numbers("-", 0, 5, ")"), nothing, all},
		{numbers("[", 1, 0, "-"), numbers("(", 5, 0, "-"), numbers("(", 5, 0, "-"), numbers("[", 1, 0, "-")},
		{numbers("-", 0, 1, "]"), numbers("-", 0, 5, ")"), numbers("-", 0, 1, "]"), numbers("-", 0, 5, ")")},
		{numbers("-", 0, 1, "]"), numbers("[", 0, 5, ")"), numbers("[", 0, 1, "]"), numbers("-", 0, 5, ")")},
		{numbers("[", 4, 0, "-"), span("[", text("a"), text("b"), "]"), span("[", text("a"), text("b"), "]"), numbers("[", 4, 0, "-")},
		{numbers("[", 4, 9, "]"), span("[", text("a"), text("b"), ")"), nothing, span("[", number(4), text("b"), ")")},
		// No number lies between, but the ends aren't at one place: it isn't None.
		{numbers("(", 1, 9, "]"), numbers("[", 0, 2, ")"), numbers("(", 1, 2, ")"), numbers("[", 0, 9, "]")},
		// Both are cleaned ahead.
		{numbers("[", 5, 4, "]"), numbers("[", 1, 5, ")"), nothing, numbers("[", 1, 5, ")")},
		{numbers("[", 5, 5, ")"), numbers("[", 1, 9, ")"), nothing, numbers("[", 1, 9, ")")},
		{numbers("(", 5, 5, "]"), numbers("-", 0, 9, ")"), nothing, numbers("-", 0, 9, ")")},
		{numbers("(", 5, 5, ")"), numbers("[", 7, 6, "]"), nothing, nothing},
		{api.Span{None: true, HasLo: true, Lo: number(1)}, numbers("[", 1, 5, ")"), nothing, numbers("[", 1, 5, ")")},
		{api.Span{OpenLo: true, Lo: number(3), HasHi: true, Hi: number(5)}, numbers("[", 1, 9, "]"), numbers("[", 1, 5, "]"), numbers("-", 0, 9, "]")},
		{api.Span{HasLo: true, Lo: number(3), OpenHi: true, Hi: number(5)}, numbers("[", 1, 9, "]"), numbers("[", 3, 9, "]"), numbers("[", 1, 0, "-")},
		{api.Span{OpenLo: true, OpenHi: true, Lo: number(3), Hi: text("a")}, all, all, all},
		{api.Span{OpenLo: true, OpenHi: true, Lo: number(3), Hi: text("a")}, nothing, nothing, all},
	} {
		for range 2 {
			if got := Meet(c.a, c.b); got != c.meet {
				t.Errorf("Meet(%+v, %+v) is %+v, not %+v", c.a, c.b, got, c.meet)
			}
			if got := Hull(c.a, c.b); got != c.hull {
				t.Errorf("Hull(%+v, %+v) is %+v, not %+v", c.a, c.b, got, c.hull)
			}
			c.a, c.b = c.b, c.a
		}
	}
}

// Where ends are the same by Compare, but not in all fields, they are a's.
func TestP42FieldsThatPlayNoPartInValues(t *testing.T) {
	one, other := api.Value{N: 1, S: "one"}, api.Value{N: 1, S: "other"}
	word, twin := api.Value{Text: true, N: 3, S: "w"}, api.Value{Text: true, N: 4, S: "w"}
	for _, c := range []pairCase{
		{span("[", one, word, "]"), span("[", other, twin, "]"), span("[", one, word, "]"), span("[", one, word, "]")},
		{span("[", other, twin, "]"), span("[", one, word, "]"), span("[", other, twin, "]"), span("[", other, twin, "]")},
		{span("[", one, word, ")"), span("(", other, twin, "]"), span("(", one, word, ")"), span("[", one, word, "]")},
		{span("[", one, one, "]"), span("[", other, other, "]"), span("[", one, one, "]"), span("[", one, one, "]")},
		{span("[", one, other, "]"), all, span("[", one, other, "]"), all},
		{span("[", one, other, ")"), all, nothing, all},
		{span("(", one, other, "]"), span("[", word, twin, "]"), nothing, span("[", word, twin, "]")},
		{span("[", word, twin, "]"), span("-", one, word, "]"), span("[", word, twin, "]"), span("-", api.Value{}, twin, "]")},
	} {
		if got := Meet(c.a, c.b); got != c.meet {
			t.Errorf("Meet(%+v, %+v) is %+v, not %+v", c.a, c.b, got, c.meet)
		}
		if got := Hull(c.a, c.b); got != c.hull {
			t.Errorf("Hull(%+v, %+v) is %+v, not %+v", c.a, c.b, got, c.hull)
		}
	}
}

// placed are values with their places in the order; two of them are at the same place.
var placed = []struct {
	v  api.Value
	at int
}{
	{number(-1), 0}, {number(3), 1}, {api.Value{N: 3, S: "z"}, 1}, {text(""), 2}, {text("a"), 3},
}

// everySpan is all spans of placed ends, clean ones and others.
func everySpan() []api.Span {
	var l []api.Span
	for bits := range 32 {
		for _, lo := range placed {
			for _, hi := range placed {
				l = append(l, api.Span{
					None:  bits&1 != 0,
					HasLo: bits&2 != 0, OpenLo: bits&4 != 0, Lo: lo.v,
					HasHi: bits&8 != 0, OpenHi: bits&16 != 0, Hi: hi.v,
				})
			}
		}
	}
	return l
}

func placeOf(v api.Value) int {
	for _, p := range placed {
		if p.v == v {
			return p.at
		}
	}
	return math.MinInt
}

// bounds are a span's ends as numbers on a line on which an open end lies by a half step further inside: four to a place.
func bounds(s api.Span) (lo, hi int) {
	lo, hi = -100, 100
	if s.HasLo {
		lo = 4 * placeOf(s.Lo)
		if s.OpenLo {
			lo++
		}
	}
	if s.HasHi {
		hi = 4 * placeOf(s.Hi)
		if s.OpenHi {
			hi--
		}
	}
	return lo, hi
}

// isNone tells by its bounds whether a span is, or is cleaned to, None.
func isNone(s api.Span) bool {
	lo, hi := bounds(s)
	return s.None || lo > hi
}

// isClean is told word for word as the chapter does.
func isClean(s api.Span) bool {
	if s.None {
		return s == nothing
	}
	if !s.HasLo && (s.OpenLo || s.Lo != api.Value{}) || !s.HasHi && (s.OpenHi || s.Hi != api.Value{}) {
		return false
	}
	lo, hi := bounds(s)
	return lo <= hi
}

// endsOfFirst tells whether each end that is at the same place as a's is a's in all fields.
func endsOfFirst(a, got api.Span) bool {
	if a.HasLo && got.HasLo && placeOf(a.Lo) == placeOf(got.Lo) && a.Lo != got.Lo {
		return false
	}
	return !a.HasHi || !got.HasHi || placeOf(a.Hi) != placeOf(got.Hi) || a.Hi == got.Hi
}

func TestP42EveryPairOfSpans(t *testing.T) {
	spans := everySpan()
	for _, a := range spans {
		loA, hiA := bounds(a)
		for _, b := range spans {
			loB, hiB := bounds(b)
			meet, hull := Meet(a, b), Hull(a, b)
			if !isClean(meet) || !isClean(hull) {
				t.Fatalf("of %+v and %+v Meet is %+v, Hull is %+v", a, b, meet, hull)
			}
			lo, hi := max(loA, loB), min(hiA, hiB)
			gotLo, gotHi := bounds(meet)
			if isNone(a) || isNone(b) || lo > hi {
				if !meet.None {
					t.Fatalf("Meet(%+v, %+v) is %+v", a, b, meet)
				}
			} else if meet.None || gotLo != lo || gotHi != hi || !endsOfFirst(a, meet) {
				t.Fatalf("Meet(%+v, %+v) is %+v", a, b, meet)
			}
			lo, hi = min(loA, loB), max(hiA, hiB)
			gotLo, gotHi = bounds(hull)
			switch {
			case isNone(a) && isNone(b):
				lo, hi = 1, 0
			case isNone(a):
				lo, hi = loB, hiB
			case isNone(b):
				lo, hi = loA, hiA
			}
			if lo > hi {
				if !hull.None {
					t.Fatalf("Hull(%+v, %+v) is %+v", a, b, hull)
				}
			} else if hull.None || gotLo != lo || gotHi != hi || !isNone(a) && !endsOfFirst(a, hull) {
				t.Fatalf("Hull(%+v, %+v) is %+v", a, b, hull)
			}
		}
	}
}

func TestP43Keys(t *testing.T) {
	in := from(0, number(5), number(7))
	for _, c := range []struct {
		p    api.Pred
		want api.Span
	}{
		// The chapter's examples.
		{of(api.PAnd, leaf(api.PGt, 0, number(3)), leaf(api.PLe, 0, number(7))), numbers("(", 3, 7, "]")},
		{from(0, number(5), number(4)), nothing},
		// Each Op, and its opposite.
		{yes, all},
		{no, nothing},
		{leaf(api.PEq, 0, number(5)), numbers("[", 5, 5, "]")},
		{leaf(api.PNe, 0, number(5)), all},
		{leaf(api.PLt, 0, number(5)), numbers("-", 0, 5, ")")},
		{leaf(api.PLe, 0, number(5)), numbers("-", 0, 5, "]")},
		{leaf(api.PGt, 0, number(5)), numbers("(", 5, 0, "-")},
		{leaf(api.PGe, 0, number(5)), numbers("[", 5, 0, "-")},
		{in, numbers("[", 5, 7, "]")},
		{from(0, number(5), number(5)), numbers("[", 5, 5, "]")},
		{not(yes), nothing},
		{not(no), all},
		{not(leaf(api.PEq, 0, number(5))), all},
		{not(leaf(api.PNe, 0, number(5))), numbers("[", 5, 5, "]")},
		{not(leaf(api.PLt, 0, number(5))), numbers("[", 5, 0, "-")},
		{not(leaf(api.PLe, 0, number(5))), numbers("(", 5, 0, "-")},
		{not(leaf(api.PGt, 0, number(5))), numbers("-", 0, 5, "]")},
		{not(leaf(api.PGe, 0, number(5))), numbers("-", 0, 5, ")")},
		{not(in), all},
		{not(not(in)), numbers("[", 5, 7, "]")},
		// At the ends of all numbers there is no other rule.
		{leaf(api.PLt, 0, number(math.MinInt64)), numbers("-", 0, math.MinInt64, ")")},
		{leaf(api.PGe, 0, number(math.MinInt64)), numbers("[", math.MinInt64, 0, "-")},
		{leaf(api.PGt, 0, number(math.MaxInt64)), numbers("(", math.MaxInt64, 0, "-")},
		// Of parts.
		{of(api.PAnd, in), numbers("[", 5, 7, "]")},
		{of(api.POr, in), numbers("[", 5, 7, "]")},
		{of(api.PAnd, in, yes), numbers("[", 5, 7, "]")},
		{of(api.POr, in, yes), all},
		{of(api.PAnd, no, in), nothing},
		{of(api.POr, no, in), numbers("[", 5, 7, "]")},
		{of(api.POr, no, not(yes)), nothing},
		{of(api.PAnd, in, leaf(api.PEq, 1, text("a"))), numbers("[", 5, 7, "]")},
		{of(api.POr, in, leaf(api.PEq, 1, text("a"))), all},
		{of(api.PAnd, leaf(api.PGe, 0, number(1)), leaf(api.PLt, 0, number(9)), leaf(api.PGt, 0, number(1))), numbers("(", 1, 9, ")")},
		{of(api.POr, leaf(api.PEq, 0, number(9)), leaf(api.PEq, 0, number(1)), leaf(api.PEq, 0, number(4))), numbers("[", 1, 9, "]")},
		{of(api.PAnd, leaf(api.PEq, 0, number(1)), leaf(api.PEq, 0, number(2))), nothing},
		{of(api.PAnd, leaf(api.PLt, 0, number(1)), leaf(api.PGt, 0, number(1)), yes), nothing},
		{of(api.POr, leaf(api.PLt, 0, number(1)), leaf(api.PGt, 0, number(1))), all},
		{not(of(api.POr, leaf(api.PLt, 0, number(1)), leaf(api.PGe, 0, number(4)))), numbers("[", 1, 4, ")")},
		{not(of(api.PAnd, leaf(api.PLt, 0, number(1)), leaf(api.PLe, 0, number(4)))), numbers("[", 1, 0, "-")},
		{of(api.POr, of(api.PAnd, leaf(api.PGt, 0, number(3)), leaf(api.PLt, 0, number(3))), in), numbers("[", 5, 7, "]")},
		{of(api.PAnd, of(api.POr, leaf(api.PEq, 0, number(1)), leaf(api.PEq, 0, number(6))), in), numbers("[", 5, 6, "]")},
		// Fields that play no part.
		{api.Pred{Op: api.PTrue, Col: 1, V: text("a")}, all},
		{api.Pred{Op: api.PFalse, Col: 1}, nothing},
		{api.Pred{Op: api.PEq, V: number(5), W: text("a")}, numbers("[", 5, 5, "]")},
		{api.Pred{Op: api.PNot, Col: 1, L: []api.Pred{in}}, all},
		{api.Pred{Op: api.PAnd, Col: 1, V: text("a"), L: []api.Pred{in}}, numbers("[", 5, 7, "]")},
	} {
		if got := Keys(columns("nt"), c.p); got != c.want {
			t.Errorf("Keys(%+v) is %+v, not %+v", c.p, got, c.want)
		}
	}
}

func TestP43KeysThatAreTexts(t *testing.T) {
	table := columns("tn")
	for _, c := range []struct {
		p    api.Pred
		want api.Span
	}{
		{leaf(api.PEq, 0, text("")), span("[", text(""), text(""), "]")},
		{leaf(api.PLt, 0, text("")), span("-", api.Value{}, text(""), ")")},
		{from(0, text("a"), text("b")), span("[", text("a"), text("b"), "]")},
		{from(0, text("b"), text("a")), nothing},
		{not(of(api.POr, leaf(api.PLe, 0, text("a")), leaf(api.PEq, 1, number(1)))), span("(", text("a"), api.Value{}, "-")},
	} {
		if got := Keys(table, c.p); got != c.want {
			t.Errorf("Keys(%+v) is %+v, not %+v", c.p, got, c.want)
		}
	}
}

func TestP43OtherColumns(t *testing.T) {
	for col := 1; col < 4; col++ {
		for _, op := range compares {
			for _, p := range []api.Pred{leaf(op, col, number(5)), not(leaf(op, col, number(5)))} {
				if got := Keys(columns("nnnn"), p); got != all {
					t.Errorf("Keys(%+v) is %+v", p, got)
				}
			}
		}
		for _, p := range []api.Pred{from(col, number(1), number(2)), from(col, number(2), number(1)), not(from(col, number(2), number(1)))} {
			if got := Keys(columns("nnnn"), p); got != all {
				t.Errorf("Keys(%+v) is %+v", p, got)
			}
		}
	}
}

func TestP43PredicatesThatMayNotBe(t *testing.T) {
	for _, p := range wrong() {
		if got := Keys(columns("nt"), p); got != nothing {
			t.Errorf("Keys is %+v", got)
		}
	}
	for _, table := range []api.Table{{}, {Cols: []bool{}}, columns("nnnnn")} {
		if got := Keys(table, leaf(api.PEq, 0, number(1))); got != nothing {
			t.Errorf("Keys is %+v of a table that may not be", got)
		}
	}
}

// made are predicates of a column of numbers and one of texts, by a rule: all kinds of parts, and now and then more of them than may be.
func made(seed uint32) api.Pred {
	draw := func(n int) int {
		seed = seed*1664525 + 1013904223
		return int(seed>>8) % n
	}
	drawn := func(col int) api.Value {
		if col == 0 {
			return number(int64(draw(7)))
		}
		return []api.Value{text(""), text("a"), text("ab"), text("b")}[draw(4)]
	}
	var next func(depth int) api.Pred
	next = func(depth int) api.Pred {
		if depth <= 0 || draw(4) == 0 {
			col := draw(5) / 4
			return api.Pred{Op: 1 + draw(9), Col: col, V: drawn(col), W: drawn(col)}
		}
		p := of([]int{api.PNot, api.PNot, api.PAnd, api.POr}[draw(4)], next(depth-1))
		if p.Op != api.PNot {
			for range draw(3) {
				p.L = append(p.L, next(depth-1))
			}
		}
		return p
	}
	return next(5)
}

func hasNot(p api.Pred) bool {
	return p.Op == api.PNot || slices.ContainsFunc(p.L, hasNot)
}

func TestP44SaysTheSame(t *testing.T) {
	table := columns("nt")
	held, others, narrow, refused := 0, 0, 0, 0
	for seed := range uint32(20000) {
		p := made(seed)
		plain, keys := Normal(table, p), Keys(table, p)
		if hasNot(plain) {
			t.Fatalf("Normal(%+v) is %+v", p, plain)
		}
		if pred.Check(table, p) != api.OK {
			refused++
			continue
		}
		if keys != all && keys != nothing {
			narrow++
		}
		for key := range int64(9) {
			for _, s := range []string{"", "a", "aa", "ab", "abc", "b", "c"} {
				r := api.Row{number(key - 1), text(s)}
				holds := pred.Holds(p, r)
				if pred.Holds(plain, r) != holds {
					t.Fatalf("Normal(%+v) is %+v, which says otherwise of %v", p, plain, r)
				}
				if !holds {
					others++
					continue
				}
				held++
				if !Within(keys, r[0]) {
					t.Fatalf("%+v holds of %v, but its keys are %+v", p, r, keys)
				}
			}
		}
	}
	if held < 100000 || others < 100000 || narrow < 2000 || refused < 100 || refused > 15000 {
		t.Errorf("%d held, %d didn't, %d were narrow, %d refused: what was made can't tell", held, others, narrow, refused)
	}
}

func TestP44WhatLiesThere(t *testing.T) {
	probes := []api.Value{number(-2), number(-1), number(0), number(3), number(4), text(""), text("\x00"), text("a"), text("b")}
	spans := everySpan()
	for i, a := range spans {
		// Every seventh one of the others is beside each one, and each of them in its turn.
		for k := i % 7; k < len(spans); k += 7 {
			b := spans[k]
			meet, hull := Meet(a, b), Hull(a, b)
			for _, v := range probes {
				inA, inB := Within(a, v), Within(b, v)
				if Within(meet, v) != (inA && inB) {
					t.Fatalf("%+v: in %+v %v, in %+v %v, but Meet is %+v", v, a, inA, b, inB, meet)
				}
				if (inA || inB) && !Within(hull, v) {
					t.Fatalf("%+v: in %+v %v, in %+v %v, but Hull is %+v", v, a, inA, b, inB, hull)
				}
			}
		}
	}
}
