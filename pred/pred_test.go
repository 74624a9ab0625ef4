package pred

import (
	"math"
	"reflect"
	"slices"
	"strings"
	"testing"

	"ratline/api"
)

// The signatures are the chapter's: whoever changes one doesn't build.
var (
	_ func(api.Table, api.Pred) api.Errno = Check
	_ func(api.Pred, api.Row) bool        = Holds
	_ func(api.Pred) int                  = Size
	_ func(...api.Pred) api.Pred          = And
	_ func(api.Value) api.Pred            = Above
	_ func(api.Pred) api.Pred             = Clone
	_ func(a, b api.Pred) bool            = Same
)

func number(n int64) api.Value { return api.Value{N: n} }

func text(s string) api.Value { return api.Value{Text: true, S: s} }

// columns are a table's, told by letters: n is a column of numbers, t one of texts.
func columns(kinds string) api.Table {
	var t api.Table
	for _, k := range kinds {
		t.Cols = append(t.Cols, k == 't')
	}
	return t
}

var (
	yes = api.Pred{Op: api.PTrue}
	no  = api.Pred{Op: api.PFalse}
)

func of(op int, l ...api.Pred) api.Pred { return api.Pred{Op: op, L: l} }

func not(p api.Pred) api.Pred { return of(api.PNot, p) }

func leaf(op, col int, v api.Value) api.Pred { return api.Pred{Op: op, Col: col, V: v} }

func from(col int, v, w api.Value) api.Pred {
	return api.Pred{Op: api.PIn, Col: col, V: v, W: w}
}

var compares = []int{api.PEq, api.PNe, api.PLt, api.PLe, api.PGt, api.PGe}

var noOps = []int{math.MinInt, -1, 0, api.POr + 1, api.POr + 2, math.MaxInt}

var noWhere = []int{math.MinInt, -1, api.MaxCols, api.MaxCols + 1, math.MaxInt}

var wrongValues = []api.Value{
	text(strings.Repeat("a", api.MaxText+1)),
	{Text: true, N: 1},
	{Text: true, N: -1, S: "a"},
	{S: "a"},
	{N: 5, S: "5"},
}

func wrongTables() []api.Table {
	return []api.Table{{}, {Cols: []bool{}}, columns("nnnnn"), columns("ttttt"), columns(strings.Repeat("nt", 500))}
}

// nested is a predicate with so many PNot about it.
func nested(p api.Pred, times int) api.Pred {
	for range times {
		p = not(p)
	}
	return p
}

// doubled is a predicate of 2^(times+1) - 1 parts, in little memory.
func doubled(op int, p api.Pred, times int) api.Pred {
	for range times {
		p = of(op, p, p)
	}
	return p
}

// shapes are predicates of n parts of which all may be.
func shapes(n int) map[string]api.Pred {
	wide := of(api.POr)
	for len(wide.L) < max(n-1, 1) {
		wide.L = append(wide.L, yes)
	}
	if n == 1 {
		wide = no
	}
	left, right := yes, yes
	for k := 1; k < n; k += 2 {
		if k+1 == n {
			left, right = not(left), of(api.PAnd, right)
			break
		}
		left, right = of(api.POr, left, no), of(api.PAnd, no, right)
	}
	return map[string]api.Pred{
		"one in another one": nested(yes, n-1),
		"side by side":       wide,
		"deep to the left":   left,
		"deep to the right":  right,
	}
}

func TestP31PredicatesThatMayBe(t *testing.T) {
	for _, p := range []api.Pred{
		yes,
		no,
		leaf(api.PEq, 0, number(5)),
		leaf(api.PNe, 0, number(math.MinInt64)),
		leaf(api.PLt, 1, text("")),
		leaf(api.PLe, 1, text("abcdefghijkl")),
		leaf(api.PGt, 2, number(math.MaxInt64)),
		leaf(api.PGe, 2, number(0)),
		from(0, number(3), number(5)),
		from(0, number(5), number(3)),
		from(1, text("b"), text("a")),
		not(yes),
		of(api.PAnd, yes),
		of(api.POr, no),
		of(api.PAnd, yes, no, leaf(api.PEq, 0, number(1))),
		of(api.POr, not(of(api.PAnd, yes, from(2, number(1), number(2)))), leaf(api.PGe, 1, text("a"))),
		{Op: api.PTrue, L: []api.Pred{}},
	} {
		if e := Check(columns("ntn"), p); e != api.OK {
			t.Errorf("Check(%+v) is %v", p, e)
		}
	}
}

func TestP31HowManyInL(t *testing.T) {
	for op := range api.POr + 3 {
		for n := range 4 {
			p := of(op)
			for range n {
				p.L = append(p.L, yes)
			}
			may := op >= api.PTrue && op < api.PNot && n == 0 || op == api.PNot && n == 1 || (op == api.PAnd || op == api.POr) && n > 0
			if e := Check(columns("n"), p); (e == api.OK) != may || (e == api.ErrPred) == may {
				t.Errorf("Op %d with %d in L is %v", op, n, e)
			}
		}
	}
	for _, op := range noOps {
		if e := Check(columns("n"), of(op)); e != api.ErrPred {
			t.Errorf("Op %d is %v", op, e)
		}
	}
}

func TestP31ColumnsAndValues(t *testing.T) {
	right := map[byte][]api.Value{
		'n': {number(0), number(-5), number(math.MaxInt64), number(math.MinInt64)},
		't': {text(""), text("a"), text("abcdefghijkl"), text("\x00\xff")},
	}
	for _, kinds := range []string{"n", "t", "nt", "tn", "nnt", "ttn", "ntnt", "tntn"} {
		table := columns(kinds)
		for col := range len(kinds) {
			other := byte('n' + 't' - int(kinds[col]))
			for _, op := range append(compares, api.PIn) {
				for _, v := range right[kinds[col]] {
					if e := Check(table, api.Pred{Op: op, Col: col, V: v, W: v}); e != api.OK {
						t.Errorf("Op %d of %d of %s and %v is %v", op, col, kinds, v, e)
					}
				}
				for _, v := range append(right[other], wrongValues...) {
					if e := Check(table, api.Pred{Op: op, Col: col, V: v, W: right[kinds[col]][0]}); e != api.ErrPred {
						t.Errorf("Op %d of %d of %s and %v is %v", op, col, kinds, v, e)
					}
				}
			}
			for _, w := range append(right[other], wrongValues...) {
				if e := Check(table, from(col, right[kinds[col]][0], w)); e != api.ErrPred {
					t.Errorf("PIn of %d of %s up to %v is %v", col, kinds, w, e)
				}
			}
		}
		for _, far := range append(noWhere, len(kinds)) {
			for _, op := range append(compares, api.PIn) {
				for _, v := range []api.Value{number(0), text("")} {
					if e := Check(table, api.Pred{Op: op, Col: far, V: v, W: v}); e != api.ErrPred {
						t.Errorf("Op %d of %d of %s is %v", op, far, kinds, e)
					}
				}
			}
		}
	}
}

func TestP31FieldsThatPlayNoPart(t *testing.T) {
	table := columns("nt")
	for _, far := range noWhere {
		for _, wrong := range append(wrongValues, text("a"), number(1)) {
			for _, p := range []api.Pred{
				{Op: api.PTrue, Col: far, V: wrong, W: wrong},
				{Op: api.PFalse, Col: far, V: wrong, W: wrong},
				{Op: api.PEq, V: number(1), W: wrong},
				{Op: api.PNe, V: number(1), W: wrong},
				{Op: api.PLt, V: number(1), W: wrong},
				{Op: api.PLe, V: number(1), W: wrong},
				{Op: api.PGt, V: number(1), W: wrong},
				{Op: api.PGe, Col: 1, V: text("a"), W: wrong},
				{Op: api.PNot, Col: far, V: wrong, W: wrong, L: []api.Pred{yes}},
				{Op: api.PAnd, Col: far, V: wrong, W: wrong, L: []api.Pred{yes}},
				{Op: api.POr, Col: far, V: wrong, W: wrong, L: []api.Pred{yes, no}},
			} {
				if e := Check(table, p); e != api.OK {
					t.Errorf("Check(%+v) is %v", p, e)
				}
			}
		}
	}
}

// One part that may not be is found wherever it stands.
func TestP31OneWrongPartAmongOthers(t *testing.T) {
	for _, wrong := range []api.Pred{
		{},
		of(api.PNot),
		of(api.PAnd),
		of(api.POr),
		of(api.PNot, yes, yes),
		of(api.PTrue, yes),
		of(api.PFalse, yes),
		of(13),
		leaf(api.PEq, 1, number(1)),
		leaf(api.PEq, 2, number(1)),
		leaf(api.PGe, 0, text("a")),
		from(0, number(1), text("a")),
		{Op: api.PEq, L: []api.Pred{yes}},
		{Op: api.PIn, L: []api.Pred{no}},
	} {
		for _, p := range []api.Pred{
			wrong,
			not(wrong),
			of(api.PAnd, wrong, yes, yes),
			of(api.PAnd, no, wrong, yes),
			of(api.POr, yes, yes, wrong),
			of(api.POr, of(api.PAnd, yes, not(yes)), not(not(of(api.POr, no, wrong)))),
			nested(wrong, api.MaxNodes-3),
		} {
			if e := Check(columns("nt"), p); e != api.ErrPred {
				t.Errorf("Check(%+v) is %v", p, e)
			}
		}
	}
}

func TestP31MostParts(t *testing.T) {
	for n := 1; n <= 2*api.MaxNodes; n++ {
		want := api.OK
		if n > api.MaxNodes {
			want = api.ErrPred
		}
		for name, p := range shapes(n) {
			if e := Check(columns("t"), p); e != want {
				t.Errorf("Check of %d parts %s is %v", n, name, e)
			}
			if got := Size(p); got != n {
				t.Errorf("Size of %d parts %s is %d", n, name, got)
			}
		}
	}
	for name, p := range map[string]api.Pred{
		"deep": nested(yes, 1<<16-1),
		"wide": of(api.POr, slices.Repeat([]api.Pred{yes}, 1<<16)...),
		// It would never be gone through whole.
		"doubled": doubled(api.PAnd, yes, 200),
	} {
		if e := Check(columns("t"), p); e != api.ErrPred {
			t.Errorf("Check of a %s one is %v", name, e)
		}
	}
}

func TestP31WrongTables(t *testing.T) {
	for _, table := range wrongTables() {
		for _, p := range []api.Pred{yes, no, {}, of(api.PNot), leaf(api.PEq, 0, number(1)), nested(yes, 20)} {
			if e := Check(table, p); e != api.ErrArg {
				t.Errorf("Check(%v, %+v) is %v", table, p, e)
			}
		}
	}
}

func TestP31Size(t *testing.T) {
	for _, c := range []struct {
		p    api.Pred
		want int
	}{
		{yes, 1},
		{no, 1},
		{api.Pred{}, 1},
		{of(13), 1},
		{of(api.PNot), 1},
		{of(api.PAnd), 1},
		{leaf(api.PEq, 7, number(1)), 1},
		{of(api.PTrue, yes, no), 3},
		{of(api.PIn, of(-1, yes), no), 4},
		{of(api.PNot, yes, no, yes), 4},
		{not(yes), 2},
		{of(api.POr, yes, yes, yes), 4},
		{of(api.PAnd, of(api.POr, yes, no), not(not(yes)), no), 8},
		{of(api.PAnd, of(api.PAnd, of(api.PAnd))), 3},
		{nested(yes, 1<<16-1), 1 << 16},
		{of(api.POr, slices.Repeat([]api.Pred{not(no)}, 1<<16)...), 1<<17 + 1},
		{doubled(api.PAnd, yes, 16), 1<<17 - 1},
	} {
		if got := Size(c.p); got != c.want {
			t.Errorf("Size is %d, not %d", got, c.want)
		}
	}
}

// rising are values, each above the one ahead of it.
var rising = []api.Value{
	number(math.MinInt64), number(-5), number(-1), number(0), number(3), number(4), number(5), number(math.MaxInt64),
	text(""), text("\x00"), text("3"), text("a"), text("ab"), text("b"), text("\xff"),
}

func TestP32Compares(t *testing.T) {
	for at, v := range rising {
		r := api.Row{number(7), v}
		for k, with := range rising {
			want := map[int]bool{
				api.PEq: at == k,
				api.PNe: at != k,
				api.PLt: at < k,
				api.PLe: at <= k,
				api.PGt: at > k,
				api.PGe: at >= k,
			}
			for _, op := range compares {
				p := leaf(op, 1, with)
				if got := Holds(p, r); got != want[op] {
					t.Errorf("Op %d of %v and %v is %v", op, v, with, got)
				}
				p.W, p.L = number(99), []api.Pred{no, yes}
				if got := Holds(p, r); got != want[op] {
					t.Errorf("Op %d of %v and %v hangs on W or L", op, v, with)
				}
			}
			for last, up := range rising {
				if got := Holds(from(1, with, up), r); got != (k <= at && at <= last) {
					t.Errorf("PIn of %v, %v to %v, is %v", v, with, up, got)
				}
			}
		}
	}
}

// Of a text N plays no part, of a number S.
func TestP32ComparesValuesThatMayNotBe(t *testing.T) {
	long := strings.Repeat("a", api.MaxText)
	r := api.Row{{N: 5, S: "x"}, {Text: true, N: 5, S: "a"}, text(long + "b")}
	for _, p := range []api.Pred{
		leaf(api.PEq, 0, number(5)),
		leaf(api.PEq, 0, api.Value{N: 5, S: "a"}),
		leaf(api.PLe, 0, api.Value{N: 5, S: "a"}),
		leaf(api.PGe, 0, api.Value{N: 5, S: "z"}),
		from(0, api.Value{N: 5, S: "z"}, api.Value{N: 5, S: "a"}),
		leaf(api.PEq, 1, api.Value{Text: true, N: 6, S: "a"}),
		leaf(api.PGt, 2, text(long+"a")),
		leaf(api.PLt, 2, text(long+"c")),
	} {
		if !Holds(p, r) {
			t.Errorf("%+v doesn't hold", p)
		}
	}
	if Holds(leaf(api.PNe, 1, api.Value{Text: true, N: 6, S: "a"}), r) {
		t.Error("N plays a part in a text")
	}
}

func TestP32NoSuchColumn(t *testing.T) {
	for _, r := range []api.Row{nil, {}, {number(0)}, {number(0), number(0)}, make(api.Row, 4)} {
		// What stands behind a row's end is none of its columns.
		room := append(append(api.Row{}, r...), make(api.Row, 8)...)
		for _, far := range append(noWhere, len(r)) {
			for _, op := range append(compares, api.PIn) {
				for _, v := range []api.Value{number(-1), number(0), number(1)} {
					p := api.Pred{Op: op, Col: far, V: v, W: number(1)}
					if Holds(p, r) || Holds(p, room[:len(r)]) {
						t.Errorf("%+v holds of %v", p, r)
					}
					if !Holds(not(p), r) {
						t.Errorf("PNot of %+v doesn't hold of %v", p, r)
					}
				}
			}
		}
	}
}

func TestP32Examples(t *testing.T) {
	r := api.Row{number(1), number(5)}
	for _, c := range []struct {
		p    api.Pred
		want bool
	}{
		{from(1, number(3), number(5)), true},
		{not(leaf(api.PEq, 7, number(1))), true},
		{of(api.PNot), true},
	} {
		if got := Holds(c.p, r); got != c.want {
			t.Errorf("Holds(%+v) is %v", c.p, got)
		}
	}
	if e := Check(columns("nn"), of(api.PNot)); e != api.ErrPred {
		t.Errorf("PNot without any is %v", e)
	}
}

func TestP32OfParts(t *testing.T) {
	one := leaf(api.PEq, 0, number(1))
	two := leaf(api.PEq, 0, number(2))
	for _, c := range []struct {
		p    api.Pred
		want bool
	}{
		{yes, true},
		{of(api.PTrue, no), true},
		{no, false},
		{of(api.PFalse, yes), false},
		{not(one), false},
		{not(two), true},
		{of(api.PNot, one, two), false},
		{of(api.PNot, two, one), true},
		{of(api.PAnd), true},
		{of(api.PAnd, one), true},
		{of(api.PAnd, two), false},
		{of(api.PAnd, one, yes, one), true},
		{of(api.PAnd, two, yes, one), false},
		{of(api.PAnd, one, yes, two), false},
		{of(api.PAnd, yes, no, yes), false},
		{of(api.POr), false},
		{of(api.POr, one), true},
		{of(api.POr, two), false},
		{of(api.POr, two, no, two), false},
		{of(api.POr, one, no, two), true},
		{of(api.POr, two, no, one), true},
		{of(api.POr, no, yes, no), true},
		{of(api.PAnd, of(api.POr, two, one), not(of(api.PAnd, one, two))), true},
		{of(api.POr, of(api.PAnd, two, one), not(of(api.POr, two, one))), false},
		{not(of(api.PAnd)), false},
		{not(of(api.POr)), true},
	} {
		if got := Holds(c.p, api.Row{number(1)}); got != c.want {
			t.Errorf("Holds(%+v) is %v", c.p, got)
		}
	}
	for _, r := range []api.Row{nil, {}, {number(1)}, {text("a"), number(0)}} {
		if !Holds(yes, r) || Holds(no, r) || !Holds(of(api.PAnd, yes), r) || Holds(of(api.POr, no), r) {
			t.Errorf("what hangs on no column hangs on %v", r)
		}
	}
	for _, op := range noOps {
		if Holds(api.Pred{Op: op, L: []api.Pred{yes}}, make(api.Row, 3)) {
			t.Errorf("Op %d holds", op)
		}
	}
}

func TestP32GreatPredicates(t *testing.T) {
	r := api.Row{number(1)}
	if !Holds(nested(yes, 1<<16-2), r) || Holds(nested(yes, 1<<16-1), r) {
		t.Error("PNot of PNot and so on is wrong")
	}
	for _, op := range []int{api.PAnd, api.POr} {
		deep := leaf(api.PEq, 0, number(1))
		for range 1<<16 - 1 {
			deep = of(op, deep)
		}
		if !Holds(deep, r) || Holds(deep, api.Row{number(2)}) {
			t.Errorf("Op %d, one in another one, is wrong", op)
		}
	}
	many := slices.Repeat([]api.Pred{yes}, 1<<16)
	if !Holds(of(api.PAnd, many...), r) {
		t.Error("PAnd of many doesn't hold")
	}
	many[len(many)-1] = no
	if Holds(of(api.PAnd, many...), r) {
		t.Error("PAnd doesn't ask its last one")
	}
}

// behind is what stands in the room behind the lists of roomy predicates.
var behind = api.Pred{Op: api.PEq, Col: 3, V: text("behind")}

// roomy is a predicate all of whose lists have room behind their ends, in which something stands.
func roomy(p api.Pred) api.Pred {
	var l []api.Pred
	for _, part := range p.L {
		l = append(l, roomy(part))
	}
	p.L = append(l, behind, behind)[:len(l)]
	return p
}

// touched tells whether the room behind a roomy predicate's lists was written to.
func touched(p api.Pred) bool {
	for _, room := range p.L[len(p.L) : len(p.L)+2] {
		if !reflect.DeepEqual(room, behind) {
			return true
		}
	}
	return slices.ContainsFunc(p.L, touched)
}

// listed is a predicate in which no list and an empty list are one.
func listed(p api.Pred) api.Pred {
	var l []api.Pred
	for _, part := range p.L {
		l = append(l, listed(part))
	}
	p.L = l
	return p
}

func alike(a, b api.Pred) bool { return reflect.DeepEqual(listed(a), listed(b)) }

// spoil changes all that a predicate reaches, behind its lists' ends too.
func spoil(p api.Pred) {
	for i := range p.L {
		spoil(p.L[i])
		p.L[i] = of(99, behind)
	}
	room := p.L[:cap(p.L)]
	for i := range room {
		room[i] = of(98, behind)
	}
}

var some = []api.Pred{
	{},
	yes,
	{Op: api.PFalse, Col: 7, V: text("a"), W: number(5)},
	{Op: api.PEq, Col: 1, V: number(1), W: text("w"), L: []api.Pred{no}},
	{Op: api.PIn, Col: -1, V: api.Value{N: 1, S: "a"}, W: api.Value{Text: true, N: 1}},
	of(api.PNot),
	of(13, yes, of(-1, no)),
	not(leaf(api.PLt, 2, text("a"))),
	{Op: api.PAnd, Col: 1, V: number(2), W: number(3), L: []api.Pred{yes, from(1, number(3), number(5)), not(no)}},
	of(api.POr, of(api.PAnd, yes, not(leaf(api.PGe, 1, number(4)))), of(api.PAnd, no), leaf(api.PEq, 0, number(1))),
	nested(of(api.POr, yes, no, yes, no, yes), 5),
}

func TestP33And(t *testing.T) {
	for n := range len(some) + 1 {
		var given []api.Pred
		for _, p := range some[:n] {
			given = append(given, roomy(p))
		}
		given = append(given, behind)[:n]
		got := And(given...)
		if got.Op != api.PAnd || len(got.L) != n || got.Col != 0 || got.V != number(0) || got.W != number(0) {
			t.Fatalf("And of %d is %+v", n, got)
		}
		for i := range n {
			if !alike(got.L[i], some[i]) {
				t.Errorf("And of %d has %+v at %d", n, got.L[i], i)
			}
		}
		spoil(got)
		if !reflect.DeepEqual(given[:n+1][n], behind) {
			t.Error("And shares the room behind what it was given")
		}
		for i, p := range given {
			if !alike(p, some[i]) || touched(p) {
				t.Errorf("And shares memory with %+v", some[i])
			}
		}
	}
	if got := And(); !alike(got, of(api.PAnd)) {
		t.Errorf("And of none is %+v", got)
	}
}

func TestP33AndHolds(t *testing.T) {
	for at := range rising {
		for k := range rising {
			p := And(Above(rising[k]), not(Above(rising[len(rising)-1])))
			if got := Holds(p, api.Row{rising[at]}); got != (at > k) {
				t.Errorf("above %v: of %v it is %v", rising[k], rising[at], got)
			}
		}
	}
}

func TestP33Above(t *testing.T) {
	for _, v := range append(wrongValues, rising...) {
		if got := Above(v); !alike(got, api.Pred{Op: api.PGt, V: v}) {
			t.Errorf("Above(%v) is %+v", v, got)
		}
	}
}

func TestP33Clone(t *testing.T) {
	for _, p := range some {
		given := roomy(p)
		got := Clone(given)
		if !alike(got, p) {
			t.Errorf("Clone(%+v) is %+v", p, got)
		}
		spoil(got)
		if !alike(given, p) || touched(given) {
			t.Errorf("%+v shares memory with its clone", p)
		}
	}
}

// What one list stands for twice has memory of its own in each place.
func TestP33NoTwoListsShare(t *testing.T) {
	part := of(api.POr, not(yes), no)
	for name, got := range map[string]api.Pred{
		"Clone": Clone(of(api.PAnd, part, part)),
		"And":   And(part, part),
	} {
		spoil(got.L[0])
		if !alike(got.L[1], part) {
			t.Errorf("two lists of %s share memory", name)
		}
	}
}

func TestP33GreatClone(t *testing.T) {
	deep := nested(yes, 1<<16-1)
	got := Clone(deep)
	if Size(got) != 1<<16 || !Same(got, deep) || Same(got, not(deep)) || Same(got, nested(no, 1<<16-1)) {
		t.Error("a deep clone is another one")
	}
}

// differing are predicates no two of which are the same.
func differing() []api.Pred {
	base := api.Pred{Op: api.PAnd, Col: 1, V: number(2), W: text("a"), L: []api.Pred{yes, not(no)}}
	l := append([]api.Pred{base}, some...)
	for _, change := range []func(p *api.Pred){
		func(p *api.Pred) { p.Op = api.POr },
		func(p *api.Pred) { p.Col = 2 },
		func(p *api.Pred) { p.V = number(3) },
		func(p *api.Pred) { p.V = text("") },
		func(p *api.Pred) { p.V = api.Value{N: 2, S: "a"} },
		func(p *api.Pred) { p.V = api.Value{Text: true, N: 2} },
		func(p *api.Pred) { p.W = text("b") },
		func(p *api.Pred) { p.W = api.Value{Text: true, N: 1, S: "a"} },
		func(p *api.Pred) { p.W = api.Value{S: "a"} },
		func(p *api.Pred) { p.L = nil },
		func(p *api.Pred) { p.L = []api.Pred{yes} },
		func(p *api.Pred) { p.L = []api.Pred{yes, no} },
		func(p *api.Pred) { p.L = []api.Pred{no, not(no)} },
		func(p *api.Pred) { p.L = []api.Pred{not(no), yes} },
		func(p *api.Pred) { p.L = []api.Pred{yes, not(yes)} },
		func(p *api.Pred) { p.L = []api.Pred{yes, of(api.PNot)} },
		func(p *api.Pred) { p.L = []api.Pred{yes, of(api.PNot, no, no)} },
		func(p *api.Pred) { p.L = []api.Pred{yes, not(api.Pred{Op: api.PFalse, W: number(1)})} },
		func(p *api.Pred) { p.L = []api.Pred{yes, not(no), yes} },
		func(p *api.Pred) { p.L = []api.Pred{yes, not(no), {}} },
	} {
		p := base
		change(&p)
		l = append(l, p)
	}
	return l
}

func TestP33Same(t *testing.T) {
	for i, a := range differing() {
		for k, b := range differing() {
			if got := Same(a, roomy(b)); got != (i == k) {
				t.Errorf("Same(%+v, %+v) is %v", a, b, got)
			}
			// Of parts it is told likewise.
			if got := Same(of(api.POr, no, not(a)), of(api.POr, no, not(b))); got != (i == k) {
				t.Errorf("Same of %+v and %+v as parts is %v", a, b, got)
			}
		}
	}
	if !Same(api.Pred{L: nil}, api.Pred{L: []api.Pred{}}) || !Same(api.Pred{L: []api.Pred{}}, api.Pred{}) {
		t.Error("no list and an empty list aren't the same")
	}
}

// made are predicates by a rule: all kinds of parts, ones that may not be among them.
func made(seed uint32) api.Pred {
	var next func(depth int) api.Pred
	draw := func(n int) int {
		seed = seed*1664525 + 1013904223
		return int(seed>>8) % n
	}
	next = func(depth int) api.Pred {
		p := api.Pred{Op: draw(14), Col: draw(4) - 1, V: rising[draw(len(rising))], W: rising[draw(len(rising))]}
		if depth > 0 {
			p.Op = []int{api.PNot, api.PAnd, api.POr}[draw(3)]
			for range draw(4) {
				p.L = append(p.L, next(depth-1-draw(2)))
			}
		}
		return p
	}
	return next(4)
}

func madeRows() []api.Row {
	return []api.Row{
		nil,
		{number(0)},
		{number(5), text("a")},
		{text("b"), number(-1)},
		{number(3), number(4), text("")},
		{text("ab"), text("\xff"), number(math.MinInt64)},
	}
}

func TestP34Opposites(t *testing.T) {
	held := 0
	for seed := range uint32(3000) {
		p := made(seed)
		for _, r := range madeRows() {
			holds := Holds(p, r)
			if holds {
				held++
			}
			if Holds(not(p), r) == holds || Holds(not(not(p)), r) != holds {
				t.Fatalf("PNot isn't the opposite of %+v, of %v", p, r)
			}
			if p.Op != api.PAnd && p.Op != api.POr {
				continue
			}
			// All hold where it isn't so that one of their opposites holds, and the other way round.
			other := of(api.PAnd + api.POr - p.Op)
			for _, part := range p.L {
				other.L = append(other.L, not(part))
			}
			if Holds(other, r) == holds {
				t.Fatalf("%+v isn't the opposite of %+v, of %v", other, p, r)
			}
		}
	}
	if held < 3000 || held > 15000 {
		t.Errorf("of the predicates that were made %d held: too few or too many to tell", held)
	}
}

func TestP34OrderOfParts(t *testing.T) {
	for seed := range uint32(3000) {
		p := made(seed)
		if p.Op != api.PAnd && p.Op != api.POr || len(p.L) < 2 {
			continue
		}
		turned := Clone(p)
		for range p.L {
			turned.L = append(turned.L[1:len(turned.L):len(turned.L)], turned.L[0])
			back := Clone(turned)
			slices.Reverse(back.L)
			for _, r := range madeRows() {
				if Holds(turned, r) != Holds(p, r) || Holds(back, r) != Holds(p, r) {
					t.Fatalf("%+v hangs on its parts' order, of %v", p, r)
				}
			}
		}
	}
}

func TestWhatIsHandedInStays(t *testing.T) {
	cols := []bool{false, true, false, true}
	r := api.Row{number(5), text("a"), number(4), text("b")}
	for _, p := range some {
		given, other := roomy(p), roomy(p)
		Check(api.Table{Cols: cols[:2]}, given)
		Holds(given, r[:3])
		Size(given)
		And(given, other)
		Clone(given)
		Same(given, other)
		for _, q := range []api.Pred{given, other} {
			if !alike(q, p) || touched(q) {
				t.Errorf("%+v was changed to %+v", p, q)
			}
		}
	}
	if !slices.Equal(cols, []bool{false, true, false, true}) || !slices.Equal(r, api.Row{number(5), text("a"), number(4), text("b")}) {
		t.Error("a table or a row was changed")
	}
}
