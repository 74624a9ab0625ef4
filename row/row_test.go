package row

import (
	"math"
	"math/big"
	"regexp"
	"slices"
	"strconv"
	"strings"
	"testing"

	"ratline/api"
)

// The signatures are the chapter's: whoever changes one doesn't build.
var (
	_ func(api.Table) api.Errno                                = Check
	_ func(api.Table, api.Row) bool                            = Fits
	_ func(a, b api.Row) bool                                  = Same
	_ func(api.Row) api.Row                                    = Clone
	_ func(api.Table, []api.Set) api.Errno                     = CheckSets
	_ func(api.Table, api.Row, []api.Set) (api.Row, api.Errno) = Update
)

func number(n int64) api.Value { return api.Value{N: n} }

func text(s string) api.Value { return api.Value{Text: true, S: s} }

// columns are a table's, told by letters: n is a column of numbers, t one of texts.
func columns(kinds string) api.Table {
	var t api.Table
	for _, k := range kinds {
		t.Cols = append(t.Cols, k == 't')
	}
	return t
}

// allKinds are the kinds of all tables that may be.
func allKinds() []string {
	var all []string
	last := []string{""}
	for range api.MaxCols {
		var next []string
		for _, k := range last {
			next = append(next, k+"n", k+"t")
		}
		all, last = append(all, next...), next
	}
	return all
}

func wrongTables() []api.Table {
	return []api.Table{{}, {Cols: []bool{}}, columns("nnnnn"), columns("ttttt"), columns(strings.Repeat("nt", 500))}
}

func wrongValues() []api.Value {
	return []api.Value{
		text(strings.Repeat("a", api.MaxText+1)),
		{Text: true, N: 1},
		{Text: true, N: -1, S: "a"},
		{S: "a"},
		{N: 5, S: "5"},
	}
}

// roomy is a row with room behind its end, in which something stands.
func roomy(r api.Row) api.Row {
	room := append(append(api.Row{}, r...), text("behind"), text("it"))
	return room[:len(r)]
}

func behind(r api.Row) api.Row { return r[len(r) : len(r)+2] }

func TestP21Check(t *testing.T) {
	for _, kinds := range allKinds() {
		if e := Check(columns(kinds)); e != api.OK {
			t.Errorf("Check(%s) is %v", kinds, e)
		}
	}
	for _, table := range wrongTables() {
		if e := Check(table); e != api.ErrArg {
			t.Errorf("Check(%v) is %v", table, e)
		}
	}
}

func TestP21Fits(t *testing.T) {
	for _, c := range []struct {
		kinds string
		r     api.Row
	}{
		{"n", api.Row{number(0)}},
		{"n", api.Row{number(math.MinInt64)}},
		{"t", api.Row{text("")}},
		{"nt", api.Row{number(1), text("a")}},
		{"tn", api.Row{text("abcdefghijkl"), number(math.MaxInt64)}},
		{"nnt", api.Row{number(1), number(5), text("a")}},
		{"tttt", api.Row{text("a"), text("a"), text("\x00"), text("\xff")}},
	} {
		if !Fits(columns(c.kinds), c.r) {
			t.Errorf("Fits(%s, %v) is false", c.kinds, c.r)
		}
	}
}

// Each row is tried of each table: it fits just where its own kinds are the table's.
func TestP21FitsNoOther(t *testing.T) {
	for _, kinds := range allKinds() {
		for _, others := range append(allKinds(), "", "nnnnn", "ttttt") {
			var r api.Row
			for _, k := range others {
				r = append(r, map[rune]api.Value{'n': number(7), 't': text("7")}[k])
			}
			if got := Fits(columns(kinds), r); got != (kinds == others) {
				t.Errorf("Fits(%s, %v) is %v", kinds, r, got)
			}
		}
	}
}

func TestP21FitsNoWrongValue(t *testing.T) {
	for _, wrong := range wrongValues() {
		for place := range api.MaxCols {
			table := api.Table{Cols: make([]bool, api.MaxCols)}
			r := make(api.Row, api.MaxCols)
			table.Cols[place], r[place] = wrong.Text, wrong
			if Fits(table, r) {
				t.Errorf("Fits(%v, %v) is true", table, r)
			}
		}
	}
}

func TestP21FitsNoWrongTable(t *testing.T) {
	for _, table := range wrongTables() {
		r := make(api.Row, len(table.Cols))
		for col := range r {
			r[col].Text = table.Cols[col]
		}
		if Fits(table, r) || Fits(table, nil) {
			t.Errorf("something fits %v", table)
		}
	}
}

func TestP21Same(t *testing.T) {
	rows := []api.Row{
		{},
		{number(0)},
		{number(1)},
		{number(-1)},
		{text("")},
		{text("a")},
		{text("1")},
		{{S: "a"}},
		{{Text: true, N: 1}},
		{{Text: true, N: 1, S: "a"}},
		{{N: 1, S: "a"}},
		{number(0), number(0)},
		{number(0), number(1)},
		{number(1), number(0)},
		{number(0), text("")},
		{number(0), number(0), number(0), number(0), number(0)},
		{number(0), number(0), number(0), number(0), number(9)},
	}
	for i, a := range rows {
		for k, b := range rows {
			if got := Same(a, roomy(b)); got != (i == k) {
				t.Errorf("Same(%v, %v) is %v", a, b, got)
			}
		}
	}
	if !Same(nil, nil) || !Same(nil, api.Row{}) || !Same(api.Row{}, nil) {
		t.Error("no values and no values aren't the same")
	}
}

func TestP21Clone(t *testing.T) {
	for _, r := range []api.Row{
		{number(1)},
		{number(1), text("a"), number(2)},
		{text(""), {N: 1, S: "b"}, {Text: true, N: 1}, text(strings.Repeat("a", 100)), number(5), number(6)},
	} {
		given := roomy(r)
		got := Clone(given)
		if !slices.Equal(got, r) {
			t.Errorf("Clone(%v) is %v", r, got)
		}
		got[0], got[len(got)-1] = text("changed"), text("changed")
		_ = append(got, text("added"))
		if !slices.Equal(given, r) || behind(given)[0] != text("behind") {
			t.Errorf("%v shares memory with its clone", r)
		}
	}
	for _, none := range []api.Row{nil, {}, roomy(nil)} {
		got := Clone(none)
		if len(got) != 0 {
			t.Errorf("Clone of none is %v", got)
		}
		_ = append(got, text("added"))
		if cap(none) > 0 && behind(none)[0] != text("behind") {
			t.Error("a clone of none shares the room behind it")
		}
	}
}

var noWhere = []int{math.MinInt, -1, 4, 5, math.MaxInt}

func TestP22UpdatesThatMayBe(t *testing.T) {
	for _, c := range []struct {
		kinds string
		sets  []api.Set
	}{
		{"n", nil},
		{"t", []api.Set{}},
		{"nn", []api.Set{{Col: 1, Op: api.SetTo, V: number(math.MinInt64)}}},
		{"nt", []api.Set{{Col: 1, Op: api.SetTo, V: text("abcdefghijkl")}}},
		{"nn", []api.Set{{Col: 1, Op: api.SetCopy, From: 0}}},
		{"tt", []api.Set{{Col: 1, Op: api.SetCopy, From: 0}}},
		{"tt", []api.Set{{Col: 1, Op: api.SetCopy, From: 1}}},
		{"tn", []api.Set{{Col: 1, Op: api.SetAdd, From: 1, V: number(1)}}},
		{"nn", []api.Set{{Col: 1, Op: api.SetSub, From: 0, V: number(1)}}},
		{"tnn", []api.Set{{Col: 1, Op: api.SetTimes, From: 2, V: number(1)}}},
		{"nn", []api.Set{{Col: 1, Op: api.SetSum, From: 0, Other: 0}}},
		{"nnt", []api.Set{{Col: 2, Op: api.SetTo, V: text("b")}, {Col: 1, Op: api.SetSum, From: 0, Other: 1}}},
		{"nnnn", []api.Set{{Col: 3, Op: api.SetCopy, From: 1}, {Col: 1, Op: api.SetCopy, From: 2}, {Col: 2, Op: api.SetCopy, From: 3}}},
	} {
		if e := CheckSets(columns(c.kinds), c.sets); e != api.OK {
			t.Errorf("CheckSets(%s, %+v) is %v", c.kinds, c.sets, e)
		}
	}
}

func TestP22UpdatesThatMayNotBe(t *testing.T) {
	one := api.Set{Col: 1, Op: api.SetTo, V: number(1)}
	two := api.Set{Col: 2, Op: api.SetTo, V: number(1)}
	three := api.Set{Col: 3, Op: api.SetTo, V: text("a")}
	key := api.Set{Col: 0, Op: api.SetTo, V: number(1)}
	for _, sets := range [][]api.Set{
		{key},
		{{Col: 0, Op: api.SetCopy, From: 0}},
		{{Col: 0, Op: api.SetAdd, From: 0, V: number(0)}},
		{{Col: 0, Op: api.SetSum, From: 1, Other: 2}},
		{one, key},
		{one, one},
		{one, {Col: 1, Op: api.SetCopy, From: 1}},
		{one, two, one},
		{two, one, one},
		{three, three, one},
		{one, two, three, one},
		{one, two, three, key},
		{one, two, three, {}},
		{{}},
		slices.Repeat([]api.Set{one}, 1000),
	} {
		if e := CheckSets(columns("nnnt"), sets); e != api.ErrSet {
			t.Errorf("CheckSets(%+v) is %v", sets, e)
		}
	}
}

// One wrong set is found wherever it stands.
func TestP22OneWrongSetAmongOthers(t *testing.T) {
	table := columns("nnnt")
	one := api.Set{Col: 1, Op: api.SetTo, V: number(1)}
	two := api.Set{Col: 2, Op: api.SetCopy, From: 0}
	for _, wrong := range []api.Set{
		{Col: 3, Op: api.SetTo, V: number(1)},
		{Col: 3, Op: api.SetTo, V: text("abcdefghijklm")},
		{Col: 3, Op: api.SetCopy, From: 0},
		{Col: 3, Op: api.SetAdd, From: 1, V: number(1)},
		{Col: 3, Op: api.SetSum, From: 1, Other: 2},
		{Col: 3, Op: 0, V: text("a")},
		{Col: 3, Op: 7, V: text("a")},
		{Col: 4, Op: api.SetTo, V: text("a")},
		{Col: -1, Op: api.SetTo, V: text("a")},
	} {
		for _, sets := range [][]api.Set{{wrong, one, two}, {one, wrong, two}, {one, two, wrong}} {
			if e := CheckSets(table, sets); e != api.ErrSet {
				t.Errorf("CheckSets(%+v) is %v", sets, e)
			}
		}
	}
}

// setForm is which sets may be, told by letters: the Op; the kinds of Col (k is the key), From and Other (- is none); V's kind (w: it may not be).
var setForm = regexp.MustCompile(`^(1n..n|1t..t|2nn..|2tt..|[345]nn.n|6nnn.)$`)

func formOf(kinds string, s api.Set, v string) string {
	kind := func(col int) string {
		if col < 0 || col >= len(kinds) {
			return "-"
		}
		return kinds[col : col+1]
	}
	of := kind(s.Col)
	if s.Col == 0 {
		of = "k"
	}
	return strconv.Itoa(s.Op) + of + kind(s.From) + kind(s.Other) + v
}

var setValues = []struct {
	v    api.Value
	kind string
}{
	{number(0), "n"},
	{number(-3), "n"},
	{text(""), "t"},
	{text("abcdefghijkl"), "t"},
	{text("abcdefghijklm"), "w"},
	{api.Value{N: 1, S: "a"}, "w"},
	{api.Value{Text: true, N: 1, S: "a"}, "w"},
}

func TestP22EachSetByItself(t *testing.T) {
	for _, kinds := range allKinds() {
		table := columns(kinds)
		for place := range 6 * 6 * 6 * 9 * len(setValues) {
			v := setValues[place/(6*6*6*9)]
			s := api.Set{
				Col:   place%6 - 1,
				From:  place/6%6 - 1,
				Other: place/36%6 - 1,
				Op:    place/216%9 - 1,
				V:     v.v,
			}
			want := api.ErrSet
			if setForm.MatchString(formOf(kinds, s, v.kind)) {
				want = api.OK
			}
			if e := CheckSets(table, []api.Set{s}); e != want {
				t.Fatalf("CheckSets(%s, %+v) is %v, not %v", kinds, s, e, want)
			}
		}
	}
}

func TestP22FieldsThatPlayNoPart(t *testing.T) {
	table := columns("nntt")
	r := api.Row{number(1), number(5), text("a"), text("b")}
	for _, far := range noWhere {
		for _, wrong := range append(wrongValues(), text("a")) {
			for _, s := range []api.Set{
				{Col: 1, Op: api.SetTo, V: number(1), From: far, Other: far},
				{Col: 1, Op: api.SetCopy, From: 1, Other: far, V: wrong},
				{Col: 1, Op: api.SetAdd, From: 1, Other: far},
				{Col: 1, Op: api.SetSub, From: 1, Other: far},
				{Col: 1, Op: api.SetTimes, From: 1, Other: far},
				{Col: 1, Op: api.SetSum, From: 1, Other: 1, V: wrong},
			} {
				if e := CheckSets(table, []api.Set{s}); e != api.OK {
					t.Errorf("CheckSets(%+v) is %v", s, e)
				}
				if got, e := Update(table, r, []api.Set{s}); e != api.OK || !Fits(table, got) {
					t.Errorf("Update(%+v) is %v, %v", s, got, e)
				}
			}
		}
	}
}

func TestP22FieldsThatAreNowhere(t *testing.T) {
	for _, far := range noWhere {
		for op := range 9 {
			for _, s := range []api.Set{
				{Col: far, Op: op, From: 1, Other: 1},
				{Col: 1, Op: op, From: far, Other: 1},
				{Col: 1, Op: op, From: 1, Other: far},
			} {
				used := op < api.SetTo || op > api.SetSum || s.Col == far || s.From == far && op != api.SetTo || s.Other == far && op == api.SetSum
				if e := CheckSets(columns("nnnn"), []api.Set{s}); (e == api.ErrSet) != used {
					t.Errorf("CheckSets(%+v) is %v", s, e)
				}
			}
		}
	}
	for _, op := range []int{math.MinInt, -1, 0, 7, math.MaxInt} {
		if e := CheckSets(columns("nn"), []api.Set{{Col: 1, Op: op}}); e != api.ErrSet {
			t.Errorf("Op %d is %v", op, e)
		}
	}
}

func TestP22WrongTables(t *testing.T) {
	for _, table := range wrongTables() {
		for _, sets := range [][]api.Set{nil, {{Col: 1, Op: api.SetTo}}, {{}}, make([]api.Set, 9)} {
			if e := CheckSets(table, sets); e != api.ErrArg {
				t.Errorf("CheckSets(%v, %+v) is %v", table, sets, e)
			}
		}
	}
}

func TestP23Examples(t *testing.T) {
	table := columns("nnt")
	r := api.Row{number(1), number(5), text("a")}
	for _, c := range []struct {
		sets []api.Set
		want api.Row
		e    api.Errno
	}{
		{[]api.Set{{Col: 1, Op: api.SetTimes, From: 1, V: number(3)}}, api.Row{number(1), number(15), text("a")}, api.OK},
		{[]api.Set{{Col: 2, Op: api.SetTo, V: text("b")}, {Col: 1, Op: api.SetSum, From: 0, Other: 1}}, api.Row{number(1), number(6), text("b")}, api.OK},
		{[]api.Set{{Col: 0, Op: api.SetTo, V: number(1)}}, nil, api.ErrSet},
		{[]api.Set{{Col: 1, Op: api.SetAdd, From: 1, V: number(math.MaxInt64)}}, nil, api.ErrOver},
		{nil, r, api.OK},
		{[]api.Set{}, r, api.OK},
	} {
		got, e := Update(table, r, c.sets)
		if e != c.e || !slices.Equal(got, c.want) {
			t.Errorf("Update(%+v) is %v, %v", c.sets, got, e)
		}
	}
}

func TestP23SetsReadTheRowAsItWas(t *testing.T) {
	table := columns("nnnn")
	r := api.Row{number(1), number(10), number(100), number(1000)}
	got, e := Update(table, r, []api.Set{
		{Col: 1, Op: api.SetCopy, From: 2},
		{Col: 2, Op: api.SetSum, From: 1, Other: 3},
		{Col: 3, Op: api.SetSub, From: 1, V: number(3)},
	})
	if want := (api.Row{number(1), number(100), number(1010), number(7)}); e != api.OK || !slices.Equal(got, want) {
		t.Errorf("it is %v, %v, not %v", got, e, want)
	}
	texts := api.Row{number(1), text("a"), text("b"), number(0)}
	got, e = Update(columns("nttn"), texts, []api.Set{{Col: 1, Op: api.SetCopy, From: 2}, {Col: 2, Op: api.SetCopy, From: 1}})
	if want := (api.Row{number(1), text("b"), text("a"), number(0)}); e != api.OK || !slices.Equal(got, want) {
		t.Errorf("it is %v, %v, not %v", got, e, want)
	}
}

var edges = []int64{math.MinInt64, math.MinInt64 + 1, -1 << 62, -3037000500, -10, -2, -1, 0, 1, 2, 10, 3037000499, 1 << 62, math.MaxInt64 - 1, math.MaxInt64}

// What each Op comes to is held against numbers without bounds.
func TestP23Reckoning(t *testing.T) {
	table := columns("nnnn")
	for _, a := range edges {
		for _, b := range edges {
			for _, c := range edges {
				r := api.Row{number(77), number(78), number(a), number(b)}
				for _, op := range []struct {
					op   int
					want *big.Int
				}{
					{api.SetTo, big.NewInt(c)},
					{api.SetCopy, big.NewInt(a)},
					{api.SetAdd, new(big.Int).Add(big.NewInt(a), big.NewInt(c))},
					{api.SetSub, new(big.Int).Sub(big.NewInt(a), big.NewInt(c))},
					{api.SetTimes, new(big.Int).Mul(big.NewInt(a), big.NewInt(c))},
					{api.SetSum, new(big.Int).Add(big.NewInt(a), big.NewInt(b))},
				} {
					s := api.Set{Col: 1, Op: op.op, From: 2, Other: 3, V: number(c)}
					checkReckoned(t, table, r, s, op.want)
				}
			}
		}
	}
}

func checkReckoned(t *testing.T, table api.Table, r api.Row, s api.Set, want *big.Int) {
	t.Helper()
	got, e := Update(table, r, []api.Set{s})
	switch {
	case !want.IsInt64():
		if e != api.ErrOver || len(got) != 0 {
			t.Errorf("Update(%v, %+v) is %v, %v", r, s, got, e)
		}
	case e != api.OK || !slices.Equal(got, api.Row{r[0], number(want.Int64()), r[2], r[3]}):
		t.Errorf("Update(%v, %+v) is %v, %v", r, s, got, e)
	}
}

func TestP23OneBeyondAmongOthers(t *testing.T) {
	table := columns("nnnn")
	r := api.Row{number(1), number(math.MaxInt64), number(math.MinInt64), number(3)}
	fine := api.Set{Col: 3, Op: api.SetTo, V: number(9)}
	sub := api.Set{Col: 2, Op: api.SetSub, From: 2, V: number(1)}
	sum := api.Set{Col: 1, Op: api.SetSum, From: 1, Other: 0}
	for _, sets := range [][]api.Set{{fine, sub}, {sub, fine}, {fine, sum}, {sum, fine}, {sum, fine, sub}, {fine, sum, sub}} {
		if got, e := Update(table, r, sets); e != api.ErrOver || len(got) != 0 {
			t.Errorf("Update(%+v) is %v, %v", sets, got, e)
		}
	}
}

// Where several errors apply, it is the one that the chapter names first.
func TestP23WhichErrorComesFirst(t *testing.T) {
	table := columns("nnn")
	r := api.Row{number(1), number(math.MaxInt64), number(2)}
	over := api.Set{Col: 1, Op: api.SetAdd, From: 1, V: number(1)}
	wrong := api.Set{Col: 0, Op: api.SetTo, V: number(1)}
	for _, c := range []struct {
		table api.Table
		r     api.Row
		sets  []api.Set
		e     api.Errno
	}{
		{table, r, []api.Set{over}, api.ErrOver},
		{table, r, []api.Set{over, wrong}, api.ErrSet},
		{table, r, []api.Set{wrong, over}, api.ErrSet},
		{table, r, []api.Set{over, over}, api.ErrSet},
		{table, r[:2], []api.Set{over, wrong}, api.ErrArg},
		{table, r[:2], []api.Set{over}, api.ErrArg},
		{table, r[:2], nil, api.ErrArg},
		{table, append(Clone(r), number(1)), nil, api.ErrArg},
		{table, nil, []api.Set{wrong}, api.ErrArg},
		{table, api.Row{number(1), number(2), text("a")}, nil, api.ErrArg},
		{table, api.Row{number(1), number(2), {N: 1, S: "a"}}, []api.Set{wrong}, api.ErrArg},
		{api.Table{}, nil, nil, api.ErrArg},
		{api.Table{}, nil, []api.Set{wrong}, api.ErrArg},
		{api.Table{}, r, []api.Set{over}, api.ErrArg},
		{columns("nnnnn"), make(api.Row, 5), nil, api.ErrArg},
		{columns("nnnnn"), make(api.Row, 5), []api.Set{{Col: 4, Op: api.SetTo}}, api.ErrArg},
	} {
		if got, e := Update(c.table, c.r, c.sets); e != c.e || len(got) != 0 {
			t.Errorf("Update(%v, %v, %+v) is %v, %v, not %v", c.table, c.r, c.sets, got, e, c.e)
		}
	}
}

func TestP23NewMemory(t *testing.T) {
	table := columns("nnt")
	r := api.Row{number(1), number(5), text("a")}
	for _, sets := range [][]api.Set{
		nil,
		{{Col: 1, Op: api.SetTimes, From: 1, V: number(3)}},
		{{Col: 2, Op: api.SetTo, V: text("b")}, {Col: 1, Op: api.SetSum, From: 0, Other: 1}},
		{{Col: 1, Op: api.SetAdd, From: 1, V: number(math.MaxInt64)}},
		{{Col: 2, Op: api.SetTo, V: text("b")}, {Col: 0, Op: api.SetTo}},
	} {
		given, cols, asked := roomy(r), slices.Clone(table.Cols), slices.Clone(sets)
		got, e := Update(api.Table{Cols: cols}, given, asked)
		again, _ := Update(table, given, sets)
		for col := range got {
			got[col] = text("changed")
		}
		_ = append(got, text("added"))
		if !slices.Equal(given, r) || behind(given)[0] != text("behind") || !slices.Equal(cols, table.Cols) || !slices.Equal(asked, sets) {
			t.Errorf("Update(%+v) changes what it is given, or shares it", sets)
		}
		if e == api.OK && again[0] != number(1) {
			t.Errorf("two answers of Update(%+v) share memory", sets)
		}
	}
}

// someSets are sets of each Op and column, some that go beyond 64 bits, some that may not be.
func someSets() []api.Set {
	return []api.Set{
		{Col: 1, Op: api.SetTo, V: number(-8)},
		{Col: 1, Op: api.SetCopy, From: 2},
		{Col: 1, Op: api.SetAdd, From: 2, V: number(4)},
		{Col: 1, Op: api.SetSum, From: 0, Other: 2},
		{Col: 1, Op: api.SetSum, From: 1, Other: 1},
		{Col: 2, Op: api.SetTo, V: number(9)},
		{Col: 2, Op: api.SetCopy, From: 0},
		{Col: 2, Op: api.SetSub, From: 1, V: number(3)},
		{Col: 2, Op: api.SetTimes, From: 1, V: number(2)},
		{Col: 2, Op: api.SetTimes, From: 2, V: number(2)},
		{Col: 3, Op: api.SetTo, V: text("new")},
		{Col: 3, Op: api.SetCopy, From: 3},
		{Col: 3, Op: api.SetTo, V: number(1)},
		{Col: 0, Op: api.SetTo, V: number(1)},
	}
}

func TestP24WhatFollows(t *testing.T) {
	table := columns("nnnt")
	all := someSets()
	fine := 0
	for _, r := range []api.Row{
		{number(3), number(5), number(7), text("a")},
		{number(-3), number(math.MaxInt64), number(math.MinInt64), text("")},
	} {
		for _, a := range all {
			for _, b := range all {
				for _, c := range all {
					got, e := Update(table, r, []api.Set{a, b, c})
					if e == api.OK {
						fine++
					}
					if e == api.OK && (!Fits(table, got) || got[0] != r[0]) {
						t.Errorf("Update(%v, %+v, %+v, %+v) is %v", r, a, b, c, got)
					}
					for _, sets := range [][]api.Set{{a, c, b}, {b, a, c}, {b, c, a}, {c, a, b}, {c, b, a}} {
						other, f := Update(table, r, sets)
						if f != e || !slices.Equal(other, got) || CheckSets(table, sets) != CheckSets(table, []api.Set{a, b, c}) {
							t.Errorf("Update(%v, %+v) is %v, %v, not %v, %v", r, sets, other, f, got, e)
						}
					}
				}
			}
		}
	}
	if fine == 0 {
		t.Error("no update was one")
	}
}

// The key stays, of whatever kind it is, and what it is copied to fits.
func TestP24TheKeyStays(t *testing.T) {
	for _, key := range []api.Value{number(math.MinInt64), number(0), text(""), text("abcdefghijkl")} {
		table := api.Table{Cols: []bool{key.Text, key.Text}}
		r := api.Row{key, {Text: key.Text}}
		got, e := Update(table, r, []api.Set{{Col: 1, Op: api.SetCopy, From: 0}})
		if e != api.OK || !slices.Equal(got, api.Row{key, key}) || !Fits(table, got) {
			t.Errorf("it is %v, %v", got, e)
		}
	}
}
