package tree

import (
	"iter"
	"maps"
	"math"
	"math/bits"
	"slices"
	"strconv"
	"strings"
	"testing"

	"ratline/api"
	"ratline/normal"
	"ratline/value"
)

// The signatures are the chapter's: whoever changes one doesn't build.
var (
	_ func() *Tree[string]                                       = New[string]
	_ func(*Tree[string], api.Value, string) bool                = (*Tree[string]).Put
	_ func(*Tree[string], api.Value) (string, bool)              = (*Tree[string]).Get
	_ func(*Tree[string], api.Value) bool                        = (*Tree[string]).Delete
	_ func(*Tree[string]) int                                    = (*Tree[string]).Len
	_ func(*Tree[string]) int                                    = (*Tree[string]).Depth
	_ func(*Tree[string]) int                                    = (*Tree[string]).Used
	_ func(*Tree[string]) int                                    = (*Tree[string]).Room
	_ func(*Tree[string], api.Span) iter.Seq2[api.Value, string] = (*Tree[string]).Range
	_ interface {
		Range(api.Span) iter.Seq2[api.Value, func()]
	} = New[func()]()
	_ interface {
		Put(api.Value, map[string][]struct{}) bool
	} = New[map[string][]struct{}]()
	_ interface {
		Get(api.Value) (interface{ Unwrap() error }, bool)
	} = New[interface{ Unwrap() error }]()
)

var all = api.Span{}

func number(n int64) api.Value { return api.Value{N: n} }

func text(s string) api.Value { return api.Value{Text: true, S: s} }

// rising are keys that may be, each above the one ahead of it.
var rising = []api.Value{
	number(math.MinInt64), number(math.MinInt64 + 1), number(-10), number(-9), number(-1), number(0),
	number(1), number(2), number(10), number(math.MaxInt64 - 1), number(math.MaxInt64),
	text(""), text("\x00"), text("\x00\x00"), text("\x01"), text("-1"), text("10"), text("9"),
	text("A"), text("a"), text("a\x00"), text("aa"), text("ab"), text("abcdefghijkl"), text("abcdefghijkm"),
	text("b"), text("\x80"), text("\xff"), text(strings.Repeat("\xff", api.MaxText)),
}

// wrong are keys that may not be; some of them are, by value.Compare, the same as one that may be.
var wrong = []api.Value{
	{N: 1, S: "a"},
	{N: 0, S: "\x00"},
	{N: math.MinInt64, S: strings.Repeat("a", 5000)},
	{Text: true, N: 1},
	{Text: true, N: -1, S: "a"},
	{Text: true, N: math.MaxInt64, S: "abcdefghijkl"},
	text(strings.Repeat("a", api.MaxText+1)),
	text(strings.Repeat("\xff", api.MaxText+1)),
}

// draws answers numbers below others, by a rule.
func draws(seed uint64) func(n int) int {
	return func(n int) int {
		seed = seed*6364136223846793005 + 1442695040888963407
		return int(seed>>33) % n
	}
}

func shuffled(n int, seed uint64) []int {
	draw := draws(seed)
	l := upTo(n)
	for i := range l {
		k := i + draw(n-i)
		l[i], l[k] = l[k], l[i]
	}
	return l
}

func upTo(n int) []int {
	var l []int
	for i := range n {
		l = append(l, i)
	}
	return l
}

func downFrom(n int) []int {
	l := upTo(n)
	slices.Reverse(l)
	return l
}

// orders calls a function with each order of so many numbers.
func orders(n int, do func([]int)) {
	l := upTo(n)
	var from func(place int)
	from = func(place int) {
		if place == n {
			do(l)
		}
		for i := place; i < n; i++ {
			l[place], l[i] = l[i], l[place]
			from(place + 1)
			l[place], l[i] = l[i], l[place]
		}
	}
	from(0)
}

func numbers(n int) []api.Value {
	var l []api.Value
	for i := range n {
		l = append(l, number(int64(i)))
	}
	return l
}

// watched is a tree beside a map that says what must stand in it, and the greatest Used that was seen.
type watched struct {
	*Tree[int]
	t     *testing.T
	model map[api.Value]int
	room  int
}

func watch(t *testing.T) *watched {
	return &watched{Tree: New[int](), t: t, model: map[api.Value]int{}}
}

func (w *watched) put(k api.Value, v int) {
	w.t.Helper()
	_, was := w.model[k]
	w.model[k] = v
	if got := w.Put(k, v); got == was {
		w.t.Fatalf("Put(%v) is %v", k, got)
	}
	w.shape()
}

func (w *watched) del(k api.Value) {
	w.t.Helper()
	_, was := w.model[k]
	delete(w.model, k)
	if got := w.Delete(k); got != was {
		w.t.Fatalf("Delete(%v) is %v", k, got)
	}
	w.shape()
}

// shape asks all that P5.3 says, and that the numbers told are those of the nodes that can be reached.
func (w *watched) shape() {
	w.t.Helper()
	n, depth, used := w.Len(), w.Depth(), w.Used()
	w.room = max(w.room, used)
	switch {
	case n != len(w.model):
		w.t.Fatalf("Len is %d, not %d", n, len(w.model))
	case n == 0 && (depth != 0 || used != 0):
		w.t.Fatalf("without keys Depth is %d, Used %d", depth, used)
	case n > 0 && (depth < 1 || used < depth || used > n || bits.Len(uint(n)) < depth):
		w.t.Fatalf("of %d keys Depth is %d, Used %d", n, depth, used)
	case w.Room() != w.room:
		w.t.Fatalf("Room is %d, not %d", w.Room(), w.room)
	}
	w.nodes()
}

func (w *watched) nodes() {
	w.t.Helper()
	met := map[int]int{}
	leaves := 0
	var visit func(at, depth int)
	visit = func(at, depth int) {
		met[at]++
		row := w.row(at)
		if len(row) > most || len(row) < fewest && at != w.root {
			w.t.Fatalf("a node has %d items", len(row))
		}
		for _, it := range row {
			switch {
			case depth == 1 && it.down != 0, depth > 1 && (it.val != 0 || w.row(it.down)[0].key != it.key):
				w.t.Fatalf("at the depth %d above the leaves stands %+v", depth, it)
			case depth == 1:
				leaves++
			default:
				visit(it.down, depth-1)
			}
		}
	}
	if w.depth > 0 {
		visit(w.root, w.depth)
	}
	for _, n := range w.free {
		met[n]++
	}
	if leaves != w.Len() || len(met) != w.Room() || len(met)-len(w.free) != w.Used() {
		w.t.Fatalf("%d keys and %d nodes are met, %d are free; Len is %d, Used %d, Room %d", leaves, len(met), len(w.free), w.Len(), w.Used(), w.Room())
	}
	for n, times := range met {
		if times != 1 {
			w.t.Fatalf("the node %d is met %d times", n, times)
		}
	}
	w.noRest()
}

// noRest asks that nothing of what was deleted stands anywhere still.
func (w *watched) noRest() {
	w.t.Helper()
	for n := range w.fill {
		for _, it := range w.row(n)[w.fill[n]:width] {
			if it != (item[int]{}) {
				w.t.Fatalf("behind the row of the node %d stands %+v", n, it)
			}
		}
	}
	for _, n := range w.free {
		if w.fill[n] != 0 {
			w.t.Fatalf("the node %d is free, and has %d items", n, w.fill[n])
		}
	}
}

// holds asks that what stands in the tree is what must.
func (w *watched) holds() {
	w.t.Helper()
	for k, v := range w.model {
		if got, there := w.Get(k); got != v || !there {
			w.t.Fatalf("Get(%v) is %d, %v", k, got, there)
		}
	}
	w.told(all)
}

// told asks that Range tells what it must of a span.
func (w *watched) told(s api.Span) {
	w.t.Helper()
	var want []api.Value
	for _, k := range slices.SortedFunc(maps.Keys(w.model), value.Compare) {
		if normal.Within(s, k) {
			want = append(want, k)
		}
	}
	var got []api.Value
	for k, v := range w.Range(s) {
		if v != w.model[k] {
			w.t.Fatalf("Range(%+v) tells %d at %v", s, v, k)
		}
		got = append(got, k)
	}
	if !slices.Equal(got, want) {
		w.t.Fatalf("Range(%+v) tells %v, not %v", s, got, want)
	}
}

func keys[V any](x *Tree[V], s api.Span) []api.Value {
	var l []api.Value
	for k := range x.Range(s) {
		l = append(l, k)
	}
	return l
}

func TestP51New(t *testing.T) {
	x := New[string]()
	if x == nil {
		t.Fatal("New is nil")
	}
	if x.Len() != 0 || x.Depth() != 0 || x.Used() != 0 || x.Room() != 0 || len(keys(x, all)) != 0 {
		t.Error("a new tree has something")
	}
	for _, k := range append(wrong, rising...) {
		if v, there := x.Get(k); v != "" || there || x.Delete(k) {
			t.Errorf("%v is there", k)
		}
	}
	y := New[string]()
	x.Put(number(1), "a")
	if y.Len() != 0 || len(keys(y, all)) != 0 {
		t.Error("two trees are one")
	}
}

func TestP51PutGetDelete(t *testing.T) {
	x := New[string]()
	for i, k := range rising {
		if !x.Put(k, "a"+strconv.Itoa(i)) || x.Len() != i+1 {
			t.Fatalf("%v isn't new", k)
		}
	}
	for i, k := range rising {
		if v, there := x.Get(k); v != "a"+strconv.Itoa(i) || !there {
			t.Fatalf("Get(%v) is %q, %v", k, v, there)
		}
		if x.Put(k, "b") || x.Len() != len(rising) {
			t.Fatalf("%v is new", k)
		}
		if v, there := x.Get(k); v != "b" || !there {
			t.Fatalf("Get(%v) is %q, %v", k, v, there)
		}
	}
	for i, k := range rising {
		if !x.Delete(k) || x.Delete(k) || x.Len() != len(rising)-i-1 {
			t.Fatalf("%v wasn't deleted", k)
		}
		if v, there := x.Get(k); v != "" || there {
			t.Fatalf("Get(%v) is %q, %v", k, v, there)
		}
		for _, other := range rising[i+1:] {
			if v, there := x.Get(other); v != "b" || !there {
				t.Fatalf("Get(%v) is %q, %v", other, v, there)
			}
		}
	}
	if !x.Put(rising[3], "c") || x.Len() != 1 {
		t.Error("what was deleted isn't new")
	}
}

// A zero value that was put is there all the same.
func TestP51ZeroValues(t *testing.T) {
	x := New[[]int]()
	if !x.Put(number(0), nil) || x.Put(number(0), nil) || x.Len() != 1 {
		t.Error("it isn't there once")
	}
	if v, there := x.Get(number(0)); v != nil || !there {
		t.Error(v, there)
	}
	if v, there := x.Get(text("")); v != nil || there {
		t.Error("the text of nothing is taken for 0")
	}
}

func TestP51KeysThatMayNotBe(t *testing.T) {
	w := watch(t)
	for _, k := range wrong {
		if w.Put(k, 7) {
			t.Errorf("%v was put", k)
		}
	}
	w.shape()
	for i, k := range rising {
		w.put(k, i+1)
	}
	for _, k := range wrong {
		if w.Put(k, 99) || w.Delete(k) {
			t.Errorf("%v was put or deleted", k)
		}
		if v, there := w.Get(k); v != 0 || there {
			t.Errorf("Get(%v) is %d, %v", k, v, there)
		}
		w.shape()
	}
	w.holds()
}

func TestP51KeysThatArentThere(t *testing.T) {
	w := watch(t)
	for i := range 50 {
		w.put(number(int64(2*i)), i+1)
	}
	for i := range 52 {
		k := number(int64(2*i - 1))
		if v, there := w.Get(k); v != 0 || there {
			t.Errorf("Get(%v) is %d, %v", k, v, there)
		}
		w.del(k)
		w.del(text(strconv.Itoa(2 * i)))
	}
	w.holds()
}

func TestP51EveryOrderOfPuts(t *testing.T) {
	orders(7, func(l []int) {
		w := watch(t)
		for _, i := range l {
			w.put(number(int64(i)), i+1)
		}
		w.holds()
		for i := range 7 {
			w.del(number(int64(i)))
		}
	})
}

func TestP51EveryOrderOfDeletes(t *testing.T) {
	for _, puts := range [][]int{upTo(8), {7, 0, 6, 1, 5, 2, 4, 3}} {
		orders(8, func(l []int) {
			w := watch(t)
			for _, i := range puts {
				w.put(number(int64(i)), i+1)
			}
			for _, i := range l[:5] {
				w.del(number(int64(i)))
			}
			w.holds()
			for _, i := range l[5:] {
				w.del(number(int64(i)))
			}
		})
	}
}

func TestP51ManySteps(t *testing.T) {
	for seed, most := range []int{3, 8, 20, 40, 150} {
		draw := draws(uint64(seed))
		w := watch(t)
		for step := range 6000 {
			k := number(int64(draw(most)))
			if draw(3) == 0 {
				k = text(strconv.FormatInt(k.N, 2))
			}
			// It grows and shrinks by turns.
			if draw(10) < 3+step/500%2*4 {
				w.del(k)
			} else {
				w.put(k, step+1)
			}
			if step%50 == 0 {
				w.holds()
			}
		}
		w.holds()
	}
}

func TestP51Great(t *testing.T) {
	const n = 1 << 17
	x := New[int]()
	for _, i := range shuffled(n, 1) {
		if !x.Put(number(int64(i)), i) {
			t.Fatal(i)
		}
	}
	if x.Len() != n || x.Used() > n || 1<<(x.Depth()-1) > n {
		t.Error(x.Len(), x.Used(), x.Depth())
	}
	next := 0
	for k, v := range x.Range(all) {
		if k != number(int64(next)) || v != next {
			t.Fatal(k, v)
		}
		next++
	}
	room := x.Room()
	for _, i := range shuffled(n, 2) {
		if v, there := x.Get(number(int64(i))); v != i || !there || !x.Delete(number(int64(i))) {
			t.Fatal(i)
		}
	}
	if next != n || x.Len() != 0 || x.Used() != 0 || x.Depth() != 0 || x.Room() != room {
		t.Error(next, x.Len(), x.Used(), x.Depth())
	}
}

func TestP52Example(t *testing.T) {
	x := New[int]()
	for i := range 5 {
		x.Put(number(int64(i+1)), i)
	}
	got := keys(x, api.Span{HasLo: true, OpenLo: true, Lo: number(1), HasHi: true, Hi: number(3)})
	if !slices.Equal(got, []api.Value{number(2), number(3)}) {
		t.Error(got)
	}
}

// spans are spans of all kinds between these ends, ones that aren't clean among them.
func spans(ends []api.Value) []api.Span {
	l := []api.Span{all, {None: true}, {None: true, HasLo: true, Lo: ends[0]}}
	for kind := range 16 {
		for _, lo := range ends {
			for _, hi := range ends {
				l = append(l, api.Span{
					HasLo: kind&1 != 0, OpenLo: kind&2 != 0, Lo: lo,
					HasHi: kind&4 != 0, OpenHi: kind&8 != 0, Hi: hi,
				})
			}
		}
	}
	return l
}

func TestP52Range(t *testing.T) {
	for n := range 24 {
		w := watch(t)
		for _, i := range shuffled(n, uint64(n)) {
			w.put(number(int64(2*i)), i+1)
		}
		for _, s := range spans(numbers(2*n + 1)[:min(2*n+1, 21)]) {
			w.told(s)
		}
		w.told(api.Span{HasLo: true, Lo: number(-1), HasHi: true, Hi: number(100)})
	}
}

func TestP52RangeOfAllKindsOfKeys(t *testing.T) {
	w := watch(t)
	for i, k := range rising {
		if i%3 > 0 {
			w.put(k, i+1)
		}
	}
	// Ends that may not be are held against keys all the same.
	for _, s := range spans(append(wrong, rising...)) {
		w.told(s)
	}
}

// What is below a node that lost its least key, or got a lesser one, is told still.
func TestP52RangeBehindChanges(t *testing.T) {
	draw := draws(5)
	w := watch(t)
	for step := range 3000 {
		k := number(int64(draw(60)))
		if draw(2) == 0 {
			w.del(k)
		} else {
			w.put(k, step+1)
		}
		lo, hi := number(int64(draw(60))), number(int64(draw(60)))
		w.told(api.Span{HasLo: true, OpenLo: draw(2) == 0, Lo: lo, HasHi: draw(2) == 0, OpenHi: draw(2) == 0, Hi: hi})
		w.told(api.Span{HasHi: true, OpenHi: draw(2) == 0, Hi: hi})
	}
}

func TestP52AsLongAsItIsWanted(t *testing.T) {
	x := New[int]()
	for i := range 30 {
		x.Put(number(int64(i)), i)
	}
	for wanted := 1; wanted < 40; wanted++ {
		told := 0
		x.Range(api.Span{HasLo: true, Lo: number(5)})(func(k api.Value, v int) bool {
			if told == wanted || k != number(int64(5+told)) || v != 5+told {
				t.Fatalf("%v, %d is told as the one at %d, wanted are %d", k, v, told, wanted)
			}
			told++
			return told < wanted
		})
		if told != min(wanted, 25) {
			t.Errorf("%d are told, wanted were %d", told, wanted)
		}
	}
}

func TestP52Again(t *testing.T) {
	x := New[int]()
	for i := range 30 {
		x.Put(number(int64(i)), i)
	}
	some := x.Range(api.Span{HasLo: true, Lo: number(10), HasHi: true, Hi: number(20)})
	for range some {
		break
	}
	for range 3 {
		next := 10
		for k, v := range some {
			if k.N != int64(next) || v != next {
				t.Fatal(k, v)
			}
			next++
			// Within itself, too.
			within := 0
			for range some {
				within++
			}
			if within != 11 {
				t.Fatal(within)
			}
		}
		if next != 21 {
			t.Error(next)
		}
	}
	// What was changed between is told the next time.
	x.Delete(number(10))
	x.Delete(number(20))
	x.Put(number(12), 99)
	x.Put(text("a"), 1)
	next := 11
	for k, v := range some {
		if want := map[bool]int{true: 99, false: next}[next == 12]; k.N != int64(next) || v != want {
			t.Error(k, v)
		}
		next++
	}
	if next != 20 {
		t.Error(next)
	}
}

func TestP52ChangesWhileItGoesOn(t *testing.T) {
	for name, change := range map[string]func(x *Tree[int], k api.Value){
		"delete it":    func(x *Tree[int], k api.Value) { x.Delete(k) },
		"delete next":  func(x *Tree[int], k api.Value) { x.Delete(number(k.N + 1)) },
		"delete ahead": func(x *Tree[int], k api.Value) { x.Delete(number(k.N - 1)) },
		"replace next": func(x *Tree[int], k api.Value) { x.Put(number(k.N+1), -1) },
		"put last":     func(x *Tree[int], k api.Value) { x.Put(number(k.N+1000), -1) },
		"put first":    func(x *Tree[int], k api.Value) { x.Put(number(-1-k.N), -1) },
		"delete all": func(x *Tree[int], k api.Value) {
			for i := range 50 {
				x.Delete(number(int64(i)))
			}
		},
		"put many": func(x *Tree[int], k api.Value) {
			for i := range 100 {
				x.Put(number(int64(50+i)), -1)
			}
		},
	} {
		x := New[int]()
		for i := range 50 {
			x.Put(number(int64(i)), i)
		}
		next := 0
		for k, v := range x.Range(all) {
			if k != number(int64(next)) || v != next {
				t.Fatalf("%s: %v, %d is told behind %d", name, k, v, next-1)
			}
			next++
			change(x, k)
		}
		if next != 50 {
			t.Errorf("%s: %d are told", name, next)
		}
	}
}

// A loop that is left by a panic leaves the tree as it was.
func TestP52LeftByPanic(t *testing.T) {
	w := watch(t)
	for i := range 30 {
		w.put(number(int64(i)), i+1)
	}
	func() {
		defer func() { recover() }()
		for range w.Range(all) {
			panic("left")
		}
	}()
	w.shape()
	w.holds()
}

func TestP53Example(t *testing.T) {
	w := watch(t)
	for i := range 5 {
		w.put(number(int64(i+1)), i+1)
	}
	if w.Len() != 5 || w.Depth() != 2 {
		t.Errorf("Len is %d, Depth %d", w.Len(), w.Depth())
	}
	for i := range 5 {
		w.del(number(int64(i + 1)))
	}
	if w.Len() != 0 || w.Depth() != 0 || w.Used() != 0 {
		t.Errorf("Len is %d, Depth %d, Used %d", w.Len(), w.Depth(), w.Used())
	}
}

// The shape is asked behind each put and each delete.
func TestP53Shape(t *testing.T) {
	const n = 300
	ways := map[string][]int{"up": upTo(n), "down": downFrom(n), "one": shuffled(n, 3), "other": shuffled(n, 4)}
	for into, puts := range ways {
		for out, deletes := range ways {
			w := watch(t)
			for _, i := range puts {
				w.put(number(int64(i)), i+1)
			}
			if w.Depth() < 3 {
				t.Errorf("put %s: of %d keys Depth is %d", into, n, w.Depth())
			}
			w.holds()
			for _, i := range deletes {
				w.del(number(int64(i)))
			}
			if w.Used() != 0 || w.Room() < n/most {
				t.Errorf("put %s, deleted %s: Used is %d, Room %d", into, out, w.Used(), w.Room())
			}
		}
	}
}

func TestP53WhatChangesNothing(t *testing.T) {
	w := watch(t)
	for i := range 64 {
		w.put(number(int64(i)), i+1)
	}
	depth, used, room := w.Depth(), w.Used(), w.Room()
	for i := range 64 {
		w.put(number(int64(i)), i+7)
		w.del(number(int64(-1 - i)))
		w.del(number(int64(64 + i)))
		w.told(all)
	}
	if w.Depth() != depth || w.Used() != used || w.Room() != room {
		t.Error(w.Depth(), w.Used(), w.Room())
	}
}

func TestP53NodesAreUsedAgain(t *testing.T) {
	w := watch(t)
	for i := range 100 {
		w.put(number(int64(i)), i+1)
	}
	room := w.Room()
	for round := range 30 {
		for _, i := range shuffled(100, uint64(round)) {
			w.del(number(int64(i)))
		}
		if w.Room() != room || w.Used() != 0 {
			t.Fatalf("Room is %d, Used %d", w.Room(), w.Used())
		}
		for i := range 100 {
			w.put(number(int64(i)), i+1)
		}
		if w.Room() != room || w.Used() != room {
			t.Fatalf("Room is %d, Used %d", w.Room(), w.Used())
		}
	}
	if len(w.arena) != room*width {
		t.Errorf("the arena has %d items for %d nodes", len(w.arena), room)
	}
}

func TestP54Nil(t *testing.T) {
	var x *Tree[string]
	for _, k := range append(wrong, rising...) {
		if x.Put(k, "a") || x.Delete(k) {
			t.Errorf("%v was put or deleted", k)
		}
		if v, there := x.Get(k); v != "" || there {
			t.Errorf("Get(%v) is %q, %v", k, v, there)
		}
	}
	if x.Len() != 0 || x.Depth() != 0 || x.Used() != 0 || x.Room() != 0 {
		t.Error("nil has something")
	}
	for _, s := range spans(rising[:5]) {
		for k := range x.Range(s) {
			t.Errorf("%v is told", k)
		}
	}
}

// One that wasn't made by New is as good as one that was.
func TestZeroTree(t *testing.T) {
	w := &watched{Tree: &Tree[int]{}, t: t, model: map[api.Value]int{}}
	w.shape()
	w.told(all)
	w.del(number(0))
	for i := range 30 {
		w.put(number(int64(i)), i+1)
	}
	w.holds()
}
