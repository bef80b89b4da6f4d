package outs_test

import (
	"math"
	"reflect"
	"slices"
	"testing"

	"fencepost/api"
	"fencepost/outs"
	"fencepost/samples"
)

// The chapter's words once more, each asked for by itself.

func out(mem, regs []int) api.Out { return api.Out{Mem: mem, Regs: regs} }

// rowAhead: is row a ahead of row b? The first place where they are unlike is looked for.
func rowAhead(a, b []int) bool {
	for i := 0; ; i++ {
		switch inA, inB := i < len(a), i < len(b); {
		case !inA:
			return inB
		case !inB:
			return false
		case a[i] != b[i]:
			return a[i] < b[i]
		}
	}
}

// ahead: is end a ahead of end b?
func ahead(a, b api.Out) bool {
	if !slices.Equal(a.Mem, b.Mem) {
		return rowAhead(a.Mem, b.Mem)
	}
	return rowAhead(a.Regs, b.Regs)
}

// isIn: does o stand in l? Each end of it is asked.
func isIn(l []api.Out, o api.Out) bool {
	return slices.ContainsFunc(l, func(x api.Out) bool { return samples.AlikeEnds(x, o) })
}

// isSet: is l a set? Each two ends are held against one another.
func isSet(l []api.Out) bool {
	for k, b := range l {
		for _, a := range l[:k] {
			if !ahead(a, b) {
				return false
			}
		}
	}
	return true
}

// setOf is what Of is to be: what is ahead of all that is left is taken out, until nothing is.
func setOf(l []api.Out) []api.Out {
	var set []api.Out
	for left := slices.Clone(l); len(left) > 0; {
		first := left[0]
		for _, o := range left {
			if ahead(o, first) {
				first = o
			}
		}
		set = append(set, first)
		left = slices.DeleteFunc(left, func(o api.Out) bool { return samples.AlikeEnds(o, first) })
	}
	return set
}

// without are those ends of a that are not in b.
func without(a, b []api.Out) []api.Out {
	var l []api.Out
	for _, o := range a {
		if !isIn(b, o) {
			l = append(l, o)
		}
	}
	return l
}

// holdOf holds Of, and Set, of any row against the chapter's words, and gives its set.
func holdOf(t *testing.T, l []api.Out) []api.Out {
	t.Helper()
	set, want := outs.Of(l), setOf(l)
	if !samples.AlikeRows(set, want) || !outs.Set(set) {
		t.Fatalf("set of %v: %v, not %v", l, set, want)
	}
	if got := outs.Set(l); got != isSet(l) {
		t.Fatalf("a set: %v: %v", got, l)
	}
	return set
}

// holdPut holds Put, and Has, of a set and an end against the chapter's words.
func holdPut(t *testing.T, l []api.Out, o api.Out) {
	t.Helper()
	if got := outs.Has(l, o); got != isIn(l, o) {
		t.Fatalf("%v is one of %v: %v", o, l, got)
	}
	got, want := outs.Put(l, o), setOf(append(slices.Clone(l), o))
	if !samples.AlikeRows(got, want) || !outs.Set(got) || !outs.Has(got, o) {
		t.Fatalf("%v, and %v: %v, not %v", l, o, got, want)
	}
}

// holdMinus holds Minus of two sets against the chapter's words.
func holdMinus(t *testing.T, a, b []api.Out) {
	t.Helper()
	if got, want := outs.Minus(a, b), without(a, b); !samples.AlikeRows(got, want) || !outs.Set(got) {
		t.Fatalf("%v without %v: %v, not %v", a, b, got, want)
	}
}

// smallRows are all of up to two of these numbers.
func smallRows(numbers ...int) [][]int {
	l := [][]int{nil}
	for _, n := range numbers {
		l = append(l, []int{n})
		for _, m := range numbers {
			l = append(l, []int{n, m})
		}
	}
	return l
}

// smallEnds are all of such rows.
func smallEnds(numbers ...int) []api.Out {
	var l []api.Out
	for _, mem := range smallRows(numbers...) {
		for _, regs := range smallRows(numbers...) {
			l = append(l, out(mem, regs))
		}
	}
	return l
}

// few are some ends, no two alike, each ahead of the next one.
func few() []api.Out {
	return []api.Out{
		out(nil, nil),
		out(nil, []int{5}),
		out([]int{0}, nil),
		out([]int{0}, []int{-1, 9}),
		out([]int{0}, []int{0}),
		out([]int{0, -7}, []int{-3}),
		out([]int{1}, nil),
	}
}

// picked are those of l whose places' bits are in the number.
func picked(l []api.Out, bits int) []api.Out {
	var set []api.Out
	for i, o := range l {
		if bits>>i&1 == 1 {
			set = append(set, o)
		}
	}
	return set
}

func TestZeroAndTwoIsAheadOfOne(t *testing.T) { // P15.1: the chapter's example
	one, two := []int{1}, []int{0, 2}
	for _, rest := range [][]int{nil, {0}, {9, 9}} {
		for _, c := range [][2]api.Out{{out(two, rest), out(one, rest)}, {out(rest, two), out(rest, one)}, {out(two, one), out(one, rest)}} {
			if !outs.Less(c[0], c[1]) || outs.Less(c[1], c[0]) {
				t.Error(c)
			}
		}
	}
}

func TestWhatIsAhead(t *testing.T) { // P15.1: O1
	lo, hi := math.MinInt, math.MaxInt
	l := []api.Out{
		out(nil, nil),
		out(nil, []int{lo}),
		out(nil, []int{lo, lo}),
		out(nil, []int{lo, hi}),
		out(nil, []int{lo + 1}),
		out(nil, []int{hi}),
		// What Mem has is held against one another ahead of all that Regs has.
		out([]int{lo}, nil),
		out([]int{lo}, []int{hi}),
		out([]int{lo, lo}, []int{lo}),
		out([]int{lo, 0}, nil),
		out([]int{-1 << 32}, nil),
		out([]int{-1}, []int{1}),
		// More places do not matter, if there is a lesser number ahead of them.
		out([]int{-1, 5, 5, 5, 5, 5}, []int{0}),
		out([]int{0}, []int{0, 0, 0}),
		out([]int{0}, []int{0, 0, 0, -1}),
		out([]int{0}, []int{0, 0, 1}),
		// A text of 10 would be ahead of one of 9, a number isn't.
		out([]int{9}, []int{9}),
		out([]int{9}, []int{10}),
		out([]int{10}, []int{9}),
		out([]int{1 << 32}, nil),
		out([]int{1<<32 + 1}, nil),
		out([]int{hi}, nil),
		out([]int{hi}, []int{lo}),
		out([]int{hi, lo}, nil),
		out([]int{hi, hi}, []int{hi, hi}),
	}
	for i, a := range l {
		for k, b := range l {
			if got := outs.Less(a, b); got != (i < k) || ahead(a, b) != got {
				t.Errorf("%v is ahead of %v: %v", a, b, got)
			}
		}
	}
	if !outs.Set(l) {
		t.Error("no set")
	}
}

func TestAnEmptyRowIsNone(t *testing.T) { // P15.1: O1, O2; P3
	l := []api.Out{out(nil, nil), out([]int{}, nil), out(nil, []int{}), out([]int{}, []int{})}
	for _, a := range l {
		for _, b := range l {
			if outs.Less(a, b) || !outs.Has([]api.Out{a}, b) || len(outs.Minus([]api.Out{a}, []api.Out{b})) != 0 || outs.Set([]api.Out{a, b}) {
				t.Errorf("%#v and %#v are told apart", a, b)
			}
			if set := outs.Put([]api.Out{a}, b); !samples.AlikeRows(set, l[:1]) {
				t.Errorf("%#v and %#v: %#v", a, b, set)
			}
		}
	}
	if set := outs.Of(l); !samples.AlikeRows(set, l[:1]) {
		t.Errorf("%#v", set)
	}
}

func TestJustOneIsAhead(t *testing.T) { // P15.2
	l := smallEnds(math.MinInt, 0, math.MaxInt)
	for i, a := range l {
		for k, b := range l {
			less, more := outs.Less(a, b), outs.Less(b, a)
			if less != ahead(a, b) || less && more || (less || more) != (i != k) {
				t.Fatalf("%v ahead of %v: %v, and the other way round: %v", a, b, less, more)
			}
		}
	}
	// What is ahead of one is ahead of all that this one is ahead of.
	set := holdOf(t, l)
	for i, a := range set {
		for k, b := range set {
			if outs.Less(a, b) != (i < k) {
				t.Fatalf("%v and %v", a, b)
			}
		}
	}
	if len(set) != len(l) {
		t.Error(len(set))
	}
}

func TestAllSetsOfFew(t *testing.T) { // P15.1: O1, O2
	l := few()
	for a := range 1 << len(l) {
		set := picked(l, a)
		if !outs.Set(set) || !samples.AlikeRows(holdOf(t, set), set) {
			t.Fatalf("%v is a set", set)
		}
		for _, o := range l {
			holdPut(t, set, o)
		}
		for b := range 1 << len(l) {
			holdMinus(t, set, picked(l, b))
			if got := outs.Minus(set, picked(l, b)); !samples.AlikeRows(got, picked(l, a&^b)) {
				t.Fatalf("%b without %b: %v", a, b, got)
			}
		}
	}
}

func TestAllShortRows(t *testing.T) { // P15.1: O2
	l := few()[1:5]
	rows := [][]api.Out{nil}
	for range 5 {
		for _, row := range rows[:len(rows):len(rows)] {
			for _, o := range l {
				rows = append(rows, append(slices.Clone(row), o))
			}
		}
	}
	for _, row := range rows {
		holdOf(t, row)
	}
}

func TestWhatIsASet(t *testing.T) { // P15.1: O2
	l := few()
	for i, c := range []struct {
		l    []api.Out
		want bool
	}{
		{nil, true},
		{[]api.Out{}, true},
		{l[:1], true},
		{l[6:], true},
		{l, true},
		{[]api.Out{l[0], l[6]}, true},
		// An end that stands there again, next to itself or elsewhere.
		{[]api.Out{l[0], l[0]}, false},
		{[]api.Out{l[1], l[2], l[2]}, false},
		{[]api.Out{l[2], l[2], l[3]}, false},
		{[]api.Out{l[1], l[2], l[1]}, false},
		// One that is ahead of the one ahead of it, at the beginning, between, or at the end.
		{[]api.Out{l[1], l[0], l[2], l[3]}, false},
		{[]api.Out{l[0], l[2], l[1], l[3]}, false},
		{[]api.Out{l[0], l[1], l[3], l[2]}, false},
		{[]api.Out{l[3], l[0], l[1], l[2]}, false},
		{[]api.Out{l[1], l[2], l[3], l[0]}, false},
	} {
		if got := outs.Set(c.l); got != c.want || isSet(c.l) != c.want {
			t.Errorf("%d: %v", i, got)
		}
	}
}

func TestNothingAndNoSets(t *testing.T) { // P15.1: O1, O2; P2
	o := out([]int{3}, []int{4})
	for _, none := range [][]api.Out{nil, {}} {
		if outs.Has(none, o) || outs.Has(none, api.Out{}) || !outs.Set(none) {
			t.Error("something is in nothing")
		}
		if len(outs.Of(none))+len(outs.Minus(none, none))+len(outs.Minus(none, few()))+len(outs.Minus(few(), few())) != 0 {
			t.Error("something comes of nothing")
		}
		if set := outs.Put(none, o); !samples.AlikeRows(set, []api.Out{o}) {
			t.Error(set)
		}
		if set := outs.Minus(few(), none); !samples.AlikeRows(set, few()) {
			t.Error(set)
		}
	}
	// Of rows that are no sets nothing is said, but that calls end.
	back := few()
	slices.Reverse(back)
	for _, l := range [][]api.Out{back, append(few(), few()...), append(few()[3:], back...)} {
		for _, o := range append(few(), o, out([]int{math.MinInt}, nil), out([]int{math.MaxInt}, nil)) {
			outs.Put(l, o)
			outs.Has(l, o)
			outs.Minus(l, []api.Out{o})
			outs.Minus([]api.Out{o}, l)
		}
	}
}

// thrown are so many ends, of few rows, so that some are alike.
func thrown(d *samples.Dice, many, locs, regs, numbers int) []api.Out {
	row := func(n int) []int {
		var l []int
		for range d.Below(n + 1) {
			l = append(l, d.Below(numbers)-numbers/2)
		}
		return l
	}
	var l []api.Out
	for range many {
		l = append(l, out(row(locs), row(regs)))
	}
	return l
}

// shuffled are the ends of l in another order, some of them there again.
func shuffled(d *samples.Dice, l []api.Out) []api.Out {
	row := slices.Clone(l)
	for range d.Below(len(l) + 1) {
		row = append(row, l[d.Below(len(l))])
	}
	for i := range row {
		k := d.Below(i + 1)
		row[i], row[k] = row[k], row[i]
	}
	return row
}

func TestASetIsWhatIsInIt(t *testing.T) { // P15.3
	d := samples.Dice(15)
	for range 3_000 {
		l := thrown(&d, d.Below(30), d.Below(5), d.Below(5), 1+d.Below(4))
		set := holdOf(t, l)
		row := shuffled(&d, l)
		// In whatever order it is made, or put together one by one, it is the same.
		var put []api.Out
		for _, o := range row {
			put = outs.Put(put, o)
		}
		if other := outs.Of(row); !samples.AlikeRows(other, set) || !samples.AlikeRows(put, set) || !samples.AlikeRows(outs.Of(set), set) {
			t.Fatalf("%v, %v and %v", set, other, put)
		}
		for _, o := range append(thrown(&d, 5, 4, 4, 3), l...) {
			if outs.Has(set, o) != isIn(l, o) {
				t.Fatalf("%v is one of %v: %v", o, set, outs.Has(set, o))
			}
			holdPut(t, set, o)
		}
		holdParts(t, set, outs.Of(thrown(&d, d.Below(30), 3, 3, 3)))
	}
}

// holdParts holds what is in but one, and what is in both, of two sets, against what there is in all.
func holdParts(t *testing.T, a, b []api.Out) {
	t.Helper()
	holdMinus(t, a, b)
	holdMinus(t, b, a)
	one, other := outs.Minus(a, b), outs.Minus(b, a)
	both := outs.Minus(a, one)
	if !samples.AlikeRows(both, outs.Minus(b, other)) {
		t.Fatalf("in both of %v and %v: %v", a, b, both)
	}
	parts, all := slices.Concat(other, one, both), outs.Of(slices.Concat(a, b))
	if len(parts) != len(all) || !samples.AlikeRows(outs.Of(parts), all) {
		t.Fatalf("in one of %v and %v: %v, and %v", a, b, all, parts)
	}
	for _, o := range all {
		if outs.Has(a, o) != (outs.Has(one, o) || outs.Has(both, o)) || outs.Has(other, o) == outs.Has(a, o) {
			t.Fatalf("%v of %v and %v", o, a, b)
		}
	}
}

func TestManyEndsEnd(t *testing.T) { // P1
	const n = 300_000
	end := func(i int) api.Out { return out([]int{7, i / 1000}, []int{0, i % 1000}) }
	var set, odd []api.Out
	for i := range n {
		set = append(set, end(i))
		if i%2 == 1 {
			odd = append(odd, end(i))
		}
	}
	back := slices.Clone(set)
	slices.Reverse(back)
	for _, l := range [][]api.Out{set, back, slices.Concat(odd, set, back), slices.Concat(set, odd)} {
		if got := outs.Of(l); !samples.AlikeRows(got, set) || !outs.Set(got) {
			t.Error(len(got))
		}
	}
	if even := outs.Minus(set, odd); len(even) != n/2 || !samples.AlikeEnds(even[n/2-1], set[n-2]) {
		t.Error(len(even))
	}
	if len(outs.Minus(odd, set)) != 0 || !outs.Has(set, end(n-1)) || outs.Has(set, end(n)) || outs.Has(odd, end(2)) || outs.Set(back) {
		t.Error("has")
	}
	if more := outs.Put(odd, end(2)); len(more) != n/2+1 || !samples.AlikeRows(more[:3], set[1:4]) || !outs.Set(more) {
		t.Error(len(more))
	}
	// Long rows that are unlike at their last place alone.
	long, other := make([]int, 3_000_000), make([]int, 3_000_000)
	other[len(other)-1] = 1
	if a, b := out(long, other), out(long, long); !outs.Less(b, a) || outs.Less(a, b) || len(outs.Of([]api.Out{a, b, a})) != 2 || outs.Less(out(other, nil), a) {
		t.Error("long")
	}
}

// answer is all that the calls answer, of two sets, and of one's ends in another order.
type answer struct {
	put, there, minus, of []api.Out
	less, has, set        bool
}

// rowOf is a row in which the ends of a set stand in another order, and again, sharing their lists.
func rowOf(set []api.Out) []api.Out {
	row := slices.Concat(set, set)
	slices.Reverse(row)
	return row
}

func asked(a, b, row []api.Out, o api.Out) answer {
	return answer{outs.Put(a, o), outs.Put(a, a[0]), outs.Minus(a, b), outs.Of(row), outs.Less(a[0], o), outs.Has(a, o), outs.Set(row)}
}

// lists are the rows of ends that were answered.
func (a answer) lists() [][]api.Out { return [][]api.Out{a.put, a.there, a.minus, a.of} }

func alikeAnswers(a, b answer) bool {
	return slices.EqualFunc(a.lists(), b.lists(), samples.AlikeRows) && a.less == b.less && a.has == b.has && a.set == b.set
}

// askedOf are the sets and ends that the tests of P3 ask for; an end is in the set, or at its beginning, between, or at its end.
func askedOf(hold func(a, b []api.Out, o api.Out)) {
	l := few()
	for _, o := range l {
		for _, a := range [][]api.Out{l[:1], l[1:], l[:6], l[2:4], l, {l[1], l[5]}} {
			for _, b := range [][]api.Out{nil, l[:1], l[3:], l, {l[2], l[4]}} {
				hold(samples.CloneEnds(a), samples.CloneEnds(b), samples.CloneEnds([]api.Out{o})[0])
			}
		}
	}
}

func TestAnswersHangOnArgumentsAlone(t *testing.T) { // P3
	askedOf(func(a, b []api.Out, o api.Out) {
		ra, rb, ro := samples.RoomyEnds(a), samples.RoomyEnds(b), samples.RoomyEnds([]api.Out{o})
		row := samples.RoomyEnds(rowOf(a))
		want := asked(a, b, rowOf(a), o)
		whole := func() []any {
			return append(append(samples.WholeEnds(ra), samples.WholeEnds(rb)...), append(samples.WholeEnds(ro), samples.WholeEnds(row)...)...)
		}
		old := whole()
		for i, x := range old {
			if l, is := x.([]int); is {
				old[i] = slices.Clone(l)
			}
		}
		for range 3 {
			got := asked(ra, rb, row, ro[0])
			if !alikeAnswers(got, want) {
				t.Fatalf("%v, not %v", got, want)
			}
			for _, l := range got.lists() {
				samples.OverwriteEnds(l)
			}
			if !reflect.DeepEqual(whole(), old) {
				t.Fatalf("what was handed in was changed: %v, %v, %v, %v", ra, rb, ro, row)
			}
		}
	})
}

func TestAnswersAreKeptByNobody(t *testing.T) { // P3
	askedOf(func(a, b []api.Out, o api.Out) {
		want := asked(samples.CloneEnds(a), samples.CloneEnds(b), rowOf(samples.CloneEnds(a)), o)
		for i, l := range want.lists() {
			*[]*[]api.Out{&want.put, &want.there, &want.minus, &want.of}[i] = samples.CloneEnds(l)
		}
		row := rowOf(a)
		got := asked(a, b, row, o)
		for _, l := range [][]api.Out{a, b, row, {o}} {
			samples.OverwriteEnds(l)
		}
		if !alikeAnswers(got, want) {
			t.Fatalf("%v, not %v", got, want)
		}
	})
}

func TestNoTwoListsShareRoom(t *testing.T) { // P3
	askedOf(func(a, b []api.Out, o api.Out) {
		// Ends that are handed in may share their lists with one another.
		shared := []int{5, 6, 7, 8, 9, 10, 11, 12}
		for i := range a {
			a[i] = api.Out{Mem: shared[:i%3], Regs: shared[i%3 : 1+i]}
		}
		set := outs.Of(a)
		got := asked(set, b, rowOf(set), api.Out{Mem: shared, Regs: shared})
		for _, l := range append(got.lists(), set) {
			if !samples.ApartEnds(l) {
				t.Fatalf("%v", l)
			}
		}
	})
}
