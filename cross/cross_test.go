package cross_test

import (
	"math"
	"reflect"
	"slices"
	"testing"

	"fencepost/api"
	"fencepost/code"
	"fencepost/cross"
	"fencepost/run"
	"fencepost/samples"
	"fencepost/sc"
	"fencepost/slots"
	"fencepost/tso"
)

// The chapter's words once more, each asked for by itself.

// step and drain are the picks of a thread.
func step(thread int) api.Pick { return api.Pick{Thread: thread} }

func drain(thread int) api.Pick { return api.Pick{Thread: thread, Drain: true} }

// steps are picks of these threads' steps.
func steps(threads ...int) []api.Pick {
	var l []api.Pick
	for _, thread := range threads {
		l = append(l, step(thread))
	}
	return l
}

// states are all that a weak run comes to along l, the one at which it starts first, up to a pick that can't be done.
func states(p api.Prog, l []api.Pick) []api.State {
	all := []api.State{sc.Begin(p)}
	for i, k := range l {
		s, is := tso.Step(p, all[i], k)
		if !is {
			break
		}
		all = append(all, s)
	}
	return all
}

// laid tells of each step of each thread, when fences have been put in, if it is one of these; and of which step of the code it is the fence, or which one it is.
func laid(p api.Prog, g []int) (fences [][]bool, from [][]int) {
	n := 0
	for _, l := range p.Threads {
		var fence []bool
		var of []int
		for at := range l {
			if slices.Contains(g, n) {
				fence, of = append(fence, true), append(of, at)
			}
			fence, of = append(fence, false), append(of, at)
			n++
		}
		fences, from = append(fences, fence), append(from, append(of, len(l)))
	}
	return fences, from
}

// takes: is the step of that thread, at that place, taken by pick k, which is done at s?
func takes(s api.State, k api.Pick, thread, at int) bool {
	return k == step(thread) && s.Ths[thread].At == at
}

// crossed is what Cross is to be, of picks along which these are the states: each slot is asked if a step of it was taken with something on its way.
func crossed(p api.Prog, l []api.Pick, all []api.State) []int {
	var row []int
	n := 0
	for thread, x := range p.Threads {
		for at := range x {
			for i, k := range l {
				if takes(all[i], k, thread, at) && len(all[i].Ths[thread].Buf) > 0 {
					row = append(row, n)
				}
			}
			n++
		}
	}
	return row
}

// lowered is what Lower is to be, of picks along which these are the states of the code with fences.
func lowered(p api.Prog, g []int, l []api.Pick, all []api.State) []api.Pick {
	var q []api.Pick
	fences, _ := laid(p, g)
	for i, k := range l {
		if k.Drain || !fences[k.Thread][all[i].Ths[k.Thread].At] {
			q = append(q, k)
		}
	}
	return q
}

// raised is what Raise is to be, of picks along which these are the states, if none crosses a slot of g.
func raised(p api.Prog, g []int, l []api.Pick, all []api.State) []api.Pick {
	var q []api.Pick
	for i, k := range l {
		ahead := 0
		for thread, x := range p.Threads {
			for at := range x {
				if takes(all[i], k, thread, at) && slices.Contains(g, ahead+at) {
					q = append(q, step(thread))
				}
			}
			ahead += len(x)
		}
		q = append(q, k)
	}
	return q
}

// has: is one of these numbers in the row?
func has(row, numbers []int) bool {
	return slices.ContainsFunc(numbers, func(n int) bool { return slices.Contains(row, n) })
}

// alike: does the same stand in both ends?
func alike(a, b api.Out) bool { return slices.Equal(a.Mem, b.Mem) && slices.Equal(a.Regs, b.Regs) }

// holdCross holds Cross of these picks against the chapter's words.
func holdCross(t *testing.T, p api.Prog, l []api.Pick) bool {
	t.Helper()
	all := states(p, l)
	var want []int
	can := len(all) == len(l)+1
	if can {
		want = crossed(p, l, all)
	}
	if got, is := cross.Cross(p, l); is != can || !slices.Equal(got, want) {
		t.Fatalf("%+v along %+v crosses %v %v, not %v %v", p, l, got, is, want, can)
	}
	return can
}

// holdSame holds that the run of a code along l, and that of it with fences along m, come to the same, but that a fence may still be ahead of a step.
func holdSame(t *testing.T, p api.Prog, g []int, l, m []api.Pick) {
	t.Helper()
	q := slots.Insert(p, g)
	s, _, all := run.Run(p, l, true)
	f, _, fencedAll := run.Run(q, m, true)
	if !all || !fencedAll {
		t.Fatalf("fences %v: %+v along %+v: %v, with fences along %+v: %v", g, p, l, all, m, fencedAll)
	}
	_, from := laid(p, g)
	for i := range f.Ths {
		f.Ths[i].At = from[i][f.Ths[i].At]
	}
	if !samples.Alike(s, f) {
		t.Fatalf("fences %v: %+v along %+v: %+v, with fences along %+v: %+v", g, p, l, s, m, f)
	}
	o, is := run.Ends(p, l, true)
	if fencedEnd, fenced := run.Ends(q, m, true); is != fenced || !alike(o, fencedEnd) {
		t.Fatalf("fences %v: %+v along %+v ends: %+v %v, with fences along %+v: %+v %v", g, p, l, o, is, m, fencedEnd, fenced)
	}
}

// holdLower holds Lower of these picks against the chapter's words, and P14.2.
func holdLower(t *testing.T, p api.Prog, g []int, l []api.Pick) bool {
	t.Helper()
	all := states(slots.Insert(p, g), l)
	can := len(all) == len(l)+1
	got, is := cross.Lower(p, g, l)
	if is != can || !can && len(got) > 0 {
		t.Fatalf("fences %v: %+v along %+v lowered: %+v %v", g, p, l, got, is)
	}
	if !can {
		return false
	}
	if want := lowered(p, g, l, all); !slices.Equal(got, want) {
		t.Fatalf("fences %v: %+v along %+v lowered: %+v, not %+v", g, p, l, got, want)
	}
	holdSame(t, p, g, got, l)
	if row, is := cross.Cross(p, got); !is || has(row, g) {
		t.Fatalf("fences %v: %+v along %+v lowered: %+v crosses %v %v", g, p, l, got, row, is)
	}
	return true
}

// holdRaise holds Raise of these picks against the chapter's words, and P14.3.
func holdRaise(t *testing.T, p api.Prog, g []int, l []api.Pick) bool {
	t.Helper()
	all := states(p, l)
	can := len(all) == len(l)+1 && !has(crossed(p, l, all), g)
	got, is := cross.Raise(p, g, l)
	if is != can || !can && len(got) > 0 {
		t.Fatalf("fences %v: %+v along %+v raised: %+v %v", g, p, l, got, is)
	}
	if !can {
		return false
	}
	if want := raised(p, g, l, all); !slices.Equal(got, want) {
		t.Fatalf("fences %v: %+v along %+v raised: %+v, not %+v", g, p, l, got, want)
	}
	holdSame(t, p, g, l, got)
	if back, is := cross.Lower(p, g, got); !is || !slices.Equal(back, l) {
		t.Fatalf("fences %v: %+v along %+v raised: %+v, lowered: %+v %v", g, p, l, got, back, is)
	}
	return true
}

// holdAll holds all calls along these picks.
func holdAll(t *testing.T, p api.Prog, g []int, l []api.Pick) {
	t.Helper()
	if !code.Right(p) || !code.Right(slots.Insert(p, g)) {
		t.Fatalf("not right: %v %+v", g, p)
	}
	holdCross(t, p, l)
	holdLower(t, p, g, l)
	holdRaise(t, p, g, l)
}

func put(loc, n int) api.Step { return api.Step{Op: api.OpPut, Loc: loc, N: n} }

func load(reg, loc int) api.Step { return api.Step{Op: api.OpLoad, Reg: reg, Loc: loc} }

// waiting and swapping are the steps that can't be done while something is on their thread's way.
func waiting() api.Step { return api.Step{Op: api.OpFence} }

func swapping() api.Step { return api.Step{Op: api.OpXchg} }

// buffering is two threads that each write a location, and read the other one's.
func buffering() api.Prog {
	return api.Prog{Init: make([]int, 2), Threads: [][]api.Step{{put(0, 1), load(0, 1)}, {put(1, 1), load(0, 0)}}}
}

// jumping is a thread that writes, and goes past a fence or a write, and one that waits and swaps, with one without steps between.
func jumping() api.Prog {
	return api.Prog{Init: []int{5, 6}, Threads: [][]api.Step{
		{put(0, 1), {Op: api.OpCmp, N: 0}, {Op: api.OpJe, To: 5}, waiting(), put(1, 2), load(1, 1), {Op: api.OpJmp, To: 7}},
		nil,
		{{Op: api.OpStore, Loc: 1}, waiting(), load(2, 0), swapping()},
	}}
}

func TestCrosses(t *testing.T) { // P14.1: N1
	write, read := []api.Pick{step(0), step(0)}, []api.Pick{step(0), drain(0), step(0)}
	for i, c := range []struct {
		p    api.Prog
		l    []api.Pick
		want []int
	}{
		// The chapter's example; and the read behind what came there already.
		{buffering(), write, []int{1}},
		{buffering(), read, nil},
		{buffering(), nil, nil},
		{buffering(), []api.Pick{}, nil},
		{buffering(), steps(0), nil},
		// What is on another thread's way tells nothing.
		{buffering(), steps(0, 1), nil},
		{buffering(), []api.Pick{step(0), step(1), drain(1), step(1)}, nil},
		{buffering(), []api.Pick{step(0), step(1), drain(1), step(1), step(0)}, []int{1}},
		{buffering(), []api.Pick{step(0), step(1), drain(0), step(1), step(0)}, []int{3}},
		// Slots are told rising, whichever is crossed first.
		{buffering(), steps(1, 1, 0, 0), []int{1, 3}},
		{buffering(), steps(0, 1, 0, 1), []int{1, 3}},
		// Compares, jumps, reads and writes cross theirs; steps past which a jump goes are not taken.
		{jumping(), steps(0, 0, 0, 0, 0), []int{1, 2, 5, 6}},
		{jumping(), []api.Pick{step(0), step(0), drain(0), step(0), step(0), step(0)}, []int{1}},
		{jumping(), []api.Pick{step(0), step(0), step(0), step(0), drain(0), step(0)}, []int{1, 2, 5}},
		// A fence, and a swap, are taken when nothing is on its way, so that they cross no slot.
		{jumping(), []api.Pick{step(2), drain(2), step(2), step(2), step(2)}, nil},
		// Of two writes one came there, one is on its way still.
		{api.Prog{Init: []int{5}, Threads: [][]api.Step{{put(0, 1), put(0, 2), load(0, 0)}}}, []api.Pick{step(0), step(0), drain(0), step(0)}, []int{1, 2}},
		{api.Prog{Init: []int{5}, Threads: [][]api.Step{{put(0, 1), put(0, 2), load(0, 0)}}}, []api.Pick{step(0), step(0), drain(0), drain(0), step(0)}, []int{1}},
		{api.Prog{Init: []int{5}, Threads: [][]api.Step{{put(0, 1), put(0, 2), load(0, 0)}}}, []api.Pick{step(0), drain(0), step(0), step(0), drain(0)}, []int{2}},
		{api.Prog{Threads: [][]api.Step{nil}}, nil, nil},
	} {
		holdCross(t, c.p, c.l)
		if got, is := cross.Cross(c.p, c.l); !is || !slices.Equal(got, c.want) {
			t.Errorf("%d: %v %v, not %v", i, got, is, c.want)
		}
	}
}

func TestWhatCanNotBeDone(t *testing.T) { // P14.1: N1, N2, N3; P2
	wrong := [][]api.Pick{
		{drain(0)}, {drain(1)}, {drain(2)}, steps(1), steps(3), steps(-1),
		{step(0), drain(2)}, {step(0), drain(0), drain(0)}, {step(2), step(2)}, {step(0), step(0), step(2), step(2), drain(2)},
		{step(2), drain(2), step(2), step(2), step(2), step(2)}, steps(0, 0, 0, 0, 0, 0), {step(0), drain(1), step(0)},
	}
	for _, thread := range []int{3, 4, -1, -2, 1 << 32, -1 << 32, math.MinInt, math.MaxInt} {
		wrong = append(wrong, steps(thread), []api.Pick{drain(thread)}, steps(0, thread, 0), []api.Pick{step(0), drain(thread), step(0)}, steps(0, 0, thread))
	}
	p := jumping()
	for _, l := range wrong {
		if row, is := cross.Cross(p, l); is || len(row) > 0 {
			t.Errorf("%+v: %v %v", l, row, is)
		}
		// Where there are fences, some of these rows can be done, so that Lower is held against that alone.
		for _, g := range [][]int{nil, {7}, {6, 10}, {-1, 11}} {
			holdAll(t, p, g, l)
			if q, is := cross.Raise(p, g, l); is || len(q) > 0 {
				t.Errorf("%v, %+v: %+v %v", g, l, q, is)
			}
		}
		if q, is := cross.Lower(p, nil, l); is || len(q) > 0 {
			t.Errorf("%+v: %+v %v", l, q, is)
		}
	}
}

func TestLowers(t *testing.T) { // P14.1: N2; P14.2
	for i, c := range []struct {
		p       api.Prog
		g       []int
		l, want []api.Pick
	}{
		{buffering(), nil, steps(0, 0, 1, 1), steps(0, 0, 1, 1)},
		{buffering(), []int{1}, nil, nil},
		{buffering(), []int{-1, 4, 5, math.MinInt, math.MaxInt}, []api.Pick{step(0), step(1), drain(0), step(0)}, []api.Pick{step(0), step(1), drain(0), step(0)}},
		{buffering(), []int{1}, []api.Pick{step(0), drain(0), step(0), step(1), step(0)}, []api.Pick{step(0), drain(0), step(1), step(0)}},
		// A run may stop at a fence, or right behind it.
		{buffering(), []int{1}, []api.Pick{step(0), drain(0)}, []api.Pick{step(0), drain(0)}},
		{buffering(), []int{1}, []api.Pick{step(0), drain(0), step(0)}, []api.Pick{step(0), drain(0)}},
		// The row stands in any order, and a number of it again.
		{buffering(), []int{3, 0, 3, 9, 0}, []api.Pick{step(0), step(1), step(0), drain(1), step(1), step(0), step(1), drain(0)}, []api.Pick{step(1), step(0), drain(1), step(0), step(1), drain(0)}},
		// Of all steps.
		{buffering(), []int{0, 1, 2, 3}, []api.Pick{step(0), step(1), step(0), drain(0), step(0), step(1), drain(1), step(1), step(0), step(1)}, []api.Pick{step(0), drain(0), step(1), drain(1), step(0), step(1)}},
		// A fence ahead of a fence is the one that was put in; one of the code's own stays.
		{jumping(), []int{8}, []api.Pick{step(2), drain(2), step(2), step(0), step(2), step(2)}, []api.Pick{step(2), drain(2), step(0), step(2), step(2)}},
		{jumping(), []int{9}, []api.Pick{step(2), drain(2), step(2), step(0), step(2), step(0), step(2)}, []api.Pick{step(2), drain(2), step(2), step(0), step(0), step(2)}},
		{jumping(), []int{10}, []api.Pick{step(2), drain(2), step(2), step(2), step(2), step(0), step(2)}, []api.Pick{step(2), drain(2), step(2), step(2), step(0), step(2)}},
		{jumping(), []int{0, 7}, []api.Pick{step(2), step(0), step(0), step(2), drain(0), step(0)}, []api.Pick{step(0), step(2), drain(0), step(0)}},
		// A jump lands on the fence of its step, and goes past those ahead of it; one to the end past all.
		{jumping(), []int{5}, []api.Pick{step(0), drain(0), step(0), step(0), step(0), step(2), step(0), step(0)}, []api.Pick{step(0), drain(0), step(0), step(0), step(2), step(0), step(0)}},
		{jumping(), []int{3, 4}, steps(0, 0, 0, 2, 0, 0), steps(0, 0, 0, 2, 0, 0)},
		{jumping(), []int{6, 7}, []api.Pick{step(0), step(0), drain(0), step(0), step(0), step(0), step(2), step(0), step(2)}, []api.Pick{step(0), step(0), drain(0), step(0), step(0), step(0), step(2)}},
	} {
		holdAll(t, c.p, c.g, c.l)
		if got, is := cross.Lower(c.p, c.g, c.l); !is || !slices.Equal(got, c.want) {
			t.Errorf("%d: %+v %v, not %+v", i, got, is, c.want)
		}
	}
	// What the code itself can do, but not with its fences, which wait, and are steps more.
	for i, c := range []struct {
		p api.Prog
		g []int
		l []api.Pick
	}{
		{buffering(), []int{1}, steps(0, 0)},
		{buffering(), []int{3}, steps(0, 0, 1, 1)},
		{buffering(), []int{1, 3}, []api.Pick{step(0), step(1), drain(0), step(0), step(1)}},
		{buffering(), []int{0}, []api.Pick{step(0), drain(0)}},
		{buffering(), []int{2}, []api.Pick{step(0), step(1), drain(1)}},
		{jumping(), []int{5}, steps(0, 0, 0, 0)},
	} {
		holdAll(t, c.p, c.g, c.l)
		if got, is := cross.Lower(c.p, c.g, c.l); is || len(got) > 0 || !holdCross(t, c.p, c.l) {
			t.Errorf("%d: %+v %v", i, got, is)
		}
	}
}

func TestRaises(t *testing.T) { // P14.1: N3; P14.3
	for i, c := range []struct {
		p       api.Prog
		g       []int
		l, want []api.Pick
	}{
		{buffering(), nil, steps(0, 0, 1, 1), steps(0, 0, 1, 1)},
		{buffering(), []int{1}, nil, nil},
		// What is no slot's tells nothing, not of drains either.
		{buffering(), []int{-1, 4, 5, math.MinInt, math.MaxInt}, []api.Pick{step(0), step(1), drain(0), step(0)}, []api.Pick{step(0), step(1), drain(0), step(0)}},
		{buffering(), []int{1}, []api.Pick{step(0), drain(0), step(1), step(0)}, []api.Pick{step(0), drain(0), step(1), step(0), step(0)}},
		{buffering(), []int{1}, []api.Pick{step(0), drain(0)}, []api.Pick{step(0), drain(0)}},
		{buffering(), []int{1}, steps(0, 1, 1), steps(0, 1, 1)},
		{buffering(), []int{3, 0, 3, 9, 0}, []api.Pick{step(0), step(1), drain(1), step(0), drain(0), step(1)}, []api.Pick{step(0), step(0), step(1), drain(1), step(0), drain(0), step(1), step(1)}},
		{buffering(), []int{0, 1, 2, 3}, []api.Pick{step(0), drain(0), step(1), drain(1), step(0), step(1)}, []api.Pick{step(0), step(0), drain(0), step(1), step(1), drain(1), step(0), step(0), step(1), step(1)}},
		// What crosses other slots may be raised; and what goes past the row's.
		{buffering(), []int{0, 3}, steps(0, 0, 1), steps(0, 0, 0, 1)},
		{jumping(), []int{3, 4}, steps(0, 0, 0, 2, 0, 0), steps(0, 0, 0, 2, 0, 0)},
		{jumping(), []int{5}, []api.Pick{step(0), step(0), step(0), drain(0), step(2), step(0), step(0)}, []api.Pick{step(0), step(0), step(0), drain(0), step(2), step(0), step(0), step(0)}},
		{jumping(), []int{7, 8, 10}, []api.Pick{step(2), step(0), drain(2), step(2), step(0), step(2), step(2)}, []api.Pick{step(2), step(2), step(0), drain(2), step(2), step(2), step(0), step(2), step(2), step(2)}},
		{jumping(), []int{6}, []api.Pick{step(0), step(0), step(0), step(0), drain(0), step(0)}, []api.Pick{step(0), step(0), step(0), step(0), drain(0), step(0), step(0)}},
	} {
		holdAll(t, c.p, c.g, c.l)
		if got, is := cross.Raise(c.p, c.g, c.l); !is || !slices.Equal(got, c.want) {
			t.Errorf("%d: %+v %v, not %+v", i, got, is, c.want)
		}
	}
	for i, c := range []struct {
		p api.Prog
		g []int
		l []api.Pick
	}{
		{buffering(), []int{1}, steps(0, 0)},
		{buffering(), []int{1}, []api.Pick{step(0), step(0), drain(0), step(1)}},
		{buffering(), []int{3}, steps(0, 0, 1, 1)},
		{buffering(), []int{9, 1, 3, 1}, []api.Pick{step(0), step(1), drain(0), step(0), step(1)}},
		{jumping(), []int{6}, steps(0, 0, 0, 0, 0)},
		{jumping(), []int{2}, steps(0, 0, 0)},
	} {
		holdAll(t, c.p, c.g, c.l)
		if got, is := cross.Raise(c.p, c.g, c.l); is || len(got) > 0 || !holdCross(t, c.p, c.l) {
			t.Errorf("%d: %+v %v", i, got, is)
		}
	}
}

func TestAllSteps(t *testing.T) { // P14.1: what crosses its slot hangs on what is on its way alone
	ahead := []api.Pick{step(1), drain(1), step(1)}
	for _, x := range samples.AllSteps(math.MinInt, 0, 5, math.MaxInt) {
		if x.To > 0 {
			x.To++
		}
		p := api.Prog{Init: []int{5, 6}, Threads: [][]api.Step{{waiting()}, {put(0, 7), x, waiting(), waiting()}}}
		for _, g := range [][]int{nil, {0}, {1}, {2}, {3}, {4}, {3, 2}, {0, 1, 2, 3, 4}} {
			holdAll(t, p, g, steps(1, 1))
			holdAll(t, p, g, ahead)
			holdAll(t, p, g, append(slices.Clone(ahead), step(1), step(1)))
			holdAll(t, p, g, append(slices.Clone(ahead), drain(1), step(1), step(1)))
		}
		waits := x.Op == api.OpFence || x.Op == api.OpXchg
		if row, is := cross.Cross(p, steps(1, 1)); is == waits || is && !slices.Equal(row, []int{2}) {
			t.Errorf("%+v: %v %v", x, row, is)
		}
		if row, is := cross.Cross(p, ahead); !is || len(row) > 0 {
			t.Errorf("%+v: %v %v", x, row, is)
		}
		if l, is := cross.Raise(p, []int{2}, ahead); !is || !slices.Equal(l, append(slices.Clone(ahead), step(1))) {
			t.Errorf("%+v: %+v %v", x, l, is)
		}
	}
}

// everyRow has f told all rows of a code of which all picks can be done, but perhaps the last one.
func everyRow(p api.Prog, f func([]api.Pick)) {
	var behind func([]api.Pick, api.State)
	behind = func(l []api.Pick, s api.State) {
		for thread := -1; thread <= len(p.Threads); thread++ {
			for _, k := range []api.Pick{step(thread), drain(thread)} {
				more := append(slices.Clone(l), k)
				f(more)
				if q, is := tso.Step(p, s, k); is {
					behind(more, q)
				}
			}
		}
	}
	f(nil)
	behind(nil, sc.Begin(p))
}

// everySet are all rows, each rising, of numbers below n.
func everySet(n int) [][]int {
	all := [][]int{nil}
	for i := range n {
		for _, g := range all {
			all = append(all, append(slices.Clone(g), i))
		}
	}
	return all
}

func TestAllRunsOfSmallCodes(t *testing.T) { // P14.1, P14.2, P14.3
	for _, threads := range [][][]api.Step{
		{{put(0, 1), load(0, 1)}, {put(1, 1)}},
		{{put(0, 1), load(0, 1)}, nil, {swapping()}},
		{{put(0, 1), waiting()}, {{Op: api.OpJe, To: 2}, put(0, 2)}},
		{{{Op: api.OpCmp}, {Op: api.OpJe, To: 3}, put(0, 7), {Op: api.OpStore, Reg: 2, Loc: 1}}},
		{nil},
	} {
		p := api.Prog{Init: []int{3, 4}, Threads: threads}
		for _, g := range everySet(slots.Many(p)) {
			everyRow(p, func(l []api.Pick) { holdCross(t, p, l); holdRaise(t, p, g, l) })
			everyRow(slots.Insert(p, g), func(l []api.Pick) { holdLower(t, p, g, l) })
		}
	}
}

func TestLooseEndsCross(t *testing.T) { // P14.1, P14.2, P14.3: the document's examples 7, 8 and 10
	p := buffering()
	// read is what both threads have read in the end.
	read := func(p api.Prog, l []api.Pick) ([2]int, bool) {
		o, is := run.Ends(p, l, true)
		if !is {
			return [2]int{}, false
		}
		return [2]int{o.Regs[0], o.Regs[4]}, true
	}
	ends, loose := map[[2]int]bool{}, map[[2]bool]bool{}
	everyRow(p, func(l []api.Pick) {
		end, is := read(p, l)
		if !is {
			return
		}
		ends[end] = true
		// The end that strict runs don't have is come to by crossing a read's slot; a fence at the other one's does not hinder that.
		if end != [2]int{0, 0} {
			return
		}
		row, _ := cross.Cross(p, l)
		loose[[2]bool{slices.Contains(row, 1), slices.Contains(row, 3)}] = true
		for _, g := range [][]int{{1}, {3}} {
			up, is := cross.Raise(p, g, l)
			if is == has(row, g) {
				t.Errorf("%+v crosses %v, raised to %v: %+v %v", l, row, g, up, is)
			}
			if end, ended := read(slots.Insert(p, g), up); is && (!ended || end != [2]int{0, 0}) {
				t.Errorf("%+v, raised to %v: %+v", l, g, up)
			}
		}
	})
	if len(ends) != 4 || len(loose) != 3 || loose[[2]bool{}] {
		t.Error(ends, loose)
	}
	both, many := slots.Insert(p, []int{1, 3}), 0
	everyRow(both, func(l []api.Pick) {
		q, is := cross.Lower(p, []int{1, 3}, l)
		if end, ended := read(p, q); is && ended {
			many++
			if end == [2]int{0, 0} {
				t.Errorf("%+v, lowered: %+v", l, q)
			}
		}
	})
	if many == 0 {
		t.Error("no run ends")
	}
}

// anyPicks are a row of picks, all of which can be done, up to an end or not so far; in some rows any other pick stands somewhere. In some rows drains are rare, in some frequent.
func anyPicks(d *samples.Dice, p api.Prog) []api.Pick {
	var l []api.Pick
	s, most, eager := sc.Begin(p), []int{d.Below(50), 1000}[d.Below(2)], d.Below(3) > 0
	for picks := tso.Picks(p, s); len(picks) > 0 && len(l) < most; picks = tso.Picks(p, s) {
		k := picks[d.Below(len(picks))]
		if at := slices.IndexFunc(picks, func(k api.Pick) bool { return k.Drain }); eager && at >= 0 && d.Below(8) > 0 {
			k = picks[at]
		}
		l = append(l, k)
		s, _ = tso.Step(p, s, k)
	}
	if d.Below(4) == 0 {
		l = slices.Insert(l, d.Below(len(l)+1), api.Pick{Thread: d.Below(5) - 1, Drain: d.Below(2) == 0})
	}
	return l
}

// anyRow is a row of numbers, of which some are slots: few, or many.
func anyRow(d *samples.Dice, many int) []int {
	var g []int
	for range []int{d.Below(3), d.Below(many + 2)}[d.Below(2)] {
		g = append(g, []int{d.Below(many + 1), d.Below(many + 1), d.Below(many + 3), -1 - d.Below(2), math.MinInt, math.MaxInt}[d.Below(6)])
	}
	return g
}

func TestManyRuns(t *testing.T) { // P14.1, P14.2, P14.3
	d := samples.Dice(14)
	met, dropped, laid, ended := map[string]int{}, 0, 0, 0
	count := func(what string, is bool) {
		if !is {
			what = "not " + what
		}
		met[what]++
	}
	for range 8000 {
		p := d.ShortCode()
		g := anyRow(&d, slots.Many(p))
		q := slots.Insert(p, g)
		if !code.Right(p) || !code.Right(q) {
			t.Fatalf("not right: %v %+v", g, p)
		}
		l, m := anyPicks(&d, p), anyPicks(&d, q)
		count("crossed", holdCross(t, p, l))
		count("raised", holdRaise(t, p, g, l))
		count("lowered", holdLower(t, p, g, m))
		if up, is := cross.Raise(p, g, l); is && len(up) > len(l) {
			laid++
		}
		if down, is := cross.Lower(p, g, m); is && len(down) < len(m) {
			dropped++
			// Raised again, it comes to the same end, even where a drain was between a fence and its step.
			if o, is := run.Ends(q, m, true); is {
				up, _ := cross.Raise(p, g, down)
				if again, is := run.Ends(q, up, true); !is || !alike(again, o) {
					t.Fatalf("fences %v: %+v along %+v: %+v, and along %+v: %+v", g, p, m, o, up, again)
				}
				ended++
			}
		}
	}
	for _, what := range []string{"crossed", "raised", "lowered"} {
		if met[what] < 1000 || met["not "+what] < 1000 {
			t.Error(met)
		}
	}
	if laid < 500 || dropped < 500 || ended < 500 {
		t.Error(laid, dropped, ended)
	}
}

func TestLongRowsEnd(t *testing.T) { // P1
	const n = 3_000_000
	row := make([]int, n)
	for i := range row {
		row[i] = (n - i) * 7 % 1000
	}
	p := jumping()
	for _, k := range []api.Pick{step(0), step(1), drain(0), step(2), step(math.MinInt), drain(math.MaxInt)} {
		l := append([]api.Pick{step(0)}, slices.Repeat([]api.Pick{k}, n)...)
		for _, g := range [][]int{nil, row} {
			if up, is := cross.Raise(p, g, l); is || len(up) > 0 {
				t.Error(k, len(up), is)
			}
			if down, is := cross.Lower(p, g, l); is || len(down) > 0 {
				t.Error(k, len(down), is)
			}
		}
		if c, is := cross.Cross(p, l); is || len(c) > 0 {
			t.Error(k, len(c), is)
		}
	}
	// The longest threads that may be, all of whose steps write, and fences everywhere.
	long := slices.Repeat([]api.Step{put(0, 1)}, 40)
	p = api.Prog{Init: []int{5}, Threads: [][]api.Step{long, long, long}}
	l := slices.Repeat(steps(2, 0, 1), 40)
	holdAll(t, p, nil, l)
	if c, is := cross.Cross(p, l); !is || len(c) != 3*39 || slices.Contains(c, 0) || slices.Contains(c, 40) || slices.Contains(c, 80) || c[116] != 119 {
		t.Error(c, is)
	}
	l = slices.Repeat([]api.Pick{step(2), step(0), drain(2), step(1), drain(1), drain(0)}, 40)
	holdAll(t, p, row[:1000], l)
	if up, is := cross.Raise(p, row, l); !is || len(up) != len(l)+120 {
		t.Error(len(up), is)
	} else if down, is := cross.Lower(p, row, up); !is || !slices.Equal(down, l) {
		t.Error(down, is)
	}
}

// codeWithRoom has spare room everywhere.
func codeWithRoom() api.Prog {
	steps := func(l ...api.Step) []api.Step { return samples.Roomy(api.Step{Op: 66}, l...) }
	return api.Prog{Init: samples.Roomy(66, 5, 6), Threads: samples.Roomy(steps(), steps(put(0, 1), load(2, 1)), steps(put(1, 1), load(0, 0)))}
}

// rowWithRoom and picksWithRoom are such as can be asked of it, with spare room.
func rowWithRoom() []int { return samples.Roomy(66, 3, -1, 0, 3) }

func picksWithRoom() []api.Pick {
	return samples.Roomy(step(66), step(1), step(0), drain(1), step(0), step(1), drain(0))
}

func fencedPicksWithRoom() []api.Pick {
	return samples.Roomy(step(66), step(0), step(1), drain(1), step(1), step(0), step(0), step(1), drain(0))
}

// answer is all that the calls answer, along the picks up to one of them.
type answer struct {
	crossed       []int
	lower, raise  []api.Pick
	lowest, plain []api.Pick
}

func asked(p api.Prog, g []int, l, m []api.Pick, upTo int) answer {
	var a answer
	l, m = l[:min(upTo, len(l))], m[:min(upTo, len(m))]
	a.crossed, _ = cross.Cross(p, l)
	a.lower, _ = cross.Lower(p, g, m)
	a.raise, _ = cross.Raise(p, g, l)
	a.lowest, _ = cross.Lower(p, g[:0], l)
	a.plain, _ = cross.Raise(p, g[:0], l)
	return a
}

func alikeAnswers(a, b answer) bool {
	return slices.Equal(a.crossed, b.crossed) && slices.Equal(a.lower, b.lower) && slices.Equal(a.raise, b.raise) && slices.Equal(a.lowest, b.lowest) && slices.Equal(a.plain, b.plain)
}

func overwrite(a answer) {
	samples.Overwrite(a.crossed, 77)
	for _, l := range [][]api.Pick{a.lower, a.raise, a.lowest, a.plain} {
		samples.Overwrite(l, step(77))
	}
}

func TestAnswersHangOnArgumentsAlone(t *testing.T) { // P3
	p, g, l, m := codeWithRoom(), rowWithRoom(), picksWithRoom(), fencedPicksWithRoom()
	if a := asked(p, g, l, m, 8); !slices.Equal(a.crossed, []int{1}) || len(a.lower) != 6 || len(a.raise) != 8 || len(a.plain) != 6 || len(a.lowest) != 6 {
		t.Errorf("%+v", a)
	}
	for upTo := range 9 {
		want := asked(codeWithRoom(), rowWithRoom(), picksWithRoom(), fencedPicksWithRoom(), upTo)
		for range 3 {
			a := asked(p, g, l, m, upTo)
			if !alikeAnswers(a, want) {
				t.Fatalf("%+v, not %+v", a, want)
			}
			overwrite(a)
			if !reflect.DeepEqual(samples.WholeCode(p), samples.WholeCode(codeWithRoom())) || !slices.Equal(g[:cap(g)], rowWithRoom()[:cap(g)]) || !slices.Equal(l[:cap(l)], picksWithRoom()[:cap(l)]) || !slices.Equal(m[:cap(m)], fencedPicksWithRoom()[:cap(m)]) {
				t.Fatalf("what was handed in was changed: %+v, %v, %+v, %+v", p, g, l, m)
			}
		}
	}
}

func TestAnswersAreKeptByNobody(t *testing.T) { // P3
	for upTo := range 9 {
		p, g, l, m := codeWithRoom(), rowWithRoom(), picksWithRoom(), fencedPicksWithRoom()
		want := asked(codeWithRoom(), rowWithRoom(), picksWithRoom(), fencedPicksWithRoom(), upTo)
		a := asked(p, g, l, m, upTo)
		samples.Overwrite(p.Init, 77)
		for _, x := range p.Threads {
			samples.Overwrite(x, api.Step{Op: 77})
		}
		samples.Overwrite(g, 77)
		samples.Overwrite(l, step(77))
		samples.Overwrite(m, step(77))
		if !alikeAnswers(a, want) {
			t.Errorf("%+v, not %+v", a, want)
		}
	}
}
