package run_test

import (
	"math"
	"reflect"
	"slices"
	"testing"

	"fencepost/api"
	"fencepost/code"
	"fencepost/run"
	"fencepost/samples"
	"fencepost/sc"
	"fencepost/tso"
)

// The chapter's words once more, each asked for by itself.

// step and drain are the picks of a thread.
func step(thread int) api.Pick { return api.Pick{Thread: thread} }

func drain(thread int) api.Pick { return api.Pick{Thread: thread, Drain: true} }

// steps are picks of these threads' steps.
func steps(threads ...int) []api.Pick {
	var l []api.Pick
	for _, thread := range threads {
		l = append(l, step(thread))
	}
	return l
}

// states are all that a run comes to, the one at which it starts first.
func states(p api.Prog, l []api.Pick, weak bool) []api.State {
	if len(l) == 0 {
		return []api.State{sc.Begin(p)}
	}
	last := len(l) - 1
	ahead, k := states(p, l[:last], weak), l[last]
	s := samples.Clone(ahead[len(ahead)-1])
	q, is := s, false
	switch {
	case len(ahead) <= last:
		// One of the picks ahead can't be done.
	case weak:
		q, is = tso.Step(p, s, k)
	case !k.Drain:
		q, is = sc.Step(p, s, k.Thread)
	}
	if !is {
		return ahead
	}
	return append(ahead, q)
}

// over is what Over is to be: what is still to be done is looked for.
func over(p api.Prog, s api.State) bool {
	left := 0
	for i, th := range s.Ths {
		left += len(p.Threads[i]) - th.At + len(th.Buf)
	}
	return left == 0
}

// end is what End is to be.
func end(s api.State) api.Out {
	var regs []int
	for _, th := range s.Ths {
		for _, n := range th.Regs {
			regs = append(regs, n)
		}
	}
	return api.Out{Mem: s.Mem, Regs: regs}
}

// strictly is what Strict is to be, of picks behind which a strict run comes to these states.
func strictly(p api.Prog, l []api.Pick, at []api.State) []api.Pick {
	var weak []api.Pick
	for i, k := range l {
		weak = append(weak, k)
		op := p.Threads[k.Thread][at[i].Ths[k.Thread].At].Op
		if op == api.OpStore || op == api.OpPut {
			weak = append(weak, drain(k.Thread))
		}
	}
	return weak
}

// alike: does the same stand in both ends?
func alike(a, b api.Out) bool { return slices.Equal(a.Mem, b.Mem) && slices.Equal(a.Regs, b.Regs) }

// holdRun holds Run, Over, End and Ends of these picks against the chapter's words, and P13.3, too.
func holdRun(t *testing.T, p api.Prog, l []api.Pick, weak bool) {
	t.Helper()
	all := states(p, l, weak)
	many, last := len(all)-1, all[len(all)-1]
	s, n, is := run.Run(p, l, weak)
	if !samples.Alike(s, last) || n != many || is != (many == len(l)) || !sc.Right(p, s) {
		t.Fatalf("%v run of %+v along %+v: %+v %d %v, not %+v %d", weak, p, l, s, n, is, last, many)
	}
	if run.Over(p, s) != over(p, s) || !alike(run.End(s), end(last)) {
		t.Fatalf("%+v of %+v: %v, %+v", s, p, run.Over(p, s), run.End(s))
	}
	var want api.Out
	ends := is && over(p, last)
	if ends {
		want = end(last)
	}
	if o, got := run.Ends(p, l, weak); got != ends || !alike(o, want) {
		t.Fatalf("%v run of %+v along %+v ends: %+v %v, not %+v %v", weak, p, l, o, got, want, ends)
	}
	for n, want := range all {
		if s, done, is := run.Run(p, l[:n], weak); !samples.Alike(s, want) || done != n || !is {
			t.Fatalf("%v run of %+v along %+v: %+v %d %v, not %+v", weak, p, l[:n], s, done, is, want)
		}
	}
}

// holdStrict holds Strict of these picks against the chapter's words, and P13.2, too.
func holdStrict(t *testing.T, p api.Prog, l []api.Pick) ([]api.Pick, bool) {
	t.Helper()
	all := states(p, l, false)
	weak, is := run.Strict(p, l)
	if want := len(all) == len(l)+1; is != want {
		t.Fatalf("strictly %+v along %+v: %+v %v", p, l, weak, is)
	}
	if !is {
		if len(weak) > 0 {
			t.Fatalf("strictly %+v along %+v: %+v %v", p, l, weak, is)
		}
		return weak, is
	}
	if want := strictly(p, l, all); !slices.Equal(weak, want) {
		t.Fatalf("strictly %+v along %+v: %+v, not %+v", p, l, weak, want)
	}
	s, n, done := run.Run(p, weak, true)
	if q, _, _ := run.Run(p, l, false); !samples.Alike(s, q) || n != len(weak) || !done {
		t.Fatalf("%+v along %+v: %+v, but along %+v %+v", p, l, q, weak, s)
	}
	o, ends := run.Ends(p, l, false)
	if w, too := run.Ends(p, weak, true); too != ends || !alike(w, o) {
		t.Fatalf("%+v along %+v ends: %+v %v, but along %+v %+v %v", p, l, o, ends, weak, w, too)
	}
	return weak, is
}

// holdAll holds all calls along these picks.
func holdAll(t *testing.T, p api.Prog, l []api.Pick) {
	t.Helper()
	if !code.Right(p) {
		t.Fatalf("not right: %+v", p)
	}
	holdRun(t, p, l, false)
	holdRun(t, p, l, true)
	holdStrict(t, p, l)
}

func put(loc, n int) api.Step { return api.Step{Op: api.OpPut, Loc: loc, N: n} }

func load(reg, loc int) api.Step { return api.Step{Op: api.OpLoad, Reg: reg, Loc: loc} }

// mixed is two threads: one that writes twice, and waits; one that reads, and writes what it read.
func mixed() api.Prog {
	return api.Prog{Init: []int{5, 6}, Threads: [][]api.Step{
		{put(0, 1), put(1, 2), {Op: api.OpFence}},
		{load(0, 1), {Op: api.OpStore, Loc: 0}, load(2, 0)},
	}}
}

func th(at int, regs [4]int, l ...api.Write) api.Th { return api.Th{At: at, Regs: regs[:], Buf: l} }

func TestStrictRuns(t *testing.T) { // P13.1: M1
	p := mixed()
	for i, c := range []struct {
		l    []api.Pick
		mem  []int
		ths  []api.Th
		many int
	}{
		{nil, []int{5, 6}, []api.Th{th(0, [4]int{}), th(0, [4]int{})}, 0},
		{steps(0), []int{1, 6}, []api.Th{th(1, [4]int{}), th(0, [4]int{})}, 1},
		{steps(0, 0, 0), []int{1, 2}, []api.Th{th(3, [4]int{}), th(0, [4]int{})}, 3},
		{steps(1, 1, 1), []int{6, 6}, []api.Th{th(0, [4]int{}), th(3, [4]int{6, 0, 6})}, 3},
		{steps(1, 0, 1, 0, 1), []int{6, 2}, []api.Th{th(2, [4]int{}), th(3, [4]int{6, 0, 6})}, 5},
		{steps(1, 1, 0, 1, 0, 0), []int{1, 2}, []api.Th{th(3, [4]int{}), th(3, [4]int{6, 0, 1})}, 6},
		{steps(0, 0, 1, 1, 1, 0), []int{2, 2}, []api.Th{th(3, [4]int{}), th(3, [4]int{2, 0, 2})}, 6},
		// A drain can't be done, wherever it stands, and nothing behind it is.
		{[]api.Pick{drain(0)}, []int{5, 6}, []api.Th{th(0, [4]int{}), th(0, [4]int{})}, 0},
		{[]api.Pick{drain(0), step(0)}, []int{5, 6}, []api.Th{th(0, [4]int{}), th(0, [4]int{})}, 0},
		{[]api.Pick{step(0), drain(0), step(0)}, []int{1, 6}, []api.Th{th(1, [4]int{}), th(0, [4]int{})}, 1},
		{[]api.Pick{step(0), step(1), drain(1), step(1)}, []int{1, 6}, []api.Th{th(1, [4]int{}), th(1, [4]int{6})}, 2},
		// A thread at its end has no step, even if the other one has.
		{steps(0, 0, 0, 0), []int{1, 2}, []api.Th{th(3, [4]int{}), th(0, [4]int{})}, 3},
		{steps(0, 0, 0, 0, 1), []int{1, 2}, []api.Th{th(3, [4]int{}), th(0, [4]int{})}, 3},
		{steps(1, 1, 0, 1, 0, 0, 1), []int{1, 2}, []api.Th{th(3, [4]int{}), th(3, [4]int{6, 0, 1})}, 6},
		{steps(0, 2, 0), []int{1, 6}, []api.Th{th(1, [4]int{}), th(0, [4]int{})}, 1},
		{steps(-1), []int{5, 6}, []api.Th{th(0, [4]int{}), th(0, [4]int{})}, 0},
	} {
		holdAll(t, p, c.l)
		s, n, all := run.Run(p, c.l, false)
		if !samples.Alike(s, api.State{Mem: c.mem, Ths: c.ths}) || n != c.many || all != (c.many == len(c.l)) {
			t.Errorf("%d: %+v %d %v", i, s, n, all)
		}
	}
}

func TestWeakRuns(t *testing.T) { // P13.1: M1
	p := mixed()
	x1, y2, x6 := api.Write{Loc: 0, N: 1}, api.Write{Loc: 1, N: 2}, api.Write{Loc: 0, N: 6}
	for i, c := range []struct {
		l    []api.Pick
		mem  []int
		ths  []api.Th
		many int
	}{
		{nil, []int{5, 6}, []api.Th{th(0, [4]int{}), th(0, [4]int{})}, 0},
		{steps(0), []int{5, 6}, []api.Th{th(1, [4]int{}, x1), th(0, [4]int{})}, 1},
		{steps(0, 0), []int{5, 6}, []api.Th{th(2, [4]int{}, x1, y2), th(0, [4]int{})}, 2},
		{[]api.Pick{step(0), drain(0)}, []int{1, 6}, []api.Th{th(1, [4]int{}), th(0, [4]int{})}, 2},
		{[]api.Pick{step(0), step(0), drain(0)}, []int{1, 6}, []api.Th{th(2, [4]int{}, y2), th(0, [4]int{})}, 3},
		{[]api.Pick{step(0), step(0), drain(0), drain(0), step(0)}, []int{1, 2}, []api.Th{th(3, [4]int{}), th(0, [4]int{})}, 5},
		// The fence can't be done, while something is on its way, and nothing behind it is.
		{steps(0, 0, 0), []int{5, 6}, []api.Th{th(2, [4]int{}, x1, y2), th(0, [4]int{})}, 2},
		{[]api.Pick{step(0), step(0), drain(0), step(0), drain(0)}, []int{1, 6}, []api.Th{th(2, [4]int{}, y2), th(0, [4]int{})}, 3},
		{[]api.Pick{step(0), step(0), drain(0), step(0), step(1)}, []int{1, 6}, []api.Th{th(2, [4]int{}, y2), th(0, [4]int{})}, 3},
		// Of its write that is on its way a thread reads the number.
		{steps(1, 1, 1), []int{5, 6}, []api.Th{th(0, [4]int{}), th(3, [4]int{6, 0, 6}, x6)}, 3},
		{[]api.Pick{step(1), step(1), step(0), drain(0), step(1), drain(1)}, []int{6, 6}, []api.Th{th(1, [4]int{}), th(3, [4]int{6, 0, 6})}, 6},
		// Nothing to drain.
		{[]api.Pick{drain(0)}, []int{5, 6}, []api.Th{th(0, [4]int{}), th(0, [4]int{})}, 0},
		{[]api.Pick{step(0), drain(1)}, []int{5, 6}, []api.Th{th(1, [4]int{}, x1), th(0, [4]int{})}, 1},
		{[]api.Pick{step(0), drain(0), drain(0), step(1)}, []int{1, 6}, []api.Th{th(1, [4]int{}), th(0, [4]int{})}, 2},
		{[]api.Pick{step(1), step(1), step(1), step(1), drain(1)}, []int{5, 6}, []api.Th{th(0, [4]int{}), th(3, [4]int{6, 0, 6}, x6)}, 3},
		{[]api.Pick{step(0), drain(2)}, []int{5, 6}, []api.Th{th(1, [4]int{}, x1), th(0, [4]int{})}, 1},
		{[]api.Pick{step(0), drain(-1), drain(0)}, []int{5, 6}, []api.Th{th(1, [4]int{}, x1), th(0, [4]int{})}, 1},
	} {
		holdAll(t, p, c.l)
		s, n, all := run.Run(p, c.l, true)
		if !samples.Alike(s, api.State{Mem: c.mem, Ths: c.ths}) || n != c.many || all != (c.many == len(c.l)) {
			t.Errorf("%d: %+v %d %v", i, s, n, all)
		}
	}
}

func TestNoPicks(t *testing.T) { // P13.1: the chapter's example
	for i, c := range []struct {
		p    api.Prog
		want bool
		regs int
	}{
		{api.Prog{Threads: [][]api.Step{nil}}, true, 4},
		{api.Prog{Init: []int{7, 8, 9, -1}, Threads: [][]api.Step{{}, nil}}, true, 8},
		{api.Prog{Init: []int{7}, Threads: [][]api.Step{nil, nil, nil}}, true, 12},
		{api.Prog{Init: []int{7}, Threads: [][]api.Step{nil, nil, {put(0, 1)}}}, false, 12},
		{api.Prog{Init: []int{7}, Threads: [][]api.Step{{{Op: api.OpFence}}, nil, nil}}, false, 12},
	} {
		for _, weak := range []bool{false, true} {
			for _, l := range [][]api.Pick{nil, {}} {
				holdAll(t, c.p, l)
				s, n, all := run.Run(c.p, l, weak)
				if !samples.Alike(s, sc.Begin(c.p)) || n != 0 || !all || run.Over(c.p, s) != c.want {
					t.Errorf("%d: %+v %d %v", i, s, n, all)
				}
				o, is := run.Ends(c.p, l, weak)
				if is != c.want || is && (!slices.Equal(o.Mem, c.p.Init) || !slices.Equal(o.Regs, make([]int, c.regs))) || !is && len(o.Mem)+len(o.Regs) > 0 {
					t.Errorf("%d: %+v %v", i, o, is)
				}
				if w, is := run.Strict(c.p, l); !is || len(w) != 0 {
					t.Errorf("%d: %+v %v", i, w, is)
				}
			}
		}
	}
}

func TestWhatIsOver(t *testing.T) { // P13.1: M2
	p := api.Prog{Init: []int{5}, Threads: [][]api.Step{{put(0, 1), put(0, 2)}, nil, {{Op: api.OpFence}}}}
	for i, c := range []struct {
		turn func(*api.State)
		want bool
	}{
		{func(s *api.State) {}, true},
		// What locations and registers have, and what was compared, doesn't matter.
		{func(s *api.State) { s.Mem[0], s.Ths[1].Regs[3], s.Ths[2].Eq = -7, 9, true }, true},
		{func(s *api.State) { s.Ths[0].Buf, s.Ths[2].Buf = []api.Write{}, []api.Write{} }, true},
		{func(s *api.State) { s.Ths[0].At = 1 }, false},
		{func(s *api.State) { s.Ths[0].At = 0 }, false},
		{func(s *api.State) { s.Ths[2].At = 0 }, false},
		{func(s *api.State) { s.Ths[0].At, s.Ths[2].At = 0, 0 }, false},
		{func(s *api.State) { s.Ths[0].Buf = []api.Write{{}} }, false},
		{func(s *api.State) { s.Ths[1].Buf = []api.Write{{N: 5}} }, false},
		{func(s *api.State) { s.Ths[2].Buf = []api.Write{{N: 5}, {N: 6}} }, false},
		{func(s *api.State) { s.Ths[0].At, s.Ths[2].Buf = 1, []api.Write{{}} }, false},
	} {
		s := sc.Begin(p)
		for i := range s.Ths {
			s.Ths[i].At = len(p.Threads[i])
		}
		c.turn(&s)
		if !sc.Right(p, s) {
			t.Fatalf("not right: %+v", s)
		}
		if got := run.Over(p, s); got != c.want || over(p, s) != c.want {
			t.Errorf("%d: %v: %+v", i, got, s)
		}
	}
}

func TestEndsOfStates(t *testing.T) { // P13.1: M2
	lo, hi := math.MinInt, math.MaxInt
	for i, c := range []struct {
		s    api.State
		want api.Out
	}{
		{api.State{}, api.Out{}},
		{api.State{Ths: []api.Th{th(0, [4]int{1, 2, 3, 4})}}, api.Out{Regs: []int{1, 2, 3, 4}}},
		{api.State{Mem: []int{lo, hi, 0}, Ths: []api.Th{th(1, [4]int{lo, 0, -1, hi}), th(2, [4]int{}), th(0, [4]int{hi, 1, 0, lo})}}, api.Out{Mem: []int{lo, hi, 0}, Regs: []int{lo, 0, -1, hi, 0, 0, 0, 0, hi, 1, 0, lo}}},
		// What is on its way has not come there.
		{api.State{Mem: []int{7}, Ths: []api.Th{th(0, [4]int{8}, api.Write{N: 9})}}, api.Out{Mem: []int{7}, Regs: []int{8, 0, 0, 0}}},
	} {
		if o := run.End(c.s); !alike(o, c.want) || !alike(end(c.s), c.want) {
			t.Errorf("%d: %+v", i, o)
		}
	}
}

func TestWhatPicksEndWith(t *testing.T) { // P13.1: M2
	p := api.Prog{Init: []int{5, 6}, Threads: [][]api.Step{{put(0, 1), load(3, 1)}, {put(1, 2), load(0, 0)}}}
	for i, c := range []struct {
		l    []api.Pick
		weak bool
		want *api.Out
	}{
		{steps(0, 0, 1, 1), false, &api.Out{Mem: []int{1, 2}, Regs: []int{0, 0, 0, 6, 1, 0, 0, 0}}},
		{steps(1, 0, 0, 1), false, &api.Out{Mem: []int{1, 2}, Regs: []int{0, 0, 0, 2, 1, 0, 0, 0}}},
		{[]api.Pick{step(0), step(0), step(1), step(1), drain(1), drain(0)}, true, &api.Out{Mem: []int{1, 2}, Regs: []int{0, 0, 0, 6, 5, 0, 0, 0}}},
		{[]api.Pick{step(0), drain(0), step(1), step(0), step(1), drain(1)}, true, &api.Out{Mem: []int{1, 2}, Regs: []int{0, 0, 0, 6, 1, 0, 0, 0}}},
		// All can be done, but it is not over.
		{steps(0, 0, 1), false, nil},
		{nil, false, nil},
		{nil, true, nil},
		{steps(0, 0, 1, 1), true, nil},
		{[]api.Pick{step(0), step(0), step(1), step(1), drain(1)}, true, nil},
		{[]api.Pick{step(0), step(1), drain(1), drain(0), step(0)}, true, nil},
		// It is over, but a pick behind can't be done.
		{steps(0, 0, 1, 1, 1), false, nil},
		{[]api.Pick{step(0), step(0), step(1), step(1), drain(0)}, false, nil},
		{steps(0, 0, 1, 1, 2), false, nil},
		{[]api.Pick{step(0), step(0), step(1), step(1), drain(1), drain(0), drain(0)}, true, nil},
		{[]api.Pick{step(0), step(0), step(1), step(1), drain(1), drain(0), step(1)}, true, nil},
		{[]api.Pick{step(0), step(0), step(1), step(1), drain(1), drain(0), drain(-1)}, true, nil},
	} {
		holdAll(t, p, c.l)
		o, is := run.Ends(p, c.l, c.weak)
		if is != (c.want != nil) || is && !alike(o, *c.want) || !is && !alike(o, api.Out{}) {
			t.Errorf("%d: %+v %v", i, o, is)
		}
	}
}

func TestStrictPicks(t *testing.T) { // P13.1: M3
	// A swap writes, and a jump goes past a write.
	p := api.Prog{Init: []int{5, 6}, Threads: [][]api.Step{
		{{Op: api.OpImm, N: 6}, {Op: api.OpXchg}, {Op: api.OpStore, Loc: 1}, {Op: api.OpFence}, load(1, 1)},
		{load(0, 0), {Op: api.OpCmp, N: 6}, {Op: api.OpJe, To: 4}, put(1, 8), put(0, 9)},
		nil,
	}}
	for i, c := range []struct {
		l    []api.Pick
		want []api.Pick
	}{
		{steps(0, 0), steps(0, 0)},
		{steps(0, 0, 0), []api.Pick{step(0), step(0), step(0), drain(0)}},
		{steps(0, 0, 0, 0, 0), []api.Pick{step(0), step(0), step(0), drain(0), step(0), step(0)}},
		{steps(1, 1, 1), steps(1, 1, 1)},
		{steps(1, 1, 1, 1, 1), []api.Pick{step(1), step(1), step(1), step(1), drain(1), step(1), drain(1)}},
		{steps(0, 0, 1, 1, 1, 1), []api.Pick{step(0), step(0), step(1), step(1), step(1), step(1), drain(1)}},
		{steps(0, 1, 0, 1, 0, 1, 0, 1, 0), []api.Pick{step(0), step(1), step(0), step(1), step(0), drain(0), step(1), step(0), step(1), drain(1), step(0)}},
	} {
		holdAll(t, p, c.l)
		if w, is := run.Strict(p, c.l); !is || !slices.Equal(w, c.want) {
			t.Errorf("%d: %+v %v, not %+v", i, w, is, c.want)
		}
	}
	for i, l := range [][]api.Pick{
		{drain(0)}, {drain(2)}, steps(2), steps(3), steps(-1), steps(1, 1, 1, 1, 1, 1), steps(0, 0, 1, 1, 1, 1, 1),
		{step(0), step(0), step(0), drain(0)}, {step(0), step(0), step(0), drain(0), step(0)}, {step(0), drain(1), step(1)}, {step(0), step(2), step(0)},
	} {
		holdAll(t, p, l)
		if w, is := run.Strict(p, l); is || len(w) != 0 {
			t.Errorf("%d: %+v %v", i, w, is)
		}
	}
}

func TestAllSteps(t *testing.T) { // P13.1: M3; P13.2: what is drained hangs on the kind alone
	for _, x := range samples.AllSteps(math.MinInt, 0, 5, math.MaxInt) {
		p := api.Prog{Init: []int{5, 6}, Threads: [][]api.Step{nil, {x, {Op: api.OpFence}, {Op: api.OpFence}}}}
		holdAll(t, p, steps(1))
		want := steps(1)
		if x.Op == api.OpStore || x.Op == api.OpPut {
			want = append(want, drain(1))
		}
		if w, is := run.Strict(p, steps(1)); !is || !slices.Equal(w, want) {
			t.Errorf("%+v: %+v %v", x, w, is)
		}
	}
}

func TestNoThreads(t *testing.T) { // P13.1, wrong threads
	p := mixed()
	for _, thread := range []int{2, 3, -1, -2, 1 << 32, -1 << 32, math.MinInt, math.MaxInt} {
		for _, k := range []api.Pick{step(thread), drain(thread)} {
			for _, weak := range []bool{false, true} {
				l := []api.Pick{step(0), step(1), k, step(0)}
				holdAll(t, p, l)
				holdAll(t, p, l[2:])
				if _, n, all := run.Run(p, l, weak); n != 2 || all {
					t.Errorf("%+v: %d %v", k, n, all)
				}
				if _, is := run.Ends(p, l, weak); is {
					t.Errorf("%+v: %v", k, is)
				}
			}
		}
	}
}

// ends are what registers have at all ends of runs.
func ends(t *testing.T, p api.Prog, weak bool) map[[12]int]bool {
	found := map[[12]int]bool{}
	var behind func([]api.Pick)
	behind = func(l []api.Pick) {
		// A step is taken, and what it wrote comes there, at most once each.
		if len(l) > 2*6 {
			t.Fatalf("a run goes on: %+v along %+v", p, l)
		}
		if o, is := run.Ends(p, l, weak); is {
			var regs [12]int
			copy(regs[:], o.Regs)
			found[regs] = true
		}
		for i := range p.Threads {
			for _, k := range []api.Pick{step(i), drain(i)} {
				more := append(slices.Clone(l), k)
				if _, n, all := run.Run(p, more, weak); all {
					behind(more)
				} else if n != len(l) {
					t.Fatalf("along %+v: %d", more, n)
				}
			}
		}
	}
	behind(nil)
	return found
}

func TestEndsOfRuns(t *testing.T) { // P13.1, P13.2: the document's examples 8 to 10
	fence := api.Step{Op: api.OpFence}
	for i, c := range []struct {
		threads     [][]api.Step
		plain, many int
	}{
		{[][]api.Step{{put(0, 1), load(0, 1)}, {put(1, 1), load(0, 0)}}, 3, 4},
		{[][]api.Step{{put(0, 1), put(1, 1)}, {load(0, 1), load(1, 0)}}, 3, 3},
		{[][]api.Step{{put(0, 1), fence, load(0, 1)}, {put(1, 1), load(0, 0)}}, 3, 4},
		{[][]api.Step{{put(0, 1), load(0, 1)}, {put(1, 1), fence, load(0, 0)}}, 3, 4},
		{[][]api.Step{{put(0, 1), fence, load(0, 1)}, {put(1, 1), fence, load(0, 0)}}, 3, 3},
	} {
		p := api.Prog{Init: make([]int, 2), Threads: c.threads}
		plain, all := ends(t, p, false), ends(t, p, true)
		if len(plain) != c.plain || len(all) != c.many {
			t.Errorf("%d: %v, %v", i, plain, all)
		}
		for o := range plain {
			if !all[o] {
				t.Errorf("%d: %v is no end of a weak run", i, o)
			}
		}
	}
}

// rows are all of up to so many of these picks.
func rows(most int, picks ...api.Pick) [][]api.Pick {
	all := [][]api.Pick{nil}
	last := all
	for range most {
		var more [][]api.Pick
		for _, l := range last {
			for _, k := range picks {
				more = append(more, append(slices.Clone(l), k))
			}
		}
		all, last = append(all, more...), more
	}
	return all
}

func TestAllShortRows(t *testing.T) { // P13.1, P13.2, P13.3
	for _, threads := range [][][]api.Step{
		{{put(0, 1), load(0, 1)}, {put(1, 1), load(0, 0)}},
		{{put(0, 1), {Op: api.OpFence}}, {{Op: api.OpXchg}}},
		{{{Op: api.OpCmp}, {Op: api.OpJe, To: 3}, put(0, 7), {Op: api.OpStore, Reg: 2, Loc: 1}}, nil},
	} {
		p := api.Prog{Init: []int{3, 4}, Threads: threads}
		for _, l := range rows(5, step(0), drain(0), step(1), drain(1), step(2)) {
			holdAll(t, p, l)
		}
	}
}

// able are the picks that can be done.
func able(p api.Prog, s api.State, weak bool) []api.Pick {
	if weak {
		return tso.Picks(p, s)
	}
	var l []api.Pick
	for i, th := range s.Ths {
		if th.At < len(p.Threads[i]) {
			l = append(l, step(i))
		}
	}
	return l
}

// anyPicks are a row of picks, all of which can be done, up to an end or not so far; in some rows any other pick stands somewhere.
func anyPicks(d *samples.Dice, p api.Prog, weak bool) []api.Pick {
	var l []api.Pick
	s, most := sc.Begin(p), []int{d.Below(50), 1000}[d.Below(2)]
	for picks := able(p, s, weak); len(picks) > 0 && len(l) < most; picks = able(p, s, weak) {
		k := picks[d.Below(len(picks))]
		l = append(l, k)
		if weak {
			s, _ = tso.Step(p, s, k)
		} else {
			s, _ = sc.Step(p, s, k.Thread)
		}
	}
	if d.Below(3) == 0 {
		l = slices.Insert(l, d.Below(len(l)+1), api.Pick{Thread: d.Below(5) - 1, Drain: d.Below(2) == 0})
	}
	return l
}

func TestManyRuns(t *testing.T) { // P13.1, P13.2, P13.3
	d := samples.Dice(7)
	whole, part, ended, written := [2]int{}, [2]int{}, [2]int{}, 0
	for i := range 6000 {
		p := d.Code()
		weak := i % 2
		l := anyPicks(&d, p, weak == 1)
		holdAll(t, p, l)
		if _, _, all := run.Run(p, l, weak == 1); all {
			whole[weak]++
		} else {
			part[weak]++
		}
		if _, is := run.Ends(p, l, weak == 1); is && len(l) > 0 {
			ended[weak]++
		}
		if w, is := run.Strict(p, l); is && len(w) > len(l) {
			written++
		}
	}
	for weak := range 2 {
		if whole[weak] < 500 || part[weak] < 500 || ended[weak] < 100 {
			t.Error(whole, part, ended)
		}
	}
	if written < 500 {
		t.Error(written)
	}
}

func TestManyStates(t *testing.T) { // P13.1: M2
	d := samples.Dice(8)
	met := map[bool]int{}
	for range 20_000 {
		p := d.Code()
		s := d.State(p)
		for i := range s.Ths {
			if d.Below(4) > 0 {
				s.Ths[i].At = len(p.Threads[i])
			}
			if d.Below(4) > 0 {
				s.Ths[i].Buf = nil
			}
		}
		is := run.Over(p, s)
		if is != over(p, s) || !alike(run.End(s), end(s)) {
			t.Fatalf("%v, %+v: %+v, %+v", is, run.End(s), p, s)
		}
		met[is]++
	}
	if met[true] < 1000 || met[false] < 1000 {
		t.Error(met)
	}
}

func TestLongRowsEnd(t *testing.T) { // P1
	const n = 3_000_000
	p := mixed()
	for _, k := range []api.Pick{step(0), step(1), drain(1), step(2), step(math.MinInt)} {
		l := append(steps(1, 1, 1), slices.Repeat([]api.Pick{k}, n)...)
		for _, weak := range []bool{false, true} {
			if _, done, all := run.Run(p, l, weak); done < 3 || done > 6 || all {
				t.Error(k, done, all)
			}
			if o, is := run.Ends(p, l, weak); is || !alike(o, api.Out{}) {
				t.Error(k, o)
			}
		}
		if w, is := run.Strict(p, l); is || len(w) != 0 {
			t.Error(k, len(w), is)
		}
	}
	// The longest threads that may be, all of whose steps write.
	long := slices.Repeat([]api.Step{put(0, 1)}, 80)
	p = api.Prog{Init: []int{5}, Threads: [][]api.Step{long, long, long}}
	l := slices.Repeat(steps(0, 1, 2), 80)
	holdAll(t, p, l)
	if w, is := run.Strict(p, l); !is || len(w) != 2*len(l) {
		t.Error(len(w), is)
	}
	if o, is := run.Ends(p, append(l, slices.Repeat([]api.Pick{drain(2), drain(0), drain(1)}, 80)...), true); !is || !slices.Equal(o.Mem, []int{1}) {
		t.Error(o, is)
	}
	// End is asked of states that have more than a code's.
	big := api.State{Mem: make([]int, n), Ths: slices.Repeat([]api.Th{th(0, [4]int{1, 2, 3, 4})}, n/4)}
	if o := run.End(big); len(o.Mem) != n || len(o.Regs) != n || o.Regs[n-1] != 4 {
		t.Error(len(o.Mem), len(o.Regs))
	}
}

// codeWithRoom has spare room everywhere.
func codeWithRoom() api.Prog {
	steps := func(l ...api.Step) []api.Step { return samples.Roomy(api.Step{Op: 66}, l...) }
	return api.Prog{Init: samples.Roomy(66, 5, 6), Threads: samples.Roomy(steps(), steps(put(0, 1), load(2, 1)), steps(api.Step{Op: api.OpImm, Reg: 1, N: 7}, api.Step{Op: api.OpStore, Reg: 1, Loc: 1}, load(0, 0)))}
}

// strictWithRoom and weakWithRoom are rows of picks, with spare room, that go to an end of it.
func strictWithRoom() []api.Pick { return samples.Roomy(step(66), steps(0, 1, 1, 0, 1)...) }

func weakWithRoom() []api.Pick {
	return samples.Roomy(step(66), step(0), step(1), step(0), step(1), drain(1), step(1), drain(0))
}

// answer is all that the calls answer, along the strict row and the weak one, up to one of their picks.
type answer struct {
	strict, weak             api.State
	strictEnd, weakEnd, outs api.Out
	picks                    []api.Pick
}

func asked(p api.Prog, l, w []api.Pick, upTo int) answer {
	var a answer
	l, w = l[:min(upTo, len(l))], w[:min(upTo, len(w))]
	a.strict, _, _ = run.Run(p, l, false)
	a.weak, _, _ = run.Run(p, w, true)
	a.strictEnd, _ = run.Ends(p, l, false)
	a.weakEnd, _ = run.Ends(p, w, true)
	a.outs = run.End(a.weak)
	a.picks, _ = run.Strict(p, l)
	return a
}

func alikeAnswers(a, b answer) bool {
	return samples.Alike(a.strict, b.strict) && samples.Alike(a.weak, b.weak) && alike(a.strictEnd, b.strictEnd) && alike(a.weakEnd, b.weakEnd) && alike(a.outs, b.outs) && slices.Equal(a.picks, b.picks)
}

func overwrite(a answer) {
	samples.OverwriteState(a.strict)
	samples.OverwriteState(a.weak)
	for _, o := range []api.Out{a.strictEnd, a.weakEnd, a.outs} {
		samples.Overwrite(o.Mem, 77)
		samples.Overwrite(o.Regs, 77)
	}
	samples.Overwrite(a.picks, step(77))
}

func TestAnswersHangOnArgumentsAlone(t *testing.T) { // P3
	p, l, w := codeWithRoom(), strictWithRoom(), weakWithRoom()
	for upTo := range 8 {
		want := asked(codeWithRoom(), strictWithRoom(), weakWithRoom(), upTo)
		for range 3 {
			a := asked(p, l, w, upTo)
			if !alikeAnswers(a, want) {
				t.Fatalf("%+v, not %+v", a, want)
			}
			overwrite(a)
			if !reflect.DeepEqual(samples.WholeCode(p), samples.WholeCode(codeWithRoom())) || !slices.Equal(l[:cap(l)], strictWithRoom()[:cap(l)]) || !slices.Equal(w[:cap(w)], weakWithRoom()[:cap(w)]) {
				t.Fatalf("what was handed in was changed: %+v, %+v, %+v", p, l, w)
			}
		}
	}
}

// stateWithRoom has spare room everywhere.
func stateWithRoom() api.State {
	th := func(at int, n int, l ...api.Write) api.Th {
		return api.Th{At: at, Regs: samples.Roomy(66, n, n+1, n+2, n+3), Buf: samples.Roomy(api.Write{N: 66}, l...)}
	}
	return api.State{Mem: samples.Roomy(66, 7, 8), Ths: samples.Roomy(th(66, 66), th(0, 10), th(2, 20, api.Write{Loc: 1, N: 3}), th(3, 30))}
}

func TestStatesAreLeftAsTheyAre(t *testing.T) { // P3
	p, s := codeWithRoom(), stateWithRoom()
	for range 3 {
		o := run.End(s)
		if run.Over(p, s) || !alike(o, api.Out{Mem: []int{7, 8}, Regs: []int{10, 11, 12, 13, 20, 21, 22, 23, 30, 31, 32, 33}}) {
			t.Fatalf("%+v", o)
		}
		samples.Overwrite(o.Mem, 77)
		samples.Overwrite(o.Regs, 77)
		if !reflect.DeepEqual(samples.WholeState(s), samples.WholeState(stateWithRoom())) || !reflect.DeepEqual(samples.WholeCode(p), samples.WholeCode(codeWithRoom())) {
			t.Fatalf("what was handed in was changed: %+v, %+v", p, s)
		}
	}
}

func TestAnswersAreKeptByNobody(t *testing.T) { // P3
	for upTo := range 8 {
		p, l, w := codeWithRoom(), strictWithRoom(), weakWithRoom()
		want := asked(codeWithRoom(), strictWithRoom(), weakWithRoom(), upTo)
		a := asked(p, l, w, upTo)
		samples.Overwrite(p.Init, 77)
		samples.Overwrite(l, step(77))
		samples.Overwrite(w, step(77))
		if !alikeAnswers(a, want) {
			t.Errorf("%+v, not %+v", a, want)
		}
		// What End answered hangs on no list of its state.
		samples.OverwriteState(a.weak)
		if !alike(a.outs, want.outs) {
			t.Errorf("%+v, not %+v", a.outs, want.outs)
		}
	}
}

func TestNoTwoListsShareRoom(t *testing.T) { // P3
	for upTo := range 8 {
		a := asked(codeWithRoom(), strictWithRoom(), weakWithRoom(), upTo)
		if !samples.Apart(a.strict) || !samples.Apart(a.weak) {
			t.Errorf("%+v", a)
		}
		for _, o := range []api.Out{a.strictEnd, a.weakEnd, a.outs} {
			samples.Overwrite(o.Mem, 1)
			samples.Overwrite(o.Regs, 2)
			if slices.Contains(o.Mem, 2) {
				t.Errorf("%+v", o)
			}
		}
	}
}
