package tso_test

import (
	"math"
	"reflect"
	"slices"
	"testing"

	"fencepost/api"
	"fencepost/code"
	"fencepost/samples"
	"fencepost/sc"
	"fencepost/tso"
)

// The chapter's words once more, each asked for by itself.

// seen is what a thread takes a location to have: the newest write of its own that is on its way, or else what is there.
func seen(s api.State, thread, loc int) int {
	n := s.Mem[loc]
	for _, w := range s.Ths[thread].Buf {
		if w.Loc == loc {
			n = w.N
		}
	}
	return n
}

// drained is what a drain is to make.
func drained(s api.State, thread int) (api.State, bool) {
	q := samples.Clone(s)
	if len(s.Ths[thread].Buf) == 0 {
		return q, false
	}
	w := s.Ths[thread].Buf[0]
	q.Mem[w.Loc], q.Ths[thread].Buf = w.N, q.Ths[thread].Buf[1:]
	return q, true
}

// stepped is what a step is to make: each kind of step says what it needs, and what it alters.
func stepped(p api.Prog, s api.State, thread int) (api.State, bool) {
	q := samples.Clone(s)
	th := &q.Ths[thread]
	if th.At >= len(p.Threads[thread]) {
		return q, false
	}
	x, waiting := p.Threads[thread][th.At], len(th.Buf) > 0
	if waiting && (x.Op == api.OpFence || x.Op == api.OpXchg) {
		return q, false
	}
	th.At++
	switch x.Op {
	case api.OpImm:
		th.Regs[x.Reg] = x.N
	case api.OpLoad:
		th.Regs[x.Reg] = seen(s, thread, x.Loc)
	case api.OpStore:
		th.Buf = append(th.Buf, api.Write{Loc: x.Loc, N: th.Regs[x.Reg]})
	case api.OpPut:
		th.Buf = append(th.Buf, api.Write{Loc: x.Loc, N: x.N})
	case api.OpXchg:
		q.Mem[x.Loc], th.Regs[x.Reg] = s.Ths[thread].Regs[x.Reg], s.Mem[x.Loc]
	case api.OpCmp:
		th.Eq = th.Regs[x.Reg] == x.N
	}
	if x.Op == api.OpJmp || x.Op == api.OpJe && th.Eq || x.Op == api.OpJne && !th.Eq {
		th.At = x.To
	}
	return q, true
}

// picked is what Step is to be.
func picked(p api.Prog, s api.State, k api.Pick) (api.State, bool) {
	switch {
	case !slices.Contains([]int{0, 1, 2}[:len(p.Threads)], k.Thread):
		return samples.Clone(s), false
	case k.Drain:
		return drained(s, k.Thread)
	}
	return stepped(p, s, k.Thread)
}

// picks are what Picks is to be.
func picks(p api.Prog, s api.State) []api.Pick {
	var l []api.Pick
	for i := range p.Threads {
		if _, is := stepped(p, s, i); is {
			l = append(l, api.Pick{Thread: i})
		}
		if _, is := drained(s, i); is {
			l = append(l, api.Pick{Thread: i, Drain: true})
		}
	}
	return l
}

// holdStep holds Step of this pick against the chapter's words, and P11.2 and P11.3, too.
func holdStep(t *testing.T, p api.Prog, s api.State, k api.Pick) (api.State, bool) {
	t.Helper()
	q, is := tso.Step(p, s, k)
	if want, there := picked(p, s, k); is != there || !samples.Alike(q, want) {
		t.Fatalf("%+v of %+v in %+v: %+v %v, not %+v %v", k, p, s, q, is, want, there)
	}
	if !is && !samples.Alike(q, s) || !sc.Right(p, q) {
		t.Fatalf("%+v of %+v in %+v: %+v %v", k, p, s, q, is)
	}
	holdApart(t, p, s, q, k)
	if 0 <= k.Thread && k.Thread < len(s.Ths) && !k.Drain && len(s.Ths[k.Thread].Buf) == 0 {
		// P11.2
		flat := tso.Flush(p, q, k.Thread)
		if want, there := sc.Step(p, s, k.Thread); is != there || !samples.Alike(flat, want) {
			t.Fatalf("%+v of %+v in %+v, flushed: %+v %v, not %+v %v", k, p, s, flat, is, want, there)
		}
	}
	return q, is
}

// holdApart holds P11.3: k of s, which made q, altered no more than it may.
func holdApart(t *testing.T, p api.Prog, s, q api.State, k api.Pick) {
	t.Helper()
	for i, th := range q.Ths {
		was := s.Ths[i]
		if i == k.Thread && !k.Drain {
			continue
		}
		if i == k.Thread {
			was.Buf, th.Buf = nil, nil
		}
		if !samples.AlikeThreads(was, th) {
			t.Fatalf("%+v of %+v altered thread %d: %+v, not %+v", k, p, i, th, was)
		}
	}
	many := 0
	for loc, n := range q.Mem {
		if n != s.Mem[loc] {
			many++
		}
	}
	swap := !k.Drain && many > 0 && p.Threads[k.Thread][s.Ths[k.Thread].At].Op == api.OpXchg
	if many > 1 || many == 1 && !k.Drain && !swap {
		t.Fatalf("%+v of %+v altered locations: %v, not %v", k, p, q.Mem, s.Mem)
	}
}

// holdPicks holds Picks against the chapter's words, and against Step.
func holdPicks(t *testing.T, p api.Prog, s api.State) []api.Pick {
	t.Helper()
	l := tso.Picks(p, s)
	if want := picks(p, s); !slices.Equal(l, want) {
		t.Fatalf("picks of %+v in %+v: %+v, not %+v", p, s, l, want)
	}
	for i := -1; i <= len(p.Threads); i++ {
		for _, drain := range []bool{false, true} {
			k := api.Pick{Thread: i, Drain: drain}
			if _, is := tso.Step(p, s, k); is != slices.Contains(l, k) {
				t.Fatalf("picks of %+v in %+v: %+v, but %+v is %v", p, s, l, k, is)
			}
		}
	}
	return l
}

// holdFlush holds Flush of this thread against its drains.
func holdFlush(t *testing.T, p api.Prog, s api.State, thread int) api.State {
	t.Helper()
	want := samples.Clone(s)
	for is := 0 <= thread && thread < len(s.Ths); is; {
		want, is = drained(want, thread)
	}
	q := tso.Flush(p, s, thread)
	if !samples.Alike(q, want) || !sc.Right(p, q) {
		t.Fatalf("flush of thread %d of %+v in %+v: %+v, not %+v", thread, p, s, q, want)
	}
	return q
}

// holdAll holds all calls in this state.
func holdAll(t *testing.T, p api.Prog, s api.State) {
	t.Helper()
	if !code.Right(p) || !sc.Right(p, s) {
		t.Fatalf("not right: %+v, %+v", p, s)
	}
	holdPicks(t, p, s)
	for thread := -1; thread <= len(p.Threads); thread++ {
		holdFlush(t, p, s, thread)
		for _, drain := range []bool{false, true} {
			holdStep(t, p, s, api.Pick{Thread: thread, Drain: drain})
		}
	}
}

// one is a code of one thread, and locations that have 5 and 6 at first.
func one(steps ...api.Step) api.Prog {
	return api.Prog{Init: []int{5, 6}, Threads: [][]api.Step{steps}}
}

// state is one of a thread at this place, whose registers are 10 to 13 and compared so, of locations that have 5 and 6, with this on its way.
func state(at int, eq bool, l ...api.Write) api.State {
	return api.State{Mem: []int{5, 6}, Ths: []api.Th{{At: at, Regs: []int{10, 11, 12, 13}, Eq: eq, Buf: l}}}
}

func TestSteps(t *testing.T) { // P11.1: K1
	x1, y2, x3 := api.Write{Loc: 0, N: 1}, api.Write{Loc: 1, N: 2}, api.Write{Loc: 0, N: 3}
	regs := func(s api.State, l ...int) api.State {
		s.Ths[0].Regs = l
		return s
	}
	mem := func(s api.State, l ...int) api.State {
		s.Mem = l
		return s
	}
	for i, c := range []struct {
		step  api.Step
		s     api.State
		after api.State
		is    bool
	}{
		{api.Step{Op: api.OpImm, Reg: 1, N: 9}, state(0, true, x1), regs(state(1, true, x1), 10, 9, 12, 13), true},
		// Nothing of that location is on its way: what is there is read.
		{api.Step{Op: api.OpLoad, Reg: 2, Loc: 1}, state(0, false), regs(state(1, false), 10, 11, 6, 13), true},
		{api.Step{Op: api.OpLoad, Reg: 2, Loc: 1}, state(0, false, x1, x3), regs(state(1, false, x1, x3), 10, 11, 6, 13), true},
		// Else the last write to it.
		{api.Step{Op: api.OpLoad, Reg: 0, Loc: 0}, state(0, false, x1, y2), regs(state(1, false, x1, y2), 1, 11, 12, 13), true},
		{api.Step{Op: api.OpLoad, Reg: 0, Loc: 0}, state(0, false, x1, x3, y2), regs(state(1, false, x1, x3, y2), 3, 11, 12, 13), true},
		{api.Step{Op: api.OpLoad, Reg: 0, Loc: 0}, state(0, false, x1, api.Write{}), regs(state(1, false, x1, api.Write{}), 0, 11, 12, 13), true},
		{api.Step{Op: api.OpStore, Reg: 3, Loc: 1}, state(0, true), state(1, true, api.Write{Loc: 1, N: 13}), true},
		{api.Step{Op: api.OpStore, Reg: 3, Loc: 0}, state(0, true, x1, y2), state(1, true, x1, y2, api.Write{Loc: 0, N: 13}), true},
		{api.Step{Op: api.OpPut, Loc: 1, N: 4}, state(0, true), state(1, true, api.Write{Loc: 1, N: 4}), true},
		// A write of what is there already is on its way all the same, and one that is there already, once more.
		{api.Step{Op: api.OpPut, Loc: 1, N: 6}, state(0, true), state(1, true, api.Write{Loc: 1, N: 6}), true},
		{api.Step{Op: api.OpPut, Loc: 0, N: 1}, state(0, true, x1), state(1, true, x1, x1), true},
		{api.Step{Op: api.OpXchg, Reg: 1, Loc: 0}, state(0, true), mem(regs(state(1, true), 10, 5, 12, 13), 11, 6), true},
		{api.Step{Op: api.OpXchg, Reg: 1, Loc: 0}, state(0, true, x1), state(0, true, x1), false},
		// It waits for writes to other locations, too.
		{api.Step{Op: api.OpXchg, Reg: 1, Loc: 0}, state(0, true, y2), state(0, true, y2), false},
		{api.Step{Op: api.OpFence}, state(0, true), state(1, true), true},
		{api.Step{Op: api.OpFence}, state(0, true, y2), state(0, true, y2), false},
		// A comparison looks at a register, and not at what is on its way.
		{api.Step{Op: api.OpCmp, Reg: 1, N: 11}, state(0, false, x1), state(1, true, x1), true},
		{api.Step{Op: api.OpCmp, Reg: 1, N: 1}, state(0, true, x1), state(1, false, x1), true},
		{api.Step{Op: api.OpJmp, To: 3}, state(0, false, x1), state(3, false, x1), true},
		{api.Step{Op: api.OpJe, To: 2}, state(0, true, x1), state(2, true, x1), true},
		{api.Step{Op: api.OpJe, To: 2}, state(0, false, x1), state(1, false, x1), true},
		{api.Step{Op: api.OpJne, To: 2}, state(0, false, x1), state(2, false, x1), true},
		{api.Step{Op: api.OpJne, To: 2}, state(0, true, x1), state(1, true, x1), true},
	} {
		p := one(c.step, api.Step{Op: api.OpPut, N: 99}, api.Step{Op: api.OpFence})
		holdAll(t, p, c.s)
		if q, is := holdStep(t, p, c.s, api.Pick{}); is != c.is || !samples.Alike(q, c.after) {
			t.Errorf("%d: %+v %v, not %+v", i, q, is, c.after)
		}
	}
}

func TestDrains(t *testing.T) { // P11.1: K1, K2
	x1, y2, x3 := api.Write{Loc: 0, N: 1}, api.Write{Loc: 1, N: 2}, api.Write{Loc: 0, N: 3}
	for i, c := range []struct {
		l       []api.Write
		mem     []int
		left    []api.Write
		is      bool
		flushed []int
	}{
		{nil, []int{5, 6}, nil, false, []int{5, 6}},
		{[]api.Write{x1}, []int{1, 6}, nil, true, []int{1, 6}},
		// The oldest comes there first, the newest last.
		{[]api.Write{x3, y2, x1}, []int{3, 6}, []api.Write{y2, x1}, true, []int{1, 2}},
		{[]api.Write{y2, x1, x3}, []int{5, 2}, []api.Write{x1, x3}, true, []int{3, 2}},
		// What is there already comes there, too.
		{[]api.Write{{Loc: 0, N: 5}, x1}, []int{5, 6}, []api.Write{x1}, true, []int{1, 6}},
	} {
		// A drain doesn't hang on where its thread is: ahead of a fence, a swap, or at its end.
		for at := range 4 {
			p := one(api.Step{Op: api.OpFence}, api.Step{Op: api.OpXchg}, api.Step{Op: api.OpPut, N: 8})
			s := state(at, false, c.l...)
			holdAll(t, p, s)
			q, is := holdStep(t, p, s, api.Pick{Drain: true})
			if is != c.is || !slices.Equal(q.Mem, c.mem) || !slices.Equal(q.Ths[0].Buf, c.left) || q.Ths[0].At != at {
				t.Errorf("%d: %+v %v", i, q, is)
			}
			if f := holdFlush(t, p, s, 0); !slices.Equal(f.Mem, c.flushed) || len(f.Ths[0].Buf) != 0 || f.Ths[0].At != at {
				t.Errorf("%d: %+v", i, f)
			}
		}
	}
}

func TestNoThreads(t *testing.T) { // P11.1: K1, K2, wrong threads
	p := api.Prog{Init: []int{5}, Threads: [][]api.Step{{{Op: api.OpPut, N: 8}}, nil}}
	s := sc.Begin(p)
	s.Ths[0].Buf, s.Ths[1].Buf = []api.Write{{Loc: 0, N: 1}}, []api.Write{{Loc: 0, N: 2}}
	for _, thread := range []int{2, 3, -1, -2, 1 << 32, -1 << 32, math.MinInt, math.MaxInt} {
		for _, drain := range []bool{false, true} {
			if q, is := holdStep(t, p, s, api.Pick{Thread: thread, Drain: drain}); is || !samples.Alike(q, s) {
				t.Errorf("%d: %+v %v", thread, q, is)
			}
		}
		if q := holdFlush(t, p, s, thread); !samples.Alike(q, s) {
			t.Errorf("%d: %+v", thread, q)
		}
	}
	// A thread without steps has none, but its writes, if it had any, come there.
	if q, is := holdStep(t, p, s, api.Pick{Thread: 1}); is || !samples.Alike(q, s) {
		t.Errorf("%+v %v", q, is)
	}
	if q, is := holdStep(t, p, s, api.Pick{Thread: 1, Drain: true}); !is || !slices.Equal(q.Mem, []int{2}) {
		t.Errorf("%+v %v", q, is)
	}
}

func TestPicks(t *testing.T) { // P11.1: K2
	step := func(thread int) api.Pick { return api.Pick{Thread: thread} }
	drain := func(thread int) api.Pick { return api.Pick{Thread: thread, Drain: true} }
	put, fence, swap := api.Step{Op: api.OpPut}, api.Step{Op: api.OpFence}, api.Step{Op: api.OpXchg}
	w := []api.Write{{N: 3}}
	for i, c := range []struct {
		threads [][]api.Step
		bufs    [][]api.Write
		want    []api.Pick
	}{
		{[][]api.Step{nil}, [][]api.Write{nil}, nil},
		{[][]api.Step{nil, nil, nil}, [][]api.Write{nil, w, nil}, []api.Pick{drain(1)}},
		{[][]api.Step{{put}}, [][]api.Write{nil}, []api.Pick{step(0)}},
		{[][]api.Step{{put}}, [][]api.Write{w}, []api.Pick{step(0), drain(0)}},
		{[][]api.Step{{fence}}, [][]api.Write{nil}, []api.Pick{step(0)}},
		{[][]api.Step{{fence}}, [][]api.Write{w}, []api.Pick{drain(0)}},
		{[][]api.Step{{swap}}, [][]api.Write{nil}, []api.Pick{step(0)}},
		{[][]api.Step{{swap}}, [][]api.Write{w}, []api.Pick{drain(0)}},
		{[][]api.Step{{put}, {put}, {put}}, [][]api.Write{w, w, w}, []api.Pick{step(0), drain(0), step(1), drain(1), step(2), drain(2)}},
		// A thread waits but for its own writes.
		{[][]api.Step{{fence}, {put}, {swap}}, [][]api.Write{nil, w, nil}, []api.Pick{step(0), step(1), drain(1), step(2)}},
		{[][]api.Step{{swap}, nil, {fence}}, [][]api.Write{w, nil, w}, []api.Pick{drain(0), drain(2)}},
	} {
		p := api.Prog{Init: []int{5}, Threads: c.threads}
		s := sc.Begin(p)
		for i := range s.Ths {
			s.Ths[i].Buf = c.bufs[i]
		}
		holdAll(t, p, s)
		if l := tso.Picks(p, s); !slices.Equal(l, c.want) {
			t.Errorf("%d: %+v, not %+v", i, l, c.want)
		}
	}
}

func TestAWriteThenAFence(t *testing.T) { // P11.1: the chapter's example
	p := one(api.Step{Op: api.OpPut, N: 1}, api.Step{Op: api.OpFence})
	s, is := holdStep(t, p, sc.Begin(p), api.Pick{})
	if !is {
		t.Fatal(s)
	}
	if q, is := holdStep(t, p, s, api.Pick{}); is || q.Ths[0].At != 1 {
		t.Error(q)
	}
	s, is = holdStep(t, p, s, api.Pick{Drain: true})
	if !is || s.Mem[0] != 1 {
		t.Error(s)
	}
	if q, is := holdStep(t, p, s, api.Pick{}); !is || q.Ths[0].At != 2 {
		t.Error(q)
	}
}

// ends are what registers have (of each thread the first two), at all ends of weak runs; of strict ones, if each step is flushed.
func ends(p api.Prog, strict bool) map[[6]int]bool {
	found := map[[6]int]bool{}
	var from func(api.State)
	from = func(s api.State) {
		l := tso.Picks(p, s)
		for _, k := range l {
			q, _ := tso.Step(p, s, k)
			if strict {
				q = tso.Flush(p, q, k.Thread)
			}
			from(q)
		}
		if len(l) == 0 {
			var end [6]int
			for i, th := range s.Ths {
				end[2*i], end[2*i+1] = th.Regs[0], th.Regs[1]
			}
			found[end] = true
		}
	}
	from(sc.Begin(p))
	return found
}

func TestEndsOfWeakRuns(t *testing.T) { // P11.1, P11.2: the document's examples 8 to 10
	put := func(loc int) api.Step { return api.Step{Op: api.OpPut, Loc: loc, N: 1} }
	load := func(reg, loc int) api.Step { return api.Step{Op: api.OpLoad, Reg: reg, Loc: loc} }
	fence, swap := api.Step{Op: api.OpFence}, api.Step{Op: api.OpXchg, Reg: 3}
	for i, c := range []struct {
		threads     [][]api.Step
		plain, many int
	}{
		{[][]api.Step{{put(0), load(0, 1)}, {put(1), load(0, 0)}}, 3, 4},
		{[][]api.Step{{put(0), put(1)}, {load(0, 1), load(1, 0)}}, 3, 3},
		{[][]api.Step{{put(0), fence, load(0, 1)}, {put(1), load(0, 0)}}, 3, 4},
		{[][]api.Step{{put(0), load(0, 1)}, {put(1), fence, load(0, 0)}}, 3, 4},
		{[][]api.Step{{put(0), fence, load(0, 1)}, {put(1), fence, load(0, 0)}}, 3, 3},
		// A swap waits as a fence does; here it is of a location that nobody else looks at.
		{[][]api.Step{{put(0), {Op: api.OpXchg, Reg: 3, Loc: 2}, load(0, 1)}, {put(1), {Op: api.OpXchg, Reg: 3, Loc: 3}, load(0, 0)}}, 3, 3},
		{[][]api.Step{{put(0), load(0, 1)}, {put(1), {Op: api.OpXchg, Reg: 3, Loc: 3}, load(0, 0)}}, 3, 4},
		// A thread reads its own write ahead of others.
		{[][]api.Step{{put(0), load(0, 0), load(1, 1)}, {put(1), load(0, 1), load(1, 0)}}, 3, 4},
		{[][]api.Step{{put(0), swap, load(0, 0)}}, 1, 1},
	} {
		p := api.Prog{Init: make([]int, 4), Threads: c.threads}
		if !code.Right(p) {
			t.Fatalf("not right: %+v", p)
		}
		if plain, all := ends(p, true), ends(p, false); len(plain) != c.plain || len(all) != c.many {
			t.Errorf("%d: %v, %v", i, plain, all)
		}
	}
}

// buffers are all of at most that many writes to two locations; each write's number is one of these, in turn.
func buffers(most int, numbers ...int) [][]api.Write {
	all := [][]api.Write{nil}
	last := all
	for i := range most {
		var more [][]api.Write
		for _, b := range last {
			for loc := range 2 {
				more = append(more, append(slices.Clone(b), api.Write{Loc: loc, N: numbers[i%len(numbers)]}))
			}
		}
		all, last = append(all, more...), more
	}
	return all
}

func TestAllSteps(t *testing.T) { // P11.1, P11.2, P11.3
	edges := []int{math.MinInt, -1, 0, 1 << 32, math.MaxInt}
	for _, x := range samples.AllSteps(edges...) {
		p := one(x, api.Step{Op: api.OpFence}, api.Step{Op: api.OpFence})
		p.Threads = append(p.Threads, p.Threads[0])
		for i := range edges {
			edge := func(k int) int { return edges[(i+k)%len(edges)] }
			for k, b := range buffers(3, edge(1), edge(2), edge(3)) {
				s := api.State{Mem: []int{edge(0), edge(4)}, Ths: []api.Th{
					{Regs: []int{edge(0), edge(1), edge(2), edge(3)}, Eq: (i+k)%2 == 0, Buf: b},
					{Regs: []int{edge(4), edge(2), edge(0), edge(1)}, Eq: k%2 == 0, Buf: []api.Write{{Loc: k % 2, N: edge(4)}}[:i%2]},
				}}
				holdAll(t, p, s)
			}
		}
	}
}

func TestManyStates(t *testing.T) { // P11.1, P11.2, P11.3
	d := samples.Dice(4)
	for range 4000 {
		p := d.Code()
		holdAll(t, p, d.State(p))
	}
}

func TestManyRuns(t *testing.T) { // P11.1, P11.2, P11.3
	d := samples.Dice(5)
	kinds, drains, waits := map[int]int{}, 0, 0
	for range 1000 {
		p := d.Code()
		s := sc.Begin(p)
		// A step is taken, and what it wrote comes there, at most once each, so that a run ends.
		most := 0
		for _, steps := range p.Threads {
			most += 2 * len(steps)
		}
		for l := holdPicks(t, p, s); len(l) > 0; l = holdPicks(t, p, s) {
			k := l[d.Below(len(l))]
			if k.Drain {
				drains++
			} else {
				kinds[p.Threads[k.Thread][s.Ths[k.Thread].At].Op]++
			}
			if k.Drain && !slices.Contains(l, api.Pick{Thread: k.Thread}) && s.Ths[k.Thread].At < len(p.Threads[k.Thread]) {
				waits++
			}
			is := false
			if s, is = holdStep(t, p, s, k); !is {
				t.Fatalf("%+v can't be done: %+v", k, s)
			}
			if most--; most < 0 {
				t.Fatalf("a run goes on: %+v", p)
			}
		}
		for i, th := range s.Ths {
			if th.At != len(p.Threads[i]) || len(th.Buf) != 0 {
				t.Fatalf("nothing can be done, but %+v", s)
			}
		}
	}
	for op := api.OpImm; op <= api.OpJne; op++ {
		if kinds[op] < 1000 {
			t.Errorf("too few of kind %d: %v", op, kinds)
		}
	}
	if drains < 1000 || waits < 1000 {
		t.Error(drains, waits)
	}
}

func TestAsIfAtOnce(t *testing.T) { // P11.2: runs in which each step is flushed are strict
	d := samples.Dice(6)
	for range 1000 {
		p := d.Code()
		weak, strict := sc.Begin(p), sc.Begin(p)
		for range 100 {
			thread := d.Below(len(p.Threads))
			q, is := holdStep(t, p, weak, api.Pick{Thread: thread})
			weak = tso.Flush(p, q, thread)
			want, there := sc.Step(p, strict, thread)
			strict = want
			if is != there || !samples.Alike(weak, strict) {
				t.Fatalf("%+v: %+v, not %+v", p, weak, strict)
			}
		}
	}
}

func TestBuffersOfAnySizeEnd(t *testing.T) { // P1
	const n = 3_000_000
	p := one(api.Step{Op: api.OpLoad}, api.Step{Op: api.OpPut, Loc: 1, N: 9}, api.Step{Op: api.OpFence})
	s := sc.Begin(p)
	s.Ths[0].Buf = slices.Repeat([]api.Write{{Loc: 1, N: 3}}, n)
	s.Ths[0].Buf[0] = api.Write{Loc: 0, N: 7}
	q, is := tso.Step(p, s, api.Pick{})
	if !is || q.Ths[0].Regs[0] != 7 || len(q.Ths[0].Buf) != n {
		t.Error(is, q.Mem)
	}
	if q, is = tso.Step(p, q, api.Pick{}); !is || len(q.Ths[0].Buf) != n+1 {
		t.Error(is, q.Mem)
	}
	if _, is := tso.Step(p, q, api.Pick{}); is || !slices.Equal(tso.Picks(p, q), []api.Pick{{Drain: true}}) {
		t.Error(is)
	}
	if q = tso.Flush(p, q, 0); len(q.Ths[0].Buf) != 0 || !slices.Equal(q.Mem, []int{7, 9}) {
		t.Error(q)
	}
}

// codeWithRoom and stateWithRoom have spare room everywhere: a thread that writes, one that swaps, and one that is at any of its steps.
func codeWithRoom() api.Prog {
	steps := func(l ...api.Step) []api.Step { return samples.Roomy(api.Step{Op: 66}, l...) }
	return api.Prog{Init: samples.Roomy(66, 5, 6), Threads: samples.Roomy(steps(),
		steps(api.Step{Op: api.OpStore, Reg: 1, Loc: 1}), steps(api.Step{Op: api.OpXchg}),
		steps(api.Step{Op: api.OpPut, N: 9}, api.Step{Op: api.OpLoad, Reg: 3}, api.Step{Op: api.OpFence}, api.Step{Op: api.OpCmp, Reg: 3}))}
}

func stateWithRoom(at int) api.State {
	th := func(at int, l ...api.Write) api.Th {
		return api.Th{At: at, Regs: samples.Roomy(66, 1, 2, 3, 4), Buf: samples.Roomy(api.Write{N: 66}, l...)}
	}
	return api.State{Mem: samples.Roomy(66, 7, 8), Ths: samples.Roomy(th(66), th(0, api.Write{Loc: 1, N: 3}), th(0), th(at, api.Write{N: 4}, api.Write{Loc: 1, N: 5}, api.Write{Loc: 1, N: 6}))}
}

// answers are all states that the calls answer, of p and s.
func answers(p api.Prog, s api.State) []api.State {
	var l []api.State
	for thread := -1; thread <= len(p.Threads); thread++ {
		stepped, _ := tso.Step(p, s, api.Pick{Thread: thread})
		drained, _ := tso.Step(p, s, api.Pick{Thread: thread, Drain: true})
		l = append(l, stepped, drained, tso.Flush(p, s, thread))
	}
	return l
}

func TestAnswersHangOnArgumentsAlone(t *testing.T) { // P3
	p := codeWithRoom()
	for at := range 5 {
		s := stateWithRoom(at)
		holdAll(t, p, s)
		want := answers(codeWithRoom(), stateWithRoom(at))
		wantPicks := tso.Picks(codeWithRoom(), stateWithRoom(at))
		for range 3 {
			l := answers(p, s)
			if !slices.EqualFunc(l, want, samples.Alike) {
				t.Fatalf("%+v, not %+v", l, want)
			}
			for _, q := range l {
				samples.OverwriteState(q)
			}
			if !reflect.DeepEqual(samples.WholeState(s), samples.WholeState(stateWithRoom(at))) || !reflect.DeepEqual(samples.WholeCode(p), samples.WholeCode(codeWithRoom())) {
				t.Fatalf("what was handed in was changed: %+v, %+v", p, s)
			}
			picks := tso.Picks(p, s)
			if !slices.Equal(picks, wantPicks) {
				t.Fatalf("%+v, not %+v", picks, wantPicks)
			}
			samples.Overwrite(picks, api.Pick{Thread: 77})
		}
	}
}

func TestAnswersAreKeptByNobody(t *testing.T) { // P3
	for at := range 5 {
		p, s := codeWithRoom(), stateWithRoom(at)
		l := answers(p, s)
		samples.OverwriteState(s)
		samples.Overwrite(p.Init, 77)
		if want := answers(codeWithRoom(), stateWithRoom(at)); !slices.EqualFunc(l, want, samples.Alike) {
			t.Errorf("%+v, not %+v", l, want)
		}
	}
}

func TestNoTwoListsShareRoom(t *testing.T) { // P3
	p, s := codeWithRoom(), stateWithRoom(0)
	for i, q := range answers(p, s) {
		if !samples.Apart(q) {
			t.Errorf("%d: %+v", i, q)
		}
	}
}
