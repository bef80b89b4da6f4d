package sc_test

import (
	"math"
	"reflect"
	"slices"
	"testing"

	"fencepost/api"
	"fencepost/code"
	"fencepost/samples"
	"fencepost/sc"
)

// The chapter's words once more, each asked for by itself.

// right is what Right is to be: what may not be is looked for, thing by thing.
func right(p api.Prog, s api.State) bool {
	wrong := 0
	if len(s.Mem) != len(p.Init) || len(s.Ths) != len(p.Threads) {
		return false
	}
	places := map[int]bool{}
	for loc := range s.Mem {
		places[loc] = true
	}
	for i, th := range s.Ths {
		ats := map[int]bool{len(p.Threads[i]): true}
		for at := range p.Threads[i] {
			ats[at] = true
		}
		if !ats[th.At] || len(th.Regs) != 4 {
			wrong++
		}
		for _, w := range th.Buf {
			if !places[w.Loc] {
				wrong++
			}
		}
	}
	return wrong == 0
}

// part is what a state has at one place: of a thread a register, where it is, or what it compared; of thread -1 a location.
type part struct {
	thread int
	what   string
	n      int
}

// facts are all that a state has, but for what is on its way.
func facts(s api.State) map[part]int {
	m := map[part]int{}
	for loc, n := range s.Mem {
		m[part{-1, "loc", loc}] = n
	}
	for i, th := range s.Ths {
		m[part{i, "at", 0}] = th.At
		for reg, n := range th.Regs {
			m[part{i, "reg", reg}] = n
		}
		m[part{i, "eq", 0}] = 0
		if th.Eq {
			m[part{i, "eq", 0}] = 1
		}
	}
	return m
}

// stepped is what facts say behind a thread's step, and if there is one: each kind of step says what it alters.
func stepped(p api.Prog, s api.State, thread int) (map[part]int, bool) {
	old, m := facts(s), facts(s)
	at, there := old[part{thread, "at", 0}]
	if thread == -1 || !there || at == len(p.Threads[thread]) {
		return m, false
	}
	x := p.Threads[thread][at]
	here, reg, loc, eq := part{thread, "at", 0}, part{thread, "reg", x.Reg}, part{-1, "loc", x.Loc}, part{thread, "eq", 0}
	m[here] = at + 1
	switch {
	case x.Op == api.OpImm:
		m[reg] = x.N
	case x.Op == api.OpLoad:
		m[reg] = old[loc]
	case x.Op == api.OpStore:
		m[loc] = old[reg]
	case x.Op == api.OpPut:
		m[loc] = x.N
	case x.Op == api.OpXchg:
		m[reg], m[loc] = old[loc], old[reg]
	case x.Op == api.OpCmp && old[reg] == x.N:
		m[eq] = 1
	case x.Op == api.OpCmp:
		m[eq] = 0
	case x.Op == api.OpJmp, x.Op == api.OpJe && old[eq] == 1, x.Op == api.OpJne && old[eq] == 0:
		m[here] = x.To
	}
	return m, true
}

// holdStep holds Step of this thread against the chapter's words, and P10.2 and P10.3, too.
func holdStep(t *testing.T, p api.Prog, s api.State, thread int) (api.State, bool) {
	t.Helper()
	q, is := sc.Step(p, s, thread)
	want, there := stepped(p, s, thread)
	if is != there || !reflect.DeepEqual(facts(q), want) {
		t.Fatalf("thread %d of %+v in %+v: %+v %v, not %v %v", thread, p, s, q, is, want, there)
	}
	if !is && !samples.Alike(q, s) {
		t.Fatalf("thread %d of %+v in %+v is not as it was: %+v", thread, p, s, q)
	}
	for i, th := range q.Ths {
		if !slices.Equal(th.Buf, s.Ths[i].Buf) {
			t.Fatalf("what is on its way: %+v, not %+v", q, s)
		}
		if i != thread && !samples.Alike(api.State{Ths: []api.Th{th}}, api.State{Ths: s.Ths[i : i+1]}) {
			t.Fatalf("thread %d of %+v altered thread %d: %+v, not %+v", thread, p, i, q, s)
		}
	}
	many := 0
	for loc := range q.Mem {
		if q.Mem[loc] != s.Mem[loc] {
			many++
		}
	}
	if many > 1 || is && q.Ths[thread].At <= s.Ths[thread].At || !sc.Right(p, q) {
		t.Fatalf("thread %d of %+v in %+v: %+v", thread, p, s, q)
	}
	return q, is
}

// one is a code of one thread, and locations that have 5 and 6 at first.
func one(steps ...api.Step) api.Prog {
	return api.Prog{Init: []int{5, 6}, Threads: [][]api.Step{steps}}
}

// state is one of a thread that is at this place, of these registers and locations, with something on its way.
func state(at int, eq bool, regs [4]int, mem ...int) api.State {
	return api.State{Mem: mem, Ths: []api.Th{{At: at, Eq: eq, Regs: regs[:], Buf: []api.Write{{Loc: 1, N: 40}, {Loc: 0, N: 41}}}}}
}

func TestWhatIsRight(t *testing.T) { // P10.1: J1
	p := api.Prog{Init: []int{5, 6}, Threads: [][]api.Step{{{Op: api.OpFence}, {Op: api.OpFence}}, nil}}
	for i, c := range []struct {
		turn func(*api.State)
		want bool
	}{
		{func(s *api.State) {}, true},
		{func(s *api.State) { s.Mem = []int{math.MinInt, math.MaxInt} }, true},
		{func(s *api.State) { s.Mem = nil }, false},
		{func(s *api.State) { s.Mem = []int{5} }, false},
		{func(s *api.State) { s.Mem = []int{5, 6, 7} }, false},
		{func(s *api.State) { s.Ths = nil }, false},
		{func(s *api.State) { s.Ths = s.Ths[:1] }, false},
		{func(s *api.State) { s.Ths = append(s.Ths, s.Ths[1]) }, false},
		{func(s *api.State) { s.Ths[0].At = 1 }, true},
		{func(s *api.State) { s.Ths[0].At = 2 }, true},
		{func(s *api.State) { s.Ths[0].At = 3 }, false},
		{func(s *api.State) { s.Ths[0].At = -1 }, false},
		{func(s *api.State) { s.Ths[0].At = math.MinInt }, false},
		{func(s *api.State) { s.Ths[0].At = math.MaxInt }, false},
		// The other thread has no steps.
		{func(s *api.State) { s.Ths[1].At = 1 }, false},
		{func(s *api.State) { s.Ths[1].At = -1 }, false},
		{func(s *api.State) { s.Ths[0].Regs = []int{math.MinInt, -1, 1, math.MaxInt} }, true},
		{func(s *api.State) { s.Ths[0].Regs = make([]int, 3) }, false},
		{func(s *api.State) { s.Ths[1].Regs = make([]int, 5) }, false},
		{func(s *api.State) { s.Ths[1].Regs = nil }, false},
		{func(s *api.State) { s.Ths[0].Eq = true }, true},
		{func(s *api.State) { s.Ths[1].Buf = []api.Write{} }, true},
		{func(s *api.State) { s.Ths[1].Buf = []api.Write{{Loc: 1, N: 7}, {Loc: 0, N: -7}, {Loc: 1, N: 7}} }, true},
		{func(s *api.State) { s.Ths[1].Buf = []api.Write{{Loc: 2}} }, false},
		{func(s *api.State) { s.Ths[0].Buf = []api.Write{{Loc: -1}} }, false},
		{func(s *api.State) { s.Ths[0].Buf = []api.Write{{Loc: 1}, {Loc: 0}, {Loc: 2}} }, false},
		{func(s *api.State) { s.Ths[0].Buf = []api.Write{{Loc: 2}, {Loc: 0}} }, false},
		{func(s *api.State) { s.Ths[0].Buf = []api.Write{{Loc: math.MinInt}} }, false},
		{func(s *api.State) { s.Ths[1].Buf = []api.Write{{Loc: math.MaxInt}} }, false},
	} {
		s := sc.Begin(p)
		c.turn(&s)
		if got := sc.Right(p, s); got != c.want || right(p, s) != c.want {
			t.Errorf("%d: %v: %+v", i, got, s)
		}
	}
	// Without locations nothing can be on its way.
	none := api.Prog{Threads: [][]api.Step{nil}}
	s := sc.Begin(none)
	if !sc.Right(none, s) {
		t.Error(s)
	}
	s.Ths[0].Buf = []api.Write{{}}
	if sc.Right(none, s) || sc.Right(p, api.State{}) || sc.Right(none, api.State{}) {
		t.Error(s)
	}
}

func TestBegins(t *testing.T) { // P10.1: J1
	for i, c := range []struct {
		p    api.Prog
		want api.State
	}{
		{api.Prog{Threads: [][]api.Step{nil}}, api.State{Ths: []api.Th{{Regs: make([]int, 4)}}}},
		{one(api.Step{Op: api.OpImm, N: 9}), api.State{Mem: []int{5, 6}, Ths: []api.Th{{Regs: make([]int, 4)}}}},
		{api.Prog{Init: []int{math.MinInt, 0, -1, math.MaxInt}, Threads: [][]api.Step{nil, {{Op: api.OpFence}}, nil}}, api.State{Mem: []int{math.MinInt, 0, -1, math.MaxInt}, Ths: []api.Th{{Regs: make([]int, 4)}, {Regs: make([]int, 4)}, {Regs: make([]int, 4)}}}},
	} {
		if s := sc.Begin(c.p); !samples.Alike(s, c.want) || !sc.Right(c.p, s) {
			t.Errorf("%d: %+v", i, s)
		}
	}
}

func TestSteps(t *testing.T) { // P10.1: J2
	regs := [4]int{10, 11, 12, 13}
	for i, c := range []struct {
		step  api.Step
		s     api.State
		after api.State
	}{
		{api.Step{Op: api.OpImm, Reg: 2, N: -9}, state(0, true, regs, 5, 6), state(1, true, [4]int{10, 11, -9, 13}, 5, 6)},
		// What is on its way is not looked at: what the location has is 6.
		{api.Step{Op: api.OpLoad, Reg: 3, Loc: 1}, state(0, false, regs, 5, 6), state(1, false, [4]int{10, 11, 12, 6}, 5, 6)},
		{api.Step{Op: api.OpStore, Reg: 3, Loc: 0}, state(0, true, regs, 5, 6), state(1, true, regs, 13, 6)},
		{api.Step{Op: api.OpPut, Loc: 1, N: math.MinInt}, state(0, false, regs, 5, 6), state(1, false, regs, 5, math.MinInt)},
		// The chapter's example: xchg of 5 and 7.
		{api.Step{Op: api.OpXchg, Reg: 1, Loc: 0}, state(0, true, [4]int{0, 7, 0, 0}, 5, 6), state(1, true, [4]int{0, 5, 0, 0}, 7, 6)},
		{api.Step{Op: api.OpXchg, Reg: 0, Loc: 1}, state(0, false, [4]int{6, 7, 8, 9}, 5, 6), state(1, false, [4]int{6, 7, 8, 9}, 5, 6)},
		// A fence doesn't wait, though something is on its way.
		{api.Step{Op: api.OpFence}, state(0, true, regs, 5, 6), state(1, true, regs, 5, 6)},
		{api.Step{Op: api.OpCmp, Reg: 2, N: 12}, state(0, false, regs, 5, 6), state(1, true, regs, 5, 6)},
		{api.Step{Op: api.OpCmp, Reg: 2, N: 12}, state(0, true, regs, 5, 6), state(1, true, regs, 5, 6)},
		{api.Step{Op: api.OpCmp, Reg: 2, N: 13}, state(0, true, regs, 5, 6), state(1, false, regs, 5, 6)},
		{api.Step{Op: api.OpCmp, Reg: 2, N: 13}, state(0, false, regs, 5, 6), state(1, false, regs, 5, 6)},
		{api.Step{Op: api.OpCmp, Reg: 3, N: math.MinInt}, state(0, false, [4]int{0, 0, 0, math.MinInt}, 5, 6), state(1, true, [4]int{0, 0, 0, math.MinInt}, 5, 6)},
		{api.Step{Op: api.OpJmp, To: 2}, state(0, false, regs, 5, 6), state(2, false, regs, 5, 6)},
		{api.Step{Op: api.OpJmp, To: 3}, state(0, true, regs, 5, 6), state(3, true, regs, 5, 6)},
		{api.Step{Op: api.OpJmp, To: 1}, state(0, true, regs, 5, 6), state(1, true, regs, 5, 6)},
		{api.Step{Op: api.OpJe, To: 3}, state(0, true, regs, 5, 6), state(3, true, regs, 5, 6)},
		{api.Step{Op: api.OpJe, To: 3}, state(0, false, regs, 5, 6), state(1, false, regs, 5, 6)},
		{api.Step{Op: api.OpJne, To: 3}, state(0, false, regs, 5, 6), state(3, false, regs, 5, 6)},
		{api.Step{Op: api.OpJne, To: 3}, state(0, true, regs, 5, 6), state(1, true, regs, 5, 6)},
	} {
		p := one(c.step, api.Step{Op: api.OpPut, N: 99}, api.Step{Op: api.OpImm, N: 99})
		if !code.Right(p) || !sc.Right(p, c.s) {
			t.Fatalf("%d: not right", i)
		}
		if q, is := holdStep(t, p, c.s, 0); !is || !samples.Alike(q, c.after) {
			t.Errorf("%d: %+v %v, not %+v", i, q, is, c.after)
		}
	}
}

func TestNoSteps(t *testing.T) { // P10.1: J2, wrong threads, and those at their ends
	p := api.Prog{Init: []int{5}, Threads: [][]api.Step{{{Op: api.OpPut, N: 8}, {Op: api.OpPut, N: 9}}, nil}}
	s := sc.Begin(p)
	s.Ths[1].Regs[3], s.Ths[1].Eq, s.Ths[0].Buf = 7, true, []api.Write{{Loc: 0, N: 1}}
	for _, thread := range []int{1, 2, 3, -1, -2, 1 << 32, math.MinInt, math.MaxInt} {
		if q, is := holdStep(t, p, s, thread); is || !samples.Alike(q, s) {
			t.Errorf("%d: %+v %v", thread, q, is)
		}
	}
	for at, want := range []bool{true, true, false} {
		s.Ths[0].At = at
		if _, is := holdStep(t, p, s, 0); is != want {
			t.Error(at, is)
		}
	}
	// Without locations there are steps all the same.
	none := api.Prog{Threads: [][]api.Step{{{Op: api.OpImm, Reg: 1, N: 4}, {Op: api.OpCmp, Reg: 1, N: 4}, {Op: api.OpFence}, {Op: api.OpJe, To: 5}, {Op: api.OpFence}, {Op: api.OpJne, To: 7}, {Op: api.OpJmp, To: 7}}}}
	q := sc.Begin(none)
	for _, at := range []int{1, 2, 3, 5, 6, 7} {
		is := false
		if q, is = holdStep(t, none, q, 0); !is || q.Ths[0].At != at {
			t.Fatalf("%+v %v", q, is)
		}
	}
	if q, is := holdStep(t, none, q, 0); is || q.Ths[0].Regs[1] != 4 || !q.Ths[0].Eq {
		t.Errorf("%+v %v", q, is)
	}
}

func TestAllSteps(t *testing.T) { // P10.1, P10.3
	edges := []int{math.MinInt, -1 << 32, -1, 0, 1, 6, 1 << 32, math.MaxInt}
	for _, x := range samples.AllSteps(edges...) {
		p := one(x, api.Step{Op: api.OpFence}, api.Step{Op: api.OpFence})
		p.Threads = append(p.Threads, p.Threads[0])
		if !code.Right(p) {
			t.Fatalf("not right: %+v", p)
		}
		for i := range edges {
			edge := func(k int) int { return edges[(i+k)%len(edges)] }
			for _, eq := range []bool{false, true} {
				s := state(0, eq, [4]int{edge(0), edge(1), edge(2), edge(3)}, edge(4), edge(5))
				s.Ths = append(s.Ths, state(0, !eq, [4]int{edge(3), edge(5), edge(7), edge(1)}).Ths...)
				holdStep(t, p, s, 0)
				holdStep(t, p, s, 1)
			}
		}
	}
}

func TestManyCodes(t *testing.T) { // P10.1, P10.2, P10.3
	d := samples.Dice(1)
	kinds, taken := map[int]int{}, map[bool]int{}
	for range 1500 {
		p := d.Code()
		if !code.Right(p) {
			t.Fatalf("not right: %+v", p)
		}
		most := 0
		for i, steps := range p.Threads {
			most += len(steps)
			holdStep(t, p, d.State(p), i)
		}
		s := sc.Begin(p)
		if d.Below(2) == 0 {
			s = d.State(p)
		}
		// A run takes each step at most once, so that it ends.
		many, open := 0, len(p.Threads)
		for open > 0 {
			thread := d.Below(len(p.Threads))
			if at := s.Ths[thread].At; at < len(p.Threads[thread]) {
				kinds[p.Threads[thread][at].Op]++
			}
			was := s.Ths[thread].At
			q, is := holdStep(t, p, s, thread)
			if is {
				many++
				taken[q.Ths[thread].At > was+1]++
			}
			open = 0
			for i, th := range q.Ths {
				if th.At < len(p.Threads[i]) {
					open++
				}
			}
			s = q
		}
		if many > most {
			t.Fatalf("%d steps, but there are %d: %+v", many, most, p)
		}
		for thread := range p.Threads {
			if q, is := holdStep(t, p, s, thread); is || !samples.Alike(q, s) {
				t.Fatalf("a thread at its end steps: %+v, %+v", s, q)
			}
		}
	}
	for op := api.OpImm; op <= api.OpJne; op++ {
		if kinds[op] < 1000 {
			t.Errorf("too few of kind %d: %v", op, kinds)
		}
	}
	if taken[true] < 1000 || taken[false] < 1000 {
		t.Error(taken)
	}
}

func TestManyStates(t *testing.T) { // P10.1: J1
	d := samples.Dice(2)
	met := map[bool]int{}
	for range 20_000 {
		p := d.Code()
		s := d.State(p)
		if !sc.Right(p, s) {
			t.Fatalf("%+v: %+v", p, s)
		}
		i := d.Below(len(s.Ths))
		th := &s.Ths[i]
		switch d.Below(7) {
		case 0:
			s.Mem = make([]int, d.Below(6))
		case 1:
			s.Ths = slices.Repeat(s.Ths, d.Below(3))
		case 2:
			th.At = d.Below(100) - 9
		case 3:
			th.Regs = make([]int, d.Below(6))
		case 4:
			th.Buf = append(th.Buf, api.Write{Loc: d.Below(6) - 1})
		case 5:
			th.Buf = slices.Insert(th.Buf, 0, api.Write{Loc: d.Below(6) - 1})
		case 6:
			// A state of another code, which may be right for this one, too.
			s = d.State(d.Code())
		}
		got := sc.Right(p, s)
		if got != right(p, s) {
			t.Fatalf("%v: %+v: %+v", got, p, s)
		}
		met[got]++
	}
	if met[true] < 1000 || met[false] < 1000 {
		t.Error(met)
	}
}

func TestStatesOfAnySizeEnd(t *testing.T) { // P1
	p := one(api.Step{Op: api.OpPut, Loc: 1, N: 9})
	s := sc.Begin(p)
	const n = 3_000_000
	s.Ths[0].Buf = slices.Repeat([]api.Write{{Loc: 1, N: 3}}, n)
	if q, is := sc.Step(p, s, 0); !sc.Right(p, s) || !is || len(q.Ths[0].Buf) != n || !slices.Equal(q.Mem, []int{5, 9}) {
		t.Error(is, len(q.Ths), q.Mem)
	}
	s.Ths[0].Buf[n-1].Loc = 2
	if sc.Right(p, s) || sc.Right(p, api.State{Mem: make([]int, n)}) || sc.Right(p, api.State{Mem: []int{5, 6}, Ths: make([]api.Th, n)}) {
		t.Error("not right")
	}
	// Right is asked of states of any kind, and of a thread's place that its steps do not have.
	if sc.Right(p, api.State{Mem: []int{5, 6}, Ths: []api.Th{{At: math.MinInt, Regs: make([]int, n)}}}) {
		t.Error("not right")
	}
}

// codeWithRoom and stateWithRoom have spare room everywhere.
func codeWithRoom() api.Prog {
	steps := func(l ...api.Step) []api.Step { return samples.Roomy(api.Step{Op: 66}, l...) }
	return api.Prog{Init: samples.Roomy(66, 5, 6), Threads: samples.Roomy(steps(), steps(api.Step{Op: api.OpXchg, Reg: 1, Loc: 1}), steps(), steps(api.Step{Op: api.OpPut, N: 9}, api.Step{Op: api.OpImm, Reg: 3, N: 4}, api.Step{Op: api.OpCmp, Reg: 3, N: 0}))}
}

func stateWithRoom(at int) api.State {
	th := func(at int, l ...api.Write) api.Th {
		return api.Th{At: at, Regs: samples.Roomy(66, 1, 2, 3, 4), Buf: samples.Roomy(api.Write{N: 66}, l...)}
	}
	return api.State{Mem: samples.Roomy(66, 7, 8), Ths: samples.Roomy(th(66), th(0, api.Write{Loc: 1, N: 3}), th(0), th(at, api.Write{N: 4}, api.Write{Loc: 1, N: 5}))}
}

func TestAnswersHangOnArgumentsAlone(t *testing.T) { // P3
	p := codeWithRoom()
	for at := range 4 {
		s := stateWithRoom(at)
		for range 3 {
			for thread := -1; thread <= 3; thread++ {
				q, _ := holdStep(t, p, s, thread)
				samples.OverwriteState(q)
			}
			if !sc.Right(p, s) {
				t.Fatalf("%+v", s)
			}
			first := sc.Begin(p)
			if !samples.Alike(first, api.State{Mem: []int{5, 6}, Ths: slices.Repeat([]api.Th{{Regs: make([]int, 4)}}, 3)}) {
				t.Fatalf("%+v", first)
			}
			samples.OverwriteState(first)
		}
		if !reflect.DeepEqual(samples.WholeState(s), samples.WholeState(stateWithRoom(at))) || !reflect.DeepEqual(samples.WholeCode(p), samples.WholeCode(codeWithRoom())) {
			t.Fatalf("what was handed in was changed: %+v, %+v", p, s)
		}
	}
}

func TestAnswersAreKeptByNobody(t *testing.T) { // P3
	p, s := codeWithRoom(), stateWithRoom(0)
	first := sc.Begin(p)
	swapped, _ := sc.Step(p, s, 0)
	same, _ := sc.Step(p, s, 1)
	none, _ := sc.Step(p, s, 5)
	samples.OverwriteState(s)
	samples.Overwrite(p.Init, 77)
	for _, q := range []api.State{same, none} {
		if !samples.Alike(q, stateWithRoom(0)) {
			t.Errorf("%+v", q)
		}
	}
	want := stateWithRoom(0)
	want.Mem[1], want.Ths[0].Regs[1], want.Ths[0].At = 2, 8, 1
	if !samples.Alike(swapped, want) || !slices.Equal(first.Mem, []int{5, 6}) {
		t.Errorf("%+v, %+v", swapped, first)
	}
}

func TestNoTwoListsShareRoom(t *testing.T) { // P3
	p, s := codeWithRoom(), stateWithRoom(0)
	begun := sc.Begin(p)
	stepped, _ := sc.Step(p, s, 2)
	same, _ := sc.Step(p, s, -1)
	for i, q := range []api.State{begun, stepped, same} {
		if !samples.Apart(q) {
			t.Errorf("%d: %+v", i, q)
		}
	}
}
