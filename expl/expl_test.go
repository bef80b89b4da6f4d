package expl_test

import (
	"fmt"
	"math"
	"reflect"
	"slices"
	"testing"

	"fencepost/api"
	"fencepost/code"
	"fencepost/expl"
	"fencepost/outs"
	"fencepost/run"
	"fencepost/samples"
	"fencepost/sc"
	"fencepost/tso"
)

// The chapter's words once more, each asked for by itself.

// ahead: is the row of picks a ahead of b?
func ahead(a, b []api.Pick) bool {
	if len(a) != len(b) {
		return len(a) < len(b)
	}
	for i, k := range a {
		if k.Thread != b[i].Thread {
			return k.Thread < b[i].Thread
		}
		if k.Drain != b[i].Drain {
			return !k.Drain
		}
	}
	return false
}

// does is what a run makes of s by the pick k, and if that can be done.
func does(p api.Prog, s api.State, k api.Pick, weak bool) (api.State, bool) {
	if weak {
		return tso.Step(p, s, k)
	}
	if k.Drain {
		return s, false
	}
	return sc.Step(p, s, k.Thread)
}

// anyPicks are all picks of these threads, the last one first.
func anyPicks(p api.Prog) []api.Pick {
	var l []api.Pick
	for thread := len(p.Threads) - 1; thread >= 0; thread-- {
		l = append(l, api.Pick{Thread: thread, Drain: true}, api.Pick{Thread: thread})
	}
	return l
}

// known is what is known of a state: it, and the row of picks ahead of those others that were met.
type known struct {
	state api.State
	way   []api.Pick
}

// ways are all states that are reached, with their ways: rows of picks are made longer, and better ones kept, until there is none.
func ways(p api.Prog, weak bool) map[string]known {
	first := sc.Begin(p)
	m := map[string]known{fmt.Sprint(first): {state: first}}
	work := []string{fmt.Sprint(first)}
	for len(work) > 0 {
		// The newest is taken first, so that states are met by long ways, too.
		x := m[work[len(work)-1]]
		work = work[:len(work)-1]
		for _, k := range anyPicks(p) {
			s, can := does(p, x.state, k, weak)
			if !can {
				continue
			}
			way := append(slices.Clone(x.way), k)
			if old, is := m[fmt.Sprint(s)]; !is || ahead(way, old.way) {
				m[fmt.Sprint(s)] = known{s, way}
				work = append(work, fmt.Sprint(s))
			}
		}
	}
	return m
}

// rows are the states that all rows of picks lead to, each row gone along for itself.
func rows(p api.Prog, weak bool) map[string]known {
	m := map[string]known{}
	var on func(s api.State, l []api.Pick)
	on = func(s api.State, l []api.Pick) {
		if old, is := m[fmt.Sprint(s)]; !is || ahead(l, old.way) {
			m[fmt.Sprint(s)] = known{s, slices.Clone(l)}
		}
		for _, k := range anyPicks(p) {
			if q, can := does(p, s, k, weak); can {
				on(q, append(l, k))
			}
		}
	}
	on(sc.Begin(p), nil)
	return m
}

// ends are those of the states that are over, each with the row of picks ahead of all others that lead to one that has it.
func ends(p api.Prog, m map[string]known) map[string]api.Found {
	found := map[string]api.Found{}
	for _, x := range m {
		over, o := true, api.Out{Mem: x.state.Mem}
		for i, th := range x.state.Ths {
			over = over && th.At == len(p.Threads[i]) && len(th.Buf) == 0
			o.Regs = append(o.Regs, th.Regs...)
		}
		old, is := found[fmt.Sprint(o)]
		if over && (!is || ahead(x.way, old.Picks)) {
			found[fmt.Sprint(o)] = api.Found{Out: o, Picks: x.way}
		}
	}
	return found
}

// alike: does the same stand in both rows of what was found? (An empty list may be nil or not.)
func alike(a, b []api.Found) bool {
	return slices.EqualFunc(a, b, func(x, y api.Found) bool {
		return samples.AlikeEnds(x.Out, y.Out) && slices.Equal(x.Picks, y.Picks)
	})
}

// holdNone holds that with this fuel nothing is found.
func holdNone(t *testing.T, p api.Prog, weak bool, fuel int) {
	t.Helper()
	if l, n, is := expl.Explore(p, weak, fuel); is || n != 0 || len(l) != 0 {
		t.Fatalf("%+v weak %v, fuel %d: %d ends, %d states, %v", p, weak, fuel, len(l), n, is)
	}
}

// hold holds Explore of p against what is known of all states.
func hold(t *testing.T, p api.Prog, weak bool, m map[string]known) []api.Found {
	t.Helper()
	l, n, is := expl.Explore(p, weak, len(m))
	if !is || n != len(m) {
		t.Fatalf("%+v weak %v: %d states, %v, not %d", p, weak, n, is, len(m))
	}
	want := ends(p, m)
	for _, f := range l {
		if w, is := want[fmt.Sprint(f.Out)]; !is || !alike([]api.Found{f}, []api.Found{w}) {
			t.Fatalf("%+v weak %v: %+v, not %+v %v", p, weak, f, w, is)
		}
	}
	if len(l) != len(want) || !outs.Set(expl.Ends(l)) {
		t.Fatalf("%+v weak %v: %+v, not %+v", p, weak, l, want)
	}
	for _, fuel := range []int{len(m) + 1, api.MaxFuel, api.MaxFuel + 1, math.MaxInt} {
		if more, states, is := expl.Explore(p, weak, fuel); !is || states != n || !alike(more, l) {
			t.Fatalf("%+v weak %v, fuel %d: %+v, %d, %v, not %+v, %d", p, weak, fuel, more, states, is, l, n)
		}
	}
	for _, fuel := range []int{len(m) - 1, 0, -1, math.MinInt} {
		holdNone(t, p, weak, fuel)
	}
	return l
}

// holdEnds holds that each way is that of a run that ends so, and that what a strict run ends with, a weak one does: P16.3.
func holdEnds(t *testing.T, p api.Prog, strict, loose []api.Found) {
	t.Helper()
	if len(strict) == 0 {
		t.Fatalf("%+v: no end", p)
	}
	for _, f := range loose {
		if o, is := run.Ends(p, f.Picks, true); !is || !samples.AlikeEnds(o, f.Out) {
			t.Fatalf("%+v: %+v leads to %+v %v, not %+v", p, f.Picks, o, is, f.Out)
		}
	}
	for _, f := range strict {
		if o, is := run.Ends(p, f.Picks, false); !is || !samples.AlikeEnds(o, f.Out) {
			t.Fatalf("%+v: %+v leads to %+v %v, not %+v", p, f.Picks, o, is, f.Out)
		}
		long, _ := run.Strict(p, f.Picks)
		i := slices.IndexFunc(loose, func(g api.Found) bool { return samples.AlikeEnds(f.Out, g.Out) })
		if i < 0 || ahead(long, loose[i].Picks) {
			t.Fatalf("%+v: %+v, but of weak runs %+v", p, f, loose)
		}
	}
}

// holdCode holds all of a code, of which this tells the states, and tells how many ends there are, strict and weak.
func holdCode(t *testing.T, p api.Prog, reached func(api.Prog, bool) map[string]known) (int, int) {
	t.Helper()
	strict, loose := hold(t, p, false, reached(p, false)), hold(t, p, true, reached(p, true))
	holdEnds(t, p, strict, loose)
	return len(strict), len(loose)
}

// Some steps.
func put(loc, n int) api.Step { return api.Step{Op: api.OpPut, Loc: loc, N: n} }

func store(reg, loc int) api.Step { return api.Step{Op: api.OpStore, Reg: reg, Loc: loc} }

func load(reg, loc int) api.Step { return api.Step{Op: api.OpLoad, Reg: reg, Loc: loc} }

func xchg(reg, loc int) api.Step { return api.Step{Op: api.OpXchg, Reg: reg, Loc: loc} }

func imm(reg, n int) api.Step { return api.Step{Op: api.OpImm, Reg: reg, N: n} }

func compare(reg, n int) api.Step { return api.Step{Op: api.OpCmp, Reg: reg, N: n} }

func fence() api.Step { return api.Step{Op: api.OpFence} }

// prog is a code of two locations, which have 0 at first.
func prog(threads ...[]api.Step) api.Prog { return api.Prog{Init: []int{0, 0}, Threads: threads} }

// steps are picks of these threads' steps.
func steps(threads ...int) []api.Pick {
	var l []api.Pick
	for _, thread := range threads {
		l = append(l, api.Pick{Thread: thread})
	}
	return l
}

// drains are picks of these threads' drains.
func drains(threads ...int) []api.Pick {
	l := steps(threads...)
	for i := range l {
		l[i].Drain = true
	}
	return l
}

func TestNoSteps(t *testing.T) { // P16.1: P1, the chapter's example
	for threads := 1; threads <= api.MaxThreads; threads++ {
		for _, init := range [][]int{nil, {}, {7}, {math.MinInt, math.MaxInt, 1 << 32, 0}} {
			p := api.Prog{Init: init, Threads: make([][]api.Step, threads)}
			for _, weak := range []bool{false, true} {
				l, n, is := expl.Explore(p, weak, 1)
				if !is || n != 1 || len(l) != 1 || len(l[0].Picks) != 0 || !samples.AlikeEnds(l[0].Out, api.Out{Mem: init, Regs: make([]int, 4*threads)}) {
					t.Errorf("%v: %+v, %d, %v", p, l, n, is)
				}
				holdNone(t, p, weak, 0)
			}
			holdCode(t, p, rows)
		}
	}
}

// TestByHand holds codes whose ends, and ways, are written out.
func TestByHand(t *testing.T) { // P16.1: P1
	end := func(mem []int, regs ...int) api.Out { return api.Out{Mem: mem, Regs: regs} }
	found := func(o api.Out, l ...[]api.Pick) api.Found { return api.Found{Out: o, Picks: slices.Concat(l...)} }
	one := []int{1, 1}
	for _, c := range []struct {
		p      api.Prog
		weak   bool
		states int
		want   []api.Found
	}{
		// A read and a fence: no other row of picks can be done.
		{prog([]api.Step{load(0, 1), fence()}), true, 3, []api.Found{found(end([]int{0, 0}, 0, 0, 0, 0), steps(0, 0))}},
		// A drain is a pick of weak runs alone.
		{prog([]api.Step{put(0, 1)}), false, 2, []api.Found{found(end([]int{1, 0}, 0, 0, 0, 0), steps(0))}},
		{prog([]api.Step{put(0, 1)}), true, 3, []api.Found{found(end([]int{1, 0}, 0, 0, 0, 0), steps(0), drains(0))}},
		// As many picks each: what comes first is a step rather than a drain.
		{prog([]api.Step{put(0, 1), put(1, 1)}), true, 6, []api.Found{found(end(one, 0, 0, 0, 0), steps(0, 0), drains(0, 0))}},
		{prog([]api.Step{put(0, 1), fence()}), true, 4, []api.Found{found(end([]int{1, 0}, 0, 0, 0, 0), steps(0), drains(0), steps(0))}},
		// And a lesser thread rather than a step.
		{prog([]api.Step{put(0, 1)}, []api.Step{put(1, 1)}), true, 9, []api.Found{found(end(one, 0, 0, 0, 0, 0, 0, 0, 0), steps(0), drains(0), steps(1), drains(1))}},
		// A write of what is there already is on its way, too.
		{prog([]api.Step{put(0, 0)}), true, 3, []api.Found{found(end([]int{0, 0}, 0, 0, 0, 0), steps(0), drains(0))}},
		// Two writes of one location: the later one stays.
		{prog([]api.Step{put(0, 1)}, []api.Step{put(0, 2)}), false, 5, []api.Found{
			found(end([]int{1, 0}, 0, 0, 0, 0, 0, 0, 0, 0), steps(1, 0)),
			found(end([]int{2, 0}, 0, 0, 0, 0, 0, 0, 0, 0), steps(0, 1)),
		}},
		// Fewer picks are ahead, though their first thread is not the lesser one: both ways end alike.
		{prog([]api.Step{load(0, 0), compare(0, 1), {Op: api.OpJe, To: 4}, imm(1, 0), imm(0, 0)}, []api.Step{put(0, 1)}), false, 16, []api.Found{
			found(end([]int{1, 0}, 0, 0, 0, 0, 0, 0, 0, 0), steps(1, 0, 0, 0, 0)),
		}},
		// What a thread compared last makes states unlike, but not ends.
		{prog([]api.Step{load(0, 0), compare(0, 0), imm(0, 0)}, []api.Step{put(0, 5)}), false, 11, []api.Found{
			found(end([]int{5, 0}, 0, 0, 0, 0, 0, 0, 0, 0), steps(0, 0, 0, 1)),
		}},
		// A swap is taken at once, weak or not, and then what was there is the other's.
		{prog([]api.Step{imm(0, 1), xchg(0, 0)}, []api.Step{imm(0, 2), xchg(0, 0)}), true, 10, []api.Found{
			found(end([]int{1, 0}, 2, 0, 0, 0, 0, 0, 0, 0), steps(0, 1, 1, 0)),
			found(end([]int{2, 0}, 0, 0, 0, 0, 1, 0, 0, 0), steps(0, 0, 1, 1)),
		}},
	} {
		l, n, is := expl.Explore(c.p, c.weak, c.states)
		if !is || n != c.states || !alike(l, c.want) {
			t.Errorf("%+v weak %v: %+v, %d, %v, not %+v, %d", c.p, c.weak, l, n, is, c.want, c.states)
		}
		holdNone(t, c.p, c.weak, c.states-1)
		holdCode(t, c.p, rows)
	}
}

// TestExamplesOfTheWhole holds the tenth of the document's examples, and those ahead of it.
func TestExamplesOfTheWhole(t *testing.T) { // P16.1, P16.3
	for _, c := range []struct {
		name          string
		p             api.Prog
		strict, loose int
	}{
		{"each writes a location, and reads the other one's", prog([]api.Step{put(0, 1), load(0, 1)}, []api.Step{put(1, 1), load(0, 0)}), 3, 4},
		{"one fence alone", prog([]api.Step{put(0, 1), fence(), load(0, 1)}, []api.Step{put(1, 1), load(0, 0)}), 3, 4},
		{"a fence each", prog([]api.Step{put(0, 1), fence(), load(0, 1)}, []api.Step{put(1, 1), fence(), load(0, 0)}), 3, 3},
		{"one writes two, one reads them the other way round", prog([]api.Step{put(0, 1), put(1, 1)}, []api.Step{load(0, 1), load(1, 0)}), 3, 3},
		{"each reads a location, and writes the other one's", prog([]api.Step{load(0, 0), put(1, 1)}, []api.Step{load(0, 1), put(0, 1)}), 3, 3},
		{"its own write is read ahead of its coming there", prog([]api.Step{put(0, 1), load(0, 0), load(1, 1)}, []api.Step{put(1, 1), load(0, 1), load(1, 0)}), 3, 4},
	} {
		if strict, loose := holdCode(t, c.p, ways); strict != c.strict || loose != c.loose {
			t.Errorf("%s: %d ends, and %d", c.name, strict, loose)
		}
	}
}

// TestAllShortCodes goes along all rows of picks of all codes of two threads, each of up to two of these steps.
func TestAllShortCodes(t *testing.T) { // P16.1 to P16.3
	kinds := []api.Step{put(0, 1), store(0, 1), load(0, 0), load(1, 1), xchg(0, 0), fence(), compare(0, 1), imm(0, 1)}
	threads := [][]api.Step{nil}
	for _, x := range kinds {
		threads = append(threads, []api.Step{x})
		for _, y := range kinds {
			threads = append(threads, []api.Step{x, y})
		}
		for op := api.OpJmp; op <= api.OpJne; op++ {
			threads = append(threads, []api.Step{{Op: op, To: 2}, x})
		}
	}
	robust, weaker := 0, 0
	for i, a := range threads {
		for _, b := range threads[i:] {
			strict, loose := holdCode(t, api.Prog{Init: []int{0, 2}, Threads: [][]api.Step{b, a}}, rows)
			if strict == loose {
				robust++
			} else {
				weaker++
			}
		}
	}
	if robust < 1000 || weaker < 2 {
		t.Error(robust, weaker)
	}
}

// thrown is a right code, whose threads have up to so many steps in all, most of them writes and reads.
func thrown(d *samples.Dice, threads, most int) api.Prog {
	p := api.Prog{Init: make([]int, min(2, 1+d.Below(6)))}
	for loc := range p.Init {
		p.Init[loc] = d.Below(3)
	}
	for range threads {
		l := d.Steps(max(0, most/threads-d.Below(3)), len(p.Init))
		for at := range l {
			switch loc := d.Below(len(p.Init)); d.Below(5) {
			case 0, 1:
				l[at] = put(loc, 1+d.Below(2))
			case 2, 3:
				l[at] = load(d.Below(4), loc)
			}
		}
		p.Threads = append(p.Threads, l)
	}
	return p
}

func TestCodesOfDice(t *testing.T) { // P16.1, P16.3
	d := samples.Dice(16)
	weaker, most := 0, 0
	for range 200 {
		for _, c := range []struct{ threads, most int }{{1, 10}, {2, 8}, {2, 10}, {2, 10}, {3, 6}} {
			strict, loose := holdCode(t, thrown(&d, c.threads, c.most), ways)
			most = max(most, loose)
			if strict < loose {
				weaker++
			}
		}
	}
	if weaker < 10 || most < 10 {
		t.Error(weaker, most)
	}
}

// anyRun is one of p to its end, by whatever picks.
func anyRun(d *samples.Dice, p api.Prog, weak bool) []api.Pick {
	var l []api.Pick
	s := sc.Begin(p)
	for !run.Over(p, s) {
		k := api.Pick{Thread: d.Below(len(p.Threads)), Drain: d.Below(3) == 0}
		if q, can := does(p, s, k, weak); can {
			s, l = q, append(l, k)
		}
	}
	return l
}

func TestWhateverPicksLeadThere(t *testing.T) { // P16.2
	d := samples.Dice(162)
	looked := 0
	for range 150 {
		p := thrown(&d, 2+d.Below(2), 10)
		strict, n, is := expl.Explore(p, false, math.MaxInt)
		loose, m, isToo := expl.Explore(p, true, math.MaxInt)
		if !is || !isToo {
			continue
		}
		if m < n {
			t.Fatalf("%+v: %d states, and %d", p, n, m)
		}
		looked++
		holdEnds(t, p, strict, loose)
		for i := range 60 {
			weak := i%2 == 0
			l, found := anyRun(&d, p, weak), strict
			if weak {
				found = loose
			}
			o, over := run.Ends(p, l, weak)
			at := slices.IndexFunc(found, func(f api.Found) bool { return samples.AlikeEnds(f.Out, o) })
			if !over || at < 0 || ahead(l, found[at].Picks) {
				t.Fatalf("%+v: %+v ends with %+v %v, but found was %+v", p, l, o, over, found)
			}
		}
	}
	if looked < 100 {
		t.Error(looked)
	}
}

// TestNumbersOfAllBits holds that states whose numbers are unlike far up are two.
func TestNumbersOfAllBits(t *testing.T) { // P16.1: P1
	for _, n := range []int{1 << 8, 1 << 31, 1 << 32, math.MaxInt, math.MinInt, -1, -1 << 32} {
		p := api.Prog{Init: []int{0, 0}, Threads: [][]api.Step{{put(0, n), load(1, 1)}, {imm(3, n), store(3, 1), load(2, 0)}}}
		if strict, loose := holdCode(t, p, ways); strict != 3 || loose != 4 {
			t.Error(n, strict, loose)
		}
	}
	// Rows of numbers that would be one, if they were told without a blank, or a count, between.
	for _, a := range []int{1, 11, 111} {
		for _, b := range []int{1, 11, 111} {
			p := prog([]api.Step{put(0, a), put(1, b)}, []api.Step{put(0, b), put(1, a), load(0, 0), load(1, 1)})
			holdCode(t, p, ways)
		}
	}
}

// idle is a thread of n steps that alter nothing but its place, of which there are n + 1.
func idle(n int) []api.Step { return slices.Repeat([]api.Step{fence()}, n) }

// TestFuel holds codes that reach MaxFuel states, and one more, or less.
func TestFuel(t *testing.T) { // P16.1: P1
	for _, c := range []struct {
		p            api.Prog
		strict, weak int
	}{
		{prog(idle(19), idle(24), idle(39)), 20_000, 20_000},
		{prog(idle(19), idle(24), idle(40)), 20_500, 20_500},
		// Behind a write's step each place is one of two states, while it is on its way, and when it came there.
		{prog(idle(2), idle(58), append([]api.Step{put(0, 0)}, slices.Repeat([]api.Step{imm(0, 0)}, 55)...)), 3 * 59 * 57, 20_001},
	} {
		if !code.Right(c.p) {
			t.Fatalf("%+v", c.p)
		}
		for weak, want := range map[bool]int{false: c.strict, true: c.weak} {
			for _, fuel := range []int{math.MinInt, -1, 0, 1, want - 1, want, api.MaxFuel, api.MaxFuel + 1, 1 << 32, math.MaxInt} {
				if want > fuel || want > 20_000 {
					holdNone(t, c.p, weak, fuel)
				} else if l, n, is := expl.Explore(c.p, weak, fuel); !is || n != want || len(l) != 1 {
					t.Errorf("weak %v, fuel %d: %d ends, %d states, %v, not %d", weak, fuel, len(l), n, is, want)
				}
			}
		}
	}
}

// TestLongCodesEnd holds codes of as many steps as may be.
func TestLongCodesEnd(t *testing.T) { // P1
	long := func(x ...api.Step) []api.Step { return slices.Repeat(x, 80/len(x)) }
	for _, threads := range [][][]api.Step{
		{long(put(0, 1))}, {long(put(0, 1)), nil, nil}, {long(put(0, 1)), long(load(0, 0))},
		{long(put(0, 1), put(1, 2)), long(put(1, 1), load(0, 0)), long(store(0, 1), load(1, 0))},
		{long(put(0, 1)), long(put(0, 2)), long(put(0, 3))}, {idle(80), idle(80), idle(80)}, {long(xchg(0, 0)), long(put(0, 1))},
	} {
		p := prog(threads...)
		for _, weak := range []bool{false, true} {
			l, n, is := expl.Explore(p, weak, math.MaxInt)
			if !is {
				holdNone(t, p, weak, math.MaxInt)
			}
			for _, f := range l {
				if o, over := run.Ends(p, f.Picks, weak); !over || !samples.AlikeEnds(o, f.Out) {
					t.Errorf("%d picks, %+v: %+v %v", len(f.Picks), f.Out, o, over)
				}
			}
			if len(threads) == 1 && (n != map[bool]int{false: 81, true: 81 * 82 / 2}[weak] || len(l) != 1 || len(l[0].Picks) != map[bool]int{false: 80, true: 160}[weak]) {
				t.Error(n, len(l))
			}
		}
	}
}

// TestManyEnds holds a code that has many of them: what was read, four times, of a location that has 0, 1 and so on up to 12.
func TestManyEnds(t *testing.T) { // P16.1: P1
	var writes, reads []api.Step
	for n := range 12 {
		writes = append(writes, put(0, n+1))
	}
	for reg := range 4 {
		reads = append(reads, load(reg, 0))
	}
	l, n, is := expl.Explore(prog(writes, reads), false, math.MaxInt)
	// The numbers that are read do not fall: of ends there are as many as ways to take 4 of 16.
	if !is || n != 8567 || len(l) != 1820 || !outs.Set(expl.Ends(l)) {
		t.Error(len(l), n, is)
	}
	for _, f := range l {
		var want []api.Pick
		for _, read := range f.Out.Regs[4:] {
			// The writer is the lesser thread, but may not be ahead of what is read.
			for wrote(want) < read {
				want = append(want, api.Pick{})
			}
			want = append(want, api.Pick{Thread: 1})
		}
		for wrote(want) < 12 {
			want = append(want, api.Pick{})
		}
		if !slices.Equal(f.Picks, want) {
			t.Fatalf("%+v: %+v, not %+v", f.Out, f.Picks, want)
		}
	}
}

// wrote is how many picks of l are the first thread's.
func wrote(l []api.Pick) int {
	n := 0
	for _, k := range l {
		if k.Thread == 0 {
			n++
		}
	}
	return n
}

// TestManyStatesOfOneEnd holds codes in which many states are over whose ends are alike, since what threads compared last, and forgot, is unlike.
func TestManyStatesOfOneEnd(t *testing.T) { // P16.1: P1
	forgets := func(reg, n int) []api.Step {
		return []api.Step{load(0, 0), compare(0, n), imm(0, 0), load(reg, 0)}
	}
	var writes []api.Step
	for n := range 7 {
		writes = append(writes, put(0, n+1))
	}
	for n := range 9 {
		for _, p := range []api.Prog{prog(writes, forgets(1, n)), prog(forgets(3, n), writes), prog(forgets(1, n), writes[:2], forgets(2, 1))} {
			m := ways(p, false)
			over := 0
			for _, x := range m {
				if run.Over(p, x.state) {
					over++
				}
			}
			l := hold(t, p, false, m)
			if n > 0 && n <= 2 && over < len(l)+4 {
				t.Error(n, over, len(l))
			}
		}
	}
}

func TestEnds(t *testing.T) { // P16.1: P1, Ends
	o := func(l ...int) api.Out { return api.Out{Mem: l, Regs: []int{7}} }
	for _, l := range [][]api.Out{nil, {o(1)}, {o(2), o(1), o(2)}, {{}, o(), o(3, 4), {}}} {
		var found []api.Found
		for i, x := range l {
			found = append(found, api.Found{Out: x, Picks: steps(make([]int, i)...)})
		}
		if got := expl.Ends(found); !samples.AlikeRows(got, l) {
			t.Errorf("%+v, not %+v", got, l)
		}
	}
}

// roomy is what was found, with spare room everywhere.
func roomy(l []api.Found) []api.Found {
	var c []api.Found
	for i, o := range samples.RoomyEnds(expl.Ends(l)) {
		c = append(c, api.Found{Out: o, Picks: samples.Roomy(api.Pick{Thread: 66}, slices.Clone(l[i].Picks)...)})
	}
	return samples.Roomy(api.Found{Picks: drains(66)}, c...)
}

// roomyCode is p, with spare room everywhere.
func roomyCode(p api.Prog) api.Prog {
	c := api.Prog{Init: samples.Roomy(66, slices.Clone(p.Init)...)}
	for _, l := range p.Threads {
		c.Threads = append(c.Threads, samples.Roomy(put(66, 66), slices.Clone(l)...))
	}
	c.Threads = samples.Roomy(idle(66), c.Threads...)
	return c
}

// endsOf are the ends of what was found, with its spare room.
func endsOf(l []api.Found) []api.Out {
	var o []api.Out
	for _, f := range l[:cap(l)] {
		o = append(o, f.Out)
	}
	return o
}

// whole is all that there is of what was found, with the spare room of all its lists.
func whole(l []api.Found) []any {
	all := append([]any{len(l)}, samples.WholeEnds(endsOf(l))...)
	for _, f := range l[:cap(l)] {
		all = append(all, len(f.Picks), f.Picks[:cap(f.Picks)])
	}
	return all
}

// overwrite writes over all of what was found.
func overwrite(l []api.Found) {
	samples.OverwriteEnds(endsOf(l))
	for _, f := range l[:cap(l)] {
		samples.Overwrite(f.Picks, api.Pick{Thread: 77})
	}
	samples.Overwrite(l, api.Found{Picks: drains(77)})
}

// apart: do no two rows of picks that were found share room, and no two lists of their ends? It writes over all of them.
func apart(l []api.Found) bool {
	for i, f := range l[:cap(l)] {
		samples.Overwrite(f.Picks, api.Pick{Thread: 100 + i})
	}
	for i, f := range l[:cap(l)] {
		if slices.ContainsFunc(f.Picks[:cap(f.Picks)], func(k api.Pick) bool { return k.Thread != 100+i }) {
			return false
		}
	}
	return samples.ApartEnds(endsOf(l))
}

// asked are the codes that the tests of P3 ask for.
func asked() []api.Prog {
	return []api.Prog{
		{Threads: [][]api.Step{nil}},
		{Init: []int{3, 4, 5}, Threads: [][]api.Step{{}, {fence()}}},
		prog([]api.Step{put(0, 1), load(0, 1), fence()}, []api.Step{put(1, 1), load(0, 0)}),
		prog([]api.Step{imm(0, 1), xchg(0, 0), store(0, 1)}, []api.Step{put(0, 2)}, []api.Step{load(3, 0), {Op: api.OpCmp, Reg: 3, N: 1}, {Op: api.OpJe, To: 4}, load(2, 1)}),
	}
}

func TestAnswersHangOnArgumentsAlone(t *testing.T) { // P3
	for _, p := range asked() {
		for _, weak := range []bool{false, true} {
			want, states, _ := expl.Explore(p, weak, math.MaxInt)
			want = roomy(want)
			old, ends := whole(roomy(want)), samples.CloneEnds(expl.Ends(want))
			c := roomyCode(p)
			for range 3 {
				got, n, is := expl.Explore(c, weak, math.MaxInt)
				o := expl.Ends(want)
				if !is || n != states || !alike(got, want) || !samples.AlikeRows(o, ends) {
					t.Fatalf("%+v weak %v: %+v, %d, %v, ends %+v", p, weak, got, n, is, o)
				}
				holdNone(t, c, weak, states-1)
				// What is written into one answer, and its spare room, must be seen in no other one.
				overwrite(got)
				samples.OverwriteEnds(o)
				if !reflect.DeepEqual(samples.WholeCode(c), samples.WholeCode(roomyCode(p))) || !reflect.DeepEqual(whole(want), old) {
					t.Fatalf("what was handed in was changed: %+v, %+v", c, want)
				}
			}
		}
	}
}

func TestAnswersAreKeptByNobody(t *testing.T) { // P3
	for i, p := range asked() {
		c := roomyCode(p)
		got, _, _ := expl.Explore(c, true, math.MaxInt)
		want := roomy(got)
		handed := roomy(got)
		o := expl.Ends(handed)
		overwrite(handed)
		samples.Overwrite(c.Init, 77)
		for _, l := range c.Threads {
			samples.Overwrite(l, put(0, 77))
		}
		again, _, _ := expl.Explore(asked()[i], true, math.MaxInt)
		if !alike(got, want) || !alike(again, want) || !samples.AlikeRows(o, expl.Ends(want)) {
			t.Errorf("%+v: %+v, then %+v, ends %+v", p, got, again, o)
		}
	}
}

func TestNoTwoListsShareRoom(t *testing.T) { // P3
	shared := []int{5, 6, 7, 8}
	for _, p := range asked() {
		for _, weak := range []bool{false, true} {
			l, _, _ := expl.Explore(p, weak, math.MaxInt)
			if o := expl.Ends(l); !samples.ApartEnds(o) || !apart(l) {
				t.Errorf("%+v weak %v: %+v", p, weak, l)
			}
			// What is handed in may share its lists.
			for i := range l {
				l[i].Out = api.Out{Mem: shared[:i%4], Regs: shared}
			}
			if o := expl.Ends(l); !samples.ApartEnds(o) || !slices.Equal(shared, []int{5, 6, 7, 8}) {
				t.Errorf("%+v", o)
			}
		}
	}
}
