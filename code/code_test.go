package code_test

import (
	"math"
	"reflect"
	"slices"
	"strconv"
	"strings"
	"testing"

	"fencepost/api"
	"fencepost/code"
	"fencepost/valid"
)

// The chapter's words once more, each asked for by itself.

// stepsAhead is how many of the lines ahead of place line are no labels.
func stepsAhead(lines []api.Line, line int) int {
	return len(slices.DeleteFunc(slices.Clone(lines[:line]), isLabel))
}

func isLabel(l api.Line) bool { return l.Op == api.OpLabel }

// codeOf is the code of a right program.
func codeOf(f api.File) api.Prog {
	locs, regs := valid.Locs(f), map[string]int{"": 0, "eax": 0, "ebx": 1, "ecx": 2, "edx": 3}
	p := api.Prog{Init: make([]int, len(locs)), Threads: make([][]api.Step, len(f.Threads))}
	for _, c := range f.Init {
		p.Init[slices.Index(locs, c.Loc)] = c.N
	}
	for i, t := range f.Threads {
		for _, l := range t.Lines {
			s := api.Step{Op: l.Op, Reg: regs[l.Reg], N: l.N}
			if l.Loc != "" {
				s.Loc = slices.Index(locs, l.Loc)
			}
			if l.Op == api.OpJmp || l.Op == api.OpJe || l.Op == api.OpJne {
				s.To = stepsAhead(t.Lines, slices.Index(t.Lines, api.Line{Op: api.OpLabel, Label: l.Label}))
			}
			if !isLabel(l) {
				p.Threads[i] = append(p.Threads[i], s)
			}
		}
	}
	return p
}

// rightStep is what the chapter says of a step that is number at of so many.
func rightStep(s api.Step, at, steps, locs int) bool {
	reg, loc := s.Reg >= 0 && s.Reg <= 3, s.Loc >= 0 && s.Loc < locs
	switch s.Op {
	case api.OpImm, api.OpCmp:
		return reg && s == api.Step{Op: s.Op, Reg: s.Reg, N: s.N}
	case api.OpLoad, api.OpStore, api.OpXchg:
		return reg && loc && s == api.Step{Op: s.Op, Reg: s.Reg, Loc: s.Loc}
	case api.OpPut:
		return loc && s == api.Step{Op: s.Op, Loc: s.Loc, N: s.N}
	case api.OpFence:
		return s == api.Step{Op: s.Op}
	case api.OpJmp, api.OpJe, api.OpJne:
		return s.To > at && s.To <= steps && s == api.Step{Op: s.Op, To: s.To}
	}
	return false
}

// rightCode is what the chapter says of a code.
func rightCode(p api.Prog) bool {
	is := len(p.Init) <= 4 && len(p.Threads) > 0 && len(p.Threads) < 4
	for _, t := range p.Threads {
		is = is && len(t) <= 80
		for i, s := range t {
			is = is && rightStep(s, i, len(t), len(p.Init))
		}
	}
	return is
}

// alike: do the same things stand in both? (An empty list may be nil or not.)
func alike(p, q api.Prog) bool {
	same := func(a, b []api.Step) bool { return slices.Equal(a, b) }
	return slices.Equal(p.Init, q.Init) && slices.EqualFunc(p.Threads, q.Threads, same)
}

// hold holds Code, At and Line of f against the chapter's words; it says if f is right.
func hold(t *testing.T, f api.File) bool {
	t.Helper()
	p, e := code.Code(f)
	if is := valid.Right(f); !is {
		if e != api.ErrArg || p.Init != nil || p.Threads != nil {
			t.Fatalf("%+v %v of a wrong program: %+v", p, e, f)
		}
	} else if want := codeOf(f); e != api.OK || !alike(p, want) || !code.Right(p) {
		t.Fatalf("%+v %v, not %+v: %+v", p, e, want, f)
	}
	for i := -1; i <= len(f.Threads); i++ {
		holdPlaces(t, f, i)
	}
	return e == api.OK
}

// holdPlaces holds At and Line of a thread against the chapter's words, and one against the other.
func holdPlaces(t *testing.T, f api.File, thread int) {
	t.Helper()
	var lines []api.Line
	last := -1
	if thread >= 0 && thread < len(f.Threads) {
		lines = f.Threads[thread].Lines
		last = len(lines)
	}
	steps := 0
	for i := -1; i <= len(lines)+1; i++ {
		want := -1
		if i >= 0 && i <= last {
			want = stepsAhead(lines, i)
		}
		if got := code.At(f, thread, i); got != want {
			t.Fatalf("At of thread %d, line %d is %d, not %d: %+v", thread, i, got, want, f)
		}
		if i < 0 || i >= len(lines) || isLabel(lines[i]) {
			continue
		}
		if got := code.Line(f, thread, steps); got != i || code.At(f, thread, got) != steps {
			t.Fatalf("Line of thread %d, step %d is %d, not %d: %+v", thread, steps, got, i, f)
		}
		steps++
	}
	for _, at := range []int{steps, steps + 1, -1, -2, math.MinInt, math.MaxInt} {
		if got := code.Line(f, thread, at); got != -1 {
			t.Fatalf("Line of thread %d, step %d is %d: %+v", thread, at, got, f)
		}
	}
}

// Lines by what they are.
var fence = api.Line{Op: api.OpFence}

func put(loc string, n int) api.Line  { return api.Line{Op: api.OpPut, Loc: loc, N: n} }
func load(reg, loc string) api.Line   { return api.Line{Op: api.OpLoad, Reg: reg, Loc: loc} }
func store(loc, reg string) api.Line  { return api.Line{Op: api.OpStore, Reg: reg, Loc: loc} }
func xchg(loc, reg string) api.Line   { return api.Line{Op: api.OpXchg, Reg: reg, Loc: loc} }
func imm(reg string, n int) api.Line  { return api.Line{Op: api.OpImm, Reg: reg, N: n} }
func comp(reg string, n int) api.Line { return api.Line{Op: api.OpCmp, Reg: reg, N: n} }
func label(l string) api.Line         { return api.Line{Op: api.OpLabel, Label: l} }
func jump(op int, l string) api.Line  { return api.Line{Op: op, Label: l} }

// of is a program of these threads.
func of(threads ...[]api.Line) api.File {
	f := api.File{Name: "p"}
	for _, l := range threads {
		f.Threads = append(f.Threads, api.Thread{Lines: l})
	}
	return f
}

// base is a right program, in which each kind of line, cell and atom stands.
func base() api.File {
	f := of([]api.Line{imm("ebx", -5), store("y", "ebx"), fence, xchg("x", "edx")}, nil,
		[]api.Line{comp("ecx", 0), jump(api.OpJe, "l"), put("z", 7), jump(api.OpJmp, "l"), jump(api.OpJne, "k"), label("l"), load("eax", "x"), label("k")})
	f.Init = []api.Cell{{Loc: "x", N: 1}, {Loc: "z", N: -2}}
	f.Cond = []api.Atom{{Thread: 2, Name: "eax", N: 1}, {Thread: -1, Name: "a", N: -3}}
	return f
}

// baseCode is its code, with the locations a, x, y, z.
func baseCode() api.Prog {
	return api.Prog{Init: []int{0, 1, 0, -2}, Threads: [][]api.Step{
		{{Op: api.OpImm, Reg: 1, N: -5}, {Op: api.OpStore, Reg: 1, Loc: 2}, {Op: api.OpFence}, {Op: api.OpXchg, Reg: 3, Loc: 1}},
		{},
		{{Op: api.OpCmp, Reg: 2}, {Op: api.OpJe, To: 5}, {Op: api.OpPut, Loc: 3, N: 7}, {Op: api.OpJmp, To: 5}, {Op: api.OpJne, To: 6}, {Op: api.OpLoad, Loc: 1}},
	}}
}

func TestCodes(t *testing.T) { // P7.1: G1; P7.2
	jmp, je, jne := api.OpJmp, api.OpJe, api.OpJne
	for i, c := range []struct {
		f    api.File
		init []int
		code [][]api.Step
	}{
		{base(), baseCode().Init, baseCode().Threads},
		{of(nil), nil, [][]api.Step{nil}},
		{of(nil, nil, nil), nil, [][]api.Step{nil, nil, nil}},
		{of([]api.Line{label("l"), label("k")}), nil, [][]api.Step{nil}},
		// The chapter's example.
		{of([]api.Line{jump(jmp, "l"), fence, label("l")}), nil, [][]api.Step{{{Op: jmp, To: 2}, {Op: api.OpFence}}}},
		// To a label right behind; to the end; to one label of several at one place; over labels.
		{of([]api.Line{jump(je, "l"), label("l"), fence}), nil, [][]api.Step{{{Op: je, To: 1}, {Op: api.OpFence}}}},
		{of([]api.Line{jump(jne, "l"), label("l")}), nil, [][]api.Step{{{Op: jne, To: 1}}}},
		{of([]api.Line{label("a"), jump(jmp, "c"), label("b"), jump(jmp, "d"), fence, label("c"), label("d"), label("e"), imm("eax", 1)}), nil, [][]api.Step{{{Op: jmp, To: 3}, {Op: jmp, To: 3}, {Op: api.OpFence}, {Op: api.OpImm, N: 1}}}},
		// A label is a thread's own.
		{of([]api.Line{fence, jump(jmp, "l"), label("l")}, []api.Line{jump(jmp, "l"), imm("edx", 4), fence, label("l")}), nil, [][]api.Step{{{Op: api.OpFence}, {Op: jmp, To: 2}}, {{Op: jmp, To: 3}, {Op: api.OpImm, Reg: 3, N: 4}, {Op: api.OpFence}}}},
		// Locations are numbered by their names, wherever they stand.
		{of([]api.Line{put("z", 1), load("ecx", "y"), store("a0", "eax"), xchg("a", "ebx")}), []int{0, 0, 0, 0}, [][]api.Step{{{Op: api.OpPut, Loc: 3, N: 1}, {Op: api.OpLoad, Reg: 2, Loc: 2}, {Op: api.OpStore, Loc: 1}, {Op: api.OpXchg, Reg: 1}}}},
		{api.File{Name: "p", Threads: make([]api.Thread, 1), Init: []api.Cell{{Loc: "x", N: 4}}, Cond: []api.Atom{{Thread: -1, Name: "y", N: 9}, {Thread: -1, Name: "b", N: 9}, {Name: "eax", N: 9}}}, []int{0, 4, 0}, [][]api.Step{nil}},
		{api.File{Name: "p", Threads: make([]api.Thread, 2), Init: []api.Cell{{Loc: "a", N: math.MinInt}, {Loc: "b"}, {Loc: "c", N: math.MaxInt}, {Loc: "d", N: -1}}}, []int{math.MinInt, 0, math.MaxInt, -1}, [][]api.Step{nil, nil}},
		// Numbers of all sizes.
		{of([]api.Line{imm("ecx", math.MinInt), comp("ebx", math.MaxInt), put("x", math.MinInt), imm("eax", 0)}), []int{0}, [][]api.Step{{{Op: api.OpImm, Reg: 2, N: math.MinInt}, {Op: api.OpCmp, Reg: 1, N: math.MaxInt}, {Op: api.OpPut, N: math.MinInt}, {Op: api.OpImm}}}},
	} {
		p, e := code.Code(c.f)
		if want := (api.Prog{Init: c.init, Threads: c.code}); e != api.OK || !alike(p, want) || !code.Right(p) {
			t.Errorf("%d: %+v %v, not %+v", i, p, e, want)
		}
		hold(t, c.f)
	}
}

func TestWrongProgramsHaveNoCode(t *testing.T) { // P7.1: G1; P2
	turns := map[string]func(f *api.File){
		"no name":         func(f *api.File) { f.Name = "" },
		"a key":           func(f *api.File) { f.Name = "mov" },
		"cells that fall": func(f *api.File) { slices.Reverse(f.Init) },
		"a cell twice":    func(f *api.File) { f.Init[1].Loc = "x" },
		"no threads":      func(f *api.File) { f.Threads = nil },
		"no threads, nor atoms": func(f *api.File) {
			f.Threads, f.Cond = f.Threads[:0], nil
		},
		"four threads":        func(f *api.File) { f.Threads = append(f.Threads, api.Thread{}) },
		"a wrong line":        func(f *api.File) { f.Threads[0].Lines[0].Loc = "x" },
		"a line of no kind":   func(f *api.File) { f.Threads[0].Lines[0] = api.Line{} },
		"a label twice":       func(f *api.File) { f.Threads[2].Lines[7].Label = "l" },
		"two fences":          func(f *api.File) { f.Threads[0].Lines[3] = fence },
		"a jump back":         func(f *api.File) { f.Threads[2].Lines[7] = jump(api.OpJmp, "l") },
		"a jump elsewhere":    func(f *api.File) { f.Threads[1].Lines = []api.Line{jump(api.OpJmp, "l")} },
		"nine instructions":   func(f *api.File) { f.Threads[1].Lines = slices.Repeat([]api.Line{imm("eax", 1)}, 9) },
		"a wrong atom":        func(f *api.File) { f.Cond[0].Name = "x" },
		"an atom of a fourth": func(f *api.File) { f.Cond[0].Thread = 3 },
		"five locations":      func(f *api.File) { f.Cond = append(f.Cond, api.Atom{Thread: -1, Name: "b"}) },
	}
	for what, turn := range turns {
		f := base()
		turn(&f)
		if hold(t, f) {
			t.Errorf("%s: it has a code", what)
		}
	}
	if hold(t, api.File{}) {
		t.Error("nothing has a code")
	}
}

func TestPlaces(t *testing.T) { // P7.1: G2; P7.3
	f := base()
	for thread, want := range [][]int{{0, 1, 2, 3, 4}, {0}, {0, 1, 2, 3, 4, 5, 5, 6, 6}} {
		for line, n := range want {
			if got := code.At(f, thread, line); got != n {
				t.Errorf("At of thread %d, line %d is %d, not %d", thread, line, got, n)
			}
		}
	}
	for thread, want := range [][]int{{0, 1, 2, 3, -1}, {-1, -1}, {0, 1, 2, 3, 4, 6, -1, -1, -1}} {
		for at, n := range want {
			if got := code.Line(f, thread, at); got != n {
				t.Errorf("Line of thread %d, step %d is %d, not %d", thread, at, got, n)
			}
		}
	}
	for _, n := range []int{-1, -2, 1 << 32, 1 << 62, math.MinInt, math.MaxInt} {
		if a, b := code.At(f, n, 0), code.Line(f, n, 0); a != -1 || b != -1 {
			t.Errorf("thread %d: %d %d", n, a, b)
		}
		if a, b := code.At(f, 0, n), code.Line(f, 0, n); a != -1 || b != -1 {
			t.Errorf("place %d: %d %d", n, a, b)
		}
	}
	if code.At(f, 3, 0) != -1 || code.Line(f, 3, 0) != -1 || code.At(f, 0, 5) != -1 || code.At(f, 1, 1) != -1 {
		t.Error("places right behind")
	}
	if a, b := code.At(api.File{}, 0, 0), code.Line(api.File{}, 0, 0); a != -1 || b != -1 {
		t.Errorf("no threads: %d %d", a, b)
	}
}

func TestPlacesOfWrongPrograms(t *testing.T) { // P7.1: G2; P7.3
	// A line is a label or has a step, whether the program is right or not.
	l := []api.Line{{}, label("L"), fence, fence, {Op: -1}, label("L"), {Op: 99}, {Op: api.OpLabel, N: 1}, jump(api.OpJmp, "L")}
	f := api.File{Threads: []api.Thread{{Lines: l}, {Lines: l[3:]}, {}, {}, {Lines: l[1:2]}}}
	for line, want := range []int{0, 1, 1, 2, 3, 4, 4, 5, 5, 6, -1} {
		if got := code.At(f, 0, line); got != want {
			t.Errorf("line %d: %d, not %d", line, got, want)
		}
	}
	for at, want := range []int{0, 2, 3, 4, 6, 8, -1} {
		if got := code.Line(f, 0, at); got != want {
			t.Errorf("step %d: %d, not %d", at, got, want)
		}
	}
	if hold(t, f) {
		t.Error("it has a code")
	}
}

// one is a code of one thread, with two locations.
func one(l ...api.Step) api.Prog { return api.Prog{Init: []int{0, 7}, Threads: [][]api.Step{l}} }

// fences are n steps.
func fences(n int) []api.Step { return slices.Repeat([]api.Step{{Op: api.OpFence}}, n) }

// jumpOf is n fences, behind them a jump, and behind it m fences.
func jumpOf(n, to, m int) api.Prog {
	return one(append(append(fences(n), api.Step{Op: api.OpJmp, To: to}), fences(m)...)...)
}

func TestRightCodes(t *testing.T) { // P7.1: G3
	for i, p := range []api.Prog{
		baseCode(), one(), {Threads: make([][]api.Step, 1)}, {Threads: make([][]api.Step, 3)}, {Init: []int{math.MinInt, 1, 2, math.MaxInt}, Threads: [][]api.Step{{}, {}}},
		one(fences(1)...), one(fences(2)...), one(fences(79)...), one(fences(80)...), {Threads: [][]api.Step{fences(80), fences(80), fences(80)}},
		one(api.Step{Op: api.OpImm}), one(api.Step{Op: api.OpImm, Reg: 3, N: math.MinInt}), one(api.Step{Op: api.OpCmp, Reg: 3, N: math.MaxInt}),
		one(api.Step{Op: api.OpLoad, Reg: 2, Loc: 1}), one(api.Step{Op: api.OpStore, Reg: 3}), one(api.Step{Op: api.OpXchg, Reg: 1, Loc: 1}), one(api.Step{Op: api.OpPut, Loc: 1, N: -1}),
		jumpOf(0, 1, 0), jumpOf(0, 1, 5), jumpOf(0, 6, 5), jumpOf(3, 4, 0), jumpOf(3, 4, 4), jumpOf(3, 8, 4), jumpOf(79, 80, 0), jumpOf(0, 80, 79),
		one(api.Step{Op: api.OpJe, To: 1}), one(api.Step{Op: api.OpJne, To: 1}),
	} {
		if !code.Right(p) || !rightCode(p) {
			t.Errorf("%d: %+v", i, p)
		}
	}
}

func TestWrongCodes(t *testing.T) { // P7.1: G3
	for i, p := range []api.Prog{
		{}, {Init: []int{1}}, {Threads: [][]api.Step{}}, {Threads: make([][]api.Step, 4)}, {Init: make([]int, 5), Threads: make([][]api.Step, 1)},
		one(fences(81)...), {Threads: [][]api.Step{fences(1), fences(1), fences(81)}}, {Threads: [][]api.Step{{}, {{}}}}, {Threads: [][]api.Step{{}, {}, {{Op: api.OpLoad}}}},
		one(api.Step{}), one(api.Step{Op: -1}), one(api.Step{Op: api.OpLabel}), one(api.Step{Op: 12}), one(api.Step{Op: math.MinInt}), one(api.Step{Op: math.MaxInt}), one(api.Step{Op: 1<<32 + api.OpFence}),
		one(api.Step{Op: api.OpFence}, api.Step{}), one(api.Step{}, api.Step{Op: api.OpFence}),
		{Threads: [][]api.Step{{{Op: api.OpPut}}}}, {Threads: [][]api.Step{{{Op: api.OpXchg}}}}, {Threads: [][]api.Step{{{Op: api.OpStore}}}},
		one(api.Step{Op: api.OpImm, Reg: 4}), one(api.Step{Op: api.OpCmp, Reg: -1}), one(api.Step{Op: api.OpLoad, Reg: math.MaxInt}), one(api.Step{Op: api.OpStore, Reg: math.MinInt}), one(api.Step{Op: api.OpXchg, Reg: 4}),
		one(api.Step{Op: api.OpLoad, Loc: 2}), one(api.Step{Op: api.OpStore, Loc: -1}), one(api.Step{Op: api.OpPut, Loc: 2}), one(api.Step{Op: api.OpXchg, Loc: -1}),
		one(api.Step{Op: api.OpLoad, N: 1}), one(api.Step{Op: api.OpStore, N: -1}), one(api.Step{Op: api.OpXchg, N: 1}), one(api.Step{Op: api.OpFence, N: 1}), one(api.Step{Op: api.OpJmp, To: 1, N: 1}),
		one(api.Step{Op: api.OpPut, Reg: 1}), one(api.Step{Op: api.OpFence, Reg: 1}), one(api.Step{Op: api.OpJe, To: 1, Reg: 1}),
		one(api.Step{Op: api.OpImm, Loc: 1}), one(api.Step{Op: api.OpCmp, Loc: 1}), one(api.Step{Op: api.OpFence, Loc: 1}), one(api.Step{Op: api.OpJne, To: 1, Loc: 1}),
		one(api.Step{Op: api.OpImm, To: 1}), one(api.Step{Op: api.OpLoad, To: 1}), one(api.Step{Op: api.OpStore, To: 1}), one(api.Step{Op: api.OpPut, To: 1}), one(api.Step{Op: api.OpXchg, To: 1}), one(api.Step{Op: api.OpFence, To: 1}), one(api.Step{Op: api.OpCmp, To: 1}),
		jumpOf(0, 0, 0), jumpOf(0, 2, 0), jumpOf(0, -1, 3), jumpOf(3, 3, 4), jumpOf(3, 0, 4), jumpOf(3, 9, 4), jumpOf(3, math.MaxInt, 4), jumpOf(3, math.MinInt, 4), jumpOf(80, 81, 0), jumpOf(79, 81, 0),
	} {
		if code.Right(p) || rightCode(p) {
			t.Errorf("%d: %+v", i, p)
		}
	}
}

func TestAllSteps(t *testing.T) { // P7.1: G3; P1
	met := map[bool]int{}
	for op := -1; op <= 12; op++ {
		for i := range 6 * 7 * 4 * 8 {
			s := api.Step{Op: op, Reg: i%6 - 1, Loc: i/6%7 - 1, N: []int{0, 1, math.MinInt, math.MaxInt}[i/42%4], To: i/168 - 1}
			for locs := range 6 {
				for n := range 6 {
					p := api.Prog{Init: make([]int, locs), Threads: [][]api.Step{append(append(fences(n%3), s), fences(n/3)...)}}
					if got := code.Right(p); got != rightCode(p) {
						t.Fatalf("%v: %+v", got, p)
					}
					met[rightCode(p)]++
				}
			}
		}
	}
	if met[true] < 1000 || met[false] < 1000 {
		t.Error(met)
	}
}

// dice are numbers by a fixed rule.
type dice uint64

// below is a number from 0 to n - 1.
func (d *dice) below(n int) int {
	*d = *d*6364136223846793005 + 1442695040888963407
	return int(uint64(*d) >> 33 % uint64(n))
}

// thrown is one of these.
func thrown[T any](d *dice, l ...T) T { return l[d.below(len(l))] }

func (d *dice) number() int { return thrown(d, 0, 1, -1, d.below(1000), math.MinInt, math.MaxInt) }
func (d *dice) reg() string { return thrown(d, "eax", "ebx", "ecx", "edx") }
func (d *dice) loc() string { return thrown(d, "b", "x", "y", "y0") }

// lines are a thread's, whose jumps go to labels behind, if not too far.
func (d *dice) lines() []api.Line {
	var l []api.Line
	goal := func(i int) string { return "m" + strconv.Itoa(min(i+d.below(4), 7)) }
	for i := range 8 {
		if d.below(3) > 0 {
			l = append(l, thrown(d, imm(d.reg(), d.number()), load(d.reg(), d.loc()), store(d.loc(), d.reg()), put(d.loc(), d.number()), xchg(d.loc(), d.reg()), comp(d.reg(), d.number()),
				jump(api.OpJmp, goal(i)), jump(api.OpJe, goal(i)), jump(api.OpJne, goal(i))))
		}
		if d.below(3) == 0 {
			l = append(l, fence)
		}
		l = append(l, label("m"+strconv.Itoa(i)))
		if d.below(4) == 0 {
			l = append(l, fence)
		}
	}
	if d.below(6) == 0 {
		l[d.below(len(l))] = thrown(d, api.Line{}, label("m3"), fence, jump(api.OpJmp, "m2"))
	}
	return l
}

// file is a program that is often right.
func (d *dice) file() api.File {
	f := api.File{Name: "p", All: d.below(2) > 0}
	for _, loc := range []string{"b", "x", "y", "y0"} {
		if d.below(2) > 0 {
			f.Init = append(f.Init, api.Cell{Loc: loc, N: d.number()})
		}
	}
	for range 1 + d.below(3+d.below(2)) {
		f.Threads = append(f.Threads, api.Thread{Lines: thrown(d, d.lines(), nil)})
	}
	for range d.below(7) {
		f.Cond = append(f.Cond, thrown(d, api.Atom{Thread: -1, Name: d.loc()}, api.Atom{Name: d.reg()}))
	}
	return f
}

func TestManyPrograms(t *testing.T) { // P7.1: G1, G2; P7.2, P7.3
	d := dice(1)
	met := map[bool]int{}
	for range 20_000 {
		met[hold(t, d.file())]++
	}
	if met[true] < 5000 || met[false] < 2000 {
		t.Error(met)
	}
}

func TestOneThingThatIsChanged(t *testing.T) { // P7.1: G3
	d := dice(2)
	met := map[bool]int{}
	for range 40_000 {
		p, e := code.Code(d.file())
		i := d.below(3)
		if e != api.OK || i >= len(p.Threads) || len(p.Threads[i]) == 0 {
			continue
		}
		s := &p.Threads[i][d.below(len(p.Threads[i]))]
		*thrown(&d, &s.Op, &s.Reg, &s.Loc, &s.N, &s.To) += thrown(&d, -1, 1, 2, 4, 8)
		if got := code.Right(p); got != rightCode(p) {
			t.Fatalf("%v: %+v", got, p)
		}
		met[rightCode(p)]++
	}
	if met[true] < 1000 || met[false] < 1000 {
		t.Error(met)
	}
}

func TestLongProgramsEnd(t *testing.T) { // P1, P2
	const n = 1_000_000
	long := strings.Repeat("a", 50_000_000)
	for what, turn := range map[string]func(f *api.File){
		"a name":  func(f *api.File) { f.Name = long },
		"cells":   func(f *api.File) { f.Init = slices.Repeat(f.Init, n) },
		"threads": func(f *api.File) { f.Threads = slices.Repeat(f.Threads, n) },
		"lines":   func(f *api.File) { f.Threads[1].Lines = slices.Repeat([]api.Line{imm("eax", 1)}, n) },
		"a label": func(f *api.File) { f.Threads[2].Lines[7].Label = long },
		"atoms":   func(f *api.File) { f.Cond = slices.Repeat(f.Cond, n) },
	} {
		f := base()
		turn(&f)
		if p, e := code.Code(f); e != api.ErrArg || p.Init != nil || p.Threads != nil {
			t.Errorf("%s: %v", what, e)
		}
	}
	f := of(slices.Repeat([]api.Line{fence, label(long)}, n))
	if a, b := code.At(f, 0, 2*n), code.Line(f, 0, n-1); a != n || b != 2*n-2 {
		t.Error(a, b)
	}
	f.Threads = slices.Repeat(f.Threads, n)
	if a, b, c := code.At(f, n-1, 3), code.Line(f, n-1, 1), code.At(f, n, 3); a != 2 || b != 2 || c != -1 {
		t.Error(a, b, c)
	}
	for i, p := range []api.Prog{{Init: make([]int, n), Threads: [][]api.Step{{}}}, {Threads: make([][]api.Step, n)}, {Threads: [][]api.Step{fences(n)}}} {
		if code.Right(p) {
			t.Error(i)
		}
	}
}

// deep is a copy of f that shares nothing with it.
func deep(f api.File) api.File {
	f.Init, f.Threads, f.Cond = slices.Clone(f.Init), slices.Clone(f.Threads), slices.Clone(f.Cond)
	for i, t := range f.Threads {
		f.Threads[i].Lines = slices.Clone(t.Lines)
	}
	return f
}

// overwrite writes over all of a code, its spare room, too.
func overwrite(p api.Prog) {
	for i := range p.Init[:cap(p.Init)] {
		p.Init[:cap(p.Init)][i] = 99
	}
	for _, t := range p.Threads {
		for i := range t[:cap(t)] {
			t[:cap(t)][i] = api.Step{Op: 99}
		}
	}
	for i := range p.Threads[:cap(p.Threads)] {
		p.Threads[:cap(p.Threads)][i] = nil
	}
}

func TestAnswersHangOnArgumentsAlone(t *testing.T) { // P3
	f := base()
	f.Init = append(f.Init, api.Cell{Loc: "spare"})[:2]
	f.Threads[0].Lines = append(f.Threads[0].Lines, label("spare"))[:4]
	was := deep(f)
	kept, _ := code.Code(f)
	for range 3 {
		p, e := code.Code(f)
		if e != api.OK || !alike(p, baseCode()) || code.At(f, 2, 7) != 6 || code.Line(f, 2, 5) != 6 {
			t.Fatalf("%+v %v", p, e)
		}
		overwrite(p)
	}
	if !reflect.DeepEqual(f, was) || f.Init[:3][2].Loc != "spare" || f.Threads[0].Lines[:5][4].Label != "spare" {
		t.Errorf("what was handed in was changed: %+v", f)
	}
	// What is done to a program later is not seen in its code, but in what is told then.
	f.Init[0].N, f.Threads[0].Lines[0].N = 8, 9
	if !alike(kept, baseCode()) {
		t.Errorf("%+v", kept)
	}
	if p, _ := code.Code(f); p.Init[1] != 8 || p.Threads[0][0].N != 9 {
		t.Errorf("%+v", p)
	}
	p, q := baseCode(), baseCode()
	for range 3 {
		if !code.Right(p) || !reflect.DeepEqual(p, q) {
			t.Fatalf("%+v", p)
		}
	}
	p.Threads[0][0].Loc = 1
	if code.Right(p) {
		t.Errorf("%+v", p)
	}
}
