package valid_test

import (
	"math"
	"reflect"
	"slices"
	"strconv"
	"strings"
	"testing"

	"fencepost/api"
	"fencepost/ops"
	"fencepost/valid"
	"fencepost/word"
)

// Lines by what they are.
var fence = api.Line{Op: api.OpFence}

func put(loc string) api.Line        { return api.Line{Op: api.OpPut, Loc: loc, N: 1} }
func load(loc string) api.Line       { return api.Line{Op: api.OpLoad, Reg: "eax", Loc: loc} }
func label(l string) api.Line        { return api.Line{Op: api.OpLabel, Label: l} }
func jump(op int, l string) api.Line { return api.Line{Op: op, Label: l} }

// imms are n lines, each an instruction.
func imms(n int) []api.Line { return slices.Repeat([]api.Line{{Op: api.OpImm, Reg: "ecx", N: 7}}, n) }

// labels are n, each another one.
func labels(n int) []api.Line {
	var l []api.Line
	for i := range n {
		l = append(l, label("m"+strconv.Itoa(i)))
	}
	return l
}

// of is a program of these threads.
func of(threads ...[]api.Line) api.File {
	f := api.File{Name: "p"}
	for _, l := range threads {
		f.Threads = append(f.Threads, api.Thread{Lines: l})
	}
	return f
}

// deep is a copy of f that shares nothing with it.
func deep(f api.File) api.File {
	f.Init, f.Threads, f.Cond = slices.Clone(f.Init), slices.Clone(f.Threads), slices.Clone(f.Cond)
	for i, t := range f.Threads {
		f.Threads[i].Lines = slices.Clone(t.Lines)
	}
	return f
}

// told is what Check answers.
type told struct {
	part, at int
	e        api.Errno
}

func check(f api.File) told {
	a, b, e := valid.Check(f)
	return told{a, b, e}
}

var fine = told{}

// expect holds all three calls of f against what is wrong with it.
func expect(t *testing.T, what any, f api.File, want told) {
	t.Helper()
	if got := check(f); got != want {
		t.Errorf("%v: Check is %v, not %v: %+v", what, got, want, f)
	}
	if valid.Right(f) != (want.e == api.OK) {
		t.Errorf("%v: Right is %v", what, want.e != api.OK)
	}
	got := valid.Locs(f)
	if want.e != api.OK && len(got) != 0 {
		t.Errorf("%v: Locs is %q of a wrong program", what, got)
	}
	if want.e == api.OK && !slices.Equal(got, locsOf(f)) {
		t.Errorf("%v: Locs is %q, not %q", what, got, locsOf(f))
	}
}

// The chapter's words once more, each asked for by itself, with nothing kept from line to line.

func isJump(l api.Line) bool        { return slices.Contains([]int{api.OpJmp, api.OpJe, api.OpJne}, l.Op) }
func isLabel(l api.Line) bool       { return l.Op == api.OpLabel }
func isFence(l api.Line) bool       { return l.Op == api.OpFence }
func isInstruction(l api.Line) bool { return !isFence(l) && !isLabel(l) }

func count(l []api.Line, is func(api.Line) bool) int {
	return len(slices.DeleteFunc(slices.Clone(l), func(x api.Line) bool { return !is(x) }))
}

// lineWrong is what is wrong with line i.
func lineWrong(l []api.Line, i int) api.Errno {
	x, ahead, behind := l[i], l[:i], l[i+1:]
	same := func(y api.Line) bool { return isLabel(y) && y.Label == x.Label }
	if !ops.Right(x) {
		return api.ErrLine
	}
	if isLabel(x) && slices.ContainsFunc(ahead, same) {
		return api.ErrTwice
	}
	if isFence(x) && i > 0 && isFence(ahead[i-1]) {
		return api.ErrFence
	}
	if isJump(x) && !slices.ContainsFunc(behind, same) {
		return api.ErrName
	}
	if isInstruction(x) && count(ahead, isInstruction) >= 8 {
		return api.ErrFull
	}
	if isLabel(x) && count(ahead, isLabel) >= 8 {
		return api.ErrFull
	}
	return api.OK
}

// wrong is what Check must say.
func wrong(f api.File) told {
	if !word.Name(f.Name) {
		return told{-1, -1, api.ErrName}
	}
	for i := range f.Init {
		if !word.Name(f.Init[i].Loc) {
			return told{-1, -1, api.ErrName}
		}
		if i > 0 && strings.Compare(f.Init[i-1].Loc, f.Init[i].Loc) >= 0 {
			return told{-1, -1, api.ErrTwice}
		}
	}
	if len(f.Threads) == 0 || len(f.Threads) >= 4 {
		return told{-1, -1, api.ErrFull}
	}
	for i, t := range f.Threads {
		for j := range t.Lines {
			if e := lineWrong(t.Lines, j); e != api.OK {
				return told{i, j, e}
			}
		}
	}
	for i, a := range f.Cond {
		e := api.OK
		if i >= 6 {
			e = api.ErrFull
		} else if !ops.Asked(a) {
			e = api.ErrArg
		} else if a.Thread != -1 && a.Thread > len(f.Threads)-1 {
			e = api.ErrName
		}
		if e != api.OK {
			return told{len(f.Threads), i, e}
		}
	}
	if len(locsOf(f)) > 4 {
		return told{-1, -1, api.ErrFull}
	}
	return fine
}

// locsOf are all locations of f, whether it is right or not.
func locsOf(f api.File) []string {
	var l []string
	for _, c := range f.Init {
		l = append(l, c.Loc)
	}
	for _, t := range f.Threads {
		for _, x := range t.Lines {
			l = append(l, x.Loc)
		}
	}
	for _, a := range f.Cond {
		if a.Thread == -1 {
			l = append(l, a.Name)
		}
	}
	slices.Sort(l)
	return slices.DeleteFunc(slices.Compact(l), func(s string) bool { return s == "" })
}

// base is a right program of two threads, whose second one alone has the label own, with three locations.
func base() api.File {
	return api.File{
		Name:    "sb",
		Init:    []api.Cell{{Loc: "b", N: 5}, {Loc: "x"}},
		Threads: []api.Thread{{Lines: []api.Line{put("x"), fence, load("y")}}, {Lines: []api.Line{jump(api.OpJe, "own"), put("y"), label("own"), load("x")}}},
		All:     true,
		Cond:    []api.Atom{{Thread: 0, Name: "eax"}, {Thread: 1, Name: "eax", N: -1}, {Thread: -1, Name: "x", N: 1}},
	}
}

// flaw is one thing that may be wrong: turn puts it into a program, at puts it ahead of what stands there.
type flaw struct {
	name string
	turn func(f *api.File)
	want told
}

// flawed lines are told at the place of the last one of them.
func inThread(i int, name string, e api.Errno, l ...api.Line) flaw {
	return flaw{name + " in thread " + strconv.Itoa(i), func(f *api.File) {
		if i < len(f.Threads) {
			f.Threads[i].Lines = slices.Concat(l, f.Threads[i].Lines)
		}
	}, told{i, len(l) - 1, e}}
}

// inCond puts atoms ahead, and is told at the place of the last one of them.
func inCond(name string, e api.Errno, l ...api.Atom) flaw {
	return flaw{name, func(f *api.File) { f.Cond = slices.Concat(l, f.Cond) }, told{2, len(l) - 1, e}}
}

// atFrame is told at -1 and -1.
func atFrame(name string, e api.Errno, turn func(f *api.File)) flaw {
	return flaw{name, turn, told{-1, -1, e}}
}

// flaws are in the chapter's order; those of lines and atoms put themselves ahead of others.
func flaws() []flaw {
	cells := func(l ...string) func(f *api.File) {
		return func(f *api.File) {
			var init []api.Cell
			for _, s := range l {
				init = append(init, api.Cell{Loc: s})
			}
			f.Init = append(init, f.Init...)
		}
	}
	l := []flaw{
		atFrame("no name", api.ErrName, func(f *api.File) { f.Name = "" }),
		atFrame("a key as a name", api.ErrName, func(f *api.File) { f.Name = "thread" }),
		atFrame("no cell's name", api.ErrName, cells("")),
		atFrame("a cell of a register", api.ErrName, cells("a", "eax")),
		atFrame("cells alike", api.ErrTwice, cells("a", "a")),
		atFrame("cells that fall", api.ErrTwice, cells("a", "ab", "aa")),
		atFrame("cells alike behind", api.ErrTwice, func(f *api.File) { f.Init = append(f.Init, api.Cell{Loc: "x"}) }),
		atFrame("no threads", api.ErrFull, func(f *api.File) { f.Threads = nil }),
		atFrame("four threads", api.ErrFull, func(f *api.File) { f.Threads = append(f.Threads, f.Threads...) }),
	}
	for i := range 2 {
		l = append(l,
			inThread(i, "a zero line", api.ErrLine, api.Line{}),
			inThread(i, "a line with more", api.ErrLine, put("x"), api.Line{Op: api.OpFence, N: 1}),
			inThread(i, "a label twice", api.ErrTwice, label("p"), fence, label("q"), label("p")),
			inThread(i, "a fence behind a fence", api.ErrFence, put("x"), fence, fence),
			inThread(i, "a jump to none", api.ErrName, label("a"), jump(api.OpJmp, "nowhere")),
			inThread(i, "a jump back", api.ErrName, label("r"), jump(api.OpJne, "r")),
			inThread(i, "a ninth instruction", api.ErrFull, imms(9)...),
			inThread(i, "a ninth label", api.ErrFull, labels(9)...),
		)
		if i == 0 {
			l = append(l, inThread(0, "a jump to another thread's", api.ErrName, jump(api.OpJe, "own")))
		}
	}
	return append(l,
		inCond("an atom of thread 3", api.ErrArg, api.Atom{Thread: 3, Name: "eax"}),
		inCond("an atom of no register", api.ErrArg, api.Atom{Thread: -1, Name: "y"}, api.Atom{Thread: 1, Name: "x"}),
		inCond("an atom of a thread that there is not", api.ErrName, api.Atom{Thread: 1, Name: "edx"}, api.Atom{Thread: 2, Name: "eax"}),
		inCond("a seventh atom", api.ErrFull, slices.Repeat([]api.Atom{{Name: "ebx"}}, 7)...),
		atFrame("five locations", api.ErrFull, func(f *api.File) {
			if len(f.Threads) > 0 {
				f.Threads[0].Lines = append(f.Threads[0].Lines, put("v"), load("w"))
			}
		}),
	)
}

func TestNothingWrong(t *testing.T) { // P4.1: D1, D2
	three := of(nil, []api.Line{fence}, nil)
	three.Cond = []api.Atom{{Thread: 2, Name: "edx", N: math.MinInt}}
	for i, f := range []api.File{
		base(), of(nil), of(nil, nil), three, of([]api.Line{fence}), of([]api.Line{label("l")}),
		of([]api.Line{jump(api.OpJmp, "l"), label("l")}), of([]api.Line{jump(api.OpJmp, "l"), jump(api.OpJne, "l"), put("l"), label("l"), label("k"), fence}),
		of([]api.Line{label("l")}, []api.Line{label("l")}, []api.Line{label("l")}),
		{Name: "a1234567", Init: []api.Cell{{Loc: "a", N: math.MaxInt}, {Loc: "a0"}, {Loc: "aa"}, {Loc: "b"}}, Threads: make([]api.Thread, 1)},
		// A location may have the name of a label, and of the program.
		{Name: "l", Threads: []api.Thread{{Lines: []api.Line{put("l"), label("l")}}}, Cond: []api.Atom{{Thread: -1, Name: "l"}}},
	} {
		expect(t, i, f, fine)
	}
}

func TestEachFlawAlone(t *testing.T) { // P4.1: D1, D2; P2
	for _, x := range flaws() {
		f := base()
		x.turn(&f)
		expect(t, x.name, f, x.want)
	}
}

func TestTheFirstFlawIsTold(t *testing.T) { // P4.1: D1; P2
	l := flaws()
	for i, x := range l {
		for _, y := range l[i+1:] {
			f := base()
			// The later one first, since each puts itself ahead of what is there.
			y.turn(&f)
			x.turn(&f)
			expect(t, x.name+", then "+y.name, f, x.want)
		}
	}
}

func TestCellsAreGoneThroughOneByOne(t *testing.T) { // P4.1: D1
	for _, c := range []struct {
		cells string
		e     api.Errno
	}{
		{"x", api.OK}, {"x y", api.OK}, {"a a0 a1 aa", api.OK}, {"a ab abc b", api.OK}, {"z9 za", api.OK},
		{"x x", api.ErrTwice}, {"y x", api.ErrTwice}, {"aa a", api.ErrTwice}, {"ab aa", api.ErrTwice}, {"aa a0", api.ErrTwice}, {"x y x", api.ErrTwice}, {"x y y", api.ErrTwice}, {"x z y", api.ErrTwice}, {"b a c", api.ErrTwice},
		{"eax", api.ErrName}, {"X", api.ErrName}, {"x eax", api.ErrName}, {"x mov", api.ErrName}, {"x 1", api.ErrName}, {"x abcdefghi", api.ErrName}, {"x zzzzzzzzz", api.ErrName}, {"eax eax", api.ErrName}, {"x init y", api.ErrName},
		// In one cell its name comes first; of two cells the first one.
		{"x x EAX", api.ErrTwice}, {"x EAX x x", api.ErrName}, {"y x eax", api.ErrTwice}, {"y eax x", api.ErrName},
		// More than four are told behind all else, in order or not.
		{"a b c d", api.OK}, {"a b c d e", api.ErrFull}, {"a b c d d", api.ErrTwice}, {"a b c d e f g Z", api.ErrName},
	} {
		f := of(nil)
		for _, s := range strings.Fields(c.cells) {
			f.Init = append(f.Init, api.Cell{Loc: s, N: 3})
		}
		want := told{-1, -1, c.e}
		if c.e == api.OK {
			want = fine
		}
		expect(t, c.cells, f, want)
	}
	expect(t, "an empty name", api.File{Name: "p", Init: []api.Cell{{}}, Threads: make([]api.Thread, 1)}, told{-1, -1, api.ErrName})
}

func TestNamesOfPrograms(t *testing.T) { // P4.1: D1
	for s, is := range map[string]bool{"a": true, "sb": true, "a1234567": true, "x8": true, "eaxx": true, "": false, "a12345678": false, "eax": false, "edx": false, "x86": false, "mov": false, "exists": false, "A": false, "1a": false, "a b": false, "a\n": false, "é": false, " a": false} {
		f := base()
		f.Name = s
		want := fine
		if !is {
			want = told{-1, -1, api.ErrName}
		}
		expect(t, s, f, want)
	}
}

func TestBoundsOfThreads(t *testing.T) { // P4.1: D1
	for n, e := range []api.Errno{api.ErrFull, api.OK, api.OK, api.OK, api.ErrFull, api.ErrFull} {
		want := told{-1, -1, e}
		if e == api.OK {
			want = fine
		}
		expect(t, n, of(make([][]api.Line, n)...), want)
		// Whatever is in them.
		if l := make([]api.Thread, n); e != api.OK {
			for i := range l {
				l[i].Lines = []api.Line{{}}
			}
			expect(t, n, api.File{Name: "p", Threads: l, Cond: make([]api.Atom, 9)}, want)
		}
	}
}

func TestBoundsOfInstructions(t *testing.T) { // P4.1: D1
	kinds := []api.Line{{Op: api.OpImm, Reg: "eax"}, load("x"), {Op: api.OpStore, Reg: "edx", Loc: "x"}, put("x"), {Op: api.OpXchg, Reg: "ebx", Loc: "x"}, {Op: api.OpCmp, Reg: "eax"}, jump(api.OpJmp, "z"), jump(api.OpJe, "z"), jump(api.OpJne, "z")}
	for _, k := range kinds {
		for ahead := range 11 {
			l := slices.Repeat([]api.Line{k}, ahead+1)
			want := fine
			if ahead >= 8 {
				want = told{0, 8, api.ErrFull}
			}
			expect(t, k, of(append(l, label("z"))), want)
		}
		// Fences and labels are none, wherever they are; nor are other threads'.
		l := []api.Line{fence, label("a")}
		for range 8 {
			l = append(l, k, fence)
		}
		l = append(l, label("z"), fence)
		expect(t, k, of(l, l, l), fine)
		expect(t, k, of(l, l, append(slices.Clone(l), put("x"))), told{2, len(l), api.ErrFull})
	}
	// A ninth may be wrong otherwise ahead of that.
	expect(t, "jump", of(append(imms(8), jump(api.OpJe, "l"))), told{0, 8, api.ErrName})
	expect(t, "jump", of(append(imms(8), jump(api.OpJe, "l"), label("l"))), told{0, 8, api.ErrFull})
	expect(t, "wrong", of(append(imms(8), api.Line{Op: api.OpImm})), told{0, 8, api.ErrLine})
	expect(t, "fences", of(append(imms(8), fence, fence)), told{0, 9, api.ErrFence})
}

func TestBoundsOfLabels(t *testing.T) { // P4.1: D1
	for n := range 12 {
		want := fine
		if n > 8 {
			want = told{0, 8, api.ErrFull}
		}
		expect(t, n, of(labels(n)), want)
	}
	all := slices.Concat(labels(8), imms(8))
	expect(t, "both", of(all, all, all), fine)
	expect(t, "both", of(all, append(slices.Clone(all), label("z"))), told{1, 16, api.ErrFull})
	expect(t, "both", of(all, append(slices.Clone(all), label("m7"))), told{1, 16, api.ErrTwice})
	expect(t, "both", of(all, append(slices.Clone(all), api.Line{Op: api.OpLabel, Label: "m7", Reg: "eax"})), told{1, 16, api.ErrLine})
	// The longest thread: a fence between all.
	var l []api.Line
	for _, x := range all {
		l = append(l, fence, x)
	}
	l = append(l, fence)
	expect(t, "longest", of(l, l, l), fine)
	expect(t, "longest", of(l, l, append(slices.Clone(l), fence)), told{2, 33, api.ErrFence})
	// A jump past eight labels, to a ninth one, is right; that one is not.
	expect(t, "jump", of(slices.Concat([]api.Line{jump(api.OpJmp, "m8")}, labels(9))), told{0, 9, api.ErrFull})
}

func TestLabelsAndJumps(t *testing.T) { // P4.1: D1
	for _, op := range []int{api.OpJmp, api.OpJe, api.OpJne} {
		to := jump(op, "l")
		for i, c := range []struct {
			lines []api.Line
			want  told
		}{
			{[]api.Line{to}, told{0, 0, api.ErrName}},
			{[]api.Line{to, label("l")}, fine},
			{[]api.Line{to, to, fence, to, label("l")}, fine},
			{[]api.Line{to, put("l"), label("k")}, told{0, 0, api.ErrName}},
			{[]api.Line{to, jump(op, "k"), label("k")}, told{0, 0, api.ErrName}},
			{[]api.Line{jump(op, "k"), to, label("k")}, told{0, 1, api.ErrName}},
			{[]api.Line{jump(op, "k"), to, label("k"), label("l")}, fine},
			{[]api.Line{label("l"), to}, told{0, 1, api.ErrName}},
			{[]api.Line{to, label("l"), to}, told{0, 2, api.ErrName}},
			{[]api.Line{to, label("l"), put("x"), label("l")}, told{0, 3, api.ErrTwice}},
			{[]api.Line{label("l"), to, label("l")}, told{0, 2, api.ErrTwice}},
			{[]api.Line{label("l"), label("l"), to}, told{0, 1, api.ErrTwice}},
			{[]api.Line{to, label("ll"), label("k")}, told{0, 0, api.ErrName}},
			// A label that is wrong is one still.
			{[]api.Line{to, {Op: api.OpLabel, Label: "l", N: 1}}, told{0, 1, api.ErrLine}},
			{[]api.Line{to, {Op: api.OpPut, Loc: "x", Label: "l"}}, told{0, 0, api.ErrName}},
			{[]api.Line{jump(op, "eax"), label("eax")}, told{0, 0, api.ErrLine}},
		} {
			expect(t, i, of(c.lines), c.want)
		}
		// What another thread has is none's, ahead or behind.
		expect(t, op, of([]api.Line{to}, []api.Line{label("l")}), told{0, 0, api.ErrName})
		expect(t, op, of([]api.Line{label("l")}, []api.Line{to}), told{1, 0, api.ErrName})
		expect(t, op, of([]api.Line{label("l")}, []api.Line{to, label("l")}, []api.Line{to, label("l")}), fine)
		expect(t, op, of([]api.Line{to, label("l")}, []api.Line{to}, []api.Line{label("l")}), told{1, 0, api.ErrName})
	}
}

func TestFencesSideBySide(t *testing.T) { // P4.1: D1
	for i, c := range []struct {
		lines []api.Line
		want  told
	}{
		{[]api.Line{fence}, fine},
		{[]api.Line{fence, fence}, told{0, 1, api.ErrFence}},
		{[]api.Line{fence, fence, fence}, told{0, 1, api.ErrFence}},
		{[]api.Line{fence, label("l"), fence}, fine},
		{[]api.Line{fence, put("x"), fence}, fine},
		{[]api.Line{put("x"), fence, label("l"), fence, fence}, told{0, 4, api.ErrFence}},
		{[]api.Line{fence, {Op: api.OpFence, N: 1}}, told{0, 1, api.ErrLine}},
		{[]api.Line{{Op: api.OpFence, N: 1}, fence}, told{0, 0, api.ErrLine}},
		{[]api.Line{fence, {}, fence}, told{0, 1, api.ErrLine}},
	} {
		expect(t, i, of(c.lines), c.want)
	}
	// The last line of one thread is not right ahead of the next one's first.
	expect(t, "threads", of([]api.Line{fence}, []api.Line{fence}, []api.Line{fence}), fine)
}

func TestAtoms(t *testing.T) { // P4.1: D1
	mine, shared := api.Atom{Name: "eax", N: 1}, api.Atom{Thread: -1, Name: "x"}
	for n := 1; n <= 3; n++ {
		f := of(make([][]api.Line, n)...)
		for thread := -3; thread <= 5; thread++ {
			for _, s := range []string{"eax", "x", "mov", ""} {
				e := api.OK
				if thread == -1 && s != "x" || thread != -1 && s != "eax" || thread < -1 || thread > 2 {
					e = api.ErrArg
				} else if thread >= n {
					e = api.ErrName
				}
				for i := range 6 {
					f.Cond = append(slices.Repeat([]api.Atom{mine, shared}, 3)[:i], api.Atom{Thread: thread, Name: s, N: -9})
					want := told{n, i, e}
					if e == api.OK {
						want = fine
					}
					expect(t, f.Cond[i], f, want)
				}
			}
		}
		for many := range 10 {
			want := fine
			if many > 6 {
				want = told{n, 6, api.ErrFull}
			}
			f.Cond = slices.Repeat([]api.Atom{mine}, many)
			expect(t, many, f, want)
			f.Cond = slices.Repeat([]api.Atom{shared}, many)
			expect(t, many, f, want)
		}
		// Of a seventh one that there are too many comes first; of those ahead of it, what they are.
		f.Cond = append(slices.Repeat([]api.Atom{mine}, 6), api.Atom{Thread: 7})
		expect(t, "seventh", f, told{n, 6, api.ErrFull})
		f.Cond[5] = api.Atom{}
		expect(t, "sixth", f, told{n, 5, api.ErrArg})
		f.Cond[5], f.Cond[4] = api.Atom{}, api.Atom{Thread: 2, Name: "eax"}
		if n < 3 {
			expect(t, "fifth", f, told{n, 4, api.ErrName})
		}
	}
}

func TestBoundsOfLocations(t *testing.T) { // P4.1: D1, D2
	names := []string{"d", "b", "e", "a", "c"}
	// Each of the five stands in a cell, a line or an atom, or in none of them.
	for i := range 4 * 4 * 4 * 4 * 4 {
		f := of(nil, nil)
		for k, s := range names {
			switch i >> (2 * k) % 4 {
			case 1:
				f.Init = append(f.Init, api.Cell{Loc: s})
			case 2:
				l := &f.Threads[k%2].Lines
				*l = append(*l, []api.Line{load(s), put(s), {Op: api.OpStore, Reg: "ebx", Loc: s}, {Op: api.OpXchg, Reg: "eax", Loc: s}, put(s)}[k])
			case 3:
				f.Cond = append(f.Cond, api.Atom{Thread: -1, Name: s})
			}
		}
		slices.SortFunc(f.Init, func(a, b api.Cell) int { return strings.Compare(a.Loc, b.Loc) })
		want := fine
		if len(locsOf(f)) == 5 {
			want = told{-1, -1, api.ErrFull}
		}
		expect(t, i, f, want)
	}
}

func TestLocsRiseEachOnce(t *testing.T) { // P4.1: D2
	f := base()
	if l := valid.Locs(f); !slices.Equal(l, []string{"b", "x", "y"}) {
		t.Errorf("%q", l)
	}
	f.Cond = append(f.Cond, api.Atom{Thread: -1, Name: "a"}, api.Atom{Thread: -1, Name: "x"})
	if l := valid.Locs(f); !slices.Equal(l, []string{"a", "b", "x", "y"}) {
		t.Errorf("%q", l)
	}
	// Byte by byte: digits come ahead of letters, a beginning ahead of the whole.
	f = of([]api.Line{load("z"), put("a0"), load("aa"), put("z"), load("a")})
	if l := valid.Locs(f); !slices.Equal(l, []string{"a", "a0", "aa", "z"}) {
		t.Errorf("%q", l)
	}
	// Neither labels nor registers nor the name are any.
	f = of([]api.Line{jump(api.OpJmp, "l"), label("l"), {Op: api.OpImm, Reg: "eax"}, fence})
	f.Cond = []api.Atom{{Name: "eax"}}
	if l := valid.Locs(f); len(l) != 0 {
		t.Errorf("%q", l)
	}
	f.Threads[0].Lines = append(f.Threads[0].Lines, load("x"), api.Line{})
	if l := valid.Locs(f); len(l) != 0 {
		t.Errorf("%q", l)
	}
}

// pool are lines for threads that are right or wrong by how they stand.
var pool = []api.Line{
	put("x"), load("y"), fence, label("l"), label("k"), jump(api.OpJmp, "l"), jump(api.OpJne, "k"),
	{}, {Op: api.OpLabel, Label: "l", N: 1}, {Op: api.OpFence, Loc: "x"}, {Op: api.OpJe, Label: "l", Reg: "eax"},
}

// rows are all rows of up to n lines of the pool.
func rows(n int) [][]api.Line {
	l := [][]api.Line{nil}
	for from := 0; n > 0; n-- {
		to := len(l)
		for _, r := range l[from:to] {
			for _, x := range pool {
				l = append(l, append(slices.Clone(r), x))
			}
		}
		from = to
	}
	return l
}

func TestAllShortThreads(t *testing.T) { // P4.1: D1
	for _, l := range rows(5) {
		if f := of(l); check(f) != wrong(f) {
			t.Fatalf("Check is %v, not %v: %+v", check(f), wrong(f), l)
		}
	}
}

// dice are numbers by a fixed rule.
type dice uint64

// below is a number from 0 to n - 1.
func (d *dice) below(n int) int {
	*d = *d*6364136223846793005 + 1442695040888963407
	return int(uint64(*d) >> 33 % uint64(n))
}

// thrown is one of these.
func thrown[T any](d *dice, l ...T) T { return l[d.below(len(l))] }

// row is a thread that is often right, and long.
func (d *dice) row() []api.Line {
	l := slices.Repeat([]api.Line{fence}, d.below(3)/2)
	for range d.below(22) {
		x := thrown(d, put("x"), load("y"), label("m"+strconv.Itoa(d.below(10))), jump(api.OpJe, "z"))
		l = append(l, x)
		if d.below(3) == 0 {
			l = append(l, fence)
		}
	}
	l = append(l, label("z"))
	if d.below(3) == 0 {
		l[d.below(len(l))] = thrown(d, pool...)
	}
	return l
}

// file is a program that is often right.
func (d *dice) file() api.File {
	f := api.File{Name: "p"}
	if d.below(40) == 0 {
		f.Name = thrown(d, "", "mov", "P", "abcdefghi")
	}
	for _, s := range []string{"a", "b", "x", "y"} {
		if d.below(3) == 0 {
			f.Init = append(f.Init, api.Cell{Loc: s})
		}
	}
	if d.below(30) == 0 {
		f.Init = append(f.Init, api.Cell{Loc: thrown(d, "a", "y", "z", "eax", "")})
	}
	for range 1 + d.below(3+d.below(2)) {
		f.Threads = append(f.Threads, api.Thread{Lines: d.row()})
	}
	for range d.below(7 + d.below(2)) {
		f.Cond = append(f.Cond, thrown(d, api.Atom{Name: "eax"}, api.Atom{Thread: -1, Name: "x"}, api.Atom{Thread: -1, Name: "c"}))
	}
	if len(f.Cond) > 0 && d.below(3) == 0 {
		f.Cond[d.below(len(f.Cond))] = api.Atom{Thread: d.below(6) - 2, Name: thrown(d, "eax", "x", "q", "edx")}
	}
	return f
}

func TestManyPrograms(t *testing.T) { // P4.1: D1, D2
	d := dice(1)
	met := map[told]int{}
	for range 60_000 {
		f := d.file()
		want := wrong(f)
		met[told{min(want.part, 0), 0, want.e}]++
		expect(t, "thrown", f, want)
		if t.Failed() {
			return
		}
	}
	for _, k := range []told{fine, {-1, 0, api.ErrName}, {-1, 0, api.ErrTwice}, {-1, 0, api.ErrFull}, {0, 0, api.ErrLine}, {0, 0, api.ErrTwice}, {0, 0, api.ErrFence}, {0, 0, api.ErrName}, {0, 0, api.ErrFull}, {0, 0, api.ErrArg}} {
		if met[k] < 50 {
			t.Errorf("%v was met only %d times", k, met[k])
		}
	}
}

// TestWhatIsWrongStays puts right and wrong things behind what is wrong, in its thread, in threads behind and in what is asked.
func TestWhatIsWrongStays(t *testing.T) { // P4.2
	tails := rows(2)
	for _, l := range rows(3) {
		was := check(of(l))
		if was.e == api.OK {
			continue
		}
		for _, tail := range tails {
			f := of(append(slices.Clone(l), tail...))
			// But for the label that a jump lacked.
			if was.e == api.ErrName && slices.ContainsFunc(tail, func(x api.Line) bool { return isLabel(x) && x.Label == l[was.at].Label }) {
				if got := check(f); got.e != api.OK && got.at <= was.at {
					t.Fatalf("a label is behind, and Check is %v: %+v", got, f)
				}
				continue
			}
			if got := check(f); got != was {
				t.Fatalf("Check is %v, not %v: %+v", got, was, f)
			}
		}
		for _, more := range tails[:len(pool)+1] {
			f := of(l, more)
			f.Cond = []api.Atom{{Thread: 9}}
			if got := check(f); got != was {
				t.Fatalf("Check is %v, not %v: %+v", got, was, f)
			}
		}
	}
}

func TestWhatIsWrongAheadOfAtomsStays(t *testing.T) { // P4.2
	for _, x := range flaws() {
		if x.want.part == 2 {
			return
		}
		f := base()
		x.turn(&f)
		for _, a := range []api.Atom{{Thread: 9}, {Thread: -1, Name: "v"}, {Thread: -1, Name: "w"}, {Name: "eax"}, {}, {}} {
			f.Cond = append(f.Cond, a)
			expect(t, x.name, f, x.want)
		}
	}
}

func TestWrongCellsAndAtomsStay(t *testing.T) { // P4.2
	for _, l := range [][]api.Cell{{{Loc: ""}}, {{Loc: "x"}, {Loc: "eax"}}, {{Loc: "x"}, {Loc: "x"}}, {{Loc: "x"}, {Loc: "a"}}} {
		was := check(api.File{Name: "p", Init: l})
		for _, s := range []string{"", "x", "zz", "a", "eax"} {
			f := base()
			f.Init = append(slices.Clone(l), api.Cell{Loc: s})
			expect(t, l, f, was)
			f.Threads = slices.Repeat(f.Threads, 2)
			expect(t, l, f, was)
		}
	}
	for _, bad := range []api.Atom{{Thread: 3, Name: "eax"}, {Thread: 2, Name: "eax"}, {}, {Thread: -1}} {
		f := base()
		f.Cond = []api.Atom{{Name: "eax"}, bad}
		was := check(f)
		for n := range 9 {
			for _, a := range []api.Atom{{Thread: -1, Name: "n" + strconv.Itoa(n)}, {}, {Thread: 2, Name: "ebx"}} {
				f.Cond = append(f.Cond, a)
				expect(t, bad, f, was)
			}
		}
	}
}

func TestTooManyStay(t *testing.T) { // P4.2
	f := base()
	f.Cond = slices.Repeat([]api.Atom{{Name: "eax"}}, 7)
	for range 3 {
		expect(t, "seventh", f, told{2, 6, api.ErrFull})
		f.Cond = append(f.Cond, api.Atom{Thread: 5})
	}
	five := of([]api.Line{load("a"), load("b"), load("c"), load("d"), load("e")})
	for _, l := range [][]api.Line{{put("a")}, {put("f")}, {fence, label("l")}} {
		expect(t, "five", of(five.Threads[0].Lines, l), told{-1, -1, api.ErrFull})
	}
	for n := 4; n < 9; n++ {
		expect(t, n, of(make([][]api.Line, n)...), told{-1, -1, api.ErrFull})
	}
}

func TestThreadsAreRightOneByOne(t *testing.T) { // P4.3
	l := rows(2)
	alone := make([]told, len(l))
	for i, r := range l {
		alone[i] = check(of(r))
	}
	first := func(of ...int) told {
		for i, k := range of {
			if alone[k].e != api.OK {
				return told{i, alone[k].at, alone[k].e}
			}
		}
		return fine
	}
	for a := range l {
		for b := range l {
			if got := check(of(l[a], l[b])); got != first(a, b) {
				t.Fatalf("Check is %v, not %v: %+v, %+v", got, first(a, b), l[a], l[b])
			}
			c := (a*31 + b*17) % len(l)
			if got := check(of(l[a], l[b], l[c])); got != first(a, b, c) {
				t.Fatalf("Check is %v, not %v: %+v, %+v, %+v", got, first(a, b, c), l[a], l[b], l[c])
			}
		}
	}
	// Long ones, too.
	d := dice(7)
	for range 5_000 {
		a, b, c := d.row(), d.row(), d.row()
		all := valid.Right(of(a)) && valid.Right(of(b)) && valid.Right(of(c))
		if valid.Right(of(a, b, c)) != all || valid.Right(of(c, a, b)) != all {
			t.Fatalf("together %v, alone %v: %+v, %+v, %+v", !all, all, a, b, c)
		}
	}
}

func TestLongProgramsEnd(t *testing.T) { // P1
	const n = 300_000
	var init []api.Cell
	for i := range n {
		init = append(init, api.Cell{Loc: "a" + strconv.Itoa(1_000_000+i)})
	}
	jumps := slices.Repeat([]api.Line{jump(api.OpJmp, "z")}, n)
	for i, c := range []struct {
		f    api.File
		want told
	}{
		{api.File{Name: strings.Repeat("a", n)}, told{-1, -1, api.ErrName}},
		{api.File{Name: "p", Init: init}, told{-1, -1, api.ErrFull}},
		{api.File{Name: "p", Init: init, Threads: make([]api.Thread, 1)}, told{-1, -1, api.ErrFull}},
		{api.File{Name: "p", Threads: make([]api.Thread, n)}, told{-1, -1, api.ErrFull}},
		{api.File{Name: "p", Threads: make([]api.Thread, 3), Cond: make([]api.Atom, n)}, told{3, 0, api.ErrArg}},
		{of(labels(n), labels(n)), told{0, 8, api.ErrFull}},
		{of(imms(n), imms(n)), told{0, 8, api.ErrFull}},
		{of(slices.Repeat([]api.Line{fence}, n)), told{0, 1, api.ErrFence}},
		{of(jumps), told{0, 0, api.ErrName}},
		{of(append(jumps, label("z"))), told{0, 8, api.ErrFull}},
		{of(make([]api.Line, n)), told{0, 0, api.ErrLine}},
		{api.File{}, told{-1, -1, api.ErrName}},
	} {
		expect(t, i, c.f, c.want)
	}
}

func TestAnswersHangOnArgumentsAlone(t *testing.T) { // P3
	f := base()
	f.Init = append(f.Init, api.Cell{Loc: "y"}, api.Cell{Loc: "spare"})[:3]
	f.Threads[0].Lines = append(f.Threads[0].Lines, label("l"), label("spare"))[:4]
	was := deep(f)
	kept := valid.Locs(f)
	for range 3 {
		l := valid.Locs(f)
		l = l[:cap(l)]
		for i := range l {
			l[i] = "other"
		}
		expect(t, "again", f, fine)
	}
	if !reflect.DeepEqual(f, was) || f.Init[:4][3].Loc != "spare" || f.Threads[0].Lines[:5][4].Label != "spare" {
		t.Errorf("what was handed in was changed: %+v", f)
	}
	// What is done to a program later is not seen in what was told of it, but in what is told then.
	f.Init[0].Loc, f.Threads[0].Lines[0].Loc = "c", "w"
	if !slices.Equal(kept, []string{"b", "x", "y"}) {
		t.Errorf("%q", kept)
	}
	expect(t, "changed", f, fine)
	f.Threads[0].Lines[2] = fence
	expect(t, "wrong", f, told{0, 2, api.ErrFence})
}
