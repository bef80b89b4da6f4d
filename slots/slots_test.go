package slots_test

import (
	"math"
	"reflect"
	"slices"
	"strconv"
	"testing"

	"fencepost/api"
	"fencepost/code"
	"fencepost/slots"
)

// The chapter's words once more, each asked for by itself.

// spot is a thread, and the place of a step or line of it.
type spot struct{ thread, at int }

// spots are where the slots are, in order.
func spots[T any](threads [][]T, label func(T) bool) []spot {
	var l []spot
	for i, t := range threads {
		for at, x := range t {
			if !label(x) {
				l = append(l, spot{i, at})
			}
		}
	}
	return l
}

// numbers are the slots, by where they are.
func numbers[T any](threads [][]T, label func(T) bool) map[spot]int {
	m := map[spot]int{}
	for n, w := range spots(threads, label) {
		m[w] = n
	}
	return m
}

// asked is a function that says if right ahead of what stands there is a slot of the row.
func asked[T any](threads [][]T, label func(T) bool, row []int) func(thread, at int) bool {
	m := numbers(threads, label)
	return func(thread, at int) bool {
		n, there := m[spot{thread, at}]
		return there && slices.Contains(row, n)
	}
}

func noLabel(api.Step) bool   { return false }
func isLabel(l api.Line) bool { return l.Op == api.OpLabel }
func isJump(s api.Step) bool  { return s.Op == api.OpJmp || s.Op == api.OpJe || s.Op == api.OpJne }
func lineLists(f api.File) (l [][]api.Line) {
	for _, t := range f.Threads {
		l = append(l, t.Lines)
	}
	return l
}

// insert is what Insert is to be: where a step is that a jump goes to, is looked for by the place from which it came, which its fence bears, too.
func insert(p api.Prog, g []int) api.Prog {
	q := api.Prog{Init: slices.Clone(p.Init)}
	in := asked(p.Threads, noLabel, g)
	for i, t := range p.Threads {
		var steps []api.Step
		var from []int
		for at, s := range t {
			if in(i, at) {
				steps, from = append(steps, api.Step{Op: api.OpFence}), append(from, at)
			}
			steps, from = append(steps, s), append(from, at)
		}
		from = append(from, len(t))
		for at := range steps {
			if isJump(steps[at]) {
				steps[at].To = slices.Index(from, steps[at].To)
			}
		}
		q.Threads = append(q.Threads, steps)
	}
	return q
}

// fence is what Fence is to be.
func fence(f api.File, g []int) api.File {
	lists := lineLists(f)
	in := asked(lists, isLabel, g)
	f.Threads = nil
	for i, t := range lists {
		var lines []api.Line
		for at, l := range t {
			if in(i, at) {
				lines = append(lines, fenceLine)
			}
			lines = append(lines, l)
		}
		f.Threads = append(f.Threads, api.Thread{Lines: lines})
	}
	return f
}

// alike: do the same things stand in both? (An empty list may be nil or not.)
func alike(p, q api.Prog) bool {
	same := func(a, b []api.Step) bool { return slices.Equal(a, b) }
	return slices.Equal(p.Init, q.Init) && slices.EqualFunc(p.Threads, q.Threads, same)
}

// alikeFiles: do the same things stand in both?
func alikeFiles(f, g api.File) bool {
	same := func(a, b api.Thread) bool { return slices.Equal(a.Lines, b.Lines) }
	return f.Name == g.Name && f.All == g.All && slices.Equal(f.Init, g.Init) && slices.Equal(f.Cond, g.Cond) && slices.EqualFunc(f.Threads, g.Threads, same)
}

// holdNumbers holds Many, Of and Num against the chapter's words, and Of and Num against one another.
func holdNumbers(t *testing.T, p api.Prog) {
	t.Helper()
	l := spots(p.Threads, noLabel)
	if got := slots.Many(p); got != len(l) {
		t.Fatalf("%d slots, not %d: %+v", got, len(l), p)
	}
	for n, w := range l {
		if i, at, is := slots.Of(p, n); i != w.thread || at != w.at || !is {
			t.Fatalf("slot %d is at %d %d %v, not at %+v: %+v", n, i, at, is, w, p)
		}
	}
	for _, n := range []int{-1, -2, len(l), len(l) + 1, 1 << 32, math.MinInt, math.MaxInt} {
		if i, at, is := slots.Of(p, n); i != 0 || at != 0 || is {
			t.Fatalf("slot %d is at %d %d %v: %+v", n, i, at, is, p)
		}
	}
	m := numbers(p.Threads, noLabel)
	for i := -1; i <= len(p.Threads); i++ {
		for at := -1; at < 43; at++ {
			want, there := m[spot{i, at}]
			if !there {
				want = -1
			}
			if got := slots.Num(p, i, at); got != want {
				t.Fatalf("slot %d of %d %d, not %d: %+v", got, i, at, want, p)
			}
		}
	}
}

// Lines and steps by what they are.
var (
	fenceLine = api.Line{Op: api.OpFence}
	put       = api.Line{Op: api.OpPut, Loc: "x", N: 5}
	load      = api.Line{Op: api.OpLoad, Reg: "eax", Loc: "x"}
	fenceStep = api.Step{Op: api.OpFence}
	putStep   = api.Step{Op: api.OpPut, N: 5}
)

func label(l string) api.Line        { return api.Line{Op: api.OpLabel, Label: l} }
func jump(op int, l string) api.Line { return api.Line{Op: op, Label: l} }
func to(op, n int) api.Step          { return api.Step{Op: op, To: n} }

// of is a program of these threads.
func of(threads ...[]api.Line) api.File {
	f := api.File{Name: "p", All: true, Init: []api.Cell{{Loc: "x", N: 3}}, Cond: []api.Atom{{Thread: -1, Name: "x", N: 5}}}
	for _, l := range threads {
		f.Threads = append(f.Threads, api.Thread{Lines: l})
	}
	return f
}

// codeOf is a code of these threads.
func codeOf(threads ...[]api.Step) api.Prog { return api.Prog{Init: []int{3}, Threads: threads} }

// base is a code with an empty thread, and jumps on, over and to the end.
func base() api.Prog {
	return codeOf([]api.Step{to(api.OpJe, 2), putStep, to(api.OpJne, 3)}, nil, []api.Step{to(api.OpJmp, 1), putStep})
}

func TestNumbers(t *testing.T) { // P8.1: H1
	p := base()
	if n := slots.Many(p); n != 5 {
		t.Error(n)
	}
	for n, want := range []spot{{0, 0}, {0, 1}, {0, 2}, {2, 0}, {2, 1}} {
		if i, at, is := slots.Of(p, n); i != want.thread || at != want.at || !is {
			t.Error(n, i, at, is)
		}
		if got := slots.Num(p, want.thread, want.at); got != n {
			t.Error(n, got)
		}
	}
	for _, w := range []spot{{0, 3}, {0, -1}, {1, 0}, {2, 2}, {3, 0}, {-1, 0}, {-1, -1}, {0, math.MaxInt}, {0, math.MinInt}, {math.MaxInt, 0}, {math.MinInt, 0}} {
		if got := slots.Num(p, w.thread, w.at); got != -1 {
			t.Error(w, got)
		}
	}
	holdNumbers(t, p)
	for _, p := range []api.Prog{codeOf(nil), codeOf(nil, nil, nil), codeOf(nil, nil, []api.Step{putStep}), codeOf([]api.Step{putStep}, nil), codeOf(slices.Repeat([]api.Step{fenceStep}, 40), slices.Repeat([]api.Step{fenceStep}, 40), slices.Repeat([]api.Step{fenceStep}, 40))} {
		holdNumbers(t, p)
	}
}

func TestInserts(t *testing.T) { // P8.1: H2
	jmp, je, jne := api.OpJmp, api.OpJe, api.OpJne
	same := base().Threads
	for i, c := range []struct {
		p    api.Prog
		g    []int
		want [][]api.Step
	}{
		// The chapter's example: a jump to 1, slot 1.
		{codeOf([]api.Step{to(jmp, 1), putStep}), []int{1}, [][]api.Step{{to(jmp, 1), fenceStep, putStep}}},
		{base(), nil, same},
		{base(), []int{}, same},
		{base(), []int{-1, 5, 6, math.MinInt, math.MaxInt}, same},
		{base(), []int{0}, [][]api.Step{{fenceStep, to(je, 3), putStep, to(jne, 4)}, nil, same[2]}},
		{base(), []int{1}, [][]api.Step{{to(je, 3), fenceStep, putStep, to(jne, 4)}, nil, same[2]}},
		{base(), []int{2}, [][]api.Step{{to(je, 2), putStep, fenceStep, to(jne, 4)}, nil, same[2]}},
		{base(), []int{3}, [][]api.Step{same[0], nil, {fenceStep, to(jmp, 2), putStep}}},
		{base(), []int{4}, [][]api.Step{same[0], nil, {to(jmp, 1), fenceStep, putStep}}},
		{base(), []int{4, 4, 9, 0, -1, 4, 0}, [][]api.Step{{fenceStep, to(je, 3), putStep, to(jne, 4)}, nil, {to(jmp, 1), fenceStep, putStep}}},
		{base(), []int{4, 3, 2, 1, 0}, [][]api.Step{{fenceStep, to(je, 4), fenceStep, putStep, fenceStep, to(jne, 6)}, nil, {fenceStep, to(jmp, 2), fenceStep, putStep}}},
		// A fence that is there is a step like others; its slot may be fenced.
		{codeOf([]api.Step{to(je, 1), fenceStep, to(jmp, 3)}), []int{1}, [][]api.Step{{to(je, 1), fenceStep, fenceStep, to(jmp, 4)}}},
		{codeOf(nil), []int{0}, [][]api.Step{nil}},
		{codeOf(nil, nil, []api.Step{putStep}), []int{0}, [][]api.Step{nil, nil, {fenceStep, putStep}}},
	} {
		q := slots.Insert(c.p, c.g)
		if want := (api.Prog{Init: []int{3}, Threads: c.want}); !alike(q, want) || !alike(insert(c.p, c.g), want) {
			t.Errorf("%d: %+v, not %+v", i, q, want)
		}
	}
}

func TestFences(t *testing.T) { // P8.1: H3; P8.2
	l := []api.Line{put, label("a"), label("b"), load, label("c")}
	m := []api.Line{fenceLine, jump(api.OpJmp, "d"), label("d")}
	for i, c := range []struct {
		f    api.File
		g    []int
		want [][]api.Line
	}{
		{of(l, m), nil, [][]api.Line{l, m}},
		{of(l, m), []int{-1, 4, math.MinInt, math.MaxInt}, [][]api.Line{l, m}},
		{of(l, m), []int{0}, [][]api.Line{{fenceLine, put, label("a"), label("b"), load, label("c")}, m}},
		{of(l, m), []int{1, 1, 1}, [][]api.Line{{put, label("a"), label("b"), fenceLine, load, label("c")}, m}},
		{of(l, m), []int{2}, [][]api.Line{l, {fenceLine, fenceLine, jump(api.OpJmp, "d"), label("d")}}},
		{of(l, m), []int{3}, [][]api.Line{l, {fenceLine, fenceLine, jump(api.OpJmp, "d"), label("d")}}},
		{of(l, nil, m), []int{3, 7, 2, 0, -1, 0}, [][]api.Line{{fenceLine, put, label("a"), label("b"), load, label("c")}, nil, {fenceLine, fenceLine, fenceLine, jump(api.OpJmp, "d"), label("d")}}},
		{of([]api.Line{label("a")}), []int{0, 1, -1}, [][]api.Line{{label("a")}}},
		{of(nil), []int{0}, [][]api.Line{nil}},
		{of(), []int{0}, nil},
		// Programs may be any: a line is a label or a step, whatever it has; there may be more threads, or lines, than a right one has.
		{of([]api.Line{{}, {Op: api.OpLabel, N: 1}, {Op: -1}, {Op: 99}}, l[:1], l[:1], l[:1], l[:1]), []int{0, 1, 2, 6}, [][]api.Line{{fenceLine, {}, {Op: api.OpLabel, N: 1}, fenceLine, {Op: -1}, fenceLine, {Op: 99}}, l[:1], l[:1], l[:1], {fenceLine, put}}},
	} {
		q := slots.Fence(c.f, c.g)
		if want := of(c.want...); !alikeFiles(q, want) || !alikeFiles(fence(c.f, c.g), want) {
			t.Errorf("%d: %+v, not %+v", i, q, want)
		}
		if e, is := slots.Erase(q, c.g); !is || !alikeFiles(e, c.f) {
			t.Errorf("%d: %+v %v, not %+v", i, e, is, c.f)
		}
	}
}

func TestWhatHasNoSuchFences(t *testing.T) { // P8.1: H3
	for i, c := range []struct {
		f api.File
		g []int
	}{
		{of([]api.Line{put}), []int{0}},
		// Nothing is behind the fence; a label is; a step of another thread is.
		{of([]api.Line{fenceLine}), []int{0}},
		{of([]api.Line{put, fenceLine}), []int{1}},
		{of([]api.Line{fenceLine, label("l")}), []int{0}},
		{of([]api.Line{fenceLine, label("l"), put}), []int{0}},
		{of([]api.Line{fenceLine}, []api.Line{put}), []int{0}},
		{of([]api.Line{fenceLine}, nil, []api.Line{fenceLine, put}), []int{0}},
		// It is no plain fence.
		{of([]api.Line{{Op: api.OpFence, Reg: "eax"}, put}), []int{0}},
		{of([]api.Line{{Op: api.OpFence, Loc: "x"}, put}), []int{0}},
		{of([]api.Line{{Op: api.OpFence, Label: "l"}, put}), []int{0}},
		{of([]api.Line{{Op: api.OpFence, N: 1}, put}), []int{0}},
		// Slots are numbered as if the row's fences were not there.
		{of([]api.Line{fenceLine, put, load, fenceLine, put}), []int{0, 3}},
		{of([]api.Line{fenceLine, put, fenceLine, load}), []int{0, 2}},
		{of([]api.Line{put, fenceLine, load}), []int{0}},
		{of([]api.Line{put, fenceLine, load}), []int{1, 2, 0}},
		// One is there, another one is not; in another thread.
		{of([]api.Line{fenceLine, put, load}), []int{0, 1}},
		{of([]api.Line{fenceLine, put}, []api.Line{load}), []int{0, 1}},
		{of([]api.Line{fenceLine, put}, []api.Line{load}), []int{1}},
		// Two fences, three are needed: the last one's step is lacking.
		{of([]api.Line{fenceLine, fenceLine, fenceLine}), []int{0, 1}},
	} {
		if e, is := slots.Erase(c.f, c.g); is || !alikeFiles(e, c.f) {
			t.Errorf("%d: %+v %v", i, e, is)
		}
	}
}

func TestErasesWhatIsThere(t *testing.T) { // P8.1: H3
	for i, c := range []struct {
		f    api.File
		g    []int
		want [][]api.Line
	}{
		// Slots that are none of the smaller program's tell nothing, even if they are the greater one's.
		{of([]api.Line{fenceLine, put}), []int{0, 1}, [][]api.Line{{put}}},
		{of([]api.Line{put}), []int{1, -1, math.MaxInt}, [][]api.Line{{put}}},
		{of(), []int{0}, nil},
		{of(nil, nil), []int{0}, [][]api.Line{nil, nil}},
		{of([]api.Line{label("l")}), []int{0}, [][]api.Line{{label("l")}}},
		// Of fences in a row the one ahead is taken, the one behind it is its step.
		{of([]api.Line{fenceLine, fenceLine}), []int{0}, [][]api.Line{{fenceLine}}},
		{of([]api.Line{fenceLine, fenceLine, fenceLine}), []int{1}, [][]api.Line{{fenceLine, fenceLine}}},
		{of([]api.Line{fenceLine, fenceLine, fenceLine, fenceLine}), []int{1, 0}, [][]api.Line{{fenceLine, fenceLine}}},
		{of([]api.Line{fenceLine, {Op: api.OpFence, N: 1}}), []int{0}, [][]api.Line{{{Op: api.OpFence, N: 1}}}},
		{of([]api.Line{put, fenceLine, load}, []api.Line{label("l"), fenceLine, put}), []int{2, 1}, [][]api.Line{{put, load}, {label("l"), put}}},
		// Fences that are none of the row's stay.
		{of([]api.Line{fenceLine, put, fenceLine, load}), []int{2}, [][]api.Line{{fenceLine, put, load}}},
		{of([]api.Line{fenceLine, put, fenceLine, load}), nil, [][]api.Line{{fenceLine, put, fenceLine, load}}},
	} {
		e, is := slots.Erase(c.f, c.g)
		if want := of(c.want...); !is || !alikeFiles(e, want) {
			t.Errorf("%d: %+v %v, not %+v", i, e, is, want)
		}
	}
}

// rows are all lists of at most so many things.
func rows[T any](things []T, most int) [][]T {
	l := [][]T{nil}
	for i := 0; i < len(l); i++ {
		for _, x := range things {
			if len(l[i]) < most {
				l = append(l, append(slices.Clone(l[i]), x))
			}
		}
	}
	return l
}

// key is a text that tells one program's lines from another's.
func key(f api.File) string {
	s := ""
	for _, t := range f.Threads {
		for _, l := range t.Lines {
			s += strconv.Itoa(l.Op) + "," + strconv.Itoa(l.N) + ";"
		}
		s += "|"
	}
	return s
}

func TestAllSmallPrograms(t *testing.T) { // P8.1: H3; P8.2; that there is at most one
	var files []api.File
	lists := rows([]api.Line{fenceLine, label("l"), put, {Op: api.OpFence, N: 1}}, 4)
	for _, a := range lists {
		for _, b := range lists {
			if len(a)+len(b) <= 4 {
				files = append(files, of(a, b))
			}
		}
	}
	for _, g := range [][]int{{}, {0}, {1}, {1, 0}, {2}, {0, 2}, {2, 1}, {0, 1, 2}, {3}, {3, 0}, {1, 3}, {3, 1, 0}, {2, 3}, {-1, 4}} {
		from := map[string]api.File{}
		for _, e := range files {
			f := slots.Fence(e, g)
			if !alikeFiles(f, fence(e, g)) {
				t.Fatalf("%v: %+v: %+v", g, e, f)
			}
			if _, there := from[key(f)]; there {
				t.Fatalf("%v: two of which this is the fenced one: %+v", g, f)
			}
			from[key(f)] = e
			if got, is := slots.Erase(f, g); !is || !alikeFiles(got, e) {
				t.Fatalf("%v: %+v: %+v %v", g, f, got, is)
			}
		}
		// Whatever has fences put in is no shorter than it was, so that all of which a small one may come stand in from.
		for _, f := range files {
			want, there := from[key(f)]
			if !there {
				want = f
			}
			if got, is := slots.Erase(f, g); is != there || !alikeFiles(got, want) {
				t.Fatalf("%v: %+v: %+v %v, not %+v %v", g, f, got, is, want, there)
			}
		}
	}
}

// dice throws numbers that are the same each time.
type dice uint64

// below is a number from 0 to n - 1.
func (d *dice) below(n int) int {
	*d = *d*6364136223846793005 + 1442695040888963407
	return int(uint64(*d) >> 33 % uint64(n))
}

// thrown is one of these.
func thrown[T any](d *dice, l ...T) T { return l[d.below(len(l))] }

// row is a row of numbers, of which most are below n.
func (d *dice) row(n int) []int {
	var g []int
	for range d.below(n + 2) {
		g = append(g, thrown(d, d.below(n+1), d.below(n+1), d.below(n+1), -d.below(3), math.MinInt, math.MaxInt, n+d.below(9)))
	}
	return g
}

// steps are a thread's, whose jumps go on.
func (d *dice) steps(n int) []api.Step {
	var l []api.Step
	for at := range n {
		on := at + 1 + d.below(n-at)
		l = append(l, thrown(d, fenceStep, putStep, api.Step{Op: api.OpImm, Reg: 1, N: -7}, api.Step{Op: api.OpXchg, Reg: 3, Loc: 0}, to(api.OpJmp, on), to(api.OpJe, on), to(api.OpJne, on), to(api.OpJmp, n)))
	}
	return l
}

func TestManyCodes(t *testing.T) { // P8.1: H1, H2
	d := dice(1)
	for range 2000 {
		p := codeOf()
		for range 1 + d.below(3) {
			p.Threads = append(p.Threads, d.steps(thrown(&d, 0, 1, 3, 8, d.below(41), 40)))
		}
		if !code.Right(p) {
			t.Fatalf("not right: %+v", p)
		}
		holdNumbers(t, p)
		g := d.row(slots.Many(p))
		if q := slots.Insert(p, g); !alike(q, insert(p, g)) || !code.Right(q) {
			t.Fatalf("%v: %+v: %+v, not %+v", g, p, q, insert(p, g))
		}
	}
}

// lines are a thread's, which are right if no fence is right behind a fence.
func (d *dice) lines() []api.Line {
	var l []api.Line
	goal := func(i int) string { return "m" + strconv.Itoa(min(i+d.below(4), 7)) }
	for i := range 8 {
		if d.below(3) > 0 {
			l = append(l, thrown(d, put, load, api.Line{Op: api.OpXchg, Reg: "edx", Loc: "a"}, jump(api.OpJmp, goal(i)), jump(api.OpJe, goal(i)), jump(api.OpJne, goal(i))))
		}
		if d.below(6) == 0 {
			l = append(l, fenceLine)
		}
		l = append(l, label("m"+strconv.Itoa(i)))
		if d.below(6) == 0 {
			l = append(l, fenceLine)
		}
	}
	return l
}

func TestCodeOfFencedIsFencedCode(t *testing.T) { // P8.2, P8.3
	d := dice(2)
	met := map[bool]int{}
	for range 10_000 {
		f := of(d.lines(), thrown(&d, d.lines(), nil))
		p, e := code.Code(f)
		if e != api.OK {
			continue
		}
		g := d.row(4)
		if d.below(2) == 0 {
			g = d.row(slots.Many(p))
		}
		fenced := slots.Fence(f, g)
		if !alikeFiles(fenced, fence(f, g)) {
			t.Fatalf("%v: %+v: %+v", g, f, fenced)
		}
		if got, is := slots.Erase(fenced, g); !is || !alikeFiles(got, f) {
			t.Fatalf("%v: %+v: %+v %v", g, f, got, is)
		}
		// A fence right behind a fence is not right, so that such a program has no code.
		q, e := code.Code(fenced)
		met[e == api.OK]++
		if e == api.OK && !alike(q, slots.Insert(p, g)) {
			t.Fatalf("%v: %+v: %+v, not %+v", g, f, slots.Insert(p, g), q)
		}
	}
	if met[true] < 2000 || met[false] < 1000 {
		t.Error(met)
	}
}

func TestJumpsLandOnFences(t *testing.T) { // P8.3
	f := of([]api.Line{jump(api.OpJmp, "a"), jump(api.OpJe, "b"), put, label("a"), load, label("b")})
	p, _ := code.Code(f)
	q := slots.Insert(p, []int{3, 1})
	if !alike(q, codeOf([]api.Step{to(api.OpJmp, 4), fenceStep, to(api.OpJe, 6), putStep, fenceStep, {Op: api.OpLoad}})) {
		t.Errorf("%+v", q)
	}
	if r, e := code.Code(slots.Fence(f, []int{3, 1})); e != api.OK || !alike(q, r) || q.Threads[0][q.Threads[0][0].To] != fenceStep {
		t.Errorf("%+v %v", r, e)
	}
}

func TestLongProgramsEnd(t *testing.T) { // P1
	const n = 200_000
	row := make([]int, n)
	for i := range row {
		row[i] = i
	}
	for i, f := range []api.File{of(slices.Repeat([]api.Line{put, label("l")}, n)), {Threads: slices.Repeat([]api.Thread{{Lines: []api.Line{put, label("l")}}}, n)}} {
		q := slots.Fence(f, row)
		many := 0
		for _, t := range q.Threads {
			many += len(t.Lines)
		}
		if e, is := slots.Erase(q, row); many != 3*n || !is || !alikeFiles(e, f) {
			t.Errorf("%d: %d %v", i, many, is)
		}
		if _, is := slots.Erase(q, slices.Repeat([]int{n - 1, -1, math.MaxInt}, n)); is {
			t.Errorf("%d: one alone", i)
		}
	}
	if q := slots.Insert(base(), row); len(q.Threads[0]) != 6 {
		t.Errorf("%+v", q)
	}
}

// overwrite writes over all of a list, its spare room, too.
func overwrite[T any](l []T, x T) {
	l = l[:cap(l)]
	for i := range l {
		l[i] = x
	}
}

// overwriteFile writes over all of a program.
func overwriteFile(f api.File) {
	overwrite(f.Init, api.Cell{Loc: "w"})
	overwrite(f.Cond, api.Atom{Name: "w"})
	for _, t := range f.Threads {
		overwrite(t.Lines, api.Line{Op: 77})
	}
	overwrite(f.Threads, api.Thread{})
}

// roomy is a list with spare room in which x stands.
func roomy[T any](x T, l ...T) []T { return append(l, x, x, x)[:len(l)] }

// fileWithRoom and codeWithRoom have spare room everywhere.
func fileWithRoom() api.File {
	lines := func(l ...api.Line) api.Thread { return api.Thread{Lines: roomy(api.Line{Op: 66}, l...)} }
	f := of()
	f.Init, f.Cond = roomy(api.Cell{N: 66}, f.Init...), roomy(api.Atom{N: 66}, f.Cond...)
	f.Threads = roomy(lines(put), lines(put, label("l"), fenceLine, load), lines(), lines(fenceLine, load))
	return f
}

func codeWithRoom() api.Prog {
	p := base()
	for i, t := range p.Threads {
		p.Threads[i] = roomy(api.Step{Op: 66}, t...)
	}
	return api.Prog{Init: roomy(66, p.Init...), Threads: roomy([]api.Step{{Op: 66}}, p.Threads...)}
}

// whole shows all of a program, with the spare room of its lists.
func whole(f api.File) []any {
	all := []any{f.Name, f.All, f.Init[:cap(f.Init)], f.Cond[:cap(f.Cond)]}
	for _, t := range f.Threads[:cap(f.Threads)] {
		all = append(all, len(t.Lines), t.Lines[:cap(t.Lines)])
	}
	return all
}

// wholeCode shows all of a code, with the spare room of its lists.
func wholeCode(p api.Prog) []any {
	all := []any{p.Init[:cap(p.Init)]}
	for _, t := range p.Threads[:cap(p.Threads)] {
		all = append(all, len(t), t[:cap(t)])
	}
	return all
}

func TestAnswersHangOnArgumentsAlone(t *testing.T) { // P3
	for _, g := range [][]int{nil, {0}, {1, 0, 1}, {-1, 3, 99}, {1, 2}, {1, 3}} {
		row := roomy(2, g...)
		f, p := fileWithRoom(), codeWithRoom()
		for range 3 {
			q := slots.Insert(p, row)
			if !alike(q, insert(base(), g)) {
				t.Fatalf("%v: %+v", g, q)
			}
			overwrite(q.Init, 77)
			for _, l := range q.Threads {
				overwrite(l, api.Step{Op: 77})
			}
			overwrite(q.Threads, nil)
			fenced := slots.Fence(f, row)
			if !alikeFiles(fenced, fence(fileWithRoom(), g)) {
				t.Fatalf("%v: %+v", g, fenced)
			}
			overwriteFile(fenced)
			e, _ := slots.Erase(f, row)
			overwriteFile(e)
		}
		if !reflect.DeepEqual(whole(f), whole(fileWithRoom())) || !reflect.DeepEqual(wholeCode(p), wholeCode(codeWithRoom())) || !slices.Equal(row[:cap(row)], roomy(2, g...)[:cap(row)]) {
			t.Errorf("%v: what was handed in was changed: %+v %+v", g, f, p)
		}
	}
	if _, is := slots.Erase(fileWithRoom(), []int{1, 2}); !is {
		t.Error("no row of these was erased")
	}
}
