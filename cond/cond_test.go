package cond_test

import (
	"math"
	"reflect"
	"slices"
	"strings"
	"testing"

	"fencepost/api"
	"fencepost/code"
	"fencepost/cond"
	"fencepost/expl"
	"fencepost/parse"
	"fencepost/samples"
	"fencepost/valid"
)

// The chapter's words once more, each asked for by itself.

// locsOf are the locations of f, rising, each once, wherever they are named.
func locsOf(f api.File) []string {
	var l []string
	for _, c := range f.Init {
		l = append(l, c.Loc)
	}
	for _, t := range f.Threads {
		for _, x := range t.Lines {
			if x.Loc != "" {
				l = append(l, x.Loc)
			}
		}
	}
	for _, a := range f.Cond {
		if a.Thread == -1 {
			l = append(l, a.Name)
		}
	}
	slices.Sort(l)
	return slices.Compact(l)
}

// namesOf are what the numbers of an end that fits f belong to, as atoms without a number: first of Mem, then of Regs.
func namesOf(f api.File) (mem, regs []api.Atom) {
	for _, loc := range locsOf(f) {
		mem = append(mem, api.Atom{Thread: -1, Name: loc})
	}
	for i := range f.Threads {
		for _, reg := range []string{"eax", "ebx", "ecx", "edx"} {
			regs = append(regs, api.Atom{Thread: i, Name: reg})
		}
	}
	return mem, regs
}

// holds: does o fit f, and each atom hold of it? All that an end says is told as atoms, among which each asked one must be.
func holds(f api.File, o api.Out) bool {
	mem, regs := namesOf(f)
	if len(o.Mem) != len(mem) || len(o.Regs) != len(regs) {
		return false
	}
	said := slices.Concat(mem, regs)
	for i, n := range slices.Concat(o.Mem, o.Regs) {
		said[i].N = n
	}
	for _, a := range f.Cond {
		if !slices.Contains(said, a) {
			return false
		}
	}
	return true
}

// value: does f hold of as many ends as is asked?
func value(f api.File, l []api.Out) bool {
	many := 0
	for _, o := range l {
		if holds(f, o) {
			many++
		}
	}
	if f.All {
		return many == len(l)
	}
	return many > 0
}

// hold holds both calls of a row of ends against the chapter's words.
func hold(t *testing.T, f api.File, l []api.Out) {
	t.Helper()
	for _, f.All = range []bool{false, true} {
		for _, o := range l {
			if got := cond.Holds(f, o); got != holds(f, o) {
				t.Fatalf("%+v holds of %v: %v", f, o, got)
			}
		}
		if got := cond.Value(f, l); got != value(f, l) {
			t.Fatalf("%+v of %v: %v", f, l, got)
		}
	}
}

// of asks for these atoms.
func of(f api.File, l ...api.Atom) api.File {
	f.Cond = l
	return f
}

// all asks of all ends, one of one.
func all(f api.File) api.File {
	f.All = true
	return f
}

func one(f api.File) api.File {
	f.All = false
	return f
}

func loc(name string, n int) api.Atom             { return api.Atom{Thread: -1, Name: name, N: n} }
func reg(thread int, name string, n int) api.Atom { return api.Atom{Thread: thread, Name: name, N: n} }

// base is a program of so many threads, whose locations are, in order, l, l0, la and m: one of a cell, two of lines that no run comes to, and one that may be an atom's alone.
func base(threads int) api.File {
	f := api.File{Name: "p", Init: []api.Cell{{Loc: "la", N: 5}}, Cond: []api.Atom{loc("l0", 8)}}
	for range threads {
		f.Threads = append(f.Threads, api.Thread{Lines: []api.Line{
			{Op: api.OpJmp, Label: "e"},
			{Op: api.OpPut, Loc: "m", N: 1},
			{Op: api.OpLoad, Reg: "ebx", Loc: "l"},
			{Op: api.OpLabel, Label: "e"},
		}})
	}
	return f
}

// end is one that fits base(threads), no two numbers of which are alike.
func end(threads int) api.Out {
	o := api.Out{Mem: []int{100, 101, 102, 103}}
	for i := range 4 * threads {
		o.Regs = append(o.Regs, i)
	}
	return o
}

// nudged is o with another number at one place: of Mem first, then of Regs.
func nudged(o api.Out, place, by int) api.Out {
	o = samples.CloneEnds([]api.Out{o})[0]
	if place < len(o.Mem) {
		o.Mem[place] += by
	} else {
		o.Regs[place-len(o.Mem)] += by
	}
	return o
}

func TestNothingAskedHoldsOfWhatFits(t *testing.T) { // P17.1: the chapter's example
	for threads := 1; threads <= 3; threads++ {
		f := base(threads)
		// Without the atom there is one location less.
		for _, f.Cond = range [][]api.Atom{nil, {}} {
			for mem := range 7 {
				for regs := range 18 {
					o := api.Out{Mem: make([]int, mem), Regs: make([]int, regs)}
					for _, f.All = range []bool{false, true} {
						if want := mem == 3 && regs == 4*threads; cond.Holds(f, o) != want || cond.Value(f, []api.Out{o}) != want {
							t.Errorf("%d threads: %v, not %v", threads, o, want)
						}
					}
				}
			}
		}
	}
	f := api.File{Name: "p", Threads: make([]api.Thread, 1)}
	if !cond.Holds(f, api.Out{Regs: make([]int, 4)}) || !cond.Holds(f, api.Out{Mem: []int{}, Regs: []int{7, 7, 7, 7}}) || cond.Holds(f, api.Out{}) || cond.Holds(f, api.Out{Mem: []int{0}, Regs: make([]int, 4)}) {
		t.Error("a program without locations")
	}
}

func TestWhatDoesNotFitHasNothing(t *testing.T) { // P17.1: Q1
	for threads := 1; threads <= 3; threads++ {
		f, o := base(threads), end(threads)
		mem, regs := namesOf(f)
		for i, a := range slices.Concat(mem, regs) {
			a.N = slices.Concat(o.Mem, o.Regs)[i]
			f.Cond = []api.Atom{loc("l0", 101), a}
			if !cond.Holds(f, o) {
				t.Fatalf("%v does not hold of %v", a, o)
			}
			for _, other := range []api.Out{
				{}, {Mem: o.Mem}, {Regs: o.Regs}, {Mem: o.Regs, Regs: o.Mem},
				{Mem: append(slices.Clone(o.Mem), 0), Regs: o.Regs}, {Mem: o.Mem[:3], Regs: o.Regs}, {Mem: o.Mem[1:], Regs: o.Regs},
				{Mem: o.Mem, Regs: append(slices.Clone(o.Regs), 0)}, {Mem: o.Mem, Regs: o.Regs[:len(o.Regs)-1]},
				{Mem: o.Mem, Regs: append(slices.Clone(o.Regs), 0, 0, 0, 0)}, {Mem: o.Mem, Regs: o.Regs[4:]},
				{Mem: o.Mem[:3], Regs: append(slices.Clone(o.Regs), 0)},
			} {
				if cond.Holds(f, other) || cond.Value(one(f), []api.Out{other}) || cond.Value(all(f), []api.Out{o, other}) || !cond.Value(one(f), []api.Out{other, o}) {
					t.Errorf("%v holds of %v", a, other)
				}
			}
		}
	}
}

func TestEachAtomAsksItsPlace(t *testing.T) { // P17.1: Q1
	for threads := 1; threads <= 3; threads++ {
		f, o := base(threads), end(threads)
		mem, regs := namesOf(f)
		for i, a := range slices.Concat(mem, regs) {
			a.N = slices.Concat(o.Mem, o.Regs)[i]
			// The second one keeps l0 a location of the program, whatever a asks of.
			f.Cond = []api.Atom{a, loc("l0", 101)}
			if !cond.Holds(f, o) {
				t.Errorf("%v does not hold of %v", a, o)
			}
			for k := range slices.Concat(mem, regs) {
				for _, by := range []int{-1, 1, 1 << 32} {
					// What another place has does not matter.
					if got, want := cond.Holds(f, nudged(o, k, by)), k != i && k != 1; got != want {
						t.Errorf("%v holds of %v: %v", a, nudged(o, k, by), got)
					}
				}
			}
		}
	}
}

func TestEachNumberIsAsked(t *testing.T) { // P17.1: Q1
	numbers := []int{math.MinInt, math.MinInt + 1, -1 << 32, -1, 0, 1, 1 << 32, math.MaxInt - 1, math.MaxInt}
	for _, n := range numbers {
		for _, m := range numbers {
			inMem := of(base(2), loc("l0", m))
			if got := cond.Holds(inMem, api.Out{Mem: []int{m + 1, n, m + 1, m + 1}, Regs: make([]int, 8)}); got != (n == m) {
				t.Errorf("%d of %d: %v", m, n, got)
			}
			inReg := of(base(2), reg(1, "ecx", m))
			if got := cond.Holds(inReg, api.Out{Mem: make([]int, 3), Regs: []int{0, 0, 0, 0, m + 1, m + 1, n, m + 1}}); got != (n == m) {
				t.Errorf("%d of %d: %v", m, n, got)
			}
		}
	}
}

func TestAllAtomsMustHold(t *testing.T) { // P17.1: Q1
	o := end(3)
	right := []api.Atom{loc("l0", 101), reg(2, "edx", 11), loc("m", 103), reg(0, "eax", 0), reg(1, "ecx", 6), loc("l", 100)}
	for wrong := range 1 << len(right) {
		f := of(base(3), slices.Clone(right)...)
		for i := range right {
			f.Cond[i].N += wrong >> i & 1
		}
		if got := cond.Holds(f, o); got != (wrong == 0) {
			t.Errorf("%b wrong: %v", wrong, got)
		}
	}
	// An atom may be there again; two that ask for unlike numbers of one place hold of nothing.
	for i, c := range []struct {
		l    []api.Atom
		want bool
	}{
		{[]api.Atom{right[0], right[0], right[0]}, true},
		{[]api.Atom{right[0], right[1], right[1], right[0]}, true},
		{[]api.Atom{right[0], loc("l0", 102)}, false},
		{[]api.Atom{loc("l0", 100), right[0]}, false},
		{[]api.Atom{right[0], reg(2, "edx", 11), reg(2, "edx", 10)}, false},
		{[]api.Atom{right[0], reg(2, "edx", 12), reg(2, "edx", 11)}, false},
	} {
		for _, f := range []api.File{one(of(base(3), c.l...)), all(of(base(3), c.l...))} {
			if cond.Holds(f, o) != c.want || cond.Value(f, []api.Out{o}) != c.want {
				t.Errorf("%d: not %v", i, c.want)
			}
		}
	}
}

func TestOfAllAndOfOne(t *testing.T) { // P17.1: Q1
	f := of(base(1), loc("l0", 1), reg(0, "ebx", 2))
	yes := api.Out{Mem: []int{0, 1, 0, 0}, Regs: []int{0, 2, 0, 0}}
	other := api.Out{Mem: []int{9, 1, 9, 9}, Regs: []int{9, 2, 9, 9}}
	half, no, short := nudged(yes, 1, 1), nudged(nudged(yes, 1, 1), 5, 1), api.Out{Mem: yes.Mem, Regs: yes.Regs[:2]}
	for i, c := range []struct {
		l        []api.Out
		one, all bool
	}{
		{nil, false, true},
		{[]api.Out{}, false, true},
		{[]api.Out{yes}, true, true},
		{[]api.Out{yes, other, yes}, true, true},
		{[]api.Out{half}, false, false},
		{[]api.Out{no, half, short}, false, false},
		// Each atom holds of one end, but not both of the same.
		{[]api.Out{half, nudged(yes, 5, 1)}, false, false},
		{[]api.Out{short}, false, false},
		{[]api.Out{{}}, false, false},
		{[]api.Out{no, yes, other}, true, false},
		{[]api.Out{yes, no, other}, true, false},
		{[]api.Out{yes, other, no}, true, false},
		{[]api.Out{short, yes}, true, false},
		{[]api.Out{yes, short}, true, false},
		{[]api.Out{no, no, no, yes}, true, false},
		{[]api.Out{yes, no, no, no}, true, false},
	} {
		if got := cond.Value(one(f), c.l); got != c.one {
			t.Errorf("%d of one: %v", i, got)
		}
		if got := cond.Value(all(f), c.l); got != c.all {
			t.Errorf("%d of all: %v", i, got)
		}
		hold(t, f, c.l)
	}
	// Nothing asked: of all ends that fit it holds, and of none there is not one.
	f = of(f)
	f.Threads[0].Lines[1].Loc = "l0"
	fits := api.Out{Mem: []int{4, 4, 4}, Regs: []int{4, 4, 4, 4}}
	if cond.Value(one(f), nil) || !cond.Value(all(f), nil) || !cond.Value(one(f), []api.Out{fits}) || !cond.Value(all(f), []api.Out{fits, fits}) || cond.Value(all(f), []api.Out{fits, {}}) {
		t.Error("nothing asked")
	}
}

func TestMoreEndsAllLessOneMore(t *testing.T) { // P17.2
	d := samples.Dice(172)
	for range 3_000 {
		f := file(&d)
		l := ends(&d, f, d.Below(8))
		for i := range l {
			// The ends but the one at i, and with it, wherever it stands.
			less := slices.Delete(slices.Clone(l), i, i+1)
			if cond.Value(all(f), l) && !cond.Value(all(f), less) {
				t.Fatalf("%+v holds of all of %v, but not without %d", f, l, i)
			}
			if cond.Value(one(f), less) && !cond.Value(one(f), l) {
				t.Fatalf("%+v holds of one of %v, if it is without %d", f, l, i)
			}
			if got := cond.Value(all(f), l); got != (cond.Value(all(f), less) && cond.Holds(f, l[i])) {
				t.Fatalf("%+v of all of %v: %v", f, l, got)
			}
			if got := cond.Value(one(f), l); got != (cond.Value(one(f), less) || cond.Holds(f, l[i])) {
				t.Fatalf("%+v of one of %v: %v", f, l, got)
			}
		}
	}
}

// thrown is one of these.
func thrown[T any](d *samples.Dice, l ...T) T { return l[d.Below(len(l))] }

// file is a right program, perhaps one without locations.
func file(d *samples.Dice) api.File {
	f := api.File{Name: "p", All: d.Below(2) == 0}
	locs := []string{"a", "a0", "aa", "b"}[:d.Below(5)]
	for _, name := range locs {
		if d.Below(3) == 0 {
			f.Init = append(f.Init, api.Cell{Loc: name, N: d.Below(3)})
		}
	}
	for range 1 + d.Below(3) {
		lines := []api.Line{{Op: api.OpImm, Reg: "ecx", N: 7}}
		for range d.Below(4) * min(1, len(locs)) {
			lines = append(lines, api.Line{Op: thrown(d, api.OpLoad, api.OpStore, api.OpXchg), Reg: "edx", Loc: thrown(d, locs...)})
		}
		f.Threads = append(f.Threads, api.Thread{Lines: lines})
	}
	for range d.Below(7) {
		a := reg(d.Below(len(f.Threads)), thrown(d, "eax", "ebx", "ecx", "edx"), d.Below(2))
		if len(locs) > 0 && d.Below(2) == 0 {
			a = loc(thrown(d, locs...), d.Below(2))
		}
		f.Cond = append(f.Cond, a)
	}
	return f
}

// ends are some, of which most fit f, and in many of which most is as is asked.
func ends(d *samples.Dice, f api.File, many int) []api.Out {
	var l []api.Out
	for range many {
		mem, regs := namesOf(f)
		fill := func(names []api.Atom) []int {
			row := make([]int, max(0, len(names)+thrown(d, 0, 0, 0, 0, 0, 0, 0, 0, 0, -1, 1)))
			for i := range row {
				row[i] = d.Below(2)
				if i < len(names) && d.Below(12) > 0 {
					row[i] = asked(f, names[i])
				}
			}
			return row
		}
		l = append(l, api.Out{Mem: fill(mem), Regs: fill(regs)})
	}
	return l
}

// asked is what f asks for first of what a asks of; 0, if it asks nothing of it.
func asked(f api.File, a api.Atom) int {
	for _, x := range f.Cond {
		if x.Thread == a.Thread && x.Name == a.Name {
			return x.N
		}
	}
	return 0
}

func TestManyPrograms(t *testing.T) { // P17.1: Q1
	d := samples.Dice(17)
	met := map[[2]bool]int{}
	for range 20_000 {
		f := file(&d)
		if !valid.Right(f) {
			t.Fatalf("%+v is wrong", f)
		}
		l := ends(&d, f, d.Below(5))
		hold(t, f, l)
		met[[2]bool{f.All, value(f, l)}]++
	}
	for _, k := range [][2]bool{{false, false}, {false, true}, {true, false}, {true, true}} {
		if met[k] < 2_000 {
			t.Error(met)
		}
	}
}

// found are the ends of a text's program, strict or weak, and the program.
func found(t *testing.T, s string, weak bool) (api.File, []api.Out) {
	t.Helper()
	f, _, e := parse.Parse(s)
	p, wrong := code.Code(f)
	l, _, all := expl.Explore(p, weak, api.MaxFuel)
	if e != api.OK || wrong != api.OK || !all {
		t.Fatalf("%q: %v, %v, %v", s, e, wrong, all)
	}
	return f, expl.Ends(l)
}

func TestEndsOfPrograms(t *testing.T) { // P17.1: Q1; the ends of layer 16 fit
	buffering := "x86 sb\ninit\nthread\nmov [x] 1\nmov eax [y]\nthread\nmov [y] 1\nmov eax [x]\n"
	passing := "x86 mp\ninit\nthread\nmov [x] 1\nmov [y] 1\nthread\nmov eax [y]\nmov ebx [x]\n"
	for i, c := range []struct {
		text        string
		plain, weak bool
	}{
		{buffering + "exists 0:eax=0 1:eax=0", false, true},
		{buffering + "exists 0:eax=1 1:eax=1", true, true},
		{buffering + "exists 0:eax=0 1:eax=1", true, true},
		{buffering + "exists 0:eax=2", false, false},
		{buffering + "exists x=0", false, false},
		{buffering + "exists", true, true},
		{buffering + "forall", true, true},
		{buffering + "forall x=1 y=1", true, true},
		{buffering + "forall x=1 y=1 0:ebx=0 1:edx=0", true, true},
		{buffering + "forall 0:eax=1", false, false},
		{buffering + "forall z=0", true, true},
		{passing + "exists 1:eax=1 1:ebx=0", false, false},
		{passing + "exists 1:eax=0 1:ebx=1", true, true},
		{passing + "forall x=1 y=1 0:eax=0", true, true},
		{passing + "forall 1:ebx=1", false, false},
	} {
		f, plain := found(t, c.text, false)
		_, weak := found(t, c.text, true)
		for _, o := range slices.Concat(plain, weak) {
			if !cond.Holds(of(f, memOf(f, o)...), o) {
				t.Fatalf("%d: %v does not fit", i, o)
			}
		}
		if got := cond.Value(f, plain); got != c.plain || got != value(f, plain) {
			t.Errorf("%d: plain %v", i, got)
		}
		if got := cond.Value(f, weak); got != c.weak || got != value(f, weak) {
			t.Errorf("%d: weak %v", i, got)
		}
	}
}

// memOf are atoms of all locations of f, which hold of o.
func memOf(f api.File, o api.Out) []api.Atom {
	l, _ := namesOf(f)
	for i := range l {
		l[i].N = o.Mem[i]
	}
	return l
}

func TestWrongProgramsEnd(t *testing.T) { // P1; of their values nothing is said
	const n = 300_000
	long := strings.Repeat("a", 10_000_000)
	for _, turn := range []func(f *api.File){
		func(f *api.File) { *f = api.File{} },
		func(f *api.File) { f.Name = "" },
		func(f *api.File) { f.Name = long },
		func(f *api.File) { f.Threads = nil },
		func(f *api.File) { f.Threads = slices.Repeat(f.Threads, n) },
		func(f *api.File) { f.Init = slices.Repeat(f.Init, n) },
		func(f *api.File) { f.Init[0].Loc = "eax" },
		func(f *api.File) { f.Threads[0].Lines[1] = api.Line{} },
		func(f *api.File) { f.Cond = slices.Repeat(f.Cond, n) },
		func(f *api.File) { f.Cond = []api.Atom{{}} },
		func(f *api.File) { f.Cond = []api.Atom{loc("", 0)} },
		func(f *api.File) { f.Cond = []api.Atom{loc("eax", 0)} },
		func(f *api.File) { f.Cond = []api.Atom{reg(2, "eax", 0)} },
		func(f *api.File) { f.Cond = []api.Atom{reg(3, "eax", 0)} },
		func(f *api.File) { f.Cond = []api.Atom{reg(-2, "eax", 0)} },
		func(f *api.File) { f.Cond = []api.Atom{reg(math.MaxInt, "eax", 0)} },
		func(f *api.File) { f.Cond = []api.Atom{reg(math.MinInt, "eax", 0)} },
		func(f *api.File) { f.Cond = []api.Atom{reg(0, "l", 0)} },
		func(f *api.File) { f.Cond = []api.Atom{reg(0, "", 0)} },
		func(f *api.File) { f.Cond = []api.Atom{loc("l0", 0), loc("z", 0)} },
	} {
		f := base(2)
		turn(&f)
		l := []api.Out{{}, end(1), end(2), end(3), {Mem: make([]int, 5), Regs: make([]int, 8)}, {Regs: make([]int, 8)}, {Mem: make([]int, 4)}}
		for _, o := range l {
			cond.Holds(f, o)
		}
		cond.Value(one(f), l)
		cond.Value(all(f), l)
	}
}

func TestManyEndsEnd(t *testing.T) { // P1
	const n = 1_000_000
	o := end(3)
	f := of(base(3), loc("l0", 101), reg(2, "edx", 11), reg(2, "ecx", 10))
	l := slices.Repeat([]api.Out{o}, n)
	if !cond.Value(all(f), l) || !cond.Value(one(f), l) {
		t.Error("all alike")
	}
	l[n-1] = nudged(o, 1, 1)
	if cond.Value(all(f), l) || !cond.Value(one(f), l) {
		t.Error("one is not alike")
	}
	f.Cond[0].N++
	if cond.Value(all(f), l) || cond.Value(one(f), l[:n-1]) {
		t.Error("none alike")
	}
	f.Cond = append(f.Cond[:0], loc("l0", 102))
	if cond.Value(all(f), l) || !cond.Value(one(f), l) {
		t.Error("just one alike")
	}
	long := make([]int, 10_000_000)
	if cond.Holds(f, api.Out{Mem: long, Regs: o.Regs}) || cond.Holds(f, api.Out{Mem: o.Mem, Regs: long}) {
		t.Error("long")
	}
}

// roomy is f with spare room in all its lists, none of which is one of f's.
func roomy(f api.File) api.File {
	f.Init = samples.Roomy(api.Cell{N: 66}, slices.Clone(f.Init)...)
	f.Cond = samples.Roomy(api.Atom{N: 66}, slices.Clone(f.Cond)...)
	f.Threads = samples.Roomy(api.Thread{}, slices.Clone(f.Threads)...)
	for i, th := range f.Threads {
		f.Threads[i].Lines = samples.Roomy(api.Line{Op: 66}, slices.Clone(th.Lines)...)
	}
	return f
}

// whole is all that there is of f, with the spare room of its lists, in memory of its own.
func whole(f api.File) []any {
	all := []any{f.Name, f.All, len(f.Init), slices.Clone(f.Init[:cap(f.Init)]), len(f.Threads), len(f.Cond), slices.Clone(f.Cond[:cap(f.Cond)])}
	for _, th := range f.Threads[:cap(f.Threads)] {
		all = append(all, len(th.Lines), slices.Clone(th.Lines[:cap(th.Lines)]))
	}
	return all
}

// wholeEnds is all that there is of a row of ends, in memory of its own.
func wholeEnds(l []api.Out) []any {
	all := samples.WholeEnds(l)
	for i, x := range all {
		if row, is := x.([]int); is {
			all[i] = slices.Clone(row)
		}
	}
	return all
}

func TestAnswersHangOnArgumentsAlone(t *testing.T) { // P3
	d := samples.Dice(3)
	for range 1_000 {
		f := file(&d)
		l := ends(&d, f, 1+d.Below(4))
		g, r := roomy(f), samples.RoomyEnds(l)
		old, oldEnds := whole(g), wholeEnds(r)
		for range 3 {
			hold(t, g, r)
		}
		if !reflect.DeepEqual(whole(g), old) || !reflect.DeepEqual(wholeEnds(r), oldEnds) {
			t.Fatalf("what was handed in was changed: %+v, %v", g, r)
		}
		// What is done to it later is seen in what is answered then.
		for i := range g.Cond {
			g.Cond[i].N = 1 - g.Cond[i].N
		}
		hold(t, g, r)
		samples.OverwriteEnds(r)
		hold(t, g, r)
		hold(t, f, l)
	}
}
