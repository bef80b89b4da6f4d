package show_test

import (
	"fmt"
	"math"
	"reflect"
	"slices"
	"strings"
	"testing"

	"fencepost/api"
	"fencepost/ops"
	"fencepost/parse"
	"fencepost/show"
	"fencepost/valid"
)

// The chapters' words once more, by patterns: of a line by its kind, and of a program.

// lineOf is the text of a right line.
func lineOf(l api.Line) string {
	switch l.Op {
	case api.OpImm:
		return fmt.Sprintf("mov %s %d", l.Reg, l.N)
	case api.OpLoad:
		return fmt.Sprintf("mov %s [%s]", l.Reg, l.Loc)
	case api.OpStore:
		return fmt.Sprintf("mov [%s] %s", l.Loc, l.Reg)
	case api.OpPut:
		return fmt.Sprintf("mov [%s] %d", l.Loc, l.N)
	case api.OpXchg:
		return fmt.Sprintf("xchg [%s] %s", l.Loc, l.Reg)
	case api.OpFence:
		return "mfence"
	case api.OpCmp:
		return fmt.Sprintf("cmp %s %d", l.Reg, l.N)
	case api.OpJmp:
		return "jmp " + l.Label
	case api.OpJe:
		return "je " + l.Label
	case api.OpJne:
		return "jne " + l.Label
	}
	return l.Label + ":"
}

// fileOf is the text of a right program.
func fileOf(f api.File) string {
	s := fmt.Sprintf("x86 %s\ninit", f.Name)
	for _, c := range f.Init {
		s += fmt.Sprintf(" %s %d", c.Loc, c.N)
	}
	for _, t := range f.Threads {
		s += "\nthread"
		for _, l := range t.Lines {
			s += "\n" + lineOf(l)
		}
	}
	s += map[bool]string{true: "\nforall", false: "\nexists"}[f.All]
	for _, a := range f.Cond {
		if a.Thread < 0 {
			s += fmt.Sprintf(" %s=%d", a.Name, a.N)
		} else {
			s += fmt.Sprintf(" %d:%s=%d", a.Thread, a.Name, a.N)
		}
	}
	return s + "\n"
}

// alike: do the same things stand in both? (An empty list may be nil or not.)
func alike(a, b api.File) bool {
	return a.Name == b.Name && a.All == b.All && slices.Equal(a.Init, b.Init) && slices.Equal(a.Cond, b.Cond) &&
		slices.EqualFunc(a.Threads, b.Threads, func(x, y api.Thread) bool { return slices.Equal(x.Lines, y.Lines) })
}

// hold holds Print of f against the chapter's words, and what is got from its text against f; it says if f is right.
func hold(t *testing.T, f api.File) bool {
	t.Helper()
	s := show.Print(f)
	if !valid.Right(f) {
		if s != "" {
			t.Fatalf("%.300q of a wrong program: %+v", s, f)
		}
		return false
	}
	if want := fileOf(f); s != want {
		t.Fatalf("%q, not %q", s, want)
	}
	if g, at, e := parse.Parse(s); e != api.OK || at != 0 || !alike(f, g) {
		t.Fatalf("%q: %+v %d %v, not %+v", s, g, at, e, f)
	}
	return true
}

// holdLine holds Line of l against the chapter's words.
func holdLine(t *testing.T, l api.Line) {
	t.Helper()
	want := ""
	if ops.Right(l) {
		want = lineOf(l)
	}
	if s := show.Line(l); s != want {
		t.Fatalf("%+v: %.100q, not %.100q", l, s, want)
	}
}

// The least and the greatest number.
const (
	least    = math.MinInt
	greatest = math.MaxInt
)

func TestTextsOfLines(t *testing.T) { // P6.1: F2
	for s, l := range map[string]api.Line{
		"mov eax 5":                          {Op: api.OpImm, Reg: "eax", N: 5},
		"mov edx 0":                          {Op: api.OpImm, Reg: "edx"},
		"mov ebx -9223372036854775808":       {Op: api.OpImm, Reg: "ebx", N: least},
		"mov ebx [x]":                        {Op: api.OpLoad, Reg: "ebx", Loc: "x"},
		"mov [x] ecx":                        {Op: api.OpStore, Reg: "ecx", Loc: "x"},
		"mov [x] 5":                          {Op: api.OpPut, Loc: "x", N: 5},
		"mov [x] 0":                          {Op: api.OpPut, Loc: "x"},
		"mov [abcdefgh] 9223372036854775807": {Op: api.OpPut, Loc: "abcdefgh", N: greatest},
		"xchg [y1] edx":                      {Op: api.OpXchg, Reg: "edx", Loc: "y1"},
		"mfence":                             {Op: api.OpFence},
		"cmp ecx -7":                         {Op: api.OpCmp, Reg: "ecx", N: -7},
		"cmp eax 0":                          {Op: api.OpCmp, Reg: "eax"},
		"jmp l":                              {Op: api.OpJmp, Label: "l"},
		"je l1":                              {Op: api.OpJe, Label: "l1"},
		"jne abcdefgh":                       {Op: api.OpJne, Label: "abcdefgh"},
		"l:":                                 {Op: api.OpLabel, Label: "l"},
		"abcdefgh:":                          {Op: api.OpLabel, Label: "abcdefgh"},
	} {
		if got := show.Line(l); got != s {
			t.Errorf("%q, not %q", got, s)
		}
		if got, is := ops.Get(strings.Split(s, " ")); !is || got != l {
			t.Errorf("%q: %+v %v", s, got, is)
		}
	}
}

func TestTextsOfWrongLines(t *testing.T) { // P6.1: F2; P2
	for _, l := range []api.Line{
		{}, {Op: -1}, {Op: 12}, {Op: 256 + api.OpFence}, {Op: least}, {Op: greatest},
		{Op: api.OpImm}, {Op: api.OpImm, N: 5}, {Op: api.OpImm, Reg: "x", N: 5}, {Op: api.OpImm, Reg: "eax", Loc: "x", N: 5}, {Op: api.OpImm, Reg: "EAX"},
		{Op: api.OpLoad, Reg: "eax"}, {Op: api.OpLoad, Loc: "x"}, {Op: api.OpLoad, Reg: "eax", Loc: "x", N: 1}, {Op: api.OpLoad, Reg: "eax", Loc: "[x]"}, {Op: api.OpLoad, Reg: "eax", Loc: "ebx"},
		{Op: api.OpStore, Reg: "esi", Loc: "x"}, {Op: api.OpStore, Reg: "eax", Loc: "abcdefghi"}, {Op: api.OpStore, Reg: "eax", Loc: "x", Label: "l"},
		{Op: api.OpPut}, {Op: api.OpPut, Loc: "mov", N: 1}, {Op: api.OpPut, Loc: "1x", N: 1}, {Op: api.OpPut, Reg: "eax", Loc: "x", N: 1},
		{Op: api.OpXchg, Reg: "eax"}, {Op: api.OpXchg, Loc: "x"}, {Op: api.OpXchg, Reg: "eax", Loc: "x ", N: 0},
		{Op: api.OpFence, N: 1}, {Op: api.OpFence, Reg: "eax"}, {Op: api.OpFence, Loc: "x"}, {Op: api.OpFence, Label: "l"},
		{Op: api.OpCmp, N: 1}, {Op: api.OpCmp, Reg: "x"}, {Op: api.OpCmp, Reg: "eax", Label: "l"},
		{Op: api.OpJmp}, {Op: api.OpJmp, Label: "L"}, {Op: api.OpJe, Label: "l:"}, {Op: api.OpJne, Label: "thread"}, {Op: api.OpJmp, Label: "l", N: -1},
		{Op: api.OpLabel}, {Op: api.OpLabel, Label: "exists"}, {Op: api.OpLabel, Label: "a b"}, {Op: api.OpLabel, Label: "l\n"}, {Op: api.OpLabel, Label: "l", Loc: "x"},
	} {
		if s := show.Line(l); s != "" {
			t.Errorf("%+v: %q", l, s)
		}
	}
}

func TestTextsOfAllLines(t *testing.T) { // P6.1: F2; P1, P2
	regs := []string{"", "eax", "ebx", "ecx", "edx", "x", "eax "}
	names := []string{"", "x", "l", "a1", "abcdefgh", "abcdefghi", "eax", "mov", "X", "[x]", "l:", "a b", "\n", "\x00"}
	for op := -1; op <= 13; op++ {
		for _, reg := range regs {
			for _, loc := range names {
				for _, label := range names {
					for _, n := range []int{0, 1, -1, 10, -345, greatest, least} {
						holdLine(t, api.Line{Op: op, Reg: reg, Loc: loc, Label: label, N: n})
					}
				}
			}
		}
	}
}

// base is a right program, in which each kind of line, cell and atom stands.
func base() api.File {
	return api.File{Name: "p1", All: true, Init: []api.Cell{{Loc: "x", N: 1}, {Loc: "y", N: -2}}, Threads: []api.Thread{
		{Lines: []api.Line{{Op: api.OpImm, Reg: "ebx", N: -5}, {Op: api.OpStore, Reg: "ebx", Loc: "y"}, {Op: api.OpFence}, {Op: api.OpXchg, Reg: "edx", Loc: "x"}}},
		{},
		{Lines: []api.Line{{Op: api.OpCmp, Reg: "ecx"}, {Op: api.OpJe, Label: "l"}, {Op: api.OpPut, Loc: "z", N: 7}, {Op: api.OpJmp, Label: "l"}, {Op: api.OpJne, Label: "k"}, {Op: api.OpLabel, Label: "l"}, {Op: api.OpLoad, Reg: "eax", Loc: "x"}, {Op: api.OpLabel, Label: "k"}}},
	}, Cond: []api.Atom{{Thread: 2, Name: "eax", N: 1}, {Thread: -1, Name: "x", N: -3}, {Name: "edx"}}}
}

const baseText = "x86 p1\ninit x 1 y -2\nthread\nmov ebx -5\nmov [y] ebx\nmfence\nxchg [x] edx\nthread\nthread\ncmp ecx 0\nje l\nmov [z] 7\njmp l\njne k\nl:\nmov eax [x]\nk:\nforall 2:eax=1 x=-3 0:edx=0\n"

// fence is a program of one thread that has a fence alone.
var fence = []api.Thread{{Lines: []api.Line{{Op: api.OpFence}}}}

func TestTextsOfPrograms(t *testing.T) { // P6.1: F1; P6.2
	for s, f := range map[string]api.File{
		baseText:                                            base(),
		"x86 a\ninit\nthread\nexists\n":                     {Name: "a", Threads: []api.Thread{{}}},
		"x86 a\ninit\nthread\nforall\n":                     {Name: "a", All: true, Threads: []api.Thread{{}}},
		"x86 a\ninit x 0\nthread\nexists\n":                 {Name: "a", Init: []api.Cell{{Loc: "x"}}, Threads: []api.Thread{{}}},
		"x86 a\ninit\nthread\nthread\nthread\nforall\n":     {Name: "a", All: true, Threads: make([]api.Thread, 3)},
		"x86 a\ninit\nthread\nmfence\nthread\nexists x=0\n": {Name: "a", Threads: append(fence, api.Thread{}), Cond: []api.Atom{{Thread: -1, Name: "x"}}},
		"x86 z9z9z9z9\ninit\nthread\nmfence\nexists\n":      {Name: "z9z9z9z9", Threads: fence},
		"x86 a\ninit x -9223372036854775808 y 9223372036854775807\nthread\nmfence\nforall\n":        {Name: "a", All: true, Init: []api.Cell{{Loc: "x", N: least}, {Loc: "y", N: greatest}}, Threads: fence},
		"x86 a\ninit\nthread\nmfence\nexists x=9223372036854775807 0:ebx=-9223372036854775808\n":    {Name: "a", Threads: fence, Cond: []api.Atom{{Thread: -1, Name: "x", N: greatest}, {Name: "ebx", N: least}}},
		"x86 a\ninit a 1 b 2 c 3 d 4\nthread\nmfence\nexists d=4 a=1 d=4 d=5 0:edx=0 0:edx=0\n":     {Name: "a", Init: []api.Cell{{Loc: "a", N: 1}, {Loc: "b", N: 2}, {Loc: "c", N: 3}, {Loc: "d", N: 4}}, Threads: fence, Cond: []api.Atom{{Thread: -1, Name: "d", N: 4}, {Thread: -1, Name: "a", N: 1}, {Thread: -1, Name: "d", N: 4}, {Thread: -1, Name: "d", N: 5}, {Name: "edx"}, {Name: "edx"}}},
		"x86 a\ninit\nthread\nl:\nmfence\nm:\nmfence\nthread\nl:\nforall 1:eax=0 0:ebx=0 1:ecx=0\n": {Name: "a", All: true, Threads: []api.Thread{{Lines: []api.Line{{Op: api.OpLabel, Label: "l"}, {Op: api.OpFence}, {Op: api.OpLabel, Label: "m"}, {Op: api.OpFence}}}, {Lines: []api.Line{{Op: api.OpLabel, Label: "l"}}}}, Cond: []api.Atom{{Thread: 1, Name: "eax"}, {Name: "ebx"}, {Thread: 1, Name: "ecx"}}},
	} {
		if got := show.Print(f); got != s {
			t.Errorf("%q, not %q", got, s)
		}
		hold(t, f)
	}
}

func TestEmptyListsAreAlike(t *testing.T) { // P6.1: F1
	f := api.File{Name: "a", Init: []api.Cell{}, Threads: []api.Thread{{Lines: []api.Line{}}, {}}, Cond: []api.Atom{}}
	if s := show.Print(f); s != "x86 a\ninit\nthread\nthread\nexists\n" {
		t.Errorf("%q", s)
	}
}

// imms are n lines, each an instruction.
func imms(n int) []api.Line { return slices.Repeat([]api.Line{{Op: api.OpImm, Reg: "ecx", N: 7}}, n) }

// wrongs are the ways to make a right program wrong, each by one thing.
var wrongs = map[string]func(f *api.File){
	"no name":               func(f *api.File) { f.Name = "" },
	"a key":                 func(f *api.File) { f.Name = "x86" },
	"a register":            func(f *api.File) { f.Name = "eax" },
	"a long name":           func(f *api.File) { f.Name = "abcdefghi" },
	"a line feed":           func(f *api.File) { f.Name = "p1\n" },
	"two words":             func(f *api.File) { f.Name = "p 1" },
	"a cell without a name": func(f *api.File) { f.Init[0].Loc = "" },
	"a register's cell":     func(f *api.File) { f.Init[1].Loc = "ebx" },
	"a cell twice":          func(f *api.File) { f.Init[1].Loc = "x" },
	"cells that fall":       func(f *api.File) { slices.Reverse(f.Init) },
	"no threads":            func(f *api.File) { f.Threads = nil },
	"no threads, not nil":   func(f *api.File) { f.Threads = f.Threads[:0] },
	"no threads, no atoms":  func(f *api.File) { f.Threads, f.Cond = nil, nil },
	"four threads":          func(f *api.File) { f.Threads = append(f.Threads, api.Thread{}) },
	"a wrong line":          func(f *api.File) { f.Threads[0].Lines[0].Reg = "x" },
	"a line of no kind":     func(f *api.File) { f.Threads[0].Lines[0] = api.Line{} },
	"a wrong last line":     func(f *api.File) { f.Threads[2].Lines[7].N = 1 },
	"a label twice":         func(f *api.File) { f.Threads[2].Lines[7].Label = "l" },
	"two fences":            func(f *api.File) { f.Threads[0].Lines[3] = api.Line{Op: api.OpFence} },
	"a jump back":           func(f *api.File) { f.Threads[2].Lines[7] = api.Line{Op: api.OpJmp, Label: "l"} },
	"a jump elsewhere":      func(f *api.File) { f.Threads[0].Lines[0] = api.Line{Op: api.OpJmp, Label: "l"} },
	"nine instructions":     func(f *api.File) { f.Threads[1].Lines = imms(9) },
	"seven atoms":           func(f *api.File) { f.Cond = slices.Repeat(f.Cond[:1], 7) },
	"a wrong atom":          func(f *api.File) { f.Cond[0].Name = "x" },
	"an atom of no thread":  func(f *api.File) { f.Cond[0].Thread = -2 },
	"an atom of a fourth":   func(f *api.File) { f.Cond[2].Thread = 3 },
	"an atom of a third":    func(f *api.File) { f.Threads = f.Threads[:2] },
	"five locations":        func(f *api.File) { f.Init = append(f.Init, api.Cell{Loc: "z1"}, api.Cell{Loc: "z2"}) },
}

func TestTextsOfWrongPrograms(t *testing.T) { // P6.1: F1; P2
	for what, turn := range wrongs {
		f := base()
		turn(&f)
		if s := show.Print(f); s != "" {
			t.Errorf("%s: %q", what, s)
		}
	}
	if s := show.Print(api.File{}); s != "" {
		t.Errorf("%q", s)
	}
}

// longest is a right program, of which each part is as long as it may be.
func longest() api.File {
	names := []string{"aaaaaaaa", "bbbbbbbb", "cccccccc", "dddddddd"}
	f := api.File{Name: "abcdefgh", Cond: slices.Repeat([]api.Atom{{Thread: -1, Name: names[3], N: least}}, api.MaxAtoms)}
	for _, s := range names {
		f.Init = append(f.Init, api.Cell{Loc: s, N: least})
	}
	var l []api.Line
	for i := range api.MaxOps {
		l = append(l, api.Line{Op: api.OpFence}, api.Line{Op: api.OpPut, Loc: names[i%4], N: least})
		l = append(l, api.Line{Op: api.OpFence}, api.Line{Op: api.OpLabel, Label: fmt.Sprint("abcdefg", i)})
	}
	l = append(l, api.Line{Op: api.OpFence})
	f.Threads = slices.Repeat([]api.Thread{{Lines: l}}, api.MaxThreads)
	return f
}

func TestTheLongestProgramComesBack(t *testing.T) { // P6.2
	f := longest()
	if !hold(t, f) {
		t.Error("it isn't right")
	}
	// No right program's text is too long for layer 5, so that each comes back.
	if n := len(show.Print(f)); n != 1807 || n > api.MaxText {
		t.Error("its text has", n)
	}
}

// dice are numbers by a fixed rule.
type dice uint64

// below is a number from 0 to n - 1.
func (d *dice) below(n int) int {
	*d = *d*6364136223846793005 + 1442695040888963407
	return int(uint64(*d) >> 33 % uint64(n))
}

// thrown is one of these.
func thrown[T any](d *dice, l ...T) T { return l[d.below(len(l))] }

// number is one of few digits or many.
func (d *dice) number() int {
	return thrown(d, 0, 1, -1, d.below(100), -d.below(1_000_000), greatest-d.below(10), least+d.below(10))
}

func (d *dice) reg() string { return thrown(d, "eax", "ebx", "ecx", "edx") }
func (d *dice) loc() string { return thrown(d, "x", "y", "y0", "zzzzzzzz") }

// line is one of a thread that ends with the label z.
func (d *dice) line() api.Line {
	return thrown(d,
		api.Line{Op: api.OpImm, Reg: d.reg(), N: d.number()},
		api.Line{Op: api.OpLoad, Reg: d.reg(), Loc: d.loc()},
		api.Line{Op: api.OpStore, Reg: d.reg(), Loc: d.loc()},
		api.Line{Op: api.OpPut, Loc: d.loc(), N: d.number()},
		api.Line{Op: api.OpXchg, Reg: d.reg(), Loc: d.loc()},
		api.Line{Op: api.OpFence},
		api.Line{Op: api.OpCmp, Reg: d.reg(), N: d.number()},
		api.Line{Op: thrown(d, api.OpJmp, api.OpJe, api.OpJne), Label: "z"},
		api.Line{Op: api.OpLabel, Label: fmt.Sprint("l", d.below(30))},
	)
}

// file is a program that is often right.
func (d *dice) file() api.File {
	f := api.File{Name: thrown(d, "a", "p1", "abcdefgh"), All: d.below(2) > 0}
	for _, loc := range []string{"x", "y", "y0", "zzzzzzzz"} {
		if d.below(2) > 0 {
			f.Init = append(f.Init, api.Cell{Loc: loc, N: d.number()})
		}
	}
	for range 1 + d.below(3) {
		var l []api.Line
		for range d.below(9) {
			l = append(l, d.line())
		}
		f.Threads = append(f.Threads, api.Thread{Lines: append(l, api.Line{Op: api.OpLabel, Label: "z"})})
	}
	for range d.below(7) {
		f.Cond = append(f.Cond, thrown(d, api.Atom{Thread: -1, Name: d.loc(), N: d.number()}, api.Atom{Thread: d.below(len(f.Threads)), Name: d.reg(), N: d.number()}))
	}
	return f
}

// spoilt is f with one thing that most often may not be.
func (d *dice) spoilt(f api.File) api.File {
	t := &f.Threads[d.below(len(f.Threads))]
	switch d.below(6) {
	case 0:
		f.Name = thrown(d, "", "X", "mov", "a b", "a\n")
	case 1:
		f.Init = append(f.Init, api.Cell{Loc: thrown(d, "a", "zzzzzzzz", "zzzzzzzzz", "", "[x]")})
	case 2:
		f.Threads = append(f.Threads, api.Thread{})
	case 3:
		t.Lines = append(t.Lines, thrown(d, api.Line{}, api.Line{Op: api.OpJmp, Label: "z"}, api.Line{Op: api.OpLabel, Label: "z"}, api.Line{Op: api.OpFence, N: 1}))
	case 4:
		t.Lines = append(t.Lines, imms(1+d.below(4))...)
	default:
		f.Cond = append(f.Cond, thrown(d, api.Atom{Thread: 3, Name: "eax"}, api.Atom{Thread: -1, Name: "eax"}, api.Atom{Name: "x"}, api.Atom{Thread: -1, Name: "fifth"}))
	}
	return f
}

func TestManyPrograms(t *testing.T) { // P6.1: F1; P6.2; P1, P2
	d := dice(1)
	met := map[bool]int{}
	for range 20_000 {
		f := d.file()
		met[hold(t, f)]++
		met[hold(t, d.spoilt(f))]++
	}
	if met[true] < 5000 || met[false] < 5000 {
		t.Error(met)
	}
}

// spread is s, the text of a program, with blanks and lines without words put where they alter no word.
func (d *dice) spread(s string) string {
	var b strings.Builder
	blanks := func() string { return strings.Repeat(" ", d.below(4)/2*d.below(3)) }
	for line := range strings.Lines(s) {
		for range d.below(4) / 3 * d.below(3) {
			b.WriteString(blanks() + "\n")
		}
		b.WriteString(blanks() + strings.ReplaceAll(strings.TrimSuffix(line, "\n"), " ", blanks()+" ") + blanks() + "\n")
	}
	return strings.TrimSuffix(b.String(), thrown(d, "", "\n")) + blanks()
}

func TestWhatIsGotHasOneText(t *testing.T) { // P6.2
	d := dice(2)
	met := 0
	for range 20_000 {
		s := show.Print(d.file())
		if s == "" {
			continue
		}
		wide := d.spread(s)
		if wide != s {
			met++
		}
		f, at, e := parse.Parse(wide)
		if got := show.Print(f); e != api.OK || got != s {
			t.Fatalf("%q: %q %d %v, not %q", wide, got, at, e, s)
		}
	}
	if met < 3000 {
		t.Error("texts with blanks more:", met)
	}
}

func TestUnlikeProgramsHaveUnlikeTexts(t *testing.T) { // P6.2
	d := dice(3)
	met := map[string]api.File{}
	for range 20_000 {
		f := d.file()
		s := show.Print(f)
		if g, is := met[s]; is && !alike(f, g) {
			t.Fatalf("%q: %+v, and %+v", s, f, g)
		}
		if s != "" {
			met[s] = f
		}
	}
	if len(met) < 3000 {
		t.Error("texts:", len(met))
	}
}

func TestLongProgramsEnd(t *testing.T) { // P1, P2
	long := strings.Repeat("a", 50_000_000)
	many := 1_000_000
	for what, turn := range map[string]func(f *api.File){
		"a name":   func(f *api.File) { f.Name = long },
		"a cell":   func(f *api.File) { f.Init[1].Loc = long },
		"cells":    func(f *api.File) { f.Init = slices.Repeat(f.Init, many) },
		"threads":  func(f *api.File) { f.Threads = slices.Repeat(f.Threads, many) },
		"lines":    func(f *api.File) { f.Threads[1].Lines = imms(many) },
		"fences":   func(f *api.File) { f.Threads[1].Lines = slices.Repeat([]api.Line{{Op: api.OpFence}}, many) },
		"a label":  func(f *api.File) { f.Threads[2].Lines[7].Label = long },
		"atoms":    func(f *api.File) { f.Cond = slices.Repeat(f.Cond, many) },
		"an atom":  func(f *api.File) { f.Cond[1].Name = long },
		"a thread": func(f *api.File) { f.Cond[0].Thread = greatest },
	} {
		f := base()
		turn(&f)
		if s := show.Print(f); s != "" {
			t.Errorf("%s: %.100q", what, s)
		}
	}
	for op := range 13 {
		for _, l := range []api.Line{{Op: op, Reg: long}, {Op: op, Reg: "eax", Loc: long}, {Op: op, Label: long}} {
			if s := show.Line(l); s != "" {
				t.Errorf("%d: %.100q", op, s)
			}
		}
	}
}

// deep is a copy of f that shares nothing with it.
func deep(f api.File) api.File {
	f.Init, f.Threads, f.Cond = slices.Clone(f.Init), slices.Clone(f.Threads), slices.Clone(f.Cond)
	for i, t := range f.Threads {
		f.Threads[i].Lines = slices.Clone(t.Lines)
	}
	return f
}

func TestAnswersHangOnArgumentsAlone(t *testing.T) { // P3
	f := base()
	f.Init = append(f.Init, api.Cell{Loc: "spare"})[:2]
	f.Threads[0].Lines = append(f.Threads[0].Lines, api.Line{Label: "spare"})[:4]
	f.Threads = append(f.Threads, api.Thread{Lines: imms(1)})[:3]
	f.Cond = append(f.Cond, api.Atom{Name: "spare"})[:3]
	was := deep(f)
	for range 3 {
		if s := show.Print(f); s != baseText {
			t.Errorf("%q", s)
		}
		show.Print(api.File{})
		show.Print(longest())
		show.Line(f.Threads[0].Lines[0])
	}
	if !reflect.DeepEqual(f, was) || f.Init[:3][2].Loc != "spare" || f.Threads[0].Lines[:5][4].Label != "spare" || len(f.Threads[:4][3].Lines) != 1 || f.Cond[:4][3].Name != "spare" {
		t.Errorf("what was handed in was changed: %+v", f)
	}
	// What is done to a program later is seen in what is told then.
	s := show.Print(f)
	f.Name, f.Init[0].N, f.Threads[2].Lines[0].N, f.Cond[0].N = "p2", 9, 9, 9
	if want := strings.NewReplacer("p1", "p2", "x 1", "x 9", "cmp ecx 0", "cmp ecx 9", "eax=1", "eax=9").Replace(baseText); s != baseText || show.Print(f) != want {
		t.Errorf("%q %q", s, show.Print(f))
	}
}
