package parse_test

import (
	"reflect"
	"regexp"
	"slices"
	"strconv"
	"strings"
	"testing"

	"fencepost/api"
	"fencepost/ops"
	"fencepost/parse"
	"fencepost/valid"
)

// told is where something is wrong, and what.
type told struct {
	at int
	e  api.Errno
}

var fine = told{}

// alike: do the same things stand in both? (An empty list may be nil or not.)
func alike(a, b api.File) bool {
	return a.Name == b.Name && a.All == b.All && slices.Equal(a.Init, b.Init) && slices.Equal(a.Cond, b.Cond) &&
		slices.EqualFunc(a.Threads, b.Threads, func(x, y api.Thread) bool { return slices.Equal(x.Lines, y.Lines) })
}

// parsed is what Parse says of s; of each text it must be right or nothing, and the same again.
func parsed(t *testing.T, s string) (api.File, told) {
	t.Helper()
	f, at, e := parse.Parse(s)
	if e == api.OK && !valid.Right(f) {
		t.Fatalf("%.300q: it isn't right: %+v", s, f)
	}
	if e != api.OK && !alike(f, api.File{}) {
		t.Fatalf("%.300q: %v, and a program: %+v", s, e, f)
	}
	if g, again, what := parse.Parse(s); again != at || what != e || !alike(f, g) {
		t.Fatalf("%.300q: another answer the second time: %+v %d %v", s, g, again, what)
	}
	return f, told{at, e}
}

// expect holds what Parse says of s against what is wanted.
func expect(t *testing.T, s string, want told) {
	t.Helper()
	if _, got := parsed(t, s); got != want {
		t.Errorf("%.300q: %v, not %v", s, got, want)
	}
}

// lines is a text of these.
func lines(l ...string) string { return strings.Join(l, "\n") }

// The chapter's words once more: each line is a letter by what it is, and what may stand where a pattern of letters.

var (
	order = regexp.MustCompile(`^(H(I(T[LT]*E?)?)?)?`)
	whole = regexp.MustCompile(`^HIT[LT]*E$`)
)

// kind is the letter of a line with these words; a ? of none.
func kind(w []string) string {
	isNumber := func(s string) bool { n, err := strconv.Atoi(s); return err == nil && strconv.Itoa(n) == s }
	isAtom := func(s string) bool { _, is := ops.Atom(s); return is }
	_, isLine := ops.Get(w)
	switch {
	case len(w) == 2 && w[0] == "x86":
		return "H"
	case len(w)%2 == 1 && w[0] == "init" && all(every(w[1:], 1), isNumber):
		return "I"
	case len(w) == 1 && w[0] == "thread":
		return "T"
	case (w[0] == "exists" || w[0] == "forall") && all(w[1:], isAtom):
		return "E"
	case isLine:
		return "L"
	}
	return "?"
}

// every are the second words of pairs (from 1), or the first ones (from 0).
func every(w []string, from int) []string {
	var l []string
	for i := from; i < len(w); i += 2 {
		l = append(l, w[i])
	}
	return l
}

func all(w []string, is func(string) bool) bool {
	return !slices.ContainsFunc(w, func(s string) bool { return !is(s) })
}

// rows are the lines of s: what stands between line feeds, but no empty last one.
func rows(s string) []string {
	l := strings.Split(s, "\n")
	if l[len(l)-1] == "" {
		return l[:len(l)-1]
	}
	return l
}

// split are the words of s, one line.
func split(s string) []string {
	return slices.DeleteFunc(strings.Split(s, " "), func(w string) bool { return w == "" })
}

// wanted is what Parse must say of s.
func wanted(s string) (api.File, told) {
	if len(s) > 4000 {
		return api.File{}, told{0, api.ErrFull}
	}
	letters, at, words := "", []int{}, [][]string{}
	for i, row := range rows(s) {
		if w := split(row); len(w) > 0 {
			letters, at, words = letters+kind(w), append(at, i+1), append(words, w)
		}
	}
	if n := len(order.FindString(letters)); n < len(letters) {
		return api.File{}, told{at[n], api.ErrLine}
	}
	if !whole.MatchString(letters) {
		return api.File{}, told{len(rows(s)) + 1, api.ErrLine}
	}
	f, where := built(letters, at, words)
	if part, line, e := valid.Check(f); e != api.OK {
		return api.File{}, told{where[[2]int{part, line}], e}
	}
	return f, fine
}

// built is the program of such lines, and where each thing that valid may tell of it stands.
func built(letters string, at []int, words [][]string) (api.File, map[[2]int]int) {
	var f api.File
	where := map[[2]int]int{}
	for i, k := range letters {
		w := words[i]
		switch k {
		case 'H':
			f.Name, where[[2]int{-1, -1}] = w[1], at[i]
		case 'I':
			numbers := every(w[1:], 1)
			for j, loc := range every(w[1:], 0) {
				n, _ := strconv.Atoi(numbers[j])
				f.Init = append(f.Init, api.Cell{Loc: loc, N: n})
			}
		case 'T':
			f.Threads = append(f.Threads, api.Thread{})
		case 'L':
			t := len(f.Threads) - 1
			where[[2]int{t, len(f.Threads[t].Lines)}] = at[i]
			l, _ := ops.Get(w)
			f.Threads[t].Lines = append(f.Threads[t].Lines, l)
		case 'E':
			f.All = w[0] == "forall"
			for j, s := range w[1:] {
				where[[2]int{len(f.Threads), j}] = at[i]
				a, _ := ops.Atom(s)
				f.Cond = append(f.Cond, a)
			}
		}
	}
	return f, where
}

// hold holds what Parse says of s against the chapter's words.
func hold(t *testing.T, s string) told {
	t.Helper()
	f, got := parsed(t, s)
	g, want := wanted(s)
	if got != want || !alike(f, g) {
		t.Fatalf("%.300q: %+v %v, not %+v %v", s, f, got, g, want)
	}
	return got
}

// bodies are threads, as texts and as lines.
var bodies = []struct {
	text  string
	lines []api.Line
}{
	{"thread\n", nil},
	{"thread\nmov [x] 1\nmov eax [y]\n", []api.Line{{Op: api.OpPut, Loc: "x", N: 1}, {Op: api.OpLoad, Reg: "eax", Loc: "y"}}},
	{"thread\nmov ebx -5\nmov [y] ebx\nmfence\nxchg [x] edx\ncmp ecx 0\nje l1\njmp l2\njne l1\nl1:\nl2:\n", []api.Line{
		{Op: api.OpImm, Reg: "ebx", N: -5}, {Op: api.OpStore, Reg: "ebx", Loc: "y"}, {Op: api.OpFence}, {Op: api.OpXchg, Reg: "edx", Loc: "x"}, {Op: api.OpCmp, Reg: "ecx"},
		{Op: api.OpJe, Label: "l1"}, {Op: api.OpJmp, Label: "l2"}, {Op: api.OpJne, Label: "l1"}, {Op: api.OpLabel, Label: "l1"}, {Op: api.OpLabel, Label: "l2"}}},
	{"thread\nl1:\nmfence\n", []api.Line{{Op: api.OpLabel, Label: "l1"}, {Op: api.OpFence}}},
}

func TestRightTexts(t *testing.T) { // P5.1: E1; P5.2
	inits := map[string][]api.Cell{"init": nil, "init x 0": {{Loc: "x"}}, "init x -9223372036854775808 y 9223372036854775807": {{Loc: "x", N: -1 << 63}, {Loc: "y", N: 1<<63 - 1}}, "init a 1 b 2 x 3 y 4": {{Loc: "a", N: 1}, {Loc: "b", N: 2}, {Loc: "x", N: 3}, {Loc: "y", N: 4}}}
	conds := map[string][]api.Atom{"": nil, " x=1": {{Thread: -1, Name: "x", N: 1}}, " 0:eax=-1 y=0 0:edx=7 0:eax=-1": {{Name: "eax", N: -1}, {Thread: -1, Name: "y"}, {Name: "edx", N: 7}, {Name: "eax", N: -1}}}
	try := func(many ...int) {
		f, threads := api.File{Name: "p1"}, ""
		for _, k := range many {
			threads += bodies[k].text
			f.Threads = append(f.Threads, api.Thread{Lines: bodies[k].lines})
		}
		for init, cells := range inits {
			for cond, atoms := range conds {
				for _, word := range []string{"exists", "forall"} {
					for _, end := range []string{"", "\n", "\n\n \n"} {
						f.Init, f.Cond, f.All = cells, atoms, word == "forall"
						s := "x86 p1\n" + init + "\n" + threads + word + cond + end
						if got, what := parsed(t, s); what != fine || !alike(got, f) {
							t.Fatalf("%q: %+v %v, not %+v", s, got, what, f)
						}
					}
				}
			}
		}
	}
	for a := range bodies {
		try(a)
		for b := range bodies {
			try(a, b)
			for c := range bodies {
				try(a, b, c)
			}
		}
	}
}

func TestAtomsOfEachThread(t *testing.T) { // P5.1: E1
	f, got := parsed(t, "x86 p\ninit\nthread\nthread\nthread\nforall 2:edx=4 0:eax=1 1:ebx=2 z=3 2:ecx=-0 ")
	if got != (told{6, api.ErrLine}) {
		t.Error(f, got)
	}
	f, got = parsed(t, "x86 p\ninit\nthread\nthread\nthread\nforall 2:edx=4 0:eax=1 1:ebx=2 z=3 2:ecx=0 ")
	if got != fine || !f.All || !slices.Equal(f.Cond, []api.Atom{{Thread: 2, Name: "edx", N: 4}, {Name: "eax", N: 1}, {Thread: 1, Name: "ebx", N: 2}, {Thread: -1, Name: "z", N: 3}, {Thread: 2, Name: "ecx"}}) {
		t.Error(f, got)
	}
}

// strays are texts with a line that may not come where it stands, the last one of the text.
var strays = []struct {
	text string
	at   int
}{
	// Ahead of the head, and heads.
	{"init", 1}, {"\n \ninit", 3}, {"thread", 1}, {"mov eax 1", 1}, {"exists", 1}, {"forall", 1}, {"p", 1}, {"x86", 1}, {"x86 a b", 1}, {"X86 a", 1}, {"x86a", 1}, {"a x86", 1}, {"x86\ta", 1}, {"\tx86 a", 1}, {"x86: a", 1},
	// Ahead of the init, and inits.
	{"x86 a\nx86 a", 2}, {"x86 a\nthread", 2}, {"x86 a\n\n\nthread", 4}, {"x86 a\nmov eax 1", 2}, {"x86 a\nexists", 2}, {"x86 a\nx 1", 2}, {"x86 a\ninit x", 2}, {"x86 a\ninit x 1 y", 2}, {"x86 a\ninit 1", 2}, {"x86 a\ninitx 1", 2}, {"x86 a\ninit: x 1", 2}, {"x86 a\nINIT", 2},
	{"x86 a\ninit x 05", 2}, {"x86 a\ninit x -0", 2}, {"x86 a\ninit x +1", 2}, {"x86 a\ninit x 1a", 2}, {"x86 a\ninit x y", 2}, {"x86 a\ninit 1 x", 2}, {"x86 a\ninit x=1", 2}, {"x86 a\ninit x 1 y 1.", 2}, {"x86 a\ninit x 9223372036854775808", 2}, {"x86 a\ninit x -9223372036854775809", 2}, {"x86 a\ninit x 1\r", 2},
	// Ahead of the first thread.
	{"x86 a\ninit\nx86 a", 3}, {"x86 a\ninit\ninit", 3}, {"x86 a\ninit\nmov eax 5", 3}, {"x86 a\ninit\nmfence", 3}, {"x86 a\ninit\nl:", 3}, {"x86 a\ninit\nexists", 3}, {"x86 a\n\ninit\n\nforall x=1", 5}, {"x86 a\ninit\nx 1", 3},
	// Threads, and what is in them.
	{"x86 a\ninit\nthread x", 3}, {"x86 a\ninit\nthread 0", 3}, {"x86 a\ninit\nthread thread", 3}, {"x86 a\ninit\nthread:", 3}, {"x86 a\ninit\nThread", 3}, {"x86 a\ninit\nthread\t", 3}, {"x86 a\ninit\nthreads", 3},
	{"x86 a\ninit\nthread\nthread x", 4}, {"x86 a\ninit\nthread\nx86 a", 4}, {"x86 a\ninit\nthread\ninit", 4}, {"x86 a\ninit\nthread\ninit x 1", 4}, {"x86 a\ninit\nthread\nmov eax", 4}, {"x86 a\ninit\nthread\nmov", 4}, {"x86 a\ninit\nthread\nmov eax 05", 4}, {"x86 a\ninit\nthread\nmov [x] [y]", 4}, {"x86 a\ninit\nthread\nmov eax ebx", 4}, {"x86 a\ninit\nthread\nmov x 1", 4}, {"x86 a\ninit\nthread\nmov [ x] 1", 4}, {"x86 a\ninit\nthread\nmov [eax] 1", 4}, {"x86 a\ninit\nthread\nxchg eax [x]", 4}, {"x86 a\ninit\nthread\nxchg [x] 1", 4}, {"x86 a\ninit\nthread\ncmp eax ebx", 4}, {"x86 a\ninit\nthread\ncmp [x] 1", 4}, {"x86 a\ninit\nthread\njmp", 4}, {"x86 a\ninit\nthread\njmp l:\nl:", 4}, {"x86 a\ninit\nthread\njz l", 4}, {"x86 a\ninit\nthread\nl :", 4}, {"x86 a\ninit\nthread\n:", 4}, {"x86 a\ninit\nthread\nmov:", 4}, {"x86 a\ninit\nthread\nl: mfence", 4}, {"x86 a\ninit\nthread\nmfence mfence", 4}, {"x86 a\ninit\nthread\nlfence", 4}, {"x86 a\ninit\nthread\nMOV eax 1", 4}, {"x86 a\ninit\nthread\nabcdefghi:", 4},
	{"x86 a\ninit\nthread\nmfence\n\nthread\n\nmov eax 1\n\nmov eax\n", 10},
	// Ends.
	{"x86 a\ninit\nthread\nexists eax=1", 4}, {"x86 a\ninit\nthread\nexists 3:eax=1", 4}, {"x86 a\ninit\nthread\nexists -1:x=1", 4}, {"x86 a\ninit\nthread\nexists 0:x=1", 4}, {"x86 a\ninit\nthread\nexists 00:eax=1", 4}, {"x86 a\ninit\nthread\nforall x", 4}, {"x86 a\ninit\nthread\nforall x = 1", 4}, {"x86 a\ninit\nthread\nforall x=01", 4}, {"x86 a\ninit\nthread\nforall x=1 and y=1", 4}, {"x86 a\ninit\nthread\nforall x=1 y=1,", 4}, {"x86 a\ninit\nthread\nexists forall", 4}, {"x86 a\ninit\nthread\nexist", 4}, {"x86 a\ninit\nthread\nexists:", 4}, {"x86 a\ninit\nthread\nForall", 4}, {"x86 a\ninit\nthread\nx=1", 4}, {"x86 a\ninit\nthread\nexists x=9223372036854775808", 4},
	// Behind the end.
	{"x86 a\ninit\nthread\nexists\nexists", 5}, {"x86 a\ninit\nthread\nexists\nforall", 5}, {"x86 a\ninit\nthread\nforall x=1\n\n\nexists x=1", 7}, {"x86 a\ninit\nthread\nexists\nthread", 5}, {"x86 a\ninit\nthread\nexists\nmfence", 5}, {"x86 a\ninit\nthread\nexists\nx86 a", 5}, {"x86 a\ninit\nthread\nexists\ninit", 5}, {"x86 a\ninit\nthread\nexists\nx=1", 5}, {"x86 a\ninit\nthread\nexists\n.", 5}, {"x86 a\ninit\nthread\nexists\n\t", 5},
	// What is wrong with the program itself comes behind.
	{"x86 mov\ninit\nthread\nmfence\nmfence\nexists 2:eax=1\n.", 7}, {"x86 mov\ninit x", 2}, {"x86 a\ninit y 1 x 1\nthread\n.", 4}, {"x86 a\ninit\nthread\njmp l\nexists x", 5}, {"x86 a\ninit\nthread\nthread\nthread\nthread\n.", 7}, {"x86 a\ninit\nthread\nl:\nl:\nthread\nl:\nl:\n.", 9},
}

func TestLinesThatMayNotComeWhereTheyStand(t *testing.T) { // P5.1: E1; P2
	for _, x := range strays {
		expect(t, x.text, told{x.at, api.ErrLine})
		expect(t, x.text+"\n", told{x.at, api.ErrLine})
		hold(t, x.text)
	}
}

func TestWhatIsLackingAtTheEnd(t *testing.T) { // P5.1: E1
	for s, at := range map[string]int{
		"": 1, " ": 2, "\n": 2, "\n\n": 3, " \n ": 3, "\n\n ": 4,
		"x86 a": 2, "x86 a\n": 2, "x86 a\n\n": 3, "\nx86 a\n ": 4, "x86 mov": 2,
		"x86 a\ninit": 3, "x86 a\ninit x 1\n": 3, "x86 a\n\ninit\n\n": 5, "x86 a\ninit x 1 x 1 eax 1": 3,
		"x86 a\ninit\nthread": 4, "x86 a\ninit\nthread\n": 4, "x86 a\ninit\nthread\n\n": 5, "x86 a\ninit\nthread\nthread": 5, "x86 a\ninit\nthread\nmfence": 5, "x86 a\ninit\nthread\nmov eax 1\nthread\nl:\n": 7,
		"x86 mov\ninit\nthread\njmp l\nmfence\nmfence": 7, "x86 a\ninit\nthread\nthread\nthread\nthread\nthread\n\n\n": 10,
	} {
		expect(t, s, told{at, api.ErrLine})
		hold(t, s)
	}
}

// TestAllShortTexts lays each row of up to six lines, right ones and wrong ones, and ones without words.
func TestAllShortTexts(t *testing.T) { // P5.1: E1; P1, P2
	pool := []string{"x86 p", "init x 1", "thread", "mov eax [x]", "exists x=1", "forall", "", "init x"}
	met := map[told]int{}
	var lay func(s string, left int)
	lay = func(s string, left int) {
		met[hold(t, s)]++
		if left == 0 {
			return
		}
		for _, x := range pool {
			lay(s+x+"\n", left-1)
		}
	}
	lay("", 6)
	for at := 1; at <= 7; at++ {
		if met[told{at, api.ErrLine}] == 0 {
			t.Error("no line is wrong at", at)
		}
	}
	// With each end, of four lines 1; of five 5 with one without words, 2 with one more in the threads; of six 15, 12 and 4.
	if met[fine] != 2*(1+5+2+15+12+4) {
		t.Error("right ones:", met[fine])
	}
}

// padded is s with x laid behind it till it is n bytes long.
func padded(s, x string, n int) string { return s + strings.Repeat(x, n)[:n-len(s)] }

func TestLongTexts(t *testing.T) { // P5.1: E1; P1, P2
	right, wrong, lacks := "x86 a\ninit\nthread\nexists", "x86 a\ninit\nthread\nmfence\nmfence\nexists", "x86 a\ninit"
	full := told{0, api.ErrFull}
	for _, x := range []string{" ", "\n", " \n", "\n  "} {
		expect(t, padded(right, x, 3999), fine)
		expect(t, padded(right, x, 4000), fine)
		expect(t, padded(right, x, 4001), full)
		expect(t, padded(right, x, 4002), full)
		expect(t, padded(wrong, x, 4000), told{5, api.ErrFence})
		expect(t, padded(wrong, x, 4001), full)
		expect(t, padded("init"+x, x, 4000), told{1, api.ErrLine})
		expect(t, padded("init"+x, x, 4001), full)
		expect(t, strings.Repeat(x, 4000/len(x))+right, full)
	}
	expect(t, padded(lacks, "\n", 4000), told{2 + 4000 - len(lacks), api.ErrLine})
	expect(t, strings.Repeat("\n", 4000), told{4001, api.ErrLine})
	expect(t, strings.Repeat("\n", 4001), full)
	expect(t, strings.Repeat("\n", 4000-len(right))+right, fine)
	expect(t, strings.Repeat(" ", 4000-len(right))+right, fine)
	expect(t, strings.Repeat(" ", 4001-len(right))+right, full)
	// Bytes are counted, not letters.
	expect(t, strings.Repeat("é", 2000), told{1, api.ErrLine})
	expect(t, strings.Repeat("é", 2001), full)
	expect(t, padded("x86 ", "a", 4000), told{2, api.ErrLine})
	expect(t, strings.Repeat("x", 50_000_000), full)
	expect(t, strings.Repeat("\n", 50_000_000), full)
	// Many lines, threads, cells and atoms, and no more than 4000 bytes.
	expect(t, lines("x86 a", "init", strings.Repeat("thread\n", 550), "exists"), told{1, api.ErrFull})
	expect(t, lines("x86 a", "init"+strings.Repeat(" x 1", 900), "thread", "exists"), told{1, api.ErrTwice})
	expect(t, lines("x86 a", "init", "thread", "exists"+strings.Repeat(" x=1", 900)), told{4, api.ErrFull})
	expect(t, lines("x86 a", "init", "thread", strings.Repeat("mfence\nl:\n", 300), "exists"), told{7, api.ErrTwice})
}

// flaws are texts, each with something that valid tells.
var flaws = []struct {
	text string
	want told
}{
	// Of the head: the name, cells, how many threads, how many locations.
	{"x86 mov\ninit\nthread\nexists", told{1, api.ErrName}},
	{"\n \nx86 x86\n\ninit\n\nthread\n\nexists", told{3, api.ErrName}},
	{"x86 A\ninit\nthread\nexists", told{1, api.ErrName}},
	{"x86 eax\ninit\nthread\nexists", told{1, api.ErrName}},
	{"x86 abcdefghi\ninit\nthread\nexists", told{1, api.ErrName}},
	{"x86 a\t\ninit\nthread\nexists", told{1, api.ErrName}},
	{"\nx86 a\r\ninit\nthread\nexists", told{2, api.ErrName}},
	{"\nx86 a\n\ninit eax 1\nthread\nexists", told{2, api.ErrName}},
	{"x86 a\ninit [x] 1\nthread\nexists", told{1, api.ErrName}},
	{"x86 a\ninit 1 1\nthread\nexists", told{1, api.ErrName}},
	{"x86 a\ninit init 1\nthread\nexists", told{1, api.ErrName}},
	{"\n\nx86 a\ninit x 1 x 1\nthread\nexists", told{3, api.ErrTwice}},
	{"x86 a\ninit x 1 y 1 b 1\nthread\nexists", told{1, api.ErrTwice}},
	{"\nx86 a\ninit x 1 y 1\n\nthread\nthread\nthread\n\nthread\nexists", told{2, api.ErrFull}},
	{"\nx86 a\ninit a 1 b 1 c 1 d 1 e 1\n\nthread\nexists", told{2, api.ErrFull}},
	{"\nx86 a\ninit a 1\n\nthread\nmov [b] 1\nthread\nmov eax [c]\nmov [d] eax\n\nxchg [e] eax\nexists", told{2, api.ErrFull}},
	{"\n\n\nx86 a\ninit a 1 b 1 c 1 d 1\n\nthread\nexists e=1", told{4, api.ErrFull}},
	// Of a thread's line: that one.
	{"x86 a\ninit\nthread\n\nl:\n \nl:\nexists", told{7, api.ErrTwice}},
	{"x86 a\ninit\nthread\nl:\nthread\nk:\nl:\nthread\nl:\nk:\n\nk:\nexists", told{12, api.ErrTwice}},
	{"x86 a\ninit\nthread\nmfence\nmfence\nexists", told{5, api.ErrFence}},
	{"x86 a\ninit\nthread\nmfence\nthread\nmfence\n\n\n  mfence\nexists", told{9, api.ErrFence}},
	{"x86 a\ninit\nthread\njmp l\nexists", told{4, api.ErrName}},
	{"x86 a\ninit\nthread\nl:\n\nmov eax 1\n\njne l\nexists", told{8, api.ErrName}},
	{"x86 a\ninit\nthread\nl:\nthread\nmfence\n\nje l\nthread\nl:\nexists", told{8, api.ErrName}},
	{"x86 a\ninit\nthread\n" + strings.Repeat("mov eax 1\n", 9) + "exists", told{12, api.ErrFull}},
	{"x86 a\ninit\nthread\n" + strings.Repeat("mov eax 1\n\n", 8) + "thread\n" + strings.Repeat("\nmov eax 1\n", 8) + "mfence\n\nmov eax 1\nexists", told{39, api.ErrFull}},
	{"x86 a\ninit\nthread\na1:\na2:\na3:\na4:\n\na5:\na6:\na7:\na8:\nmfence\na9:\nexists", told{14, api.ErrFull}},
	// Of an atom: the end.
	{"x86 a\ninit\nthread\n\nexists 1:eax=1", told{5, api.ErrName}},
	{"x86 a\ninit\nthread\nthread\n\n\nforall 1:eax=1 x=1 2:ebx=1\n\n", told{7, api.ErrName}},
	{"x86 a\ninit\nthread\nmfence\n\n\nexists x=1 x=1 x=1 x=1 x=1 x=1 x=1", told{7, api.ErrFull}},
	{"x86 a\ninit\nthread\nthread\nthread\nmov eax 1\nforall 0:eax=1 1:eax=1 2:eax=1 x=1 x=1 x=1 2:eax=1\n\n", told{7, api.ErrFull}},
	// The first of several, by valid's own order.
	{"x86 a\ninit\nthread\nmov [a] 1\nmov [b] 1\nmov [c] 1\nmov [d] 1\nmov [e] 1\nexists 1:eax=1", told{9, api.ErrName}},
	{"x86 a\ninit\nthread\nmfence\nmfence\nexists 1:eax=1", told{5, api.ErrFence}},
	{"x86 a\ninit\nthread\nthread\nthread\nthread\nmfence\nmfence\nexists 4:eax=1", told{9, api.ErrLine}},
	{"x86 a\ninit\nthread\nthread\nthread\nthread\nmfence\nmfence\nexists", told{1, api.ErrFull}},
	{"x86 a\ninit\nthread\njmp l\nthread\nmfence\nmfence\nexists", told{4, api.ErrName}},
}

func TestWhatValidTells(t *testing.T) { // P5.1: E1; P5.2; P2
	for _, x := range flaws {
		expect(t, x.text, x.want)
		hold(t, x.text)
	}
}

func TestUpToTheBounds(t *testing.T) { // P5.1: E1
	body := "thread\n" + strings.Repeat("mfence\nmov eax 1\n", 8) + "mfence\na1:\na2:\na3:\na4:\na5:\na6:\na7:\na8:\n"
	s := "x86 abcdefgh\ninit a 1 b 1 c 1 d 1\n" + strings.Repeat(body, 3) + "exists a=1 b=1 c=1 d=1 2:edx=1 2:edx=1\n"
	f, got := parsed(t, s)
	if got != fine || len(f.Threads) != 3 || len(f.Threads[2].Lines) != 25 || len(f.Init) != 4 || len(f.Cond) != 6 {
		t.Error(f, got)
	}
}

// tails are what may stand behind a line that may not come there.
var tails = []string{
	"", "\n", "\n\n \n", "x86 a\n", "x86 a\ninit\nthread\nexists\n", "init\n", "init x\n", "thread\n", "thread\nmov eax 1\nexists\n", "mfence\nmfence\n", "l:\nl:\n", "jmp nowhere\n", "mov\n", "exists\n", "forall x=1 y=2\n", "exists 2:eax=1 eax=1", "x86\n", "\x00\xff\n", "thread x", "l:\nthread\nthread\nthread\nthread\nexists",
}

func TestWhatStandsBehindAltersNothing(t *testing.T) { // P5.3
	for _, x := range strays {
		for _, a := range tails {
			expect(t, x.text+"\n"+a, told{x.at, api.ErrLine})
			for _, b := range tails {
				expect(t, x.text+"\n"+a+"\n"+b, told{x.at, api.ErrLine})
			}
		}
		expect(t, padded(x.text+"\n", "mov eax 1\n", 4000), told{x.at, api.ErrLine})
		expect(t, padded(x.text+"\n", ".", 4000), told{x.at, api.ErrLine})
		if t.Failed() {
			return
		}
	}
}

// open: may a blank stand at i of s, and alter no word?
func open(s string, i int) bool {
	edge := func(b byte) bool { return b == ' ' || b == '\n' }
	return i == 0 || i == len(s) || edge(s[i-1]) || edge(s[i])
}

// shifted is what is told, when lines were put ahead of a line.
func shifted(x told, ahead, many int) told {
	if x.at >= ahead {
		x.at += many
	}
	return x
}

// some are texts of all kinds, right and wrong ones.
func some() []string {
	l := []string{
		"x86 sb\ninit x 1 y -2\nthread\nmov [x] 1\nje l\nmfence\nl:\nthread\nmov eax [y]\nxchg [x] ebx\nforall 1:eax=0 x=1 0:edx=3\n",
		"x86 sb\ninit\nthread\nthread\nthread\nexists",
		"", "x86 a", "x86 a\ninit", "x86 a\ninit\nthread\n",
	}
	for _, x := range strays {
		l = append(l, x.text)
	}
	for _, x := range flaws {
		l = append(l, x.text)
	}
	return l
}

func TestBlanksAlterNothing(t *testing.T) { // P5.3
	for _, s := range some() {
		f, want := parsed(t, s)
		// A blank behind the last line feed is a line more.
		more := func(i int) told {
			if i == len(s) && (s == "" || s[i-1] == '\n') {
				return shifted(want, strings.Count(s, "\n")+1, 1)
			}
			return want
		}
		wide := s
		for i := len(s); i >= 0; i-- {
			if !open(s, i) {
				continue
			}
			if i < len(s) {
				wide = wide[:i] + "   " + wide[i:]
			}
			for _, x := range []string{" ", "     "} {
				if g, got := parsed(t, s[:i]+x+s[i:]); got != more(i) || !alike(f, g) {
					t.Fatalf("%q with blanks at %d: %+v %v, not %+v %v", s, i, g, got, f, want)
				}
			}
		}
		if g, got := parsed(t, wide); got != want || !alike(f, g) {
			t.Fatalf("%q: %+v %v, not %+v %v", wide, g, got, f, want)
		}
	}
}

func TestLinesWithoutWordsAlterButNumbers(t *testing.T) { // P5.3
	for _, s := range some() {
		f, want := parsed(t, s)
		for i := 0; i <= len(s); i++ {
			if i > 0 && s[i-1] != '\n' {
				continue
			}
			for _, x := range []string{"\n", " \n", "\n\n", "   \n\n  \n"} {
				moved := shifted(want, strings.Count(s[:i], "\n")+1, strings.Count(x, "\n"))
				if g, got := parsed(t, s[:i]+x+s[i:]); got != moved || !alike(f, g) {
					t.Fatalf("%q with %q at %d: %+v %v, not %+v %v", s, x, i, g, got, f, moved)
				}
			}
		}
	}
}

// TestLinesWithoutWordsEverywhere puts as many ahead of each line.
func TestLinesWithoutWordsEverywhere(t *testing.T) { // P5.3
	for _, s := range some() {
		f, want := parsed(t, s)
		for many := 1; many < 4; many++ {
			wide, moved := "", want
			for i, row := range rows(s) {
				wide += strings.Repeat(thrown(new(dice(i)), "\n", "  \n", " \n"), many) + row + "\n"
			}
			switch n := len(rows(s)); {
			case want.at > n: // A line is lacking behind all those.
				moved.at = n*(many+1) + 1
			case want.at > 0:
				moved.at = want.at * (many + 1)
			}
			if g, got := parsed(t, wide); got != moved || !alike(f, g) {
				t.Fatalf("%q: %+v %v, not %+v %v", wide, g, got, f, moved)
			}
		}
	}
}

// dice are numbers by a fixed rule.
type dice uint64

// below is a number from 0 to n - 1.
func (d *dice) below(n int) int {
	*d = *d*6364136223846793005 + 1442695040888963407
	return int(uint64(*d) >> 33 % uint64(n))
}

// thrown is one of these.
func thrown[T any](d *dice, l ...T) T { return l[d.below(len(l))] }

// line is one of a thread, most often a right one.
func (d *dice) line() string {
	return thrown(d, "mov eax 1", "mov ebx [x]", "mov [y] 2", "mov [y] ebx", "xchg [x] ecx", "mfence", "mfence", "cmp eax -1", "jmp z", "je z", "jne l", "l:", "k:", "m"+strconv.Itoa(d.below(9))+":", "mov [v] 1", "mov eax [w]")
}

// text is one that is often right.
func (d *dice) text() string {
	l := []string{"x86 p" + strconv.Itoa(d.below(3)), "init" + thrown(d, "", " x 1", " x 1 y 2", " a 1 b 2", " y 1 x 2")}
	for range 1 + d.below(3) + d.below(8)/7 {
		l = append(l, "thread")
		for range d.below(4) + 7*(d.below(6)/5) {
			l = append(l, d.line())
		}
		l = append(l, "z:")
	}
	end := thrown(d, "exists", "forall")
	for range d.below(4) + 4*(d.below(6)/5) {
		end += thrown(d, " x=1", " y=-2", " 0:eax=1", " 0:ebx=0", " 1:eax=7", " 2:edx=1")
	}
	l = append(l, end)
	for i := d.below(4); i > 0; i-- {
		at := d.below(len(l) + 1)
		l = slices.Insert(l, at, thrown(d, "", " ", "    "))
	}
	return strings.Join(l, "\n") + thrown(d, "", "\n", "\n\n")
}

// spoilt is s with a line or a byte that is put, taken, doubled or changed.
func (d *dice) spoilt(s string) string {
	l := strings.Split(s, "\n")
	a, b, at := d.below(len(l)), d.below(len(l)), d.below(len(s))
	x := thrown(d, " ", "\n", "x", "0", "-", ":", "[", "]", "=", "1", "\t", "\r", "\x00", "\xc3", "a")
	switch d.below(7) {
	case 0:
		return strings.Join(slices.Delete(l, a, a+1), "\n")
	case 1:
		return strings.Join(slices.Insert(l, a, l[b]), "\n")
	case 2:
		l[a], l[b] = l[b], l[a]
		return strings.Join(l, "\n")
	case 3:
		return strings.Join(slices.Insert(l, a, thrown(d, "x86 a", "init", "thread", "exists", "forall x=1", "thread x", "init x", d.line())), "\n")
	case 4:
		return s[:at] + x + s[at:]
	case 5:
		return s[:at] + s[at+1:]
	}
	return s[:at] + x + s[at+1:]
}

func TestManyTexts(t *testing.T) { // P5.1: E1; P5.2; P1, P2
	d := dice(1)
	met := map[api.Errno]int{}
	for range 30_000 {
		s := d.text()
		for range d.below(4) {
			met[hold(t, s).e]++
			s = d.spoilt(s)
		}
		met[hold(t, s).e]++
	}
	for _, e := range []api.Errno{api.OK, api.ErrFull, api.ErrLine, api.ErrTwice, api.ErrName, api.ErrFence} {
		if met[e] < 1000 {
			t.Errorf("%v was met only %d times", e, met[e])
		}
	}
}

func TestTextsOfAllBytes(t *testing.T) { // P1, P2; P5.1: E1
	s := "x86 a\ninit x 1\nthread\nmov eax [x]\nl:\nexists x=1 0:eax=2\n"
	for b := range 256 {
		x := string([]byte{byte(b)})
		hold(t, x)
		hold(t, strings.Repeat(x, 4000))
		for i := range len(s) + 1 {
			hold(t, s[:i]+x+s[i:])
			if i < len(s) {
				hold(t, s[:i]+x+s[i+1:])
			}
		}
	}
	for i := range len(s) + 1 {
		hold(t, s[:i])
		hold(t, s[i:])
	}
	d := dice(3)
	for range 20_000 {
		b := make([]byte, d.below(60))
		for i := range b {
			b[i] = byte(d.below(256))
		}
		hold(t, string(b))
	}
}

// deep is a copy of f that shares nothing with it.
func deep(f api.File) api.File {
	f.Init, f.Threads, f.Cond = slices.Clone(f.Init), slices.Clone(f.Threads), slices.Clone(f.Cond)
	for i, t := range f.Threads {
		f.Threads[i].Lines = slices.Clone(t.Lines)
	}
	return f
}

// fill puts x into the spare room of l.
func fill[T any](l []T, x T) {
	for i := len(l); i < cap(l); i++ {
		l[:cap(l)][i] = x
	}
}

func TestAnswersAreNewMemory(t *testing.T) { // P3
	body := func(many int) string { return "thread\n" + strings.Repeat("mov eax 1\n", many) }
	// A short thread behind a longer one would lie in its spare room, if the two shared memory.
	for i := range 9 * 9 {
		init, end := "init"+" a 1 b 2 c 3 d 4"[:4*(i%5)], "exists"+strings.Repeat(" a=1", i%7)
		newMemory(t, lines("x86 a", init, body(i/9)+body(i%9)+body(1)+end))
	}
}

// newMemory spoils an answer, its spare room first.
func newMemory(t *testing.T, s string) {
	f, got := parsed(t, s)
	g, _ := parsed(t, s)
	was := deep(f)
	fill(f.Init, api.Cell{Loc: "w"})
	fill(f.Cond, api.Atom{Name: "ecx"})
	fill(f.Threads, api.Thread{})
	for _, x := range f.Threads {
		fill(x.Lines, api.Line{Op: 99})
	}
	if got != fine || !reflect.DeepEqual(f, was) || !reflect.DeepEqual(g, was) {
		t.Fatalf("%q: %v: %+v %+v", s, got, f, g)
	}
	clear(f.Init)
	clear(f.Cond)
	clear(f.Threads[0].Lines)
	clear(f.Threads[1:])
	if h, _ := parsed(t, s); !reflect.DeepEqual(g, was) || !reflect.DeepEqual(h, was) {
		t.Fatalf("%q: %+v %+v", s, g, h)
	}
}

func TestAnswersHangOnArgumentsAlone(t *testing.T) { // P3
	l := some()
	first := make([]told, len(l))
	for i, s := range l {
		_, first[i] = parsed(t, s)
	}
	for i := len(l) - 1; i >= 0; i-- {
		expect(t, l[i], first[i])
	}
}
