package ops_test

import (
	"math"
	"regexp"
	"slices"
	"strconv"
	"strings"
	"testing"

	"fencepost/api"
	"fencepost/ops"
)

// The document's table, read another way than the program does: which parts a kind has, and its words with those parts in capitals.
var table = map[int]struct {
	reg, loc, label, n bool
	words              string
}{
	api.OpImm:   {reg: true, n: true, words: "mov REG NUM"},
	api.OpLoad:  {reg: true, loc: true, words: "mov REG [LOC]"},
	api.OpStore: {reg: true, loc: true, words: "mov [LOC] REG"},
	api.OpPut:   {loc: true, n: true, words: "mov [LOC] NUM"},
	api.OpXchg:  {reg: true, loc: true, words: "xchg [LOC] REG"},
	api.OpFence: {words: "mfence"},
	api.OpCmp:   {reg: true, n: true, words: "cmp REG NUM"},
	api.OpJmp:   {label: true, words: "jmp LABEL"},
	api.OpJe:    {label: true, words: "je LABEL"},
	api.OpJne:   {label: true, words: "jne LABEL"},
	api.OpLabel: {label: true, words: "LABEL:"},
}

var (
	registers = []string{"eax", "ebx", "ecx", "edx"}
	keys      = []string{"x86", "init", "thread", "mov", "xchg", "mfence", "cmp", "jmp", "je", "jne", "exists", "forall"}
	names     = []string{"x", "y", "l", "a1", "z9z9", "abcdefgh", "a1234567", "eaxx", "movs", "x8", "esi"}
	unnamed   = []string{"", " ", "X", "1x", "0", "-1", "5", "a b", "x ", " x", "x:", "[x]", "[x", "x]", "x=1", "a_b", "abcdefghi", "a\n", "é", "EAX", "Mov", "\xff", "\x00"}
	numbers   = []int{0, 1, -1, 5, -7, 10, 1 << 32, -1 << 32, math.MaxInt - 1, math.MaxInt, math.MinInt, math.MinInt + 1}
	// No number prints so.
	misprints = []string{"-0", "05", "00", "-01", "+5", "--1", "-", "1e3", "0x5", "5 ", " 5", "9223372036854775808", "-9223372036854775809", "18446744073709551616", "5a", "１"}
	noKinds   = []int{0, -1, -2, 12, 13, 255, 256, 257, 262, 1<<32 + 1, 1<<32 + 6, math.MaxInt, math.MinInt}
)

// isName, by the document's words for names.
func isName(s string) bool {
	return spelling.MatchString(s) && !slices.Contains(registers, s) && !slices.Contains(keys, s)
}

var spelling = regexp.MustCompile(`\A[a-z][a-z0-9]{0,7}\z`)

// isLine: has l what the table says, and no more?
func isLine(l api.Line) bool {
	k, is := table[l.Op]
	return is &&
		(k.reg && slices.Contains(registers, l.Reg) || !k.reg && l.Reg == "") &&
		(k.loc && isName(l.Loc) || !k.loc && l.Loc == "") &&
		(k.label && isName(l.Label) || !k.label && l.Label == "") &&
		(k.n || l.N == 0)
}

// wordsOf are those of a line, as the table has them.
func wordsOf(l api.Line) []string {
	r := strings.NewReplacer("REG", l.Reg, "LOC", l.Loc, "LABEL", l.Label, "NUM", strconv.Itoa(l.N))
	return strings.Split(r.Replace(table[l.Op].words), " ")
}

// lines are all of these parts: right ones and wrong ones.
func lines(ops []int, regs, locs, labels []string, ns []int) []api.Line {
	var l []api.Line
	for _, op := range ops {
		for _, reg := range regs {
			for _, loc := range locs {
				for _, label := range labels {
					for _, n := range ns {
						l = append(l, api.Line{Op: op, Reg: reg, Loc: loc, Label: label, N: n})
					}
				}
			}
		}
	}
	return l
}

// someLines are of all kinds, and of none, with parts of every sort.
func someLines() []api.Line {
	few := []string{"", "x", "l", "abcdefgh", "abcdefghi", "eax", "edx", "mov", "X", "[x]", "l:"}
	return lines(append(kinds(), noKinds...), few, few, few, []int{0, 5, math.MaxInt, math.MinInt})
}

// kinds are those of lines, rising.
func kinds() []int {
	var l []int
	for op := api.OpImm; op <= api.OpLabel; op++ {
		l = append(l, op)
	}
	return l
}

// rightLines are, of each kind, those of all registers, names and numbers of the tests.
func rightLines() []api.Line {
	var l []api.Line
	for _, op := range kinds() {
		regs, locs, labels, ns := []string{""}, []string{""}, []string{""}, []int{0}
		k := table[op]
		if k.reg {
			regs = registers
		}
		if k.loc {
			locs = names
		}
		if k.label {
			labels = names
		}
		if k.n {
			ns = numbers
		}
		l = append(l, lines([]int{op}, regs, locs, labels, ns)...)
	}
	return l
}

// checkLine holds Right and Words of l against the table.
func checkLine(t *testing.T, l api.Line) {
	t.Helper()
	if ops.Right(l) != isLine(l) {
		t.Errorf("Right(%+v) is %v", l, !isLine(l))
	}
	got := ops.Words(l)
	if !isLine(l) {
		if len(got) != 0 {
			t.Errorf("Words(%+v) is %q", l, got)
		}
		return
	}
	if want := wordsOf(l); !slices.Equal(got, want) {
		t.Errorf("Words(%+v) is %q, not %q", l, got, want)
	}
}

// checkNone: w must be no line's words.
func checkNone(t *testing.T, w []string) {
	t.Helper()
	if l, is := ops.Get(w); is || l != (api.Line{}) {
		t.Errorf("Get(%.60q) is %+v, %v", w, l, is)
	}
}

func TestWordsAreTheTables(t *testing.T) { // P3.1: C1
	for s, l := range map[string]api.Line{
		"mov eax 5":                    {Op: api.OpImm, Reg: "eax", N: 5},
		"mov edx 0":                    {Op: api.OpImm, Reg: "edx"},
		"mov eax -9223372036854775808": {Op: api.OpImm, Reg: "eax", N: math.MinInt},
		"mov ebx [x]":                  {Op: api.OpLoad, Reg: "ebx", Loc: "x"},
		"mov [x] ecx":                  {Op: api.OpStore, Reg: "ecx", Loc: "x"},
		"mov [x] 5":                    {Op: api.OpPut, Loc: "x", N: 5},
		"mov [y] 9223372036854775807":  {Op: api.OpPut, Loc: "y", N: math.MaxInt},
		"mov [abcdefgh] -1":            {Op: api.OpPut, Loc: "abcdefgh", N: -1},
		"xchg [x] edx":                 {Op: api.OpXchg, Reg: "edx", Loc: "x"},
		"mfence":                       {Op: api.OpFence},
		"cmp eax 0":                    {Op: api.OpCmp, Reg: "eax"},
		"cmp ecx -7":                   {Op: api.OpCmp, Reg: "ecx", N: -7},
		"jmp l":                        {Op: api.OpJmp, Label: "l"},
		"je l1":                        {Op: api.OpJe, Label: "l1"},
		"jne abcdefgh":                 {Op: api.OpJne, Label: "abcdefgh"},
		"l:":                           {Op: api.OpLabel, Label: "l"},
		"abcdefgh:":                    {Op: api.OpLabel, Label: "abcdefgh"},
	} {
		w := strings.Split(s, " ")
		if !ops.Right(l) {
			t.Errorf("Right(%+v) is false", l)
		}
		if got := ops.Words(l); !slices.Equal(got, w) {
			t.Errorf("Words(%+v) is %q, not %q", l, got, w)
		}
		if got, is := ops.Get(w); got != l || !is {
			t.Errorf("Get(%q) is %+v, %v", w, got, is)
		}
	}
}

func TestRightIsWhatTheKindHas(t *testing.T) { // P3.1: C1
	for _, l := range someLines() {
		checkLine(t, l)
	}
}

// TestOnePartWrong takes right lines, and alters one part of each.
func TestOnePartWrong(t *testing.T) { // P3.1: C1; P1, P2
	texts := slices.Concat(registers, keys, names, unnamed, []string{strings.Repeat("a", 1_000_000)})
	for _, op := range kinds() {
		k := table[op]
		right := api.Line{Op: op}
		if k.reg {
			right.Reg = "ebx"
		}
		if k.loc {
			right.Loc = "x"
		}
		if k.label {
			right.Label = "l"
		}
		checkLine(t, right)
		for _, s := range texts {
			for i := range 3 {
				l := right
				*[]*string{&l.Reg, &l.Loc, &l.Label}[i] = s
				checkLine(t, l)
			}
		}
		for _, n := range numbers {
			l := right
			l.N = n
			checkLine(t, l)
		}
		for _, n := range slices.Concat(kinds(), noKinds) {
			l := right
			l.Op = n
			checkLine(t, l)
		}
	}
}

func TestNoKinds(t *testing.T) { // P3.1: C1
	for _, op := range noKinds {
		for _, l := range []api.Line{{}, {Reg: "eax", N: 5}, {Reg: "eax", Loc: "x"}, {Loc: "x", N: 5}, {Label: "l"}, {Reg: "eax", Loc: "x", Label: "l", N: 1}} {
			l.Op = op
			if ops.Right(l) || len(ops.Words(l)) != 0 {
				t.Errorf("%+v is right", l)
			}
		}
	}
}

func TestNoLinesWords(t *testing.T) { // P3.1: C1; P2
	checkNone(t, nil)
	checkNone(t, []string{})
	for _, s := range []string{
		"", " ", "  ", "mov", "xchg", "cmp", "jmp", "je", "jne", "mov ", "jmp ", "cmp  ", "xchg  ",
		"mov eax", "mov [x]", "mov 5", "cmp eax", "cmp 5", "xchg [x]", "xchg eax", "mfence x", "mfence ", " mfence", "MFENCE", "mfenc", "mfencee",
		"mov eax 5 5", "mov [x] eax ", " mov eax 5", "mov  5", "mov eax ", "mov [x] ", "mov  eax", "cmp eax 0 0", "xchg [x] eax eax", "jmp l l", "jmp l ", "je  l", "l: ", " l:", "l: mfence",
		"mov eax ebx", "mov eax eax", "mov [x] [y]", "mov [x] [x]", "mov 5 5", "mov 5 eax", "mov 5 [x]", "mov x 5", "mov x eax", "mov eax x", "mov [x] y", "mov eax []", "mov [] eax", "mov [] 5",
		"mov [eax] 5", "mov eax [eax]", "mov [mov] 5", "mov [init] eax", "mov [abcdefghi] 5", "mov eax [abcdefghi]", "mov [X] 5", "mov [1] 5", "mov [5] 5", "mov [x1:] 5", "mov esi 5", "mov EAX 5", "mov eaxx 5", "mov esi [x]", "mov [x] esi",
		"mov [x 5", "mov x] 5", "mov [x eax", "mov eax [x", "mov eax x]", "mov [[x]] 5", "mov eax [[x]]", "mov [x]] 5", "mov [[x] 5", "mov ]x[ 5", "mov (x) 5", "mov [x][y] 5", "mov [eax 5", "mov eax] 5", "mov [eax] [x]",
		"xchg eax [x]", "xchg [x] [y]", "xchg eax ebx", "xchg [x] 5", "xchg x eax", "xchg [eax] ebx", "xchg [x eax", "xchg [x] x", "xchg [] eax",
		"cmp [x] 5", "cmp eax ebx", "cmp eax [x]", "cmp 5 eax", "cmp 5 5", "cmp x 5", "cmp eax x", "cmp eax 5a",
		"jmp eax", "jmp mov", "je jne", "jne 5", "jmp l:", "jmp :l", "jmp [l]", "je L", "jne abcdefghi", "jz l", "jge l", "call l", "JMP l", "jmpl", "j l", "mov l", "cmp l", "mfence l", "l: l",
		"l", ":", "::", "l::", ":l", ":l:", "l :", "eax:", "mov:", "mfence:", "jmp:", "x86:", "forall:", "abcdefghi:", "L:", "1:", "a b:", "[l]:", "l;", "0:", "l\n:", "l:\n",
		"thread", "init", "x86 sb", "exists", "forall", "init x 0", "exists x=1", "add eax 5", "mov eax, 5", "movl eax 5", "Mov eax 5", "mo eax 5", "movs [x] 5", "lock xchg [x] eax",
	} {
		checkNone(t, strings.Split(s, " "))
	}
	for _, s := range misprints {
		checkNone(t, []string{"mov", "eax", s})
		checkNone(t, []string{"mov", "[x]", s})
		checkNone(t, []string{"cmp", "eax", s})
	}
}

func TestOneWordLessOneMoreAnEmptyOne(t *testing.T) { // P3.1: C1
	for _, l := range rightLines() {
		w := wordsOf(l)
		for i := range len(w) + 1 {
			for _, s := range []string{"", " ", "x", "eax", "[x]", "5", "mov", "mfence", "l:"} {
				checkNone(t, slices.Insert(slices.Clone(w), i, s))
			}
			if i == len(w) {
				break
			}
			checkNone(t, slices.Delete(slices.Clone(w), i, i+1))
			less := slices.Clone(w)
			less[i] = ""
			checkNone(t, less)
			for _, x := range []string{" ", "\n", "\x00", "\t", ":", "[", "]", "="} {
				for _, s := range []string{x + w[i], w[i] + x} {
					more := slices.Clone(w)
					more[i] = s
					// A label may be what comes of a lone word with a colon, and of nothing else.
					if len(w) > 1 || x != ":" || s == x+w[i] || l.Op == api.OpLabel {
						checkNone(t, more)
					}
				}
			}
		}
		checkNone(t, []string{strings.Join(w, " ") + " "})
		if len(w) > 1 {
			checkNone(t, []string{strings.Join(w, " ")})
		}
	}
}

// lineSpelling is what the words of one look like, with | between them; the names in them are yet to be asked.
var lineSpelling = regexp.MustCompile(`\A(?:` +
	`mov\|(?P<r1>e[abcd]x)\|(?P<n1>0|-?[1-9][0-9]*)|` +
	`mov\|(?P<r2>e[abcd]x)\|\[(?P<x2>[a-z0-9]+)\]|` +
	`mov\|\[(?P<x3>[a-z0-9]+)\]\|(?P<r3>e[abcd]x)|` +
	`mov\|\[(?P<x4>[a-z0-9]+)\]\|(?P<n4>0|-?[1-9][0-9]*)|` +
	`xchg\|\[(?P<x5>[a-z0-9]+)\]\|(?P<r5>e[abcd]x)|` +
	`(?P<f6>mfence)|` +
	`cmp\|(?P<r7>e[abcd]x)\|(?P<n7>0|-?[1-9][0-9]*)|` +
	`jmp\|(?P<l8>[a-z0-9]+)|` +
	`je\|(?P<l9>[a-z0-9]+)|` +
	`jne\|(?P<l10>[a-z0-9]+)|` +
	`(?P<l11>[a-z0-9]+):)\z`)

// matched is the line whose words w are, as the patterns have it; a zero one and false, if there is none.
func matched(w []string) (api.Line, bool) {
	m := lineSpelling.FindStringSubmatch(strings.Join(w, "|"))
	var l api.Line
	if m == nil {
		return l, false
	}
	for i, s := range lineSpelling.SubexpNames() {
		if s == "" || m[i] == "" {
			continue
		}
		l.Op, _ = strconv.Atoi(s[1:])
		switch s[0] {
		case 'r':
			l.Reg = m[i]
		case 'x':
			l.Loc = m[i]
		case 'l':
			l.Label = m[i]
		case 'n':
			n, err := strconv.Atoi(m[i])
			if err != nil {
				return api.Line{}, false
			}
			l.N = n
		}
	}
	if !isLine(l) {
		return api.Line{}, false
	}
	return l, true
}

// TestGetOfAllRowsOfSomeWords holds Get against the patterns, at each row of up to three of these words, and at some of four.
func TestGetOfAllRowsOfSomeWords(t *testing.T) { // P3.1: C1; P1, P2
	all := []string{"", "mov", "xchg", "mfence", "cmp", "jmp", "je", "jne", "eax", "edx", "x", "l", "abcdefgh", "abcdefghi", "[x]", "[eax]", "[abcdefgh]", "[abcdefghi]", "[jmp]", "[]", "[x", "x]", "[5]", "0", "5", "-7", "-0", "05", "9223372036854775807", "9223372036854775808", "-9223372036854775808", "l:", "eax:", "abcdefgh:", "abcdefghi:", "jne:", ":", "thread", "x=1"}
	few := []string{"", "mov", "xchg", "jmp", "eax", "[x]", "5", "l", "l:", "mfence"}
	got := 0
	try := func(w ...string) {
		want, is := matched(w)
		l, ok := ops.Get(w)
		if l != want || ok != is {
			t.Errorf("Get(%q) is %+v, %v", w, l, ok)
		}
		if ok {
			got++
		}
	}
	try()
	for _, a := range all {
		try(a)
		for _, b := range all {
			try(a, b)
			for _, c := range all {
				try(a, b, c)
			}
		}
	}
	for i := range len(few) * len(few) * len(few) * len(few) {
		n := len(few)
		try(few[i%n], few[i/n%n], few[i/n/n%n], few[i/n/n/n])
	}
	if got != 54 {
		t.Error("of the rows, so many are lines:", got)
	}
}

func TestLinesThereAndBack(t *testing.T) { // P3.2
	met := map[string]api.Line{}
	for _, l := range append(rightLines(), someLines()...) {
		if !isLine(l) {
			continue
		}
		w := ops.Words(l)
		if got, is := ops.Get(w); got != l || !is {
			t.Errorf("Get(Words(%+v)) is %+v, %v", l, got, is)
		}
		s := strings.Join(w, "|")
		if other, is := met[s]; is && other != l {
			t.Errorf("%+v and %+v have the same words", l, other)
		}
		met[s] = l
	}
}

// TestWordsThereAndBack changes words a bit, by bytes and by whole words: what is got then must have just those words.
func TestWordsThereAndBack(t *testing.T) { // P3.2
	try := func(w []string) {
		l, is := ops.Get(w)
		if is && (!ops.Right(l) || !slices.Equal(ops.Words(l), w)) {
			t.Errorf("Get(%q) is %+v, whose words are %q", w, l, ops.Words(l))
		}
		if !is && l != (api.Line{}) {
			t.Errorf("Get(%q) is %+v, false", w, l)
		}
		if want, ok := matched(w); l != want || is != ok {
			t.Errorf("Get(%q) is %+v, %v", w, l, is)
		}
	}
	parts := slices.Concat(registers, keys, names, unnamed, misprints, []string{"[eax]", "[x86]", "[abcdefgh]", "[abcdefghi]", "eax:", "x86:", "abcdefgh:", "abcdefghi:", "7", "[7]", "7:"})
	for _, w := range [][]string{{"mov", "eax", "5"}, {"mov", "eax", "[x]"}, {"mov", "[x]", "eax"}, {"mov", "[x]", "-10"}, {"xchg", "[x]", "ebx"}, {"mfence"}, {"cmp", "ecx", "0"}, {"jmp", "l"}, {"je", "l"}, {"jne", "l1"}, {"l:"}} {
		try(w)
		for i, s := range w {
			for _, p := range parts {
				c := slices.Clone(w)
				c[i] = p
				try(c)
			}
			for at := range len(s) + 1 {
				for b := range 256 {
					// The patterns part words so.
					if b == '|' {
						continue
					}
					x := string([]byte{byte(b)})
					c := slices.Clone(w)
					c[i] = s[:at] + x + s[at:]
					try(c)
					if at < len(s) {
						c[i] = s[:at] + x + s[at+1:]
						try(c)
					}
				}
			}
		}
	}
}

func TestLongWordsEnd(t *testing.T) { // P1
	const n = 1_000_000
	for _, x := range []string{"a", "0", "-", "[", "]", ":", "=", " ", "1:", "x="} {
		long := strings.Repeat(x, n)
		for _, w := range [][]string{{long}, {long + ":"}, {"jmp", long}, {long, "l"}, {"mov", "eax", long}, {"mov", "eax", "[" + long + "]"}, {"mov", "[" + long + "]", "5"}, {"mov", long, long}, {"cmp", long, "5"}, {"xchg", "[x]", long}, strings.Split(long, "")} {
			checkNone(t, w)
		}
		checkNoAtom(t, long)
		checkNoAtom(t, "x="+long)
		checkNoAtom(t, long+":eax=1")
		checkNoAtom(t, "0:"+long+"=1")
		for _, a := range []api.Atom{{Thread: -1, Name: long}, {Name: long}} {
			if ops.Asked(a) || ops.Word(a) != "" {
				t.Errorf("a name of %d times %q is asked", n, x)
			}
		}
	}
}

// threads are those that an atom may be of, or just not.
var threads = []int{-1, 0, 1, 2, 3, -2, 4, 7, 255, 256, 1 << 32, 1<<32 + 1, 1<<32 - 1, -1 << 32, math.MaxInt, math.MinInt}

// isAtom, by the document's words.
func isAtom(a api.Atom) bool {
	switch a.Thread {
	case -1:
		return isName(a.Name)
	case 0, 1, 2:
		return slices.Contains(registers, a.Name)
	}
	return false
}

// wordOf is an atom's, by the document's words.
func wordOf(a api.Atom) string {
	s := a.Name + "=" + strconv.Itoa(a.N)
	if a.Thread >= 0 {
		s = strconv.Itoa(a.Thread) + ":" + s
	}
	return s
}

// atoms are all of these threads, names and numbers: right ones and wrong ones.
func atoms() []api.Atom {
	var l []api.Atom
	for _, thread := range threads {
		for _, s := range slices.Concat(registers, keys, names, unnamed) {
			for _, n := range numbers {
				l = append(l, api.Atom{Thread: thread, Name: s, N: n})
			}
		}
	}
	return l
}

// checkNoAtom: s must be no atom's word.
func checkNoAtom(t *testing.T, s string) {
	t.Helper()
	if a, is := ops.Atom(s); is || a != (api.Atom{}) {
		t.Errorf("Atom(%.60q) is %+v, %v", s, a, is)
	}
}

func TestWordsOfAtoms(t *testing.T) { // P3.1: C2
	for s, a := range map[string]api.Atom{
		"0:eax=5":                       {Name: "eax", N: 5},
		"0:edx=0":                       {Name: "edx"},
		"1:ebx=-1":                      {Thread: 1, Name: "ebx", N: -1},
		"2:ecx=9223372036854775807":     {Thread: 2, Name: "ecx", N: math.MaxInt},
		"2:edx=-9223372036854775808":    {Thread: 2, Name: "edx", N: math.MinInt},
		"x=0":                           {Thread: -1, Name: "x"},
		"x=1":                           {Thread: -1, Name: "x", N: 1},
		"abcdefgh=-10":                  {Thread: -1, Name: "abcdefgh", N: -10},
		"eaxx=5":                        {Thread: -1, Name: "eaxx", N: 5},
		"a1234567=-9223372036854775808": {Thread: -1, Name: "a1234567", N: math.MinInt},
	} {
		if !ops.Asked(a) {
			t.Errorf("Asked(%+v) is false", a)
		}
		if got := ops.Word(a); got != s {
			t.Errorf("Word(%+v) is %q, not %q", a, got, s)
		}
		if got, is := ops.Atom(s); got != a || !is {
			t.Errorf("Atom(%q) is %+v, %v", s, got, is)
		}
	}
}

func TestAskedIsOfAThreadOrOfAll(t *testing.T) { // P3.1: C2; P2
	for _, a := range atoms() {
		if ops.Asked(a) != isAtom(a) {
			t.Errorf("Asked(%+v) is %v", a, !isAtom(a))
		}
		want := ""
		if isAtom(a) {
			want = wordOf(a)
		}
		if got := ops.Word(a); got != want {
			t.Errorf("Word(%+v) is %q, not %q", a, got, want)
		}
	}
}

func TestNoAtoms(t *testing.T) { // P3.1: C2; P2
	for _, s := range []string{
		"", " ", "=", ":", ":=", "=:", "==", "::", "x", "x=", "=5", "5", "x5", "eax", "eax=5", "0:eax", "0:eax=", "0:=5", ":eax=5", "0=5", "0:", "0:0=5",
		"-1:x=5", "-1:eax=5", "3:eax=5", "4:eax=5", "-2:eax=5", "10:eax=5", "00:eax=5", "01:eax=5", "-0:eax=5", "+0:eax=5", "+1:eax=5", "a:eax=5", "/:eax=5", "/:x=5", "::eax=5", "x:eax=5", "18446744073709551616:eax=5", "4294967296:eax=5", "255:eax=5",
		"0:x=5", "1:y=5", "2:abcdefgh=0", "0:mov=5", "0:EAX=5", "0:esi=5", "0:eaxx=5", "0: eax=5", "0 :eax=5", " 0:eax=5", "0:eax =5", "0:eax= 5", "0:eax=5 ",
		"0:eax=05", "0:eax=-0", "0:eax=+5", "0:eax=x", "0:eax=ebx", "0:eax=[x]", "0:eax=9223372036854775808", "0:eax=-9223372036854775809", "0:eax=1:1", "0:eax==5", "0::eax=5", "0:0:eax=1", "0:eax:=5", "0:eax:5", "0=eax:5", "0:eax=5=5",
		"x=05", "x=-0", "x=+5", "x=y", "x=x", "x= 5", "x =5", " x=5", "x=5 ", "x==5", "x=1=2", "x:y=1", "x:=1", "x=:1", "[x]=5", "x:5", "x-5", "x=9223372036854775808", "x=5\n", "x\n=5", "x=1,y=1", "x=1 y=1",
		"mov=5", "init=0", "x86=1", "forall=1", "abcdefghi=5", "X=5", "1x=5", "5=5", "a_b=5", "é=5", "x\x00=5", "x!=5", "x<=5",
	} {
		checkNoAtom(t, s)
	}
}

func TestAtomsThereAndBack(t *testing.T) { // P3.2
	met := map[string]api.Atom{}
	for _, a := range atoms() {
		// What would be the word of an atom that is not right is none's, or another one's.
		if !isAtom(a) {
			if got, is := ops.Atom(wordOf(a)); is && (got == a || wordOf(got) != wordOf(a)) {
				t.Errorf("Atom(%q) is %+v, %v", wordOf(a), got, is)
			}
			continue
		}
		s := ops.Word(a)
		if got, is := ops.Atom(s); got != a || !is {
			t.Errorf("Atom(Word(%+v)) is %+v, %v", a, got, is)
		}
		if other, is := met[s]; is && other != a {
			t.Errorf("%+v and %+v have the same word", a, other)
		}
		met[s] = a
	}
}

// atomSpelling is what an atom's word looks like; the name and the number in it are yet to be asked.
var atomSpelling = regexp.MustCompile(`\A(?:([0-2]):(e[abcd]x)|([a-z0-9]+))=(0|-?[1-9][0-9]*)\z`)

// atomOf is the atom whose word s is, as the pattern has it; a zero one and false, if there is none.
func atomOf(s string) (api.Atom, bool) {
	m := atomSpelling.FindStringSubmatch(s)
	if m == nil {
		return api.Atom{}, false
	}
	n, err := strconv.Atoi(m[4])
	a := api.Atom{Thread: -1, Name: m[3], N: n}
	if m[1] != "" {
		a.Thread, _ = strconv.Atoi(m[1])
		a.Name = m[2]
	}
	if err != nil || !isAtom(a) {
		return api.Atom{}, false
	}
	return a, true
}

// TestAtomsByTheirSpelling holds Atom against the pattern: at right words that are changed a bit, at all texts of some parts, and at all short ones of some bytes.
func TestAtomsByTheirSpelling(t *testing.T) { // P3.1: C2; P3.2; P1, P2
	try := func(s string) {
		want, is := atomOf(s)
		got, ok := ops.Atom(s)
		if got != want || ok != is {
			t.Errorf("Atom(%q) is %+v, %v", s, got, ok)
		}
		if ok && ops.Word(got) != s {
			t.Errorf("Atom(%q) is %+v, whose word is %q", s, got, ops.Word(got))
		}
	}
	for _, s := range []string{"0:eax=5", "2:edx=-10", "x=0", "abcdefgh=7", "1:ebx=9223372036854775807", "y=-9223372036854775808"} {
		for at := range len(s) + 1 {
			for b := range 256 {
				x := string([]byte{byte(b)})
				try(s[:at] + x + s[at:])
				if at < len(s) {
					try(s[:at] + x + s[at+1:])
				}
			}
			if at < len(s) {
				try(s[:at] + s[at+1:])
			}
		}
	}
	parts := []string{"", "0", "2", "3", "-1", "x", "eax", "mov", ":", "=", "5", "-0", " "}
	n := len(parts)
	for i := range n * n * n * n * n {
		try(parts[i%n] + parts[i/n%n] + parts[i/n/n%n] + parts[i/n/n/n%n] + parts[i/n/n/n/n])
	}
	const bytes = "x0-=:1"
	for i := range len(bytes) * len(bytes) * len(bytes) * len(bytes) * len(bytes) {
		s := make([]byte, 5)
		for j := range s {
			s[j] = bytes[i%len(bytes)]
			i /= len(bytes)
		}
		for k := range s {
			try(string(s[k:]))
		}
	}
}

func TestAnswersHangOnArgumentsAlone(t *testing.T) { // P3
	row := []string{"mov", "[x]", "5", "spare"}
	w := row[:3]
	l := api.Line{Op: api.OpPut, Loc: "x", N: 5}
	kept := ops.Words(l)
	for range 3 {
		got, is := ops.Get(w)
		if got != l || !is || !slices.Equal(row, []string{"mov", "[x]", "5", "spare"}) {
			t.Fatalf("%+v %v %q", got, is, row)
		}
		// What is written into one answer, and its spare room, must be seen in no other one.
		a := ops.Words(l)
		a = a[:cap(a)]
		for i := range a {
			a[i] = "other"
		}
		if !slices.Equal(ops.Words(l), w) || !slices.Equal(ops.Words(api.Line{Op: api.OpFence}), []string{"mfence"}) {
			t.Fatal("another answer was changed")
		}
		b, is := ops.Atom("1:ebx=2")
		if want := (api.Atom{Thread: 1, Name: "ebx", N: 2}); b != want || !is || ops.Word(want) != "1:ebx=2" {
			t.Fatalf("%+v %v", b, is)
		}
	}
	if !slices.Equal(kept, w) {
		t.Fatalf("%q", kept)
	}
	// What was got must not go along with what is done to the words later.
	got, _ := ops.Get(w)
	w[1], w[2] = "[y]", "7"
	if got != l {
		t.Fatalf("%+v", got)
	}
}
