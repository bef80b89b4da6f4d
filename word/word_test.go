package word_test

import (
	"math"
	"regexp"
	"slices"
	"strings"
	"testing"

	"fencepost/api"
	"fencepost/word"
)

// registers, by their numbers, and keys, as the document lists them.
var (
	registers = []string{"eax", "ebx", "ecx", "edx"}
	keys      = []string{"x86", "init", "thread", "mov", "xchg", "mfence", "cmp", "jmp", "je", "jne", "exists", "forall"}
)

// spelling is what a name looks like, but that registers and keys are none.
var spelling = regexp.MustCompile(`\A[a-z][a-z0-9]{0,7}\z`)

// near are bytes, and texts, that are often taken for a blank or a line feed, and are neither.
var near = []string{"\t", "\r", "\v", "\f", "\x00", "\x08", "\x09", "\x0b", "\x1f", "\x21", "\x85", "\xa0", "\u0085", "\u00a0", "\u2003", "\u2028", "\u2029", "\u3000", "\\n"}

// texts are all those of up to so many bytes of these.
func texts(bytes string, most int) []string {
	l, from := []string{""}, 0
	for range most {
		to := len(l)
		for _, s := range l[from:to] {
			for i := range len(bytes) {
				l = append(l, s+bytes[i:i+1])
			}
		}
		from = to
	}
	return l
}

// spread are longer texts of these bytes, by a fixed rule.
func spread(bytes string) []string {
	var l []string
	n := uint64(1)
	for i := range 2000 {
		row := make([]byte, i%97)
		for j := range row {
			n = n*6364136223846793005 + 1442695040888963407
			row[j] = bytes[(n>>33)%uint64(len(bytes))]
		}
		l = append(l, string(row))
	}
	return l
}

// about are registers and keys, and what is a byte away from them: one less, one more, another one, in capitals.
func about() []string {
	var l []string
	for _, s := range slices.Concat(registers, keys) {
		l = append(l, s, s+s, strings.ToUpper(s), strings.ToUpper(s[:1])+s[1:])
		for i := range len(s) + 1 {
			for b := range 256 {
				x := string([]byte{byte(b)})
				l = append(l, s[:i]+x+s[i:])
				if i < len(s) {
					l = append(l, s[:i]+x+s[i+1:], s[:i]+s[i+1:])
				}
			}
		}
	}
	return l
}

func TestLinesStandBetweenLineFeeds(t *testing.T) { // P2.1: B1
	for s, want := range map[string][]string{
		"":             nil,
		"a":            {"a"},
		"a\n":          {"a"},
		"a\nb":         {"a", "b"},
		"a\nb\n":       {"a", "b"},
		"\n":           {""},
		"\n\n":         {"", ""},
		"\n\n\n":       {"", "", ""},
		"\na":          {"", "a"},
		"\na\n":        {"", "a"},
		"a\n\n":        {"a", ""},
		"a\n\nb":       {"a", "", "b"},
		" ":            {" "},
		" \n":          {" "},
		"\n ":          {"", " "},
		"x86 sb\ninit": {"x86 sb", "init"},
		"a\r\nb\r\n":   {"a\r", "b\r"},
	} {
		if got := word.Lines(s); !slices.Equal(got, want) {
			t.Errorf("Lines(%q) is %q, not %q", s, got, want)
		}
	}
}

func TestWordsStandBetweenBlanks(t *testing.T) { // P2.1: B1
	for s, want := range map[string][]string{
		"":               nil,
		" ":              nil,
		"   ":            nil,
		"mov":            {"mov"},
		"  mov eax":      {"mov", "eax"},
		" mov":           {"mov"},
		"mov ":           {"mov"},
		"mov  [x]   5  ": {"mov", "[x]", "5"},
		"mov eax 5":      {"mov", "eax", "5"},
		"\n":             {"\n"},
		" \n ":           {"\n"},
		"a\nb":           {"a\nb"},
		"a \n b":         {"a", "\n", "b"},
		"a\n b\n":        {"a\n", "b\n"},
		"\n\n":           {"\n\n"},
		"l:":             {"l:"},
		"0:eax=1 x=-1":   {"0:eax=1", "x=-1"},
		"\xff \xfe\x00":  {"\xff", "\xfe\x00"},
	} {
		if got := word.Words(s); !slices.Equal(got, want) {
			t.Errorf("Words(%q) is %q, not %q", s, got, want)
		}
	}
}

func TestOneByteAlonePartsLinesAndOneWords(t *testing.T) { // P2.1: B1
	for b := range 256 {
		x := string([]byte{byte(b)})
		lines, words := []string{"a" + x + "b"}, []string{"a" + x + "b"}
		if b == 10 {
			lines = []string{"a", "b"}
		}
		if b == 32 {
			words = []string{"a", "b"}
		}
		if got := word.Lines("a" + x + "b"); !slices.Equal(got, lines) {
			t.Errorf("Lines at byte %d are %q", b, got)
		}
		if got := word.Words("a" + x + "b"); !slices.Equal(got, words) {
			t.Errorf("Words at byte %d are %q", b, got)
		}
	}
	for _, x := range near {
		for _, s := range []string{x, "a" + x, x + "b", "a" + x + "b", x + x} {
			if got := word.Lines(s); !slices.Equal(got, []string{s}) {
				t.Errorf("Lines(%q) is %q", s, got)
			}
			if got := word.Words(s); !slices.Equal(got, []string{s}) {
				t.Errorf("Words(%q) is %q", s, got)
			}
		}
	}
}

func TestNothingOfATextIsLost(t *testing.T) { // P2.2: lines
	for _, s := range slices.Concat(texts("a \n", 9), texts("\n\r\x00\xc3", 5), spread("ab \n\t\r\x00\xff")) {
		got := word.Lines(s)
		if all := strings.Join(got, "\n"); all != strings.TrimSuffix(s, "\n") {
			t.Fatalf("Lines(%q) is %q: something is lost", s, got)
		}
		// Joined, a lone empty line can't be told from none at all.
		if (len(got) == 0) != (s == "") {
			t.Fatalf("Lines(%q) is %q", s, got)
		}
		for _, line := range got {
			if strings.Contains(line, "\n") {
				t.Fatalf("Lines(%q) is %q: a line feed in a line", s, got)
			}
		}
	}
}

// TestNothingOfALineIsLost goes along the line: ahead of, between and behind the words there must be blanks alone.
func TestNothingOfALineIsLost(t *testing.T) { // P2.2: words
	for _, s := range slices.Concat(texts("a \n", 9), texts(" \t\x00\xc3", 5), spread("ab \n\t\r\x00\xff")) {
		got, rest := word.Words(s), s
		for _, w := range got {
			if w == "" || strings.Contains(w, " ") {
				t.Fatalf("Words(%q) is %q: one is no word", s, got)
			}
			is := false
			if rest, is = strings.CutPrefix(strings.TrimLeft(rest, " "), w); !is {
				t.Fatalf("Words(%q) is %q: %q does not stand there", s, got, w)
			}
			if rest != "" && rest[0] != ' ' {
				t.Fatalf("Words(%q) is %q: %q is cut off", s, got, w)
			}
		}
		if strings.Trim(rest, " ") != "" {
			t.Fatalf("Words(%q) is %q: %q is lost", s, got, rest)
		}
	}
}

func TestNamesAreLettersAndDigits(t *testing.T) { // P2.1: B2
	for _, s := range []string{
		"a", "z", "m", "a0", "a9", "z0z9", "x", "y", "x1", "sb", "l", "abcdefgh", "a1234567", "zzzzzzzz", "a0000000",
		"e", "ea", "eaxx", "aeax", "esi", "rax", "ax", "ehx", "eex", "eax0", "eaxebx", "movs", "mo", "amov", "x8", "x866", "x87", "inits", "threads", "mfences", "jm", "j", "jmps", "jn", "exist", "existsx", "forall1", "fence", "jge", "cmpxchg",
	} {
		if !word.Name(s) {
			t.Errorf("Name(%q) is false", s)
		}
	}
}

func TestNoNames(t *testing.T) { // P2.1: B2
	for _, s := range []string{
		"", " ", "0", "9", "1a", "0x", "A", "Z", "aB", "a_b", "_", "a-b", "-a", "a.b", "a b", " a", "a ", "a\n", "\na", "a\x00", "[x]", "[x", "l:", "a=1", "x=1", "$a", "%eax",
		"`", "{", "a`", "a{", "a/", "a:", "@", "[", "/", ":",
		"abcdefghi", "a12345678", "aaaaaaaaa", "abcdefgh ", "abcdefghijklmnop",
		"é", "aé", "ä", "ａ", "a１", "a١", "\xff", "a\xff", "a\xe1",
	} {
		if word.Name(s) {
			t.Errorf("Name(%q) is true", s)
		}
	}
	for _, s := range slices.Concat(registers, keys) {
		if word.Name(s) {
			t.Errorf("Name(%q) is true", s)
		}
	}
}

func TestNamesAreOfOneToEightBytes(t *testing.T) { // P2.1: B2
	for _, x := range []string{"a", "z", "mov", "eax"} {
		for n := range 40 {
			s := (x + strings.Repeat("q7", 20))[:n]
			want := 1 <= n && n <= 8 && !slices.Contains(registers, s) && !slices.Contains(keys, s)
			if word.Name(s) != want {
				t.Errorf("Name(%q), of %d bytes, is %v", s, n, !want)
			}
		}
	}
	if long := strings.Repeat("a", 1_000_000); word.Name(long) || word.Name(long[:256]) || word.Name(long[:257]) || word.Name(long[:264]) {
		t.Error("a long text is a name")
	}
}

// TestNamesByTheirSpelling holds Name against another reading of the document: each byte at each place of a name, all short texts, all that are about registers and keys.
func TestNamesByTheirSpelling(t *testing.T) { // P2.1: B2; P1
	try := func(s string) {
		want := spelling.MatchString(s) && !slices.Contains(registers, s) && !slices.Contains(keys, s)
		if word.Name(s) != want {
			t.Errorf("Name(%q) is %v", s, !want)
		}
		if n := word.Reg(s); n != slices.Index(registers, s) {
			t.Errorf("Reg(%q) is %d", s, n)
		}
	}
	for b := range 256 {
		x := string([]byte{byte(b)})
		for n := range 10 {
			for at := range n {
				s := "q2w3e4r5t"[:n]
				try(s[:at] + x + s[at+1:])
			}
		}
		for c := range 256 {
			try(x + string([]byte{byte(c)}))
		}
	}
	for _, s := range slices.Concat(texts("abcdejmnopvx086", 4), about(), near) {
		try(s)
	}
}

func TestRegistersHaveNumbers(t *testing.T) { // P2.1: B2
	for n, s := range registers {
		if word.Reg(s) != n || word.RegName(n) != s {
			t.Errorf("%s: Reg is %d, RegName(%d) is %q", s, word.Reg(s), n, word.RegName(n))
		}
	}
	if len(registers) != api.MaxRegs {
		t.Error("there are", len(registers), "registers")
	}
}

func TestNoRegisters(t *testing.T) { // P2.1: B2
	for _, s := range append([]string{"", " ", "e", "x", "ea", "ax", "eex", "efx", "esi", "edi", "ebp", "esp", "rax", "EAX", "Eax", "eaX", " eax", "eax ", "eax\n", "\x00eax", "eax\x00", "eaxx", "eaxeax", "[eax]", "%eax", "0", "1", "-1", "еах", strings.Repeat("eax", 1000)}, keys...) {
		if n := word.Reg(s); n != -1 {
			t.Errorf("Reg(%q) is %d", s, n)
		}
	}
	for _, n := range []int{-1, -2, -4, 4, 5, 8, 255, 256, 257, 1 << 32, 1<<32 + 1, 1 << 62, -(1 << 32), -(1<<32 - 1), math.MaxInt, math.MinInt, math.MinInt + 1} {
		if s := word.RegName(n); s != "" {
			t.Errorf("RegName(%d) is %q", n, s)
		}
	}
}

func TestLongTextsEnd(t *testing.T) { // P1
	const n = 1_000_000
	for s, want := range map[string][2]int{
		strings.Repeat("\n", n):  {n, 1},
		strings.Repeat(" ", n):   {1, 0},
		strings.Repeat("a", n):   {1, 1},
		strings.Repeat("a ", n):  {1, n},
		strings.Repeat("a\n", n): {n, 1},
		strings.Repeat(" \n", n): {n, n},
		strings.Repeat("\n ", n): {n + 1, n},
	} {
		if lines, words := len(word.Lines(s)), len(word.Words(s)); lines != want[0] || words != want[1] {
			t.Errorf("%q and so on: %d lines, %d words", s[:4], lines, words)
		}
	}
}

func TestAnswersHangOnArgumentsAlone(t *testing.T) { // P3
	const s = "mov  eax 5\n\njmp l\nl:\n"
	lines, words := []string{"mov  eax 5", "", "jmp l", "l:"}, []string{"mov", "eax", "5\n\njmp", "l\nl:\n"}
	kept, held := word.Lines(s), word.Words(s)
	for range 3 {
		a, b := word.Lines(s), word.Words(s)
		if !slices.Equal(a, lines) || !slices.Equal(b, words) {
			t.Fatalf("%q %q", a, b)
		}
		// What is written into one answer, and its spare room, must be seen in no other one.
		for _, l := range [][]string{a[:cap(a)], b[:cap(b)]} {
			for i := range l {
				l[i] = "other"
			}
		}
		if !word.Name("l") || word.Name("jmp") || word.Reg("ebx") != 1 || word.RegName(3) != "edx" {
			t.Fatal("names and registers")
		}
	}
	if !slices.Equal(kept, lines) || !slices.Equal(held, words) {
		t.Fatalf("%q %q", kept, held)
	}
}
