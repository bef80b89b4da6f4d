package num_test

import (
	"cmp"
	"math"
	"strconv"
	"strings"
	"testing"

	"fencepost/num"
)

// edges are the numbers that the document names, with those about each power of 2 and of 10.
func edges() []int {
	l := []int{0, math.MinInt, math.MinInt + 1, math.MaxInt, math.MaxInt - 1}
	for i := range 63 {
		p := 1 << i
		l = append(l, p-1, p, p+1, -p-1, -p, 1-p)
	}
	for p := 1; ; p *= 10 {
		l = append(l, p-1, p, p+1, -p-1, -p, 1-p)
		if p > math.MaxInt/10 {
			return l
		}
	}
}

// spread are numbers of all sizes, by a fixed rule.
func spread() []int {
	var l []int
	for i, n := 0, uint64(1); i < 20_000; i++ {
		n = n*6364136223846793005 + 1442695040888963407
		l = append(l, int(n)>>(i%64))
	}
	return l
}

// wrong are texts of no number: one past each end, a 0 ahead, -0, a lone -, the empty text, and others.
var wrong = []string{
	"", "-", "--", "-0", "--1", "-+1", "+1", "+0", "1-", "00", "01", "-01", "-00", "007", "-07",
	"9223372036854775808", "-9223372036854775809", "9223372036854775810", "-9223372036854775810",
	"09223372036854775807", "-09223372036854775808", "18446744073709551616", "18446744073709551617", "-18446744073709551615", "-18446744073709551617",
	"99999999999999999999", "-99999999999999999999", "10000000000000000000", "100000000000000000000",
	" ", " 1", "1 ", "1 2", "- 1", "\t1", "1\n", "\x001", "1\x00", "1a", "a", "x", "1_0", "0x1", "0b1", "0o7", "1.0", "1e3", "1,000",
	"/", ":", "1/", "1:", "-/", "-:", "/1", ":0", "\xb1", "1\xb1", "１", "−1", "١",
}

func TestTextIsDecimalDigits(t *testing.T) { // P1.1: A1
	for n, s := range map[int]string{
		0: "0", 7: "7", -7: "-7", 9: "9", 10: "10", -10: "-10", 99: "99", 100: "100", -1: "-1", 1234567890: "1234567890",
		math.MaxInt: "9223372036854775807", math.MinInt: "-9223372036854775808", math.MaxInt - 1: "9223372036854775806", math.MinInt + 1: "-9223372036854775807",
	} {
		if got := num.Text(n); got != s {
			t.Errorf("Text(%d) is %q, not %q", n, got, s)
		}
	}
	for _, n := range append(edges(), spread()...) {
		if got := num.Text(n); got != strconv.Itoa(n) {
			t.Errorf("Text(%d) is %q", n, got)
		}
	}
}

func TestGetIsTheNumberOfAText(t *testing.T) { // P1.1: A1
	for s, n := range map[string]int{
		"0": 0, "7": 7, "-7": -7, "10": 10, "-10": -10, "1000": 1000,
		"9223372036854775807": math.MaxInt, "-9223372036854775808": math.MinInt, "9223372036854775799": math.MaxInt - 8, "-9223372036854775799": math.MinInt + 9,
	} {
		if got, is := num.Get(s); got != n || !is {
			t.Errorf("Get(%q) is %d, %v", s, got, is)
		}
	}
}

func TestGetOfNoNumber(t *testing.T) { // P1.1: A1; P2
	long := strings.Repeat("0", 1_000_000)
	for _, s := range append(wrong, long, "1"+long, "-1"+long, long+"1", strings.Repeat("-", 1000)) {
		if n, is := num.Get(s); n != 0 || is {
			t.Errorf("Get(%.40q) is %d, %v", s, n, is)
		}
	}
}

// TestGetOfAllShortTexts tries each text of up to two bytes, and each of three of the bytes that matter.
func TestGetOfAllShortTexts(t *testing.T) { // P1.1: A1; P1, P2
	try := func(s string) {
		n, is := num.Get(s)
		want, err := strconv.Atoi(s)
		if err != nil || strconv.Itoa(want) != s {
			if n != 0 || is {
				t.Errorf("Get(%q) is %d, %v", s, n, is)
			}
			return
		}
		if n != want || !is {
			t.Errorf("Get(%q) is %d, %v", s, n, is)
		}
	}
	try("")
	for a := range 256 {
		try(string([]byte{byte(a)}))
		for b := range 256 {
			try(string([]byte{byte(a), byte(b)}))
		}
	}
	const some = "-+0123456789/: a"
	for i := range len(some) * len(some) * len(some) {
		try(string([]byte{some[i%len(some)], some[i/len(some)%len(some)], some[i/len(some)/len(some)]}))
	}
}

func TestCompareIsWhichIsLess(t *testing.T) { // P1.1: A2
	for _, c := range []struct {
		a, b string
		want int
	}{
		{"9", "10", -1}, {"10", "9", 1}, {"-9", "-10", 1}, {"-10", "-9", -1}, {"5", "5", 0}, {"0", "0", 0}, {"-1", "0", -1}, {"0", "-1", 1}, {"-5", "5", -1},
		{"-9223372036854775808", "9223372036854775807", -1}, {"9223372036854775807", "-9223372036854775808", 1}, {"9223372036854775806", "9223372036854775807", -1},
	} {
		if got := num.Compare(c.a, c.b); got != c.want {
			t.Errorf("Compare(%q, %q) is %d, not %d", c.a, c.b, got, c.want)
		}
	}
	l := edges()
	for _, x := range l {
		for _, y := range l {
			if got := num.Compare(strconv.Itoa(x), strconv.Itoa(y)); got != cmp.Compare(x, y) {
				t.Fatalf("Compare of %d and %d is %d", x, y, got)
			}
		}
	}
}

func TestCompareWithNoNumber(t *testing.T) { // P1.1: A2
	for _, s := range wrong {
		for _, c := range [][2]string{{s, "5"}, {"5", s}, {s, "0"}, {"0", s}, {s, s}, {s, "x"}} {
			if got := num.Compare(c[0], c[1]); got != 2 {
				t.Errorf("Compare(%q, %q) is %d", c[0], c[1], got)
			}
		}
	}
}

func TestThereAndBack(t *testing.T) { // P1.2: a number from its text
	l := append(edges(), spread()...)
	for n := -20_000; n <= 20_000; n++ {
		l = append(l, n)
	}
	met := map[string]int{}
	for _, n := range l {
		s := num.Text(n)
		if got, is := num.Get(s); got != n || !is {
			t.Errorf("Get(Text(%d)) is %d, %v", n, got, is)
		}
		if m, is := met[s]; is && m != n {
			t.Errorf("%d and %d have one text", m, n)
		}
		met[s] = n
	}
}

// TestBackAndThere changes texts of numbers a bit: most are none's then, and the others are those of what is got.
func TestBackAndThere(t *testing.T) { // P1.2: a text from its number
	try := func(s string) {
		n, is := num.Get(s)
		if is && num.Text(n) != s {
			t.Errorf("Get(%q) is %d, whose text is another one", s, n)
		}
		if !is && n != 0 {
			t.Errorf("Get(%q) is %d, false", s, n)
		}
	}
	for _, n := range edges() {
		s := strconv.Itoa(n)
		for i := range len(s) + 1 {
			for _, x := range []string{"0", "1", "9", "-", " ", "/", ":"} {
				try(s[:i] + x + s[i:])
				if i < len(s) {
					try(s[:i] + x + s[i+1:])
				}
			}
		}
	}
	for _, s := range wrong {
		try(s)
	}
}

func TestAnswersHangOnArgumentsAlone(t *testing.T) { // P3
	for range 3 {
		a, b := num.Text(-7), num.Text(12)
		n, is := num.Get("-7")
		m, too := num.Get("x")
		if a != "-7" || b != "12" || n != -7 || !is || m != 0 || too || num.Compare("-7", "12") != -1 {
			t.Fatal(a, b, n, is, m, too)
		}
	}
}
