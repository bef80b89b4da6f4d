package enc_test

import (
	"math"
	"reflect"
	"regexp"
	"slices"
	"strconv"
	"strings"
	"testing"

	"fencepost/api"
	"fencepost/enc"
	"fencepost/samples"
)

// The chapter's words once more, each asked for by itself.

// numbers are what Nums is to be.
func numbers(s api.State) []int {
	l := append([]int{len(s.Mem)}, s.Mem...)
	l = append(l, len(s.Ths))
	for _, th := range s.Ths {
		eq := map[bool]int{true: 1}[th.Eq]
		l = append(append(l, th.At, eq, len(th.Regs)), th.Regs...)
		l = append(l, len(th.Buf))
		for _, w := range th.Buf {
			l = append(l, w.Loc, w.N)
		}
	}
	return l
}

// key is what Key is to be, of a state with these numbers.
func key(l []int) string {
	var texts []string
	for _, n := range l {
		texts = append(texts, strconv.Itoa(n))
	}
	return strings.Join(texts, " ")
}

// isKey: do numbers' texts stand in k, with one blank between?
var isKey = regexp.MustCompile(`\A(0|-?[1-9][0-9]*)( (0|-?[1-9][0-9]*))*\z`)

// holdState holds all calls of this state against the chapter's words, and P12.2, too.
func holdState(t *testing.T, s api.State) {
	t.Helper()
	want := numbers(s)
	l, k := enc.Nums(s), enc.Key(s)
	if !slices.Equal(l, want) || k != key(want) || !isKey.MatchString(k) {
		t.Fatalf("%+v: %v, %q, not %v", s, l, k, want)
	}
	if q, is := enc.Of(want); !is || !samples.Alike(q, s) {
		t.Fatalf("of %v: %+v %v, not %+v", want, q, is, s)
	}
	if q, is := enc.Read(key(want)); !is || !samples.Alike(q, s) {
		t.Fatalf("read of %q: %+v %v, not %+v", key(want), q, is, s)
	}
}

// holdNone holds that no state has these numbers, and that a zero one is answered.
func holdNone(t *testing.T, l []int) {
	t.Helper()
	if q, is := enc.Of(l); is || !reflect.DeepEqual(q, api.State{}) {
		t.Fatalf("of %d numbers, %v: %v, of %d places and %d threads", len(l), l[:min(len(l), 30)], is, len(q.Mem), len(q.Ths))
	}
	holdNoKey(t, key(l))
}

// holdNoKey holds that no state has that key, and that a zero one is answered.
func holdNoKey(t *testing.T, k string) {
	t.Helper()
	if q, is := enc.Read(k); is || !reflect.DeepEqual(q, api.State{}) {
		t.Fatalf("read of %d bytes, %.60q: %v, of %d places and %d threads", len(k), k, is, len(q.Mem), len(q.Ths))
	}
}

// some are states, with their keys.
var some = []struct {
	key string
	s   api.State
}{
	{"0 0", api.State{}},
	{"0 0", api.State{Mem: []int{}, Ths: []api.Th{}}},
	{"1 0 0", api.State{Mem: []int{0}}},
	{"2 5 -6 0", api.State{Mem: []int{5, -6}}},
	{"2 0 0 0", api.State{Mem: []int{0, 0}}},
	{"0 1 0 0 0 0", api.State{Ths: []api.Th{{}}}},
	{"0 1 0 1 0 0", api.State{Ths: []api.Th{{Eq: true, Regs: []int{}, Buf: []api.Write{}}}}},
	{"0 1 7 0 0 0", api.State{Ths: []api.Th{{At: 7}}}},
	{"0 1 0 0 1 9 0", api.State{Ths: []api.Th{{Regs: []int{9}}}}},
	{"0 1 0 0 0 1 3 4", api.State{Ths: []api.Th{{Buf: []api.Write{{Loc: 3, N: 4}}}}}},
	{"0 2 0 0 0 0 3 1 2 7 8 1 4 -9", api.State{Ths: []api.Th{{}, {At: 3, Eq: true, Regs: []int{7, 8}, Buf: []api.Write{{Loc: 4, N: -9}}}}}},
	{"0 2 3 1 2 7 8 1 4 -9 0 0 0 0", api.State{Ths: []api.Th{{At: 3, Eq: true, Regs: []int{7, 8}, Buf: []api.Write{{Loc: 4, N: -9}}}, {}}}},
	{"2 10 11 2 1 0 4 1 2 3 4 2 0 5 1 6 2 1 4 5 6 7 8 0", api.State{Mem: []int{10, 11}, Ths: []api.Th{
		{At: 1, Regs: []int{1, 2, 3, 4}, Buf: []api.Write{{Loc: 0, N: 5}, {Loc: 1, N: 6}}}, {At: 2, Eq: true, Regs: []int{5, 6, 7, 8}}}}},
	// A state of no code has numbers, too.
	{"0 1 -5 0 0 1 -9223372036854775808 9223372036854775807", api.State{Ths: []api.Th{{At: -5, Buf: []api.Write{{Loc: math.MinInt, N: math.MaxInt}}}}}},
	{"1 9223372036854775807 1 -9223372036854775808 1 1 -1 0", api.State{Mem: []int{math.MaxInt}, Ths: []api.Th{{At: math.MinInt, Eq: true, Regs: []int{-1}}}}},
	{"0 4 0 0 0 0 0 1 0 0 0 0 0 0 0 1 0 0", api.State{Ths: []api.Th{{}, {Eq: true}, {}, {Eq: true}}}},
}

func TestStatesHaveNumbers(t *testing.T) { // P12.1: L1, L2
	for _, c := range some {
		holdState(t, c.s)
		if k := enc.Key(c.s); k != c.key {
			t.Errorf("%+v: %q, not %q", c.s, k, c.key)
		}
		if q, is := enc.Read(c.key); !is || !samples.Alike(q, c.s) {
			t.Errorf("%q: %+v %v", c.key, q, is)
		}
	}
	if l := enc.Nums(api.State{Mem: []int{5}, Ths: []api.Th{{At: 2, Eq: true, Regs: []int{7}, Buf: []api.Write{{Loc: 0, N: 8}}}}}); !slices.Equal(l, []int{1, 5, 1, 2, 1, 1, 7, 1, 0, 8}) {
		t.Error(l)
	}
}

func TestNumbersOfNoState(t *testing.T) { // P12.1: L1; P2
	for _, l := range [][]int{
		nil, {}, {0}, {1}, {-1}, {5}, {math.MaxInt}, {math.MinInt},
		// Something is lacking.
		{1, 5}, {2, 5, 0}, {0, 1}, {0, 1, 3}, {0, 1, 3, 1}, {0, 1, 3, 1, 0}, {0, 1, 0, 0, 1, 0}, {0, 1, 0, 0, 0, 1}, {0, 1, 0, 0, 0, 1, 5}, {0, 1, 0, 0, 0, 2, 5, 6}, {0, 1, 0, 0, 0, 2, 5, 6, 7}, {0, 2, 0, 0, 0, 0}, {0, 2, 0, 0, 0, 0, 0, 0, 0},
		// Something is left.
		{0, 0, 0}, {1, 5, 0, 0}, {0, 1, 0, 0, 0, 0, 0}, {0, 1, 0, 0, 0, 1, 5, 6, 7}, {0, 0, 0, 0, 0, 0},
		// A count is below 0.
		{-1, 0}, {0, -1}, {-1, -1}, {-1, 0, 0}, {-2, 0, 0, 0}, {0, 1, 0, 0, -1, 0}, {0, 1, 0, 0, 0, -1}, {0, -1, 0, 0, 0, 0}, {math.MinInt, 0}, {0, math.MinInt}, {0, 1, 0, 0, math.MinInt, 0}, {0, 1, 0, 0, 0, math.MinInt},
		// A count is above how many numbers are left.
		{2, 0}, {3, 0, 0}, {math.MaxInt, 0}, {1 << 62, 0}, {1 << 32, 0}, {1<<32 + 1, 5, 0}, {0, math.MaxInt}, {0, 1 << 62}, {0, 1 << 61, 0, 0, 0, 0}, {0, 1<<32 + 1, 0, 0, 0, 0}, {0, 1, 0, 0, math.MaxInt, 0}, {0, 1, 0, 0, 1 << 62, 0}, {0, 1, 0, 0, 0, math.MaxInt}, {0, 1, 0, 0, 0, 1 << 62, 1, 2}, {0, 1, 0, 0, 0, 1<<63 - 1, 1, 2},
		// It is not, but each of its items has more than one number.
		{0, 4, 0, 0, 0, 0}, {0, 5, 0, 0, 0, 0, 0}, {0, 1, 0, 0, 0, 2, 1, 2}, {0, 1, 0, 0, 0, 3, 1, 2, 3},
		// It is neither true nor false.
		{0, 1, 0, 2, 0, 0}, {0, 1, 0, -1, 0, 0}, {0, 1, 0, math.MinInt, 0, 0}, {0, 1, 0, math.MaxInt, 0, 0}, {0, 1, 0, 1 << 32, 0, 0}, {0, 1, 0, 1<<32 + 1, 0, 0}, {0, 2, 0, 1, 0, 0, 0, 3, 0, 0},
	} {
		holdNone(t, l)
	}
}

func TestTextsOfNoState(t *testing.T) { // P12.1: L2; P2
	long := strings.Repeat("0", 1_000_000)
	for _, k := range []string{
		"", " ", "  ", "\n", "0", "0 ", " 0", "-", "x", "0 x", "x 0", "0 0 x", "0 0x", "x0 0",
		// Blanks, but not as in a key.
		"0 0 ", " 0 0", "0  0", " 0  0 ", "0   0", "00", "2 5  -6 0", "2 5 -6 0 ", "2 5 - 6 0",
		// No blanks.
		"0\n0", "0\t0", "0,0", "0-0", "0\x000", "0 0\n", "\n0 0", "0 0\t", "0\r 0", "0 \n 0", "0\u00a00", "0\u30000",
		// Numbers, but not their texts.
		"00 0", "0 00", "-0 0", "0 -0", "+0 0", "0 +0", "1 05 0", "1 +5 0", "1 5. 0", "1 0x5 0", "1 1e1 0", "1 -05 0", "01 5 0", "1 5 00", "1 --5 0", "1 ５ 0",
		// No numbers from -2^63 to 2^63 - 1, though each would be one, if it were wrapped round.
		"1 9223372036854775808 0", "1 -9223372036854775809 0", "18446744073709551616 0", "18446744073709551617 5 0", "0 18446744073709551616", "1 18446744073709551615 0",
		long, long + " 0", "0 " + long, "0 0" + strings.Repeat(" ", 1_000_000), strings.Repeat("0 ", 1_000_000),
	} {
		holdNoKey(t, k)
	}
}

// lists are all lists of these items, of up to so many.
func lists[T any](most int, items ...T) [][]T {
	all := [][]T{nil}
	last := all
	for range most {
		var more [][]T
		for _, l := range last {
			for _, x := range items {
				more = append(more, append(slices.Clone(l), x))
			}
		}
		all, last = append(all, more...), more
	}
	return all
}

// fewThreads are all threads of a few numbers that have up to two registers, and writes.
func fewThreads(few ...int) []api.Th {
	var writes []api.Write
	for _, loc := range few {
		for _, n := range few {
			writes = append(writes, api.Write{Loc: loc, N: n})
		}
	}
	var l []api.Th
	for _, at := range few {
		for _, regs := range lists(2, few...) {
			for _, b := range lists(2, writes...) {
				l = append(l, api.Th{At: at, Regs: regs, Buf: b}, api.Th{At: at, Eq: true, Regs: regs, Buf: b})
			}
		}
	}
	return l
}

// fewStates are all states of up to so many numbers, of a few, and with up to two items in each list.
func fewStates(most int, few ...int) []api.State {
	rows, short := [][]api.Th{nil}, []api.Th{}
	for _, th := range fewThreads(few...) {
		many := len(numbers(api.State{Ths: []api.Th{th}}))
		if many <= most {
			rows = append(rows, []api.Th{th})
		}
		// Another thread has four numbers at least.
		if many+4 <= most {
			short = append(short, th)
		}
	}
	for _, a := range short {
		for _, b := range short {
			rows = append(rows, []api.Th{a, b})
		}
	}
	var l []api.State
	for _, mem := range lists(2, few...) {
		for _, ths := range rows {
			if s := (api.State{Mem: mem, Ths: ths}); len(numbers(s)) <= most {
				l = append(l, s)
			}
		}
	}
	return l
}

// TestAllShortRows tries each row of up to so many of a few numbers, of which those of states are known beforehand.
func TestAllShortRows(t *testing.T) { // P12.1, P12.2
	for _, c := range []struct {
		most int
		few  []int
	}{
		{8, []int{-1, 0, 1, 2}},
		{10, []int{0, 1, 2}},
		{14, []int{0, 1}},
	} {
		known := map[string]api.State{}
		for _, s := range fewStates(c.most, c.few...) {
			k := key(numbers(s))
			if q, is := known[k]; is {
				t.Fatalf("one key: %+v, %+v", q, s)
			}
			known[k] = s
			holdState(t, s)
		}
		met := 0
		for _, l := range lists(c.most, c.few...) {
			q, is := enc.Of(l)
			s, want := known[key(l)]
			if is != want || !samples.Alike(q, s) {
				t.Fatalf("of %v: %+v %v, not %+v %v", l, q, is, s, want)
			}
			if is {
				met++
			}
		}
		// The states that have two items somewhere, but no 2 in few, are in no row.
		if slices.Contains(c.few, 2) && met != len(known) || met < 100 {
			t.Errorf("%v: %d states were met, of %d", c.few, met, len(known))
		}
	}
}

// anyState is one, of a code or of none.
func anyState(d *samples.Dice) api.State {
	p := d.Code()
	s := d.State(p)
	edge := func() int {
		return []int{d.Below(3), d.Below(3) - 1, d.Below(1000) - 500, math.MinInt, math.MaxInt}[d.Below(5)]
	}
	for range d.Below(3) {
		th := &s.Ths[d.Below(len(s.Ths))]
		switch d.Below(6) {
		case 0:
			s.Mem = append(s.Mem, edge())
		case 1:
			th.At = edge()
		case 2:
			th.Regs = append(th.Regs, edge())
		case 3:
			th.Regs = nil
		case 4:
			th.Buf = append(th.Buf, api.Write{Loc: edge(), N: edge()})
		case 5:
			s.Ths = append(s.Ths, api.Th{At: edge()})
		}
	}
	return s
}

func TestThereAndBack(t *testing.T) { // P12.2: each state is got from its key
	d := samples.Dice(1)
	for range 20_000 {
		s := anyState(&d)
		holdState(t, s)
		// A row of numbers ends where the state does: neither fewer of them nor more are a state's.
		l := numbers(s)
		holdNone(t, l[:d.Below(len(l))])
		holdNone(t, append(l, d.Below(3)))
	}
}

// alterations are states each of which is unlike s in one thing.
func alterations(s api.State) []api.State {
	var l []api.State
	alter := func(turn func(*api.State)) {
		q := samples.Clone(s)
		turn(&q)
		l = append(l, q)
	}
	alter(func(q *api.State) { q.Mem = append(q.Mem, 0) })
	alter(func(q *api.State) { q.Ths = append(q.Ths, api.Th{}) })
	for loc := range s.Mem {
		alter(func(q *api.State) { q.Mem[loc]++ })
		alter(func(q *api.State) { q.Mem = slices.Delete(q.Mem, loc, loc+1) })
	}
	for i, th := range s.Ths {
		alter(func(q *api.State) { q.Ths = slices.Delete(q.Ths, i, i+1) })
		alter(func(q *api.State) { q.Ths[i].At++ })
		alter(func(q *api.State) { q.Ths[i].Eq = !th.Eq })
		alter(func(q *api.State) { q.Ths[i].Regs = append(q.Ths[i].Regs, 0) })
		alter(func(q *api.State) { q.Ths[i].Buf = append(q.Ths[i].Buf, api.Write{}) })
		for reg := range th.Regs {
			alter(func(q *api.State) { q.Ths[i].Regs[reg]-- })
			alter(func(q *api.State) { q.Ths[i].Regs = slices.Delete(q.Ths[i].Regs, reg, reg+1) })
		}
		for at, w := range th.Buf {
			alter(func(q *api.State) { q.Ths[i].Buf[at].Loc++ })
			alter(func(q *api.State) { q.Ths[i].Buf[at].N-- })
			alter(func(q *api.State) { q.Ths[i].Buf[at] = api.Write{Loc: w.N, N: w.Loc} })
			alter(func(q *api.State) { q.Ths[i].Buf = slices.Delete(q.Ths[i].Buf, at, at+1) })
		}
		if i > 0 {
			alter(func(q *api.State) { q.Ths[i], q.Ths[i-1] = q.Ths[i-1], q.Ths[i] })
			alter(func(q *api.State) { q.Ths[i].Buf, q.Ths[i-1].Buf = q.Ths[i-1].Buf, q.Ths[i].Buf })
			alter(func(q *api.State) { q.Ths[i].Regs, q.Ths[i-1].Regs = q.Ths[i-1].Regs, q.Ths[i].Regs })
		}
	}
	return l
}

func TestUnlikeStatesHaveUnlikeKeys(t *testing.T) { // P12.2
	d := samples.Dice(2)
	met := map[string]api.State{}
	unlike := 0
	for range 500 {
		s := anyState(&d)
		for _, q := range append(alterations(s), s) {
			k := enc.Key(q)
			if was, is := met[k]; is && !samples.Alike(was, q) {
				t.Fatalf("%q: %+v, %+v", k, was, q)
			}
			met[k] = q
			if alike := samples.Alike(q, s); alike != (k == enc.Key(s)) || alike != slices.Equal(enc.Nums(q), enc.Nums(s)) {
				t.Fatalf("%+v, %+v: %q, %q", q, s, k, enc.Key(s))
			} else if !alike {
				unlike++
			}
		}
	}
	if unlike < 10_000 {
		t.Error(unlike)
	}
}

// TestKeysByTheirSpelling alters bytes of keys: what is read then must have that very key.
func TestKeysByTheirSpelling(t *testing.T) { // P12.1: L2; P12.2
	states, none := 0, 0
	try := func(k string) {
		s, is := enc.Read(k)
		if !is {
			none++
			holdNoKey(t, k)
			return
		}
		states++
		if enc.Key(s) != k || key(numbers(s)) != k {
			t.Fatalf("read of %q: %+v, whose key is %q", k, s, enc.Key(s))
		}
	}
	for _, c := range some {
		for at := range len(c.key) + 1 {
			for b := range 256 {
				x := string([]byte{byte(b)})
				try(c.key[:at] + x + c.key[at:])
				if at < len(c.key) {
					try(c.key[:at] + x + c.key[at+1:])
				}
			}
			try(c.key[:at] + c.key[min(at+1, len(c.key)):])
			try(c.key[:at])
		}
	}
	if states < 500 || none < 100_000 {
		t.Error(states, none)
	}
}

func TestLongStatesEnd(t *testing.T) { // P1
	const n = 100_000
	for _, s := range []api.State{
		{Mem: slices.Repeat([]int{-7}, n)},
		{Ths: make([]api.Th, n)},
		{Ths: []api.Th{{Regs: slices.Repeat([]int{math.MinInt}, n)}}},
		{Ths: []api.Th{{Buf: slices.Repeat([]api.Write{{Loc: 3, N: 4}}, n)}}},
	} {
		holdState(t, s)
		l := numbers(s)
		holdNone(t, l[:len(l)-1])
		holdNone(t, append(l, 0))
	}
	// Behind each of these counts stand as many numbers, all 0, and one of the counts is that of a state.
	for _, c := range []struct {
		ahead []int
		right int
	}{
		{nil, n - 1}, {[]int{0}, n / 4}, {[]int{0, 1, 0, 0}, n - 1}, {[]int{0, 1, 0, 0, 0}, n / 2},
	} {
		for _, count := range []int{0, 1, n - 1, n, n + 1, n / 2, n / 4, 1 << 31, 1 << 32, 1 << 62, math.MaxInt, math.MinInt} {
			l := append(slices.Clone(c.ahead), count)
			l = append(l, make([]int, n)...)
			if count != c.right {
				holdNone(t, l)
			} else if q, is := enc.Of(l); !is || !slices.Equal(numbers(q), l) {
				t.Errorf("%v %d: %v", c.ahead, count, is)
			}
		}
	}
}

// stateWithRoom has spare room everywhere.
func stateWithRoom() api.State {
	th := func(at int, eq bool, l ...api.Write) api.Th {
		return api.Th{At: at, Eq: eq, Regs: samples.Roomy(66, 1, 2), Buf: samples.Roomy(api.Write{N: 66}, l...)}
	}
	return api.State{Mem: samples.Roomy(66, 7, 8), Ths: samples.Roomy(th(66, true), th(3, true, api.Write{Loc: 1, N: 3}), th(4, false), th(5, true, api.Write{N: 4}, api.Write{Loc: 1, N: 5}))}
}

// keyWithRoom is that of stateWithRoom.
const keyWithRoom = "2 7 8 3 3 1 2 1 2 1 1 3 4 0 2 1 2 0 5 1 2 1 2 2 0 4 1 5"

func TestAnswersHangOnArgumentsAlone(t *testing.T) { // P3
	s, l := stateWithRoom(), samples.Roomy(66, numbers(stateWithRoom())...)
	old := slices.Clone(l[:cap(l)])
	for range 3 {
		holdState(t, s)
		nums := enc.Nums(s)
		q, is := enc.Of(l)
		r, too := enc.Read(keyWithRoom)
		if !is || !too || enc.Key(s) != keyWithRoom || !slices.Equal(nums, l) || !samples.Alike(q, s) || !samples.Alike(r, s) {
			t.Fatalf("%v, %+v %v, %+v %v", nums, q, is, r, too)
		}
		// What is written into one answer, and its spare room, must be seen in no other one.
		samples.Overwrite(nums, 77)
		samples.OverwriteState(q)
		samples.OverwriteState(r)
		if !slices.Equal(l[:cap(l)], old) || !reflect.DeepEqual(samples.WholeState(s), samples.WholeState(stateWithRoom())) {
			t.Fatalf("what was handed in was changed: %v, %+v", l, s)
		}
		holdNone(t, l[:len(l)-1])
		holdNone(t, l[:len(l)+1])
		if !slices.Equal(l[:cap(l)], old) {
			t.Fatalf("what was handed in was changed: %v", l)
		}
	}
}

func TestAnswersAreKeptByNobody(t *testing.T) { // P3
	s, l := stateWithRoom(), numbers(stateWithRoom())
	nums, k := enc.Nums(s), enc.Key(s)
	q, _ := enc.Of(l)
	samples.OverwriteState(s)
	samples.Overwrite(l, 77)
	if k != keyWithRoom || key(nums) != keyWithRoom || !samples.Alike(q, stateWithRoom()) {
		t.Errorf("%q, %v, %+v", k, nums, q)
	}
}

func TestNoTwoListsShareRoom(t *testing.T) { // P3
	l := numbers(stateWithRoom())
	a, _ := enc.Of(l)
	b, _ := enc.Read(keyWithRoom)
	if !samples.Apart(a) || !samples.Apart(b) || key(l) != keyWithRoom {
		t.Errorf("%+v, %+v", a, b)
	}
}
