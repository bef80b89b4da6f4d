package buf_test

import (
	"math"
	"slices"
	"testing"

	"fencepost/api"
	"fencepost/buf"
)

// The chapter's words once more, each asked for by itself.

// last is what Last is to be: all writes to loc are gathered, oldest first.
func last(b []api.Write, loc int) (int, bool) {
	var to []int
	for _, w := range b {
		if w.Loc == loc {
			to = append(to, w.N)
		}
	}
	if len(to) == 0 {
		return 0, false
	}
	return to[len(to)-1], true
}

// cells are what mem has, by locations.
func cells(mem []int) map[int]int {
	m := map[int]int{}
	for loc, n := range mem {
		m[loc] = n
	}
	return m
}

// view is what View is to be.
func view(b []api.Write, mem []int, loc int) (int, bool) {
	if n, is := last(b, loc); is {
		return n, true
	}
	n, is := cells(mem)[loc]
	return n, is
}

// drain is what Drain is to be.
func drain(b []api.Write, mem []int) ([]api.Write, []int, bool) {
	if len(b) == 0 {
		return b, mem, false
	}
	if _, is := cells(mem)[b[0].Loc]; !is {
		return b, mem, false
	}
	var after []int
	for loc, n := range mem {
		if loc == b[0].Loc {
			n = b[0].N
		}
		after = append(after, n)
	}
	return b[1:], after, true
}

// drained are what is left, what mem is, and how often, when drain is done as often as it can be.
func drained(b []api.Write, mem []int) ([]api.Write, []int, int) {
	for many := 0; ; many++ {
		c, m, is := drain(b, mem)
		if !is {
			return b, mem, many
		}
		b, mem = c, m
	}
}

// holdAll holds all calls at these arguments against the chapter's words, and against one another.
func holdAll(t *testing.T, b []api.Write, mem []int) {
	t.Helper()
	c, m, is := buf.Drain(b, mem)
	if wc, wm, want := drain(b, mem); is != want || !slices.Equal(c, wc) || !slices.Equal(m, wm) {
		t.Fatalf("drain of %v, %v: %v, %v, %v", b, mem, c, m, is)
	}
	end := buf.All(b, mem)
	left, want, many := drained(b, mem)
	if !slices.Equal(end, want) {
		t.Fatalf("all of %v, %v: %v, not %v", b, mem, end, want)
	}
	for range many {
		b, mem, _ = buf.Drain(b, mem)
	}
	if c, m, is := buf.Drain(b, mem); is || !slices.Equal(c, left) || !slices.Equal(m, end) {
		t.Fatalf("drained as often as can be: %v, %v, %v", c, m, is)
	}
}

// holdViews holds Last, View and Push at this location against the chapter's words.
func holdViews(t *testing.T, b []api.Write, mem []int, loc int) {
	t.Helper()
	n, is := buf.Last(b, loc)
	if m, want := last(b, loc); n != m || is != want {
		t.Fatalf("last of %v at %d: %d, %v", b, loc, n, is)
	}
	n, is = buf.View(b, mem, loc)
	if m, want := view(b, mem, loc); n != m || is != want {
		t.Fatalf("view of %v, %v at %d: %d, %v", b, mem, loc, n, is)
	}
	w := api.Write{Loc: loc, N: 77}
	c := buf.Push(b, w)
	if len(c) != len(b)+1 || !slices.Equal(c[:len(b)], b) || c[len(b)] != w {
		t.Fatalf("push of %v, %v: %v", b, w, c)
	}
	if n, is := buf.View(c, mem, loc); n != 77 || !is {
		t.Fatalf("what was pushed isn't viewed: %v at %d: %d, %v", c, loc, n, is)
	}
}

// buffers are all of that many writes, each to one of these locations; each write's number is another one.
func buffers(many int, locs ...int) [][]api.Write {
	all := [][]api.Write{nil}
	for i := range many {
		var more [][]api.Write
		for _, b := range all {
			for _, loc := range locs {
				more = append(more, append(slices.Clone(b), api.Write{Loc: loc, N: i + 1}))
			}
		}
		all = more
	}
	return all
}

func TestAllSmallBuffers(t *testing.T) { // P9.1
	for many := range 5 {
		for _, b := range buffers(many, -1, 0, 1, 2, 3) {
			for _, mem := range [][]int{nil, {50}, {50, 51}, {50, 51, 52}} {
				holdAll(t, b, mem)
				for loc := -2; loc < 5; loc++ {
					holdViews(t, b, mem, loc)
				}
			}
		}
	}
}

func TestEdgesOfNumbers(t *testing.T) { // P9.1, P1
	edges := []int{math.MinInt, math.MinInt + 1, -1 << 32, -1, 0, 1, 1 << 32, math.MaxInt - 1, math.MaxInt}
	for _, loc := range edges {
		for _, n := range edges {
			for _, b := range [][]api.Write{nil, {}, {{Loc: loc, N: n}}, {{Loc: 0, N: n}, {Loc: loc, N: 5}}, {{Loc: loc, N: 5}, {Loc: loc, N: n}}, {{Loc: loc, N: n}, {Loc: 0, N: 5}}} {
				for _, mem := range [][]int{nil, {}, {n}, {3, n}} {
					holdAll(t, b, mem)
					for _, at := range edges {
						holdViews(t, b, mem, at)
					}
				}
			}
		}
	}
}

func TestPush(t *testing.T) { // P9.1: I1
	var b []api.Write
	for i := range 9 {
		b = buf.Push(b, api.Write{Loc: i % 3, N: i})
	}
	for i, w := range b {
		if w != (api.Write{Loc: i % 3, N: i}) {
			t.Error(i, w)
		}
	}
	if len(b) != 9 {
		t.Error(b)
	}
	// A write that is there already is put behind once more.
	if c := buf.Push(b[:1], b[0]); len(c) != 2 || c[0] != b[0] || c[1] != b[0] {
		t.Error(c)
	}
	// Two are put behind one buffer, and both are right.
	one, two := buf.Push(b[:1], api.Write{N: 8}), buf.Push(b[:1], api.Write{N: 9})
	if one[1].N != 8 || two[1].N != 9 {
		t.Error(one, two)
	}
}

func TestViews(t *testing.T) { // P9.1: I1
	b := []api.Write{{Loc: 0, N: 1}, {Loc: 2, N: 0}, {Loc: 0, N: 3}, {Loc: 7, N: 4}, {Loc: -1, N: 6}}
	for _, c := range []struct {
		loc, last int
		is        bool
		view      int
		it        bool
	}{
		{0, 3, true, 3, true},
		{1, 0, false, 9, true},
		// The last write's number is 0: there is one all the same, and mem is not asked.
		{2, 0, true, 0, true},
		{3, 0, false, 0, false},
		// No place of mem, but a write of the buffer.
		{7, 4, true, 4, true},
		{-1, 6, true, 6, true},
		{-2, 0, false, 0, false},
	} {
		if n, is := buf.Last(b, c.loc); n != c.last || is != c.is {
			t.Error(c, n, is)
		}
		if n, is := buf.View(b, []int{8, 9, 10}, c.loc); n != c.view || is != c.it {
			t.Error(c, n, is)
		}
	}
}

func TestDrains(t *testing.T) { // P9.1: I2
	for i, c := range []struct {
		b     []api.Write
		mem   []int
		left  []api.Write
		after []int
		is    bool
		all   []int
	}{
		{nil, nil, nil, nil, false, nil},
		{nil, []int{7}, nil, []int{7}, false, []int{7}},
		{[]api.Write{{Loc: 0, N: 1}}, nil, []api.Write{{Loc: 0, N: 1}}, nil, false, nil},
		{[]api.Write{{Loc: 1, N: 1}}, []int{7, 8}, nil, []int{7, 1}, true, []int{7, 1}},
		{[]api.Write{{Loc: 2, N: 1}}, []int{7, 8}, []api.Write{{Loc: 2, N: 1}}, []int{7, 8}, false, []int{7, 8}},
		{[]api.Write{{Loc: -1, N: 1}}, []int{7, 8}, []api.Write{{Loc: -1, N: 1}}, []int{7, 8}, false, []int{7, 8}},
		// What has that number already has it still, and the write is gone.
		{[]api.Write{{Loc: 0, N: 7}}, []int{7}, nil, []int{7}, true, []int{7}},
		{[]api.Write{{Loc: 0, N: 1}, {Loc: 0, N: 2}}, []int{7}, []api.Write{{Loc: 0, N: 2}}, []int{1}, true, []int{2}},
		// One that can't come there keeps those behind it back, but not those ahead.
		{[]api.Write{{Loc: 9, N: 1}, {Loc: 0, N: 2}}, []int{7}, []api.Write{{Loc: 9, N: 1}, {Loc: 0, N: 2}}, []int{7}, false, []int{7}},
		{[]api.Write{{Loc: 0, N: 2}, {Loc: 9, N: 1}, {Loc: 0, N: 3}}, []int{7}, []api.Write{{Loc: 9, N: 1}, {Loc: 0, N: 3}}, []int{2}, true, []int{2}},
	} {
		left, after, is := buf.Drain(c.b, c.mem)
		if !slices.Equal(left, c.left) || !slices.Equal(after, c.after) || is != c.is {
			t.Error(i, left, after, is)
		}
		if all := buf.All(c.b, c.mem); !slices.Equal(all, c.all) {
			t.Error(i, all)
		}
	}
}

func TestOneThenTwo(t *testing.T) { // P9.2: the chapter's example
	b := buf.Push(buf.Push(nil, api.Write{Loc: 0, N: 1}), api.Write{Loc: 0, N: 2})
	if n, is := buf.View(b, []int{0}, 0); n != 2 || !is {
		t.Error(n, is)
	}
	c, mem, is := buf.Drain(b, []int{0})
	if !is || !slices.Equal(mem, []int{1}) || len(c) != 1 || c[0].N != 2 {
		t.Error(c, mem, is)
	}
	if all := buf.All(b, []int{0}); !slices.Equal(all, []int{2}) {
		t.Error(all)
	}
}

// dice throws numbers that are the same each time.
type dice uint64

// below is a number from 0 to n - 1.
func (d *dice) below(n int) int {
	*d = *d*6364136223846793005 + 1442695040888963407
	return int(uint64(*d) >> 33 % uint64(n))
}

func TestInOrder(t *testing.T) { // P9.2
	d := dice(3)
	for range 20_000 {
		mem := make([]int, 1+d.below(5))
		for loc := range mem {
			mem[loc] = d.below(9) - 4
		}
		var b []api.Write
		for range d.below(12) {
			b = buf.Push(b, api.Write{Loc: d.below(len(mem)), N: d.below(9) - 4})
		}
		end := buf.All(b, mem)
		// What is viewed is the same on the whole way, and what is there in the end.
		for c, m, is := b, mem, true; is; c, m, is = buf.Drain(c, m) {
			for loc, n := range end {
				if v, there := buf.View(c, m, loc); v != n || !there {
					t.Fatalf("%v, %v: %d has %d in the end, but %d is viewed at %v, %v", b, mem, loc, n, v, c, m)
				}
			}
		}
		for loc, n := range end {
			want, there := buf.Last(b, loc)
			if !there {
				want = mem[loc]
			}
			if n != want {
				t.Fatalf("%v, %v: %d has %d in the end, not %d", b, mem, loc, n, want)
			}
		}
	}
}

func TestLongBuffersEnd(t *testing.T) { // P1
	const n = 3_000_000
	b := make([]api.Write, n)
	for i := range b {
		b[i] = api.Write{Loc: i, N: i + 1}
	}
	mem := make([]int, n)
	if end := buf.All(b, mem); len(end) != n || end[0] != 1 || end[n-1] != n {
		t.Error(len(end))
	}
	if end := buf.All(b, mem[:n-1]); len(end) != n-1 || end[n-2] != n-1 {
		t.Error(len(end))
	}
	if m, is := buf.Last(b, 0); m != 1 || !is {
		t.Error(m, is)
	}
	if m, is := buf.View(b, mem, n); m != 0 || is {
		t.Error(m, is)
	}
	if c, m, is := buf.Drain(b, mem); !is || len(c) != n-1 || len(m) != n || m[0] != 1 || m[1] != 0 {
		t.Error(len(c), len(m), is)
	}
	if c := buf.Push(b, api.Write{N: 5}); len(c) != n+1 || c[n].N != 5 || c[n-1] != b[n-1] {
		t.Error(len(c))
	}
}

// roomy is a list with spare room in which x stands.
func roomy[T any](x T, l ...T) []T { return append(l, x, x, x)[:len(l)] }

// overwrite writes over all of a list, its spare room, too.
func overwrite[T any](l []T, x T) {
	l = l[:cap(l)]
	for i := range l {
		l[i] = x
	}
}

func TestAnswersHangOnArgumentsAlone(t *testing.T) { // P3
	room, junk := api.Write{Loc: 0, N: 66}, api.Write{Loc: 1, N: 77}
	for _, writes := range [][]api.Write{nil, {{Loc: 0, N: 1}}, {{Loc: 1, N: 1}, {Loc: 0, N: 2}, {Loc: 1, N: 3}}, {{Loc: 5, N: 1}, {Loc: 0, N: 2}}, {{Loc: 0, N: 1}, {Loc: -1, N: 2}, {Loc: 1, N: 3}}} {
		for _, cells := range [][]int{nil, {7}, {7, 8}} {
			b, mem := roomy(room, slices.Clone(writes)...), roomy(66, slices.Clone(cells)...)
			oldB, oldMem := slices.Clone(b[:cap(b)]), slices.Clone(mem[:cap(mem)])
			for range 3 {
				holdAll(t, b, mem)
				holdViews(t, b, mem, 0)
				overwrite(buf.Push(b, api.Write{N: 4}), junk)
				c, m, _ := buf.Drain(b, mem)
				overwrite(c, junk)
				overwrite(m, 77)
				overwrite(buf.All(b, mem), 77)
				if !slices.Equal(b[:cap(b)], oldB) || !slices.Equal(mem[:cap(mem)], oldMem) {
					t.Fatalf("what was handed in was changed: %v, %v", b[:cap(b)], mem[:cap(mem)])
				}
			}
		}
	}
}

func TestAnswersAreKeptByNobody(t *testing.T) { // P3
	b, mem := []api.Write{{Loc: 0, N: 1}, {Loc: 5, N: 2}}, []int{7, 8}
	pushed, all := buf.Push(b, api.Write{N: 4}), buf.All(b, mem)
	left, after, _ := buf.Drain(b, mem)
	stuck, same, _ := buf.Drain(b[1:], mem)
	overwrite(b, api.Write{Loc: 77})
	overwrite(mem, 77)
	if !slices.Equal(pushed, []api.Write{{Loc: 0, N: 1}, {Loc: 5, N: 2}, {Loc: 0, N: 4}}) || !slices.Equal(all, []int{1, 8}) {
		t.Error(pushed, all)
	}
	if !slices.Equal(left, []api.Write{{Loc: 5, N: 2}}) || !slices.Equal(after, []int{1, 8}) {
		t.Error(left, after)
	}
	if !slices.Equal(stuck, []api.Write{{Loc: 5, N: 2}}) || !slices.Equal(same, []int{7, 8}) {
		t.Error(stuck, same)
	}
}
