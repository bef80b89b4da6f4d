package parse

import (
	"fencepost/api"
	"fencepost/num"
	"fencepost/ops"
	"fencepost/word"
)

// The first words of lines that are no thread's.
const (
	headWord   = "x86"
	initWord   = "init"
	threadWord = "thread"
	existsWord = "exists"
	forallWord = "forall"
)

// What may come next. A thread may come inside one as well as behind the init, so the one number stands right ahead of the other, and falls through to it.
const (
	headNext = iota
	initNext
	insideNext
	threadNext
	nothingNext
)

// reader goes along the lines of a text, and gathers its program.
type reader struct {
	file api.File
	// next is what may come next, at is the number of the line that is asked.
	next, at int
	// Where the head, the end and each line of each thread stand.
	head, end int
	lines     [][]int
}

// taker puts the words of a line into the program, and is true; false, with nothing altered, if they are none of its kind.
type taker func(w []string) bool

// stray is the number of the first line that may not come where it stands, or of the one behind the last, if one is lacking there, and true; 0 and false, if there is none.
func (r *reader) stray(lines []string) (int, bool) {
	for i, s := range lines {
		r.at = i + 1
		if w := word.Words(s); len(w) > 0 && !r.take(w) {
			return r.at, true
		}
	}
	if r.next != nothingNext {
		return len(lines) + 1, true
	}
	return 0, false
}

// take: may w come next? What it says is in the program then.
func (r *reader) take(w []string) bool {
	for _, takes := range r.takers() {
		if takes(w) {
			return true
		}
	}
	return false
}

// takers are those of what may come next.
func (r *reader) takers() []taker {
	var l []taker
	switch r.next {
	case headNext:
		l = append(l, r.takeHead)
	case initNext:
		l = append(l, r.takeInit)
	case insideNext:
		l = append(l, r.takeLine, r.takeEnd)
		fallthrough
	case threadNext:
		l = append(l, r.takeThread)
	}
	return l
}

func (r *reader) takeHead(w []string) bool {
	if len(w) != 2 || w[0] != headWord {
		return false
	}
	r.file.Name, r.head, r.next = w[1], r.at, initNext
	return true
}

func (r *reader) takeInit(w []string) bool {
	if w[0] != initWord {
		return false
	}
	l, is := cells(w[1:])
	if !is {
		return false
	}
	r.file.Init, r.next = l, threadNext
	return true
}

func (r *reader) takeThread(w []string) bool {
	if len(w) != 1 || w[0] != threadWord {
		return false
	}
	r.file.Threads = append(r.file.Threads, api.Thread{})
	r.lines = append(r.lines, nil)
	r.next = insideNext
	return true
}

func (r *reader) takeLine(w []string) bool {
	l, is := ops.Get(w)
	if !is {
		return false
	}
	last := len(r.lines) - 1
	t := &r.file.Threads[last]
	t.Lines = append(t.Lines, l)
	r.lines[last] = append(r.lines[last], r.at)
	return true
}

func (r *reader) takeEnd(w []string) bool {
	if w[0] != existsWord && w[0] != forallWord {
		return false
	}
	l, is := atoms(w[1:])
	if !is {
		return false
	}
	r.file.All, r.file.Cond = w[0] == forallWord, l
	r.end, r.next = r.at, nothingNext
	return true
}

// where is the line of what valid tells of a thread's line, of an atom, or of neither.
func (r *reader) where(part, at int) int {
	switch {
	case part < 0:
		return r.head
	case part < len(r.lines):
		return r.lines[part][at]
	}
	return r.end
}

// cells are those of pairs of words, and true; none and false, if a pair is half, or its number is none.
func cells(w []string) ([]api.Cell, bool) {
	if len(w)%2 != 0 {
		return nil, false
	}
	var l []api.Cell
	for i := 0; i < len(w); i += 2 {
		n, is := num.Get(w[i+1])
		if !is {
			return nil, false
		}
		l = append(l, api.Cell{Loc: w[i], N: n})
	}
	return l, true
}

// atoms are those whose words w are, and true; none and false, if a word is no atom's.
func atoms(w []string) ([]api.Atom, bool) {
	var l []api.Atom
	for _, s := range w {
		a, is := ops.Atom(s)
		if !is {
			return nil, false
		}
		l = append(l, a)
	}
	return l, true
}
