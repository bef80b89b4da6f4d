package show

import (
	"strings"

	"fencepost/api"
	"fencepost/num"
	"fencepost/ops"
)

// The first words of lines that are no thread's, and what stands between words and behind lines.
const (
	headWord   = "x86"
	initWord   = "init"
	threadWord = "thread"
	existsWord = "exists"
	forallWord = "forall"
	blank      = " "
	lineFeed   = "\n"
)

// text is a program's, of which the lines so far are in the builder.
type text struct{ strings.Builder }

// line puts one of these words behind those that are there.
func (t *text) line(words ...string) {
	t.WriteString(strings.Join(words, blank))
	t.WriteString(lineFeed)
}

// thread puts the lines of x behind those that are there.
func (t *text) thread(x api.Thread) {
	t.line(threadWord)
	for _, l := range x.Lines {
		t.line(ops.Words(l)...)
	}
}

// initWords are those of the line that tells what locations have at first.
func initWords(cells []api.Cell) []string {
	w := []string{initWord}
	for _, c := range cells {
		w = append(w, c.Loc, num.Text(c.N))
	}
	return w
}

// endWords are those of the line that tells what is asked: of all ends, or of one.
func endWords(all bool, atoms []api.Atom) []string {
	w := []string{existsWord}
	if all {
		w[0] = forallWord
	}
	for _, a := range atoms {
		w = append(w, ops.Word(a))
	}
	return w
}
