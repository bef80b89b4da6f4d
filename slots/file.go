package slots

import (
	"slices"

	"fencepost/api"
)

// linesOf are a program's lines, thread by thread.
func linesOf(f api.File) [][]api.Line {
	lines := make([][]api.Line, len(f.Threads))
	for i, t := range f.Threads {
		lines[i] = t.Lines
	}
	return lines
}

// having is a copy of f whose threads have these lines, which are new already.
func having(f api.File, lines [][]api.Line) api.File {
	f.Init, f.Cond = slices.Clone(f.Init), slices.Clone(f.Cond)
	f.Threads = make([]api.Thread, len(lines))
	for i, l := range lines {
		f.Threads[i].Lines = l
	}
	return f
}

// hasStep: is l no label?
func hasStep(l api.Line) bool { return l.Op != api.OpLabel }

// anyStep: each step of a code is one.
func anyStep(api.Step) bool { return true }

// jump: does s go on at another step?
func jump(s api.Step) bool { return s.Op == api.OpJmp || s.Op == api.OpJe || s.Op == api.OpJne }
