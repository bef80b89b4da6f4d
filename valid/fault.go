package valid

import (
	"fencepost/api"
	"fencepost/ops"
	"fencepost/word"
)

const (
	// none is where a fault of no thread and no atom is.
	none = -1
	// shared is the thread of an atom that asks of a location: those are no thread's own.
	shared = -1
)

// fault wraps what is wrong with where it is: a thread's place, or how many there are, and the place of a line or an atom.
type fault struct {
	part, at int
	what     error
}

func (x fault) Error() string { return x.what.Error() }

// Unwrap hands out the number, so that it can be asked for by itself.
func (x fault) Unwrap() error { return x.what }

// firstFault is the first thing that is wrong with f; nil, if nothing is.
func firstFault(f api.File) error {
	for _, look := range []func(api.File) error{frameFault, lineFault, atomFault, locFault} {
		if err := look(f); err != nil {
			return err
		}
	}
	return nil
}

// frameFault is what is wrong with the name, the cells and how many threads there are.
func frameFault(f api.File) error {
	if !word.Name(f.Name) {
		return fault{none, none, api.ErrName}
	}
	for i, c := range f.Init {
		if !word.Name(c.Loc) {
			return fault{none, none, api.ErrName}
		}
		if i > 0 && c.Loc <= f.Init[i-1].Loc {
			return fault{none, none, api.ErrTwice}
		}
	}
	if n := len(f.Threads); n < 1 || n > api.MaxThreads {
		return fault{none, none, api.ErrFull}
	}
	return nil
}

// lineFault is what is wrong with the first wrong line of the first wrong thread.
func lineFault(f api.File) error {
	for i, t := range f.Threads {
		wrong := reader(t.Lines)
		for j, l := range t.Lines {
			if e := wrong(l); e != api.OK {
				return fault{i, j, e}
			}
		}
	}
	return nil
}

// atomFault is what is wrong with the first wrong atom.
func atomFault(f api.File) error {
	for i, a := range f.Cond {
		switch {
		case i >= api.MaxAtoms:
			return fault{len(f.Threads), i, api.ErrFull}
		case !ops.Asked(a):
			return fault{len(f.Threads), i, api.ErrArg}
		case a.Thread >= len(f.Threads):
			return fault{len(f.Threads), i, api.ErrName}
		}
	}
	return nil
}

// locFault is that there are too many locations. What is not right ahead of that is told already, so that whatever names a location does so rightly here.
func locFault(f api.File) error {
	if len(locations(f)) > api.MaxLocs {
		return fault{none, none, api.ErrFull}
	}
	return nil
}

// locations are those of a program that is right so far, with how often each stands in it.
func locations(f api.File) map[string]int {
	met := map[string]int{}
	for _, c := range f.Init {
		met[c.Loc]++
	}
	for _, t := range f.Threads {
		for _, l := range t.Lines {
			if l.Loc != "" {
				met[l.Loc]++
			}
		}
	}
	for _, a := range f.Cond {
		if a.Thread == shared {
			met[a.Name]++
		}
	}
	return met
}
