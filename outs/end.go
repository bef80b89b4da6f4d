package outs

import (
	"slices"

	"fencepost/api"
)

// end is one that can be held against others.
type end interface {
	// against is below 0, if the end is ahead of o, above 0, if o is ahead of it, and 0, if they are alike.
	against(o api.Out) int
}

// rows is an end whose rows of numbers are held against another one's, the later row where the first ones are alike.
type rows api.Out

func (r rows) against(o api.Out) int {
	if mem := slices.Compare(r.Mem, o.Mem); mem != 0 {
		return mem
	}
	return slices.Compare(r.Regs, o.Regs)
}

// asEnd is o, to be held against others.
func asEnd(o api.Out) end { return rows(o) }

// order is how a is held against b.
func order(a, b api.Out) int { return asEnd(a).against(b) }

// alike: does the same stand in a and b?
func alike(a, b api.Out) bool { return order(a, b) == 0 }

// copies are the ends of l, in rows of their own.
func copies(l []api.Out) []api.Out {
	c := make([]api.Out, 0, len(l))
	for _, o := range l {
		c = append(c, copied(o))
	}
	return c
}

// copied is o, in rows of its own.
func copied(o api.Out) api.Out {
	return api.Out{Mem: slices.Clone(o.Mem), Regs: slices.Clone(o.Regs)}
}
