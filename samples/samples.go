// Package samples makes codes, states and rows of ends for the tests of several layers, always the same ones, and tells what stands in them.
package samples

import (
	"slices"

	"fencepost/api"
)

// AllSteps are all of each kind that two locations, and three steps, allow, with these numbers.
func AllSteps(numbers ...int) []api.Step {
	l := []api.Step{{Op: api.OpFence}}
	for to := 1; to <= 3; to++ {
		l = append(l, api.Step{Op: api.OpJmp, To: to}, api.Step{Op: api.OpJe, To: to}, api.Step{Op: api.OpJne, To: to})
	}
	for reg := range 4 {
		for loc := range 2 {
			l = append(l, api.Step{Op: api.OpLoad, Reg: reg, Loc: loc}, api.Step{Op: api.OpStore, Reg: reg, Loc: loc}, api.Step{Op: api.OpXchg, Reg: reg, Loc: loc})
		}
		for _, n := range numbers {
			l = append(l, api.Step{Op: api.OpImm, Reg: reg, N: n}, api.Step{Op: api.OpCmp, Reg: reg, N: n})
		}
	}
	for _, n := range numbers {
		l = append(l, api.Step{Op: api.OpPut, Loc: 0, N: n}, api.Step{Op: api.OpPut, Loc: 1, N: n})
	}
	return l
}

// Clone is a state in which the same stands, and that shares no list with s.
func Clone(s api.State) api.State {
	c := api.State{Mem: slices.Clone(s.Mem)}
	for _, th := range s.Ths {
		th.Regs, th.Buf = slices.Clone(th.Regs), slices.Clone(th.Buf)
		c.Ths = append(c.Ths, th)
	}
	return c
}

// Alike: does the same stand in both states? (An empty list may be nil or not.)
func Alike(s, q api.State) bool {
	return slices.Equal(s.Mem, q.Mem) && slices.EqualFunc(s.Ths, q.Ths, AlikeThreads)
}

// AlikeThreads: does the same stand in both threads?
func AlikeThreads(a, b api.Th) bool {
	return a.At == b.At && a.Eq == b.Eq && slices.Equal(a.Regs, b.Regs) && slices.Equal(a.Buf, b.Buf)
}
