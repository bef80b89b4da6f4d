package code

import (
	"slices"

	"fencepost/api"
	"fencepost/word"
)

// each is what is made of each thing of l, in order.
func each[A, B any](l []A, made func(A) B) []B {
	var all []B
	for _, x := range l {
		all = append(all, made(x))
	}
	return all
}

// joined are the lists, one behind the other, as one.
func joined[A any](lists [][]A) []A {
	var all []A
	for _, l := range lists {
		all = append(all, l...)
	}
	return all
}

// maker is a function that makes of a line of t its step, or none of a label. Registers, locations and labels are told by names: where a line has none, the name is empty and found nowhere, and its step has a 0.
func maker(t api.Thread, locs []string) func(api.Line) []api.Step {
	to := func(l api.Line) int {
		behind := slices.IndexFunc(t.Lines, func(x api.Line) bool { return !hasStep(x) && x.Label == l.Label })
		return count(t.Lines[:max(behind, 0)])
	}
	return func(l api.Line) []api.Step {
		if !hasStep(l) {
			return nil
		}
		reg, loc := word.Reg(l.Reg), slices.Index(locs, l.Loc)
		return []api.Step{{Op: l.Op, Reg: max(reg, 0), Loc: max(loc, 0), N: l.N, To: to(l)}}
	}
}

// firstNumber is what the location has at first.
func firstNumber(cells []api.Cell, loc string) int {
	for _, c := range cells {
		if c.Loc == loc {
			return c.N
		}
	}
	return 0
}

// hasStep: is l no label?
func hasStep(l api.Line) bool { return l.Op != api.OpLabel }

// count is how many steps the lines have.
func count(lines []api.Line) int {
	n := 0
	for _, l := range lines {
		if hasStep(l) {
			n++
		}
	}
	return n
}
