package valid

import (
	"fencepost/api"
	"fencepost/ops"
)

// reader is a function that is handed a thread's lines, in order, and says of each what is wrong with it. It keeps what is ahead of the next line, and which labels are behind.
func reader(lines []api.Line) func(api.Line) api.Errno {
	ahead, behind := map[string]int{}, labels(lines)
	instructions, fenced := 0, false
	wrong := func(l api.Line) api.Errno {
		switch {
		case !ops.Right(l):
			return api.ErrLine
		case label(l) && ahead[l.Label] > 0:
			return api.ErrTwice
		case fence(l) && fenced:
			return api.ErrFence
		case jump(l) && behind[l.Label] == 0:
			return api.ErrName
		case instruction(l) && instructions >= api.MaxOps, label(l) && len(ahead) >= api.MaxLabels:
			return api.ErrFull
		}
		return api.OK
	}
	pass := func(l api.Line) {
		fenced = fence(l)
		if instruction(l) {
			instructions++
		}
		if label(l) {
			ahead[l.Label]++
			behind[l.Label]--
		}
	}
	return func(l api.Line) api.Errno {
		// Asked ahead of being passed, since a line is not ahead of itself.
		e := wrong(l)
		pass(l)
		return e
	}
}

// labels are those of the lines, with how often each stands there.
func labels(lines []api.Line) map[string]int {
	many := map[string]int{}
	for _, l := range lines {
		if label(l) {
			many[l.Label]++
		}
	}
	return many
}

// label: is l one?
func label(l api.Line) bool { return l.Op == api.OpLabel }

// fence: is l one?
func fence(l api.Line) bool { return l.Op == api.OpFence }

// jump: does l go on at a label?
func jump(l api.Line) bool { return l.Op == api.OpJmp || l.Op == api.OpJe || l.Op == api.OpJne }

// instruction: is l neither a fence nor a label?
func instruction(l api.Line) bool { return !fence(l) && !label(l) }
