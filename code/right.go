package code

import "fencepost/api"

// maxSteps is how many steps a thread of a right code has at most. It is no limit of api's, since a right program's threads have fewer.
const maxSteps = 80

// part is what a kind of step has; all else of it is 0.
type part struct{ reg, loc, n, to bool }

// parts are those of each kind, by its number.
var parts = [...]part{
	api.OpImm:   {reg: true, n: true},
	api.OpLoad:  {reg: true, loc: true},
	api.OpStore: {reg: true, loc: true},
	api.OpPut:   {loc: true, n: true},
	api.OpXchg:  {reg: true, loc: true},
	api.OpFence: {},
	api.OpCmp:   {reg: true, n: true},
	api.OpJmp:   {to: true},
	api.OpJe:    {to: true},
	api.OpJne:   {to: true},
}

// rightThread: may a thread's steps be so, in a code of so many locations?
func rightThread(steps []api.Step, locs int) bool {
	if len(steps) > maxSteps {
		return false
	}
	for at, s := range steps {
		if !rightStep(s, locs, at+1, len(steps)) {
			return false
		}
	}
	return true
}

// rightStep: may a step be so, in a code of so many locations, if it may jump to the places from next to end?
func rightStep(s api.Step, locs, next, end int) bool {
	if !among(s.Op, api.OpImm, api.OpJne) {
		return false
	}
	has := parts[s.Op]
	return zeroOr(has.reg, s.Reg, 0, api.MaxRegs-1) &&
		zeroOr(has.loc, s.Loc, 0, locs-1) &&
		(has.n || s.N == 0) &&
		zeroOr(has.to, s.To, next, end)
}

// zeroOr: is n one of these numbers, if the step has it, and else 0?
func zeroOr(has bool, n, least, most int) bool {
	if !has {
		return n == 0
	}
	return among(n, least, most)
}

// among: is n from least to most?
func among(n, least, most int) bool { return least <= n && n <= most }
