package cond

import (
	"slices"

	"fencepost/api"
	"fencepost/valid"
	"fencepost/word"
)

// shared is the thread of an atom that asks of a location: those are no thread's own.
const shared = -1

// kind is what an atom asks of.
type kind int

const (
	ofLocation kind = iota
	ofRegister
)

// kindOf is that of a.
func kindOf(a api.Atom) kind {
	if a.Thread == shared {
		return ofLocation
	}
	return ofRegister
}

// asker is a function that says of an end whether it fits f, and all that f asks holds of it. It looks f over once, however many ends it is asked of.
func asker(f api.File) func(api.Out) bool {
	if !valid.Right(f) {
		// Atoms of a wrong program may ask of places that no end has.
		return func(api.Out) bool { return false }
	}
	locs := valid.Locs(f)
	ask := asks(locs)
	return func(o api.Out) bool {
		if len(o.Mem) != len(locs) || len(o.Regs) != api.MaxRegs*len(f.Threads) {
			return false
		}
		return !slices.ContainsFunc(f.Cond, func(a api.Atom) bool { return !ask[kindOf(a)](a, o) })
	}
}

// asks are functions that say, by an atom's kind, whether it holds of an end that fits a program of these locations.
func asks(locs []string) map[kind]func(api.Atom, api.Out) bool {
	return map[kind]func(api.Atom, api.Out) bool{
		ofLocation: func(a api.Atom, o api.Out) bool {
			return o.Mem[slices.Index(locs, a.Name)] == a.N
		},
		ofRegister: func(a api.Atom, o api.Out) bool {
			return o.Regs[api.MaxRegs*a.Thread+word.Reg(a.Name)] == a.N
		},
	}
}
