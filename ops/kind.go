package ops

import (
	"strings"

	"fencepost/api"
	"fencepost/num"
	"fencepost/word"
)

// The first words of lines, and what stands about names.
const (
	movWord    = "mov"
	xchgWord   = "xchg"
	mfenceWord = "mfence"
	cmpWord    = "cmp"
	jmpWord    = "jmp"
	jeWord     = "je"
	jneWord    = "jne"
	open       = "["
	shut       = "]"
	colon      = ":"
)

// kind is a line as its Op has it. Its words mean something only if it is right.
type kind interface {
	right() bool
	words() []string
}

// kindOf is the kind of l, and true; nil and false, if there is none.
func kindOf(l api.Line) (kind, bool) {
	switch l.Op {
	case api.OpImm:
		return imm{withNumber{l}}, true
	case api.OpLoad:
		return load{withLoc{l}}, true
	case api.OpStore:
		return store{withLoc{l}}, true
	case api.OpPut:
		return put{l}, true
	case api.OpXchg:
		return xchg{withLoc{l}}, true
	case api.OpFence:
		return fence{l}, true
	case api.OpCmp:
		return compare{withNumber{l}}, true
	case api.OpJmp:
		return jmp{withLabel{l}}, true
	case api.OpJe:
		return je{withLabel{l}}, true
	case api.OpJne:
		return jne{withLabel{l}}, true
	case api.OpLabel:
		return label{withLabel{l}}, true
	}
	return nil, false
}

// What some kinds have alike: being right is promoted to them.
type (
	withNumber struct{ api.Line } // a register and a number
	withLoc    struct{ api.Line } // a register and a location
	withLabel  struct{ api.Line } // a label
)

func (k withNumber) right() bool {
	return register(k.Reg) && k.Line == api.Line{Op: k.Op, Reg: k.Reg, N: k.N}
}

func (k withLoc) right() bool {
	return register(k.Reg) && word.Name(k.Loc) && k.Line == api.Line{Op: k.Op, Reg: k.Reg, Loc: k.Loc}
}

func (k withLabel) right() bool {
	return word.Name(k.Label) && k.Line == api.Line{Op: k.Op, Label: k.Label}
}

// The kinds of lines, each about the line itself.
type (
	imm     struct{ withNumber }
	load    struct{ withLoc }
	store   struct{ withLoc }
	put     struct{ api.Line }
	xchg    struct{ withLoc }
	fence   struct{ api.Line }
	compare struct{ withNumber }
	jmp     struct{ withLabel }
	je      struct{ withLabel }
	jne     struct{ withLabel }
	label   struct{ withLabel }
)

func (k put) right() bool {
	return word.Name(k.Loc) && k.Line == api.Line{Op: k.Op, Loc: k.Loc, N: k.N}
}

func (k fence) right() bool { return k.Line == api.Line{Op: k.Op} }

func (k imm) words() []string     { return []string{movWord, k.Reg, num.Text(k.N)} }
func (k load) words() []string    { return []string{movWord, k.Reg, bracketed(k.Loc)} }
func (k store) words() []string   { return []string{movWord, bracketed(k.Loc), k.Reg} }
func (k put) words() []string     { return []string{movWord, bracketed(k.Loc), num.Text(k.N)} }
func (k xchg) words() []string    { return []string{xchgWord, bracketed(k.Loc), k.Reg} }
func (k fence) words() []string   { return []string{mfenceWord} }
func (k compare) words() []string { return []string{cmpWord, k.Reg, num.Text(k.N)} }
func (k jmp) words() []string     { return []string{jmpWord, k.Label} }
func (k je) words() []string      { return []string{jeWord, k.Label} }
func (k jne) words() []string     { return []string{jneWord, k.Label} }
func (k label) words() []string   { return []string{k.Label + colon} }

// bracketed is the word of a location.
func bracketed(loc string) string { return open + loc + shut }

// inside is the location whose word s would be.
func inside(s string) string { return strings.TrimSuffix(strings.TrimPrefix(s, open), shut) }
