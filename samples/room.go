package samples

import "fencepost/api"

// Roomy is a list with spare room in which x stands.
func Roomy[T any](x T, l ...T) []T { return append(l, x, x, x)[:len(l)] }

// Overwrite writes over all of a list, its spare room, too.
func Overwrite[T any](l []T, x T) {
	l = l[:cap(l)]
	for i := range l {
		l[i] = x
	}
}

// OverwriteState writes over all of a state.
func OverwriteState(s api.State) {
	Overwrite(s.Mem, 77)
	for _, th := range s.Ths {
		Overwrite(th.Regs, 77)
		Overwrite(th.Buf, api.Write{Loc: 77})
	}
	Overwrite(s.Ths, api.Th{At: 77})
}

// WholeState is all that there is of a state, with the spare room of all its lists.
func WholeState(s api.State) []any {
	all := []any{len(s.Mem), s.Mem[:cap(s.Mem)], len(s.Ths)}
	for _, th := range s.Ths[:cap(s.Ths)] {
		all = append(all, th.At, th.Eq, len(th.Regs), th.Regs[:cap(th.Regs)], len(th.Buf), th.Buf[:cap(th.Buf)])
	}
	return all
}

// WholeCode is all that there is of a code, with the spare room of all its lists.
func WholeCode(p api.Prog) []any {
	all := []any{len(p.Init), p.Init[:cap(p.Init)], len(p.Threads)}
	for _, t := range p.Threads[:cap(p.Threads)] {
		all = append(all, len(t), t[:cap(t)])
	}
	return all
}
