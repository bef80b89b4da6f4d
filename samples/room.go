package samples

import (
	"slices"

	"fencepost/api"
)

// Roomy is a list with spare room in which x stands.
func Roomy[T any](x T, l ...T) []T { return append(l, x, x, x)[:len(l)] }

// Overwrite writes over all of a list, its spare room, too.
func Overwrite[T any](l []T, x T) {
	l = l[:cap(l)]
	for i := range l {
		l[i] = x
	}
}

// OverwriteState writes over all of a state.
func OverwriteState(s api.State) {
	Overwrite(s.Mem, 77)
	for _, th := range s.Ths {
		Overwrite(th.Regs, 77)
		Overwrite(th.Buf, api.Write{Loc: 77})
	}
	Overwrite(s.Ths, api.Th{At: 77})
}

// Apart: do no two lists of a state share room? It writes over all of them.
func Apart(s api.State) bool {
	rows, bufs := [][]int{s.Mem}, [][]api.Write{}
	for _, th := range s.Ths {
		rows, bufs = append(rows, th.Regs), append(bufs, th.Buf)
	}
	return apart(rows, func(k int) int { return k }) && apart(bufs, func(k int) api.Write { return api.Write{N: k} })
}

// apart: do no two of these lists share room? Each is written over with a mark of its own.
func apart[T comparable](lists [][]T, mark func(int) T) bool {
	for k, l := range lists {
		Overwrite(l, mark(100+k))
	}
	for k, l := range lists {
		if slices.ContainsFunc(l[:cap(l)], func(x T) bool { return x != mark(100+k) }) {
			return false
		}
	}
	return true
}

// WholeState is all that there is of a state, with the spare room of all its lists.
func WholeState(s api.State) []any {
	all := []any{len(s.Mem), s.Mem[:cap(s.Mem)], len(s.Ths)}
	for _, th := range s.Ths[:cap(s.Ths)] {
		all = append(all, th.At, th.Eq, len(th.Regs), th.Regs[:cap(th.Regs)], len(th.Buf), th.Buf[:cap(th.Buf)])
	}
	return all
}

// WholeCode is all that there is of a code, with the spare room of all its lists.
func WholeCode(p api.Prog) []any {
	all := []any{len(p.Init), p.Init[:cap(p.Init)], len(p.Threads)}
	for _, t := range p.Threads[:cap(p.Threads)] {
		all = append(all, len(t), t[:cap(t)])
	}
	return all
}
