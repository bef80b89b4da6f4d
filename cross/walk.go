package cross

import (
	"iter"
	"maps"
	"slices"

	"fencepost/api"
	"fencepost/sc"
	"fencepost/slots"
	"fencepost/tso"
)

// none is the slot of a drain.
const none = -1

// way is the slot at which a pick was done, and whether it was crossed there.
type way struct {
	slot    int
	crossed bool
}

// along goes through a weak run of p: it tells each pick of l with its way, and ends where one can't be done.
func along(p api.Prog, l []api.Pick) iter.Seq2[api.Pick, way] {
	return func(yield func(api.Pick, way) bool) {
		s := sc.Begin(p)
		for _, k := range l {
			after, is := tso.Step(p, s, k)
			if !is || !yield(k, at(p, s, k)) {
				return
			}
			s = after
		}
	}
}

// at is the way of k, which can be done in s.
func at(p api.Prog, s api.State, k api.Pick) way {
	if k.Drain {
		return way{slot: none}
	}
	th := s.Ths[k.Thread]
	return way{slots.Num(p, k.Thread, th.At), len(th.Buf) > 0}
}

// goes: can a run of p do all of l, and may each pick go its way?
func goes(p api.Prog, l []api.Pick, may func(api.Pick, way) bool) bool {
	many := 0
	for k, w := range along(p, l) {
		if !may(k, w) {
			return false
		}
		many++
	}
	return many == len(l)
}

// chosen are the slots of p that are in the row.
func chosen(p api.Prog, row []int) map[int]bool {
	in, many := map[int]bool{}, slots.Many(p)
	for _, n := range row {
		if 0 <= n && n < many {
			in[n] = true
		}
	}
	return in
}

// laid are the slots of the fences themselves, once they have been put into these slots: each of them moves all that is behind it on by one.
func laid(fenced map[int]bool) map[int]bool {
	fences := map[int]bool{}
	for ahead, slot := range slices.Sorted(maps.Keys(fenced)) {
		fences[slot+ahead] = true
	}
	return fences
}
