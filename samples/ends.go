package samples

import (
	"slices"

	"fencepost/api"
)

// AlikeEnds: does the same stand in both ends? (An empty list may be nil or not.)
func AlikeEnds(a, b api.Out) bool {
	return slices.Equal(a.Mem, b.Mem) && slices.Equal(a.Regs, b.Regs)
}

// AlikeRows: do the same ends stand in both rows?
func AlikeRows(a, b []api.Out) bool { return slices.EqualFunc(a, b, AlikeEnds) }

// CloneEnds are ends in which the same stands, and that share no list with l.
func CloneEnds(l []api.Out) []api.Out {
	var c []api.Out
	for _, o := range l {
		c = append(c, api.Out{Mem: slices.Clone(o.Mem), Regs: slices.Clone(o.Regs)})
	}
	return c
}

// RoomyEnds are these ends, with spare room everywhere.
func RoomyEnds(l []api.Out) []api.Out {
	end := func(o api.Out) api.Out {
		return api.Out{Mem: Roomy(66, slices.Clone(o.Mem)...), Regs: Roomy(66, slices.Clone(o.Regs)...)}
	}
	roomy := []api.Out{}
	for _, o := range l {
		roomy = append(roomy, end(o))
	}
	return Roomy(end(api.Out{Mem: []int{66}}), roomy...)
}

// OverwriteEnds writes over all of a row of ends.
func OverwriteEnds(l []api.Out) {
	for _, o := range l[:cap(l)] {
		Overwrite(o.Mem, 77)
		Overwrite(o.Regs, 77)
	}
	Overwrite(l, api.Out{Mem: []int{77}})
}

// ApartEnds: do no two lists of a row of ends share room? It writes over all of them.
func ApartEnds(l []api.Out) bool {
	var rows [][]int
	for _, o := range l[:cap(l)] {
		rows = append(rows, o.Mem, o.Regs)
	}
	return apart(rows, func(k int) int { return k })
}

// WholeEnds is all that there is of a row of ends, with the spare room of all its lists.
func WholeEnds(l []api.Out) []any {
	all := []any{len(l)}
	for _, o := range l[:cap(l)] {
		all = append(all, len(o.Mem), o.Mem[:cap(o.Mem)], len(o.Regs), o.Regs[:cap(o.Regs)])
	}
	return all
}
