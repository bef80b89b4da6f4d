package slots

import "iter"

// place is where a line or a step stands.
type place struct{ thread, at int }

// all goes through the slots of these threads, in order: it tells each one's number, and the place of its step.
func all[T any](threads [][]T, step func(T) bool) iter.Seq2[int, place] {
	return func(yield func(int, place) bool) {
		n := 0
		for i, t := range threads {
			for at, x := range t {
				if !step(x) {
					continue
				}
				if !yield(n, place{i, at}) {
					return
				}
				n++
			}
		}
	}
}

// count is how many slots these threads have.
func count[T any](threads [][]T, step func(T) bool) int {
	many := 0
	for range all(threads, step) {
		many++
	}
	return many
}

// keys are the numbers of a row that are from 0 to below many.
func keys(row []int, many int) map[int]bool {
	in := map[int]bool{}
	for _, n := range row {
		if 0 <= n && n < many {
			in[n] = true
		}
	}
	return in
}

// chosen are the places of the steps whose slots are in the row.
func chosen[T any](threads [][]T, step func(T) bool, row []int) map[place]bool {
	in, places := keys(row, count(threads, step)), map[place]bool{}
	for n, w := range all(threads, step) {
		if in[n] {
			places[w] = true
		}
	}
	return places
}

// laid are the places at which the fences in the slots of the row stand, if they have been put into these threads already. The row's numbers are those from before, so that such a fence, which is a step now, takes none.
func laid[T any](threads [][]T, step func(T) bool, row []int) map[place]bool {
	in, places := keys(row, count(threads, step)), map[place]bool{}
	next, behindFence := 0, false
	for _, w := range all(threads, step) {
		behindFence = in[next] && !behindFence
		if behindFence {
			places[w] = true
		} else {
			next++
		}
	}
	return places
}

// with is a copy of the threads that has x right ahead of each of these places.
func with[T any](threads [][]T, places map[place]bool, x T) [][]T {
	more := make([][]T, len(threads))
	for i, t := range threads {
		for at, y := range t {
			if places[place{i, at}] {
				more[i] = append(more[i], x)
			}
			more[i] = append(more[i], y)
		}
	}
	return more
}

// without is a copy of the threads that lacks what stands at these places.
func without[T any](threads [][]T, places map[place]bool) [][]T {
	fewer := make([][]T, len(threads))
	for i, t := range threads {
		for at, y := range t {
			if !places[place{i, at}] {
				fewer[i] = append(fewer[i], y)
			}
		}
	}
	return fewer
}

// landing is a function that tells where a jump to a step of that thread, or to its end, goes, when there are fences right ahead of these places. A step's own fence does not move it, since it lands on that.
func landing(fenced map[place]bool, thread, end int) func(int) int {
	return func(to int) int {
		moved := to
		for at := range min(to, end) {
			if fenced[place{thread, at}] {
				moved++
			}
		}
		return moved
	}
}
