package enc

import "fencepost/api"

// writer lays numbers behind one another, in the order in which a reader takes them.
type writer struct{ nums []int }

// counted lays how many items there are, and then what put lays of each.
func counted[T any](w *writer, items []T, put func(T)) {
	w.number(len(items))
	for _, x := range items {
		put(x)
	}
}

func (w *writer) number(n int) { w.nums = append(w.nums, n) }

func (w *writer) state(s api.State) {
	counted(w, s.Mem, w.number)
	counted(w, s.Ths, w.thread)
}

func (w *writer) thread(th api.Th) {
	w.number(th.At)
	w.truth(th.Eq)
	counted(w, th.Regs, w.number)
	counted(w, th.Buf, w.write)
}

func (w *writer) truth(is bool) {
	if is {
		w.number(1)
	} else {
		w.number(0)
	}
}

func (w *writer) write(x api.Write) {
	w.number(x.Loc)
	w.number(x.N)
}
