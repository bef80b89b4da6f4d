package enc

import (
	"errors"

	"fencepost/api"
)

// How a reading ends: errEnd, if a state was read, and all else if there is none.
var (
	errEnd   = errors.New("the state is whole, and no number is left")
	errLack  = errors.New("a number is lacking")
	errCount = errors.New("a count is below 0, or above how many numbers are left")
	errTruth = errors.New("a number is neither true nor false")
	errLeft  = errors.New("a number is left behind the state")
)

// reader takes numbers, one behind the other. What it answers means something only as long as it has no error.
type reader struct {
	left []int
	err  error
}

// keep keeps the first error: those behind it come but from that.
func (r *reader) keep(err error) {
	if r.err == nil {
		r.err = err
	}
}

// end tells that the state is read.
func (r *reader) end() {
	if len(r.left) > 0 {
		r.keep(errLeft)
	}
	r.keep(errEnd)
}

// many takes a count, and then as many items.
func many[T any](r *reader, take func() T) []T {
	n := r.number()
	if n < 0 || n > len(r.left) {
		r.keep(errCount)
	}
	// The list grows by what is really taken, since a count, if it is wrong, may be far above that.
	var items []T
	for range n {
		if r.err != nil {
			return nil
		}
		items = append(items, take())
	}
	return items
}

func (r *reader) number() int {
	if len(r.left) == 0 {
		r.keep(errLack)
		return 0
	}
	n := r.left[0]
	r.left = r.left[1:]
	return n
}

// state takes one; here, and below, the parts are taken in the order in which they are written.
func (r *reader) state() api.State {
	return api.State{Mem: many(r, r.number), Ths: many(r, r.thread)}
}

func (r *reader) thread() api.Th {
	return api.Th{At: r.number(), Eq: r.truth(), Regs: many(r, r.number), Buf: many(r, r.write)}
}

func (r *reader) truth() bool {
	n := r.number()
	if n != 0 && n != 1 {
		r.keep(errTruth)
	}
	return n == 1
}

func (r *reader) write() api.Write { return api.Write{Loc: r.number(), N: r.number()} }
