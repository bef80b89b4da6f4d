package run

import (
	"fencepost/api"
	"fencepost/sc"
	"fencepost/tso"
)

// begin is a run of p that has done nothing yet. Each call of it goes on along picks, and tells what Run tells of them.
func begin(p api.Prog, step func(api.State, api.Pick) (api.State, bool)) func([]api.Pick) (api.State, int, bool) {
	s := sc.Begin(p)
	return func(l []api.Pick) (api.State, int, bool) {
		for done, k := range l {
			after, is := step(s, k)
			if !is {
				return s, done, false
			}
			s = after
		}
		return s, len(l), true
	}
}

// machine is a code, with the two ways in which picks of it are done.
type machine struct{ code api.Prog }

// strict does k where writes come there at once, so that there is nothing to drain.
func (m machine) strict(s api.State, k api.Pick) (api.State, bool) {
	if k.Drain {
		return s, false
	}
	return sc.Step(m.code, s, k.Thread)
}

func (m machine) weak(s api.State, k api.Pick) (api.State, bool) { return tso.Step(m.code, s, k) }

// follower does picks strictly, and lays those of the weak run that does as much.
type follower struct {
	machine
	picks []api.Pick
}

func (f *follower) step(s api.State, k api.Pick) (api.State, bool) {
	after, is := f.strict(s, k)
	if !is {
		return after, false
	}
	f.picks = append(f.picks, k)
	// A swap writes, too, but is never on its way.
	switch f.code.Threads[k.Thread][s.Ths[k.Thread].At].Op {
	case api.OpStore, api.OpPut:
		f.picks = append(f.picks, api.Pick{Thread: k.Thread, Drain: true})
	}
	return after, true
}
