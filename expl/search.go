package expl

import (
	"slices"

	"fencepost/api"
	"fencepost/enc"
	"fencepost/outs"
	"fencepost/run"
	"fencepost/sc"
	"fencepost/tso"
)

// reached is a state, and the last pick of the way to it, behind the way to the state at that place of the row.
type reached struct {
	state api.State
	from  int
	pick  api.Pick
}

// search is what is reached of a code. The row goes by the states' ways: what is reached from a state waits behind what is reached from those ahead of it.
type search struct {
	code api.Prog
	weak bool
	row  []reached
	met  map[string]bool
}

// begin is a search that has reached the first state alone.
func begin(p api.Prog, weak bool) *search {
	s := &search{code: p, weak: weak, met: map[string]bool{}}
	s.meet(reached{state: sc.Begin(p)})
	return s
}

// all goes from state to state until all are reached, and tells if they are not more than most.
func (s *search) all(most int) bool {
	for at := 0; at < len(s.row); at++ {
		// A strict run has nothing on its way, so that these picks are those that it can do, too.
		for _, k := range tso.Picks(s.code, s.row[at].state) {
			s.meet(s.behind(at, k))
			if len(s.row) > most {
				goto end
			}
		}
	}
end:
	return len(s.row) <= most
}

// meet lays r behind the row, but if its state was met: what was met first has the way ahead of all others.
func (s *search) meet(r reached) {
	key := enc.Key(r.state)
	if !s.met[key] {
		s.met[key] = true
		s.row = append(s.row, r)
	}
}

// behind is what the pick k, which can be done, makes of the state at that place.
func (s *search) behind(at int, k api.Pick) reached {
	r := reached{from: at, pick: k}
	if s.weak {
		r.state, _ = tso.Step(s.code, s.row[at].state, k)
	} else {
		r.state, _ = sc.Step(s.code, s.row[at].state, k.Thread)
	}
	return r
}

// ending is an end, and the place of a state that has it.
type ending struct {
	out api.Out
	at  int
}

// found are the ends in their order, each once, with the way to the first of the states that have it.
func (s *search) found() []api.Found {
	l := s.endings()
	// Alike ends stay as they stood in the row, so that the first one has the way ahead of the others'.
	slices.SortStableFunc(l, order)
	l = slices.CompactFunc(l, func(a, b ending) bool { return order(a, b) == 0 })
	found := make([]api.Found, 0, len(l))
	for _, e := range l {
		found = append(found, api.Found{Out: e.out, Picks: s.way(e.at)})
	}
	return found
}

// endings are those of the states that are over, in the row's order.
func (s *search) endings() []ending {
	var l []ending
	for at, r := range s.row {
		if run.Over(s.code, r.state) {
			l = append(l, ending{run.End(r.state), at})
		}
	}
	return l
}

// order is below 0, if the end of a is ahead, above 0, if that of b is, and 0, if they are alike.
func order(a, b ending) int {
	switch {
	case outs.Less(a.out, b.out):
		return -1
	case outs.Less(b.out, a.out):
		return 1
	}
	return 0
}

// way is the way to the state at that place.
func (s *search) way(at int) []api.Pick {
	var l []api.Pick
	for at > 0 {
		l = append(l, s.row[at].pick)
		at = s.row[at].from
	}
	slices.Reverse(l)
	return l
}
