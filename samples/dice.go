package samples

import (
	"fencepost/api"
	"fencepost/sc"
)

// Dice throws numbers that are the same each time.
type Dice uint64

// Below is a number from 0 to n - 1.
func (d *Dice) Below(n int) int {
	*d = *d*6364136223846793005 + 1442695040888963407
	return int(uint64(*d) >> 33 % uint64(n))
}

// Steps are n of a thread, in a code of so many locations.
func (d *Dice) Steps(n, locs int) []api.Step {
	var l []api.Step
	for at := range n {
		x := api.Step{Op: api.OpImm + d.Below(api.OpJne)}
		if locs == 0 {
			x.Op = []int{api.OpImm, api.OpFence, api.OpCmp, api.OpJmp, api.OpJe, api.OpJne}[d.Below(6)]
		}
		switch x.Op {
		case api.OpImm, api.OpCmp:
			x.Reg, x.N = d.Below(4), d.Below(3)
		case api.OpLoad, api.OpStore, api.OpXchg:
			x.Reg, x.Loc = d.Below(4), d.Below(locs)
		case api.OpPut:
			x.Loc, x.N = d.Below(locs), d.Below(3)
		case api.OpJmp, api.OpJe, api.OpJne:
			x.To = at + 1 + d.Below(min(n-at, 5))
		}
		l = append(l, x)
	}
	return l
}

// Code is a right one.
func (d *Dice) Code() api.Prog { return d.codeOf(0, 1, 4, 9, 40, 80) }

// ShortCode is a right one that still is, when fences are put into all of its slots.
func (d *Dice) ShortCode() api.Prog { return d.codeOf(0, 1, 4, 9, 14, 40) }

// codeOf is a right code whose threads are each of one of these lengths.
func (d *Dice) codeOf(lengths ...int) api.Prog {
	p := api.Prog{Init: make([]int, d.Below(5))}
	for loc := range p.Init {
		p.Init[loc] = d.Below(3)
	}
	for range 1 + d.Below(3) {
		p.Threads = append(p.Threads, d.Steps(lengths[d.Below(len(lengths))], len(p.Init)))
	}
	return p
}

// State is a right one of p, perhaps one that no run comes to.
func (d *Dice) State(p api.Prog) api.State {
	s := sc.Begin(p)
	for loc := range s.Mem {
		s.Mem[loc] = d.Below(3)
	}
	for i := range s.Ths {
		th := &s.Ths[i]
		th.At, th.Eq = d.Below(len(p.Threads[i])+1), d.Below(2) == 0
		for reg := range th.Regs {
			th.Regs[reg] = d.Below(3)
		}
		for range d.Below(4) * len(s.Mem) {
			th.Buf = append(th.Buf, api.Write{Loc: d.Below(len(s.Mem)), N: d.Below(3)})
		}
	}
	return s
}
