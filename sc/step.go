package sc

import "fencepost/api"

// row is what locations have, or a thread's registers.
type row []int

// at points to the number at place n.
func (r row) at(n int) *int { return &r[n] }

// lacks: does w write to no place of the row?
func (r row) lacks(w api.Write) bool { return w.Loc < 0 || w.Loc >= len(r) }

// do has a thread do its step, where locations have mem.
func do(s api.Step, th *api.Th, mem []int) {
	// A place is asked for only where a step has one: there may be no locations at all.
	reg, cell := row(th.Regs).at, row(mem).at
	th.At++
	switch n, so := s.N, th.Eq; s.Op {
	case api.OpLoad:
		n = *cell(s.Loc)
		fallthrough
	case api.OpImm:
		*reg(s.Reg) = n
	case api.OpStore:
		n = *reg(s.Reg)
		fallthrough
	case api.OpPut:
		*cell(s.Loc) = n
	case api.OpXchg:
		r, c := reg(s.Reg), cell(s.Loc)
		*r, *c = *c, *r
	case api.OpFence:
		// Writes have come there at once, so that there is nothing to wait for.
	case api.OpCmp:
		th.Eq = *reg(s.Reg) == n
	case api.OpJne:
		so = !so
		fallthrough
	case api.OpJe:
		if !so {
			break
		}
		fallthrough
	case api.OpJmp:
		th.At = s.To
	}
}
