package tso

import (
	"iter"

	"fencepost/api"
	"fencepost/buf"
	"fencepost/sc"
)

// able goes through the picks that can be done: it tries each one, thread by thread, the step ahead of the drain.
func able(p api.Prog, s api.State) iter.Seq[api.Pick] {
	return func(yield func(api.Pick) bool) {
		for thread := range p.Threads {
			for _, drain := range [...]bool{false, true} {
				k := api.Pick{Thread: thread, Drain: drain}
				if can(p, s, k) && !yield(k) {
					return
				}
			}
		}
	}
}

// can: can k be done? The state that it would make is not asked for, since Picks needs none.
func can(p api.Prog, s api.State, k api.Pick) bool {
	if !isThread(p, k.Thread) {
		return false
	}
	th, steps := s.Ths[k.Thread], p.Threads[k.Thread]
	if k.Drain {
		return len(th.Buf) > 0
	}
	return th.At < len(steps) && (len(th.Buf) == 0 || !waits(steps[th.At]))
}

// isThread: is there such a thread?
func isThread(p api.Prog, thread int) bool { return 0 <= thread && thread < len(p.Threads) }

// waits: does x wait until nothing is on its thread's way?
func waits(x api.Step) bool { return x.Op == api.OpFence || x.Op == api.OpXchg }

// drained is s in which the thread's oldest write came there.
func drained(p api.Prog, s api.State, thread int) api.State {
	after := own(p, s)
	th := &after.Ths[thread]
	th.Buf, after.Mem, _ = buf.Drain(th.Buf, after.Mem)
	return after
}

// stepped is s behind the thread's step: what layer 10 makes of it, but that it reads what is on its way, and that what it writes goes there.
func stepped(p api.Prog, s api.State, thread int) api.State {
	x := p.Threads[thread][s.Ths[thread].At]
	after, _ := sc.Step(p, s, thread)
	th := &after.Ths[thread]
	switch x.Op {
	case api.OpLoad:
		th.Regs[x.Reg], _ = buf.View(th.Buf, s.Mem, x.Loc)
	case api.OpStore, api.OpPut:
		th.Buf = buf.Push(th.Buf, api.Write{Loc: x.Loc, N: after.Mem[x.Loc]})
		after.Mem[x.Loc] = s.Mem[x.Loc]
	}
	return after
}

// own is a copy of s that shares no list with it.
func own(p api.Prog, s api.State) api.State {
	// There is no thread -1, so that layer 10 leaves all as it is, in lists of its own.
	same, _ := sc.Step(p, s, -1)
	return same
}
