// Package faces holds the layers' calls against the signatures that the document's chapters list.
package faces

import (
	"testing"

	"fencepost/adm"
	"fencepost/api"
	"fencepost/buf"
	"fencepost/cert"
	"fencepost/cfg"
	"fencepost/code"
	"fencepost/cond"
	"fencepost/crit"
	"fencepost/cross"
	"fencepost/enc"
	"fencepost/expl"
	"fencepost/fix"
	"fencepost/hit"
	"fencepost/loop"
	"fencepost/num"
	"fencepost/ops"
	"fencepost/outs"
	"fencepost/parse"
	"fencepost/run"
	"fencepost/sc"
	"fencepost/show"
	"fencepost/slots"
	"fencepost/tso"
	"fencepost/valid"
	"fencepost/word"
)

// The compiler does the work here: a call with another signature can't stand on the right.
var (
	_ func(n int) string           = num.Text
	_ func(s string) (int, bool)   = num.Get
	_ func(a string, b string) int = num.Compare

	_ func(s string) []string = word.Lines
	_ func(s string) []string = word.Words
	_ func(s string) bool     = word.Name
	_ func(s string) int      = word.Reg
	_ func(n int) string      = word.RegName

	_ func(l api.Line) bool             = ops.Right
	_ func(l api.Line) []string         = ops.Words
	_ func(w []string) (api.Line, bool) = ops.Get
	_ func(a api.Atom) bool             = ops.Asked
	_ func(a api.Atom) string           = ops.Word
	_ func(s string) (api.Atom, bool)   = ops.Atom

	_ func(f api.File) (int, int, api.Errno) = valid.Check
	_ func(f api.File) bool                  = valid.Right
	_ func(f api.File) []string              = valid.Locs

	_ func(s string) (api.File, int, api.Errno) = parse.Parse

	_ func(f api.File) string = show.Print
	_ func(l api.Line) string = show.Line

	_ func(f api.File) (api.Prog, api.Errno)     = code.Code
	_ func(f api.File, thread int, line int) int = code.At
	_ func(f api.File, thread int, at int) int   = code.Line
	_ func(p api.Prog) bool                      = code.Right

	_ func(p api.Prog) int                       = slots.Many
	_ func(p api.Prog, n int) (int, int, bool)   = slots.Of
	_ func(p api.Prog, thread int, at int) int   = slots.Num
	_ func(p api.Prog, g []int) api.Prog         = slots.Insert
	_ func(f api.File, g []int) api.File         = slots.Fence
	_ func(f api.File, g []int) (api.File, bool) = slots.Erase

	_ func(b []api.Write, w api.Write) []api.Write              = buf.Push
	_ func(b []api.Write, loc int) (int, bool)                  = buf.Last
	_ func(b []api.Write, mem []int, loc int) (int, bool)       = buf.View
	_ func(b []api.Write, mem []int) ([]api.Write, []int, bool) = buf.Drain
	_ func(b []api.Write, mem []int) []int                      = buf.All

	_ func(p api.Prog, s api.State) bool                          = sc.Right
	_ func(p api.Prog) api.State                                  = sc.Begin
	_ func(p api.Prog, s api.State, thread int) (api.State, bool) = sc.Step

	_ func(p api.Prog, s api.State, k api.Pick) (api.State, bool) = tso.Step
	_ func(p api.Prog, s api.State) []api.Pick                    = tso.Picks
	_ func(p api.Prog, s api.State, thread int) api.State         = tso.Flush

	_ func(s api.State) []int          = enc.Nums
	_ func(l []int) (api.State, bool)  = enc.Of
	_ func(s api.State) string         = enc.Key
	_ func(k string) (api.State, bool) = enc.Read

	_ func(p api.Prog, l []api.Pick, weak bool) (api.State, int, bool) = run.Run
	_ func(p api.Prog, s api.State) bool                               = run.Over
	_ func(s api.State) api.Out                                        = run.End
	_ func(p api.Prog, l []api.Pick, weak bool) (api.Out, bool)        = run.Ends
	_ func(p api.Prog, l []api.Pick) ([]api.Pick, bool)                = run.Strict

	_ func(p api.Prog, l []api.Pick) ([]int, bool)               = cross.Cross
	_ func(p api.Prog, g []int, l []api.Pick) ([]api.Pick, bool) = cross.Lower
	_ func(p api.Prog, g []int, l []api.Pick) ([]api.Pick, bool) = cross.Raise

	_ func(a api.Out, b api.Out) bool          = outs.Less
	_ func(l []api.Out, o api.Out) []api.Out   = outs.Put
	_ func(l []api.Out, o api.Out) bool        = outs.Has
	_ func(a []api.Out, b []api.Out) []api.Out = outs.Minus
	_ func(l []api.Out) []api.Out              = outs.Of
	_ func(l []api.Out) bool                   = outs.Set

	_ func(p api.Prog, weak bool, fuel int) ([]api.Found, int, bool) = expl.Explore
	_ func(l []api.Found) []api.Out                                  = expl.Ends

	_ func(f api.File, o api.Out) bool   = cond.Holds
	_ func(f api.File, l []api.Out) bool = cond.Value

	_ func(l []api.Step, at int) []int          = cfg.Next
	_ func(l []api.Step, from int, to int) bool = cfg.Reach
	_ func(l []api.Step, from int, to int) bool = cfg.Free
	_ func(l []api.Step) []bool                 = cfg.Met

	_ func(p api.Prog) []int          = adm.Slots
	_ func(p api.Prog, g []int) []int = adm.Keep

	_ func(p api.Prog) []api.Pair                                  = crit.Pairs
	_ func(p api.Prog) []int                                       = crit.Upper
	_ func(p api.Prog, thread int, at int, other int, to int) bool = crit.Comes

	_ func(g []int, l [][]int) bool = hit.Hits
	_ func(a []int, b []int) bool   = hit.Below
	_ func(l [][]int) ([]int, bool) = hit.Least

	_ func(p api.Prog, fuel int) (api.Answer, bool) = loop.Solve

	_ func(p api.Prog, a api.Answer) bool                        = cert.Check
	_ func(p api.Prog, a api.Answer, g []int) ([]api.Pick, bool) = cert.Beats

	_ func(s string, fuel int) api.Report = fix.Fix
	_ func(r api.Report) string           = fix.Tell
)

func TestErrorsAndLimitsAreAsGiven(t *testing.T) {
	for e, n := range map[api.Errno]int{api.OK: 0, api.ErrArg: 1, api.ErrFull: 5, api.ErrLine: 11, api.ErrTwice: 21, api.ErrName: 22, api.ErrFence: 23, api.ErrFuel: 41} {
		if int(e) != n || e.Error() != "fencepost: error "+num.Text(n) {
			t.Error(n, e.Error())
		}
	}
	limits := []int{api.MaxText, api.MaxName, api.MaxThreads, api.MaxOps, api.MaxLabels, api.MaxLocs, api.MaxAtoms, api.MaxRegs, api.MaxFuel}
	for i, n := range []int{4000, 8, 3, 8, 8, 4, 6, 4, 20000} {
		if limits[i] != n {
			t.Error(i, limits[i])
		}
	}
	kinds := []int{api.OpImm, api.OpLoad, api.OpStore, api.OpPut, api.OpXchg, api.OpFence, api.OpCmp, api.OpJmp, api.OpJe, api.OpJne, api.OpLabel}
	for i, n := range kinds {
		if n != i+1 {
			t.Error(i, n)
		}
	}
}
