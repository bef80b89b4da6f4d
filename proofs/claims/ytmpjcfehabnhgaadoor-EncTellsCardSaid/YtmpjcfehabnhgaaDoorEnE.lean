/-
  THE ERRORS OF PACKAGE enc, and errors.Is of one of them: which it is.
-/
import Derived.Test.YtmpjcfehabnhgaaDoorScP
import Derived.LaidEql
import Derived.Stop.Asserts
import Derived.Stop.LaidErr
import Derived.LaidMore
import Derived.RowKitTokens
namespace Go.Proofs.YtmpjcfehabnhgaaDoor
open Go.RowKit Go.Extern.Stop Go.Stop Go.Extern
set_option linter.unusedVariables false
set_option linter.unusedSimpArgs false
namespace EE
theorem isTypeOf (v : Value) (w : World) : (Extern.ReflectliteType.typeOf #[.iface 128 v]).run Tryd.prog w = .ok (.iface 99 (.agg #[.pointer (some ⟨6, 128, none⟩)])) w := by kernel_rfl
theorem isComparable (w : World) : ((Extern.ReflectliteType.method fun t => do Rtype.noPackHeld "Comparable" t; (fun a => Value.bool a.comparable) <$> typeInfo t) #[.agg #[.pointer (some ⟨6, 128, none⟩)]]).run Tryd.prog w = .ok (.bool true) w := by kernel_rfl
theorem isMethodComparable (v : Value) (w : World) : (Go.method 260 99 v "Comparable").run Tryd.prog w = .ok (94, v) w := by kernel_rfl
theorem isComp : (Tryd.prog.info? 128).map (·.comparable) = some true := by kernel_rfl
theorem isSize : (Tryd.prog.info? 150).map (·.size) = some 1 := by kernel_rfl
theorem noIsE (v : Value) (xT : TypeId) (w : World) : (Instr.typeAssert (.iface 128 v) xT 101 true).run Tryd.prog w = .ok (.tuple #[.nilIface, .bool false]) w := run_typeAssert_lacksB Tryd.underlying101 (by kernel_rfl) (by kernel_rfl) v xT w
theorem noUnwrapE (v : Value) (xT : TypeId) (w : World) : (Instr.typeAssert (.iface 128 v) xT 104 true).run Tryd.prog w = .ok (.tuple #[.nilIface, .bool false]) w := run_typeAssert_lacksB Tryd.underlying104 (by kernel_rfl) (by kernel_rfl) v xT w
theorem noUnwrapsE (v : Value) (xT : TypeId) (w : World) : (Instr.typeAssert (.iface 128 v) xT 106 true).run Tryd.prog w = .ok (.tuple #[.nilIface, .bool false]) w := run_typeAssert_lacksB Tryd.underlying106 (by kernel_rfl) (by kernel_rfl) v xT w
end EE
/-- An error of errors.New's make, at a. -/
abbrev erV (a : Addr) : Value := .iface 128 (.pointer (some a))
/-- Some other error than the one at a0. -/
def Bd (B : Nat) (a0 : Addr) (W : World) (e : Value) : Prop := ∃ a, e = erV a ∧ a ≠ a0 ∧ a.block < B ∧ ∃ c t, W.heap[a.block]? = some (.cells c t (0, 0))
theorem Bd.below {B : Nat} {a0 : Addr} {W W' : World} {e : Value} (h : Bd B a0 W e) (hb : Below B W W') : Bd B a0 W' e := by
  obtain ⟨a, h1, h2, h3, c, t, h4⟩ := h
  exact ⟨a, h1, h2, h3, c, t, (hb.block _ h3).trans h4⟩
/-- The listed errors: errEnd stands at a0, the others elsewhere. -/
structure ErG (B : Nat) (a0 : Addr) (W : World) : Prop where
  cEnd : W.cell? ⟨0, 0, none⟩ = some (erV a0)
  hEnd : a0.block < B ∧ ∃ c t, W.heap[a0.block]? = some (.cells c t (0, 0))
  cLeft : ∃ e, W.cell? ⟨1, 0, none⟩ = some e ∧ Bd B a0 W e
  cCount : ∃ e, W.cell? ⟨2, 0, none⟩ = some e ∧ Bd B a0 W e
  cLack : ∃ e, W.cell? ⟨3, 0, none⟩ = some e ∧ Bd B a0 W e
  cTruth : ∃ e, W.cell? ⟨4, 0, none⟩ = some e ∧ Bd B a0 W e
  hB : 5 ≤ B
theorem ErG.below {B : Nat} {a0 : Addr} {W W' : World} (h : ErG B a0 W) (hb : Below B W W') : ErG B a0 W' := by
  obtain ⟨h0, ⟨h1, c, t, h2⟩, ⟨e1, h3, h4⟩, ⟨e2, h5, h6⟩, ⟨e3, h7, h8⟩, ⟨e4, h9, h10⟩, hB⟩ := h
  exact ⟨(hb.cell (p := ⟨0, 0, none⟩) (by show (0 : Nat) < B; omega)).trans h0, ⟨h1, c, t, (hb.block _ h1).trans h2⟩,
    ⟨e1, (hb.cell (p := ⟨1, 0, none⟩) (by show (1 : Nat) < B; omega)).trans h3, h4.below hb⟩,
    ⟨e2, (hb.cell (p := ⟨2, 0, none⟩) (by show (2 : Nat) < B; omega)).trans h5, h6.below hb⟩,
    ⟨e3, (hb.cell (p := ⟨3, 0, none⟩) (by show (3 : Nat) < B; omega)).trans h7, h8.below hb⟩,
    ⟨e4, (hb.cell (p := ⟨4, 0, none⟩) (by show (4 : Nat) < B; omega)).trans h9, h10.below hb⟩, hB⟩
theorem ErG.more {B B' : Nat} {a0 : Addr} {W : World} (h : ErG B a0 W) (hb : B ≤ B') : ErG B' a0 W := by
  obtain ⟨h0, ⟨h1, h2⟩, ⟨e1, h3, x1, a1, b1, c1, d1⟩, ⟨e2, h5, x2, a2, b2, c2, d2⟩, ⟨e3, h7, x3, a3, b3, c3, d3⟩, ⟨e4, h9, x4, a4, b4, c4, d4⟩, hB⟩ := h
  exact ⟨h0, ⟨by omega, h2⟩, ⟨e1, h3, x1, a1, b1, by omega, d1⟩, ⟨e2, h5, x2, a2, b2, by omega, d2⟩, ⟨e3, h7, x3, a3, b3, by omega, d3⟩, ⟨e4, h9, x4, a4, b4, by omega, d4⟩, by omega⟩
set_option maxHeartbeats 4000000 in
set_option maxRecDepth 100000 in
/-- errors.Is(x, x). -/
theorem is_same (a : Addr) (w : World) :
    Calls Tryd.prog 24 #[erV a, erV a] w fun e w' => e = .returned (.bool true) ∧ w' = w := by
  obtain ⟨i, hi, hcmp⟩ := Option.map_eq_some_iff.1 EE.isComp
  obtain ⟨j, hj, hjs⟩ := Option.map_eq_some_iff.1 EE.isSize
  have h8 := @run_callFunc_extern Tryd.prog 42 _ Extern.ReflectliteType.typeOf Tryd.func42 (by kernel_rfl) (by kernel_rfl) (by kernel_rfl) (by kernel_rfl)
  have h32 := @run_callFunc_extern Tryd.prog 94 _ (Extern.ReflectliteType.method fun t => do Rtype.noPackHeld "Comparable" t; pure (.bool (← typeInfo t).comparable)) Tryd.func94 (by kernel_rfl) (by kernel_rfl) (by kernel_rfl) (by kernel_rfl)
  have tT := EE.isTypeOf
  have cT := EE.isComparable
  have mR := EE.isMethodComparable
  have heq := run_eql_iface_ptr_same (P := Tryd.prog) w a Tryd.underlying46 Tryd.underlying128 hi hcmp hj
  unfold erV
  go_enter Tryd.func24, Tryd.ntmps24
  go_wp2
  refine wp_loop_rounds 1 ?_
  rw [rounds_succ]
  go_wp2
  go_ret
  exact ⟨rfl, rfl⟩
set_option maxHeartbeats 4000000 in
set_option maxRecDepth 100000 in
/-- errors.Is(x, y), two different errors of errors.New's make. -/
theorem is_other (a b : Addr) (ca cb : Array Value) (ta tb : TypeId) (w : World) (hne : a ≠ b) (ha : w.heap[a.block]? = some (.cells ca ta (0, 0))) (hb : w.heap[b.block]? = some (.cells cb tb (0, 0))) :
    Calls Tryd.prog 24 #[erV a, erV b] w fun e w' => e = .returned (.bool false) ∧ w' = w := by
  obtain ⟨i, hi, hcmp⟩ := Option.map_eq_some_iff.1 EE.isComp
  obtain ⟨j, hj, hjs⟩ := Option.map_eq_some_iff.1 EE.isSize
  have h8 := @run_callFunc_extern Tryd.prog 42 _ Extern.ReflectliteType.typeOf Tryd.func42 (by kernel_rfl) (by kernel_rfl) (by kernel_rfl) (by kernel_rfl)
  have h32 := @run_callFunc_extern Tryd.prog 94 _ (Extern.ReflectliteType.method fun t => do Rtype.noPackHeld "Comparable" t; pure (.bool (← typeInfo t).comparable)) Tryd.func94 (by kernel_rfl) (by kernel_rfl) (by kernel_rfl) (by kernel_rfl)
  have tT := EE.isTypeOf
  have cT := EE.isComparable
  have mR := EE.isMethodComparable
  have nE := EE.noIsE
  have uE := EE.noUnwrapE
  have vE := EE.noUnwrapsE
  have heq := run_eql_iface_ptr_other (P := Tryd.prog) w Tryd.underlying46 Tryd.underlying128 hi hcmp hj (by rw [hjs]; decide) hne ha hb
  unfold erV
  go_enter Tryd.func24, Tryd.ntmps24
  go_wp2
  refine wp_loop_rounds 1 ?_
  rw [rounds_succ]
  go_wp2
  go_ret
  exact ⟨rfl, rfl⟩
end Go.Proofs.YtmpjcfehabnhgaaDoor
