/-
  errors.As AT A FAULT OF PACKAGE valid, closed facts: what the model's entries for internal/reflectlite say at the types of this program.
  errors.As AT A FAULT OF PACKAGE valid: the entries of internal/reflectlite that read and write memory, with a premise on the cell.
  errors.As AT A FAULT OF PACKAGE valid: Go's own text of errors.As and errors.as is walked. A nil error: false. A fault into a fault: it is set. A fault into an Errno: it is unwrapped, and that is set.
  errors.As AT A FAULT OF PACKAGE valid, into an Errno: it is unwrapped, and that is set.
-/
import Derived.Test.YtaelfjphgdlbcaaGreatDoorBase
import Derived.LaidEql
import Derived.Stop.Asserts
import Derived.RowKitTokens
namespace Go.Proofs.YtaelfjphgdlbcaaGreatDoor
open Go.RowKit Go.Extern.Stop Go.Stop Go.Extern
set_option linter.unusedVariables false
set_option linter.unusedSimpArgs false
namespace EA
theorem vPF (t : Addr) (w : World) : (ReflectliteValue.unpack (.iface 95 (.pointer (some t)))).run Tryz.prog w = .ok (.agg #[.pointer (some ⟨3, 95, none⟩), .pointer (some ⟨w.heap.size, 0, none⟩), .int .u64 150]) (w.alloc (.cells #[.pointer (some t)] 95)) := by kernel_rfl
theorem vPN (t : Addr) (w : World) : (ReflectliteValue.unpack (.iface 96 (.pointer (some t)))).run Tryz.prog w = .ok (.agg #[.pointer (some ⟨3, 96, none⟩), .pointer (some ⟨w.heap.size, 0, none⟩), .int .u64 150]) (w.alloc (.cells #[.pointer (some t)] 96)) := by kernel_rfl
theorem vTF (a b : Int) (x : Value) (w : World) : (ReflectliteValue.unpack (.iface 92 (.agg #[.int .i64 a, .int .i64 b, x]))).run Tryz.prog w = .ok (.agg #[.pointer (some ⟨3, 92, none⟩), .pointer (some ⟨w.heap.size, 0, none⟩), .int .u64 153]) (w.alloc (.cells #[.int .i64 a, .int .i64 b, x] 92)) := by kernel_rfl
theorem vTN (e : Int) (w : World) : (ReflectliteValue.unpack (.iface 32 (.int .i64 e))).run Tryz.prog w = .ok (.agg #[.pointer (some ⟨3, 32, none⟩), .pointer (some ⟨w.heap.size, 0, none⟩), .int .u64 130]) (w.alloc (.cells #[.int .i64 e] 32)) := by kernel_rfl
theorem tyPF (a : Addr) (w : World) : (ReflectliteValue.methodAny (ReflectliteValue.valueError "reflectlite.Value.Type" 0) (fun t _ _ _ => ReflectliteType.toType t) #[.agg #[.pointer (some ⟨3, 95, none⟩), .pointer (some a), .int .u64 150]]).run Tryz.prog w = .ok (.iface 121 (.agg #[.pointer (some ⟨3, 95, none⟩)])) w := by kernel_rfl
theorem tyPN (a : Addr) (w : World) : (ReflectliteValue.methodAny (ReflectliteValue.valueError "reflectlite.Value.Type" 0) (fun t _ _ _ => ReflectliteType.toType t) #[.agg #[.pointer (some ⟨3, 96, none⟩), .pointer (some a), .int .u64 150]]).run Tryz.prog w = .ok (.iface 121 (.agg #[.pointer (some ⟨3, 96, none⟩)])) w := by kernel_rfl
theorem mK (h : Value) (w : World) : (Go.method 311 121 (.agg #[h]) "Kind").run Tryz.prog w = .ok (112, h) w := by kernel_rfl
theorem mE (h : Value) (w : World) : (Go.method 311 121 (.agg #[h]) "Elem").run Tryz.prog w = .ok (124, .agg #[h]) w := by kernel_rfl
theorem mI (h : Value) (w : World) : (Go.method 311 121 (.agg #[h]) "Implements").run Tryz.prog w = .ok (125, .agg #[h]) w := by kernel_rfl
theorem mA (h : Value) (w : World) : (Go.method 311 121 (.agg #[h]) "AssignableTo").run Tryz.prog w = .ok (122, .agg #[h]) w := by kernel_rfl
theorem mU (v : Value) (w : World) : (Go.method 311 92 v "Unwrap").run Tryz.prog w = .ok (117, v) w := by kernel_rfl
theorem kPF (w : World) : ((ReflectliteType.abiMethod fun t => (fun a : Nat => Value.int IntKind.u8 (a : Int)) <$> Rtype.kind t) #[.pointer (some ⟨3, 95, none⟩)]).run Tryz.prog w = .ok (.int .u8 22) w := by kernel_rfl
theorem kPN (w : World) : ((ReflectliteType.abiMethod fun t => (fun a : Nat => Value.int IntKind.u8 (a : Int)) <$> Rtype.kind t) #[.pointer (some ⟨3, 96, none⟩)]).run Tryz.prog w = .ok (.int .u8 22) w := by kernel_rfl
theorem kTF (w : World) : ((ReflectliteType.abiMethod fun t => (fun a : Nat => Value.int IntKind.u8 (a : Int)) <$> Rtype.kind t) #[.pointer (some ⟨3, 92, none⟩)]).run Tryz.prog w = .ok (.int .u8 25) w := by kernel_rfl
theorem kTN (w : World) : ((ReflectliteType.abiMethod fun t => (fun a : Nat => Value.int IntKind.u8 (a : Int)) <$> Rtype.kind t) #[.pointer (some ⟨3, 32, none⟩)]).run Tryz.prog w = .ok (.int .u8 2) w := by kernel_rfl
theorem ePF (w : World) : (ReflectliteType.method ReflectliteType.elem #[.agg #[.pointer (some ⟨3, 95, none⟩)]]).run Tryz.prog w = .ok (.iface 121 (.agg #[.pointer (some ⟨3, 92, none⟩)])) w := by kernel_rfl
theorem ePN (w : World) : (ReflectliteType.method ReflectliteType.elem #[.agg #[.pointer (some ⟨3, 96, none⟩)]]).run Tryz.prog w = .ok (.iface 121 (.agg #[.pointer (some ⟨3, 32, none⟩)])) w := by kernel_rfl
theorem iTF (w : World) : (ReflectliteType.relation "Implements" ReflectliteType.implements_ #[.agg #[.pointer (some ⟨3, 92, none⟩)], .iface 121 (.agg #[.pointer (some ⟨3, 90, none⟩)])]).run Tryz.prog w = .ok (.bool true) w := by kernel_rfl
theorem iTN (w : World) : (ReflectliteType.relation "Implements" ReflectliteType.implements_ #[.agg #[.pointer (some ⟨3, 32, none⟩)], .iface 121 (.agg #[.pointer (some ⟨3, 90, none⟩)])]).run Tryz.prog w = .ok (.bool true) w := by kernel_rfl
theorem tTF (v : Value) (w : World) : (ReflectliteType.typeOf #[.iface 92 v]).run Tryz.prog w = .ok (.iface 121 (.agg #[.pointer (some ⟨3, 92, none⟩)])) w := by kernel_rfl
theorem tTN (v : Value) (w : World) : (ReflectliteType.typeOf #[.iface 32 v]).run Tryz.prog w = .ok (.iface 121 (.agg #[.pointer (some ⟨3, 32, none⟩)])) w := by kernel_rfl
theorem aFF (w : World) : (ReflectliteType.relation "AssignableTo" ReflectliteType.assignableTo #[.agg #[.pointer (some ⟨3, 92, none⟩)], .iface 121 (.agg #[.pointer (some ⟨3, 92, none⟩)])]).run Tryz.prog w = .ok (.bool true) w := by kernel_rfl
theorem aFN (w : World) : (ReflectliteType.relation "AssignableTo" ReflectliteType.assignableTo #[.agg #[.pointer (some ⟨3, 92, none⟩)], .iface 121 (.agg #[.pointer (some ⟨3, 32, none⟩)])]).run Tryz.prog w = .ok (.bool false) w := by kernel_rfl
theorem aNN (w : World) : (ReflectliteType.relation "AssignableTo" ReflectliteType.assignableTo #[.agg #[.pointer (some ⟨3, 32, none⟩)], .iface 121 (.agg #[.pointer (some ⟨3, 32, none⟩)])]).run Tryz.prog w = .ok (.bool true) w := by kernel_rfl
end EA
end Go.Proofs.YtaelfjphgdlbcaaGreatDoor
namespace Go.Proofs.YtaelfjphgdlbcaaGreatDoor
open Go.RowKit Go.Extern.Stop Go.Stop Go.Extern
set_option linter.unusedVariables false
set_option linter.unusedSimpArgs false
namespace EA
theorem at_one (v : Value) (A : Value → Sem Value) (B : Array Value → Sem Value) : ReflectliteValue.method.match_2 (fun _ => Sem Value) #[v] A B = A v := rfl
theorem at_two (v x : Value) (A : Value → Value → Sem Value) (B : Array Value → Sem Value) : ReflectliteValue.set.match_3 (fun _ => Sem Value) #[v, x] A B = A v x := rfl
theorem pPF (a : Addr) (w : World) : (ReflectliteValue.parts (.agg #[.pointer (some ⟨3, 95, none⟩), .pointer (some a), .int .u64 150])).run Tryz.prog w = .ok (some (95, a, 150)) w := by kernel_rfl
theorem pPN (a : Addr) (w : World) : (ReflectliteValue.parts (.agg #[.pointer (some ⟨3, 96, none⟩), .pointer (some a), .int .u64 150])).run Tryz.prog w = .ok (some (96, a, 150)) w := by kernel_rfl
theorem nPF (a p : Addr) (W : World) (ha : W.cell? a = some (.pointer (some p))) :
    (ReflectliteValue.method (ReflectliteValue.valueError "reflectlite.Value.IsNil" 0) ReflectliteValue.isNil #[.agg #[.pointer (some ⟨3, 95, none⟩), .pointer (some a), .int .u64 150]]).run Tryz.prog W = .ok (.bool false) W := by
  delta ReflectliteValue.method
  rw [at_one]
  simp only [Sem.run_bind, pPF, Result.andThen]
  simp [ReflectliteValue.isNil, loadVar, isAgg, underlying, Tryz.underlying95, ha, Result.andThen]
theorem nPN (a p : Addr) (W : World) (ha : W.cell? a = some (.pointer (some p))) :
    (ReflectliteValue.method (ReflectliteValue.valueError "reflectlite.Value.IsNil" 0) ReflectliteValue.isNil #[.agg #[.pointer (some ⟨3, 96, none⟩), .pointer (some a), .int .u64 150]]).run Tryz.prog W = .ok (.bool false) W := by
  delta ReflectliteValue.method
  rw [at_one]
  simp only [Sem.run_bind, pPN, Result.andThen]
  simp [ReflectliteValue.isNil, loadVar, isAgg, underlying, Tryz.underlying96, ha, Result.andThen]
theorem eoPF (w : World) : (Rtype.elem? 95).run Tryz.prog w = .ok (some 92) w := by kernel_rfl
theorem eoPN (w : World) : (Rtype.elem? 96).run Tryz.prog w = .ok (some 32) w := by kernel_rfl
theorem mkTF (p : Addr) (w : World) : (ReflectliteValue.mk 92 p ReflectliteValue.flagAddr).run Tryz.prog w = .ok (.agg #[.pointer (some ⟨3, 92, none⟩), .pointer (some p), .int .u64 409]) w := by kernel_rfl
theorem mkTN (p : Addr) (w : World) : (ReflectliteValue.mk 32 p ReflectliteValue.flagAddr).run Tryz.prog w = .ok (.agg #[.pointer (some ⟨3, 32, none⟩), .pointer (some p), .int .u64 386]) w := by kernel_rfl
theorem evPF (a p : Addr) (W : World) (ha : W.cell? a = some (.pointer (some p))) :
    (ReflectliteValue.method (ReflectliteValue.valueError "reflectlite.Value.Elem" 0) ReflectliteValue.elem #[.agg #[.pointer (some ⟨3, 95, none⟩), .pointer (some a), .int .u64 150]]).run Tryz.prog W
      = .ok (.agg #[.pointer (some ⟨3, 92, none⟩), .pointer (some p), .int .u64 409]) W := by
  delta ReflectliteValue.method
  rw [at_one]
  simp only [Sem.run_bind, pPF, Result.andThen]
  simp [ReflectliteValue.elem, loadVar, isAgg, underlying, Tryz.underlying95, ha, Result.andThen, eoPF, mkTF]
theorem evPN (a p : Addr) (W : World) (ha : W.cell? a = some (.pointer (some p))) :
    (ReflectliteValue.method (ReflectliteValue.valueError "reflectlite.Value.Elem" 0) ReflectliteValue.elem #[.agg #[.pointer (some ⟨3, 96, none⟩), .pointer (some a), .int .u64 150]]).run Tryz.prog W
      = .ok (.agg #[.pointer (some ⟨3, 32, none⟩), .pointer (some p), .int .u64 386]) W := by
  delta ReflectliteValue.method
  rw [at_one]
  simp only [Sem.run_bind, pPN, Result.andThen]
  simp [ReflectliteValue.elem, loadVar, isAgg, underlying, Tryz.underlying96, ha, Result.andThen, eoPN, mkTN]
theorem pTNa (a : Addr) (w : World) : (ReflectliteValue.parts (.agg #[.pointer (some ⟨3, 32, none⟩), .pointer (some a), .int .u64 386])).run Tryz.prog w = .ok (some (32, a, 386)) w := by kernel_rfl
theorem pTN (a : Addr) (w : World) : (ReflectliteValue.parts (.agg #[.pointer (some ⟨3, 32, none⟩), .pointer (some a), .int .u64 130])).run Tryz.prog w = .ok (some (32, a, 130)) w := by kernel_rfl
theorem pTFa (a : Addr) (w : World) : (ReflectliteValue.parts (.agg #[.pointer (some ⟨3, 92, none⟩), .pointer (some a), .int .u64 409])).run Tryz.prog w = .ok (some (92, a, 409)) w := by kernel_rfl
theorem pTF (a : Addr) (w : World) : (ReflectliteValue.parts (.agg #[.pointer (some ⟨3, 92, none⟩), .pointer (some a), .int .u64 153])).run Tryz.prog w = .ok (some (92, a, 153)) w := by kernel_rfl
theorem dNN (w : World) : (Rtype.directlyAssignable 32 32).run Tryz.prog w = .ok true w := by kernel_rfl
theorem dFF (w : World) : (Rtype.directlyAssignable 92 92).run Tryz.prog w = .ok true w := by kernel_rfl
theorem setTN (ta b : Addr) (e : Int) (old : Value) (W : World) (hb : W.cell? b = some (.int .i64 e)) (ht : W.cell? ta = some old) (hf : W.frozen? ta = false) :
    (ReflectliteValue.set #[.agg #[.pointer (some ⟨3, 32, none⟩), .pointer (some ta), .int .u64 386], .agg #[.pointer (some ⟨3, 32, none⟩), .pointer (some b), .int .u64 130]]).run Tryz.prog W
      = .ok (.tuple #[]) (W.setCell ta (.int .i64 e)) := by
  delta ReflectliteValue.set
  rw [at_two]
  simp only [Sem.run_bind, pTNa, pTN, Result.andThen]
  simp [ReflectliteValue.flagAddr, loadVar, isAgg, underlying, Tryz.underlying32, hb, Result.andThen, dNN, storeVar, Value.cells, storeCells, Addr.add]
  rw [run_store Tryz.prog W ta _ _ (by rfl)]
  simp [ht, hf]
theorem setTF (g b : Nat) (x y : Int) (z o0 o1 o2 : Value) (W : World) (hb0 : W.cell? ⟨b, 0, none⟩ = some (.int .i64 x)) (hb1 : W.cell? ⟨b, 1, none⟩ = some (.int .i64 y)) (hb2 : W.cell? ⟨b, 2, none⟩ = some z)
    (ht0 : W.cell? ⟨g, 0, none⟩ = some o0) (ht1 : W.cell? ⟨g, 1, none⟩ = some o1) (ht2 : W.cell? ⟨g, 2, none⟩ = some o2)
    (hf0 : W.frozen? ⟨g, 0, none⟩ = false) (hf1 : W.frozen? ⟨g, 1, none⟩ = false) (hf2 : W.frozen? ⟨g, 2, none⟩ = false) (hz : z.oneCell' = true) :
    (ReflectliteValue.set #[.agg #[.pointer (some ⟨3, 92, none⟩), .pointer (some ⟨g, 0, none⟩), .int .u64 409], .agg #[.pointer (some ⟨3, 92, none⟩), .pointer (some ⟨b, 0, none⟩), .int .u64 153]]).run Tryz.prog W
      = .ok (.tuple #[]) (((W.setCell ⟨g, 0, none⟩ (.int .i64 x)).setCell ⟨g, 1, none⟩ (.int .i64 y)).setCell ⟨g, 2, none⟩ z) := by
  delta ReflectliteValue.set
  rw [at_two]
  simp only [Sem.run_bind, pTFa, pTF, Result.andThen]
  have hl : (loadCells ⟨b, 0, none⟩ 3).run Tryz.prog W = .ok #[.int .i64 x, .int .i64 y, z] W := by
    refine run_loadCells_list W ⟨b, 0, none⟩ [.int .i64 x, .int .i64 y, z] fun j v h => ?_
    match j, h with
    | 0, h => simp at h; subst h; simpa [Addr.add] using hb0
    | 1, h => simp at h; subst h; simpa [Addr.add] using hb1
    | 2, h => simp at h; subst h; simpa [Addr.add] using hb2
  simp [ReflectliteValue.flagAddr, loadVar, isAgg, underlying, Tryz.underlying92, hl, Result.andThen, dFF, storeVar, Value.cells, storeCells, Addr.add]
  rw [run_store Tryz.prog W _ _ _ (by rfl)]
  simp [ht0, hf0]
  rw [run_store Tryz.prog _ _ _ _ (by rfl)]
  simp [World.cell?_setCell_other, World.frozen?_setCell, ht1, hf1]
  rw [run_store Tryz.prog _ _ _ _ hz]
  simp [World.cell?_setCell_other, World.frozen?_setCell, ht2, hf2]
end EA
end Go.Proofs.YtaelfjphgdlbcaaGreatDoor
namespace Go.Proofs.YtaelfjphgdlbcaaGreatDoor
open Go.RowKit Go.Extern.Stop Go.Stop Go.Extern
set_option linter.unusedVariables false
set_option linter.unusedSimpArgs false
namespace EA
/-- What errors.As asks of the world: the type of error is known. -/
def ErrG (w : World) : Prop := w.cell? ⟨2, 0, none⟩ = some (.iface 121 (.agg #[.pointer (some ⟨3, 90, none⟩)]))
theorem ErrG.below {w w' : World} (h : ErrG w) (hb : Below w.heap.size w w') : ErrG w' := (hb.cell (p := ⟨2, 0, none⟩) (lt_of_cell h)).trans h
theorem ErrG.alloc {w : World} (h : ErrG w) (o : Obj) : ErrG (w.alloc o) := h.below ((Below.refl _ _).alloc (Nat.le_refl _) _)

theorem as_nil (t : Value) (w : World) :
    Calls Tryz.prog 44 #[.nilIface, t] w fun e w' => e = .returned (.bool false) ∧ w' = w := by
  go_enter Tryz.func44, Tryz.ntmps44
  go_wp2
  go_ret
  exact ⟨rfl, rfl⟩

set_option maxHeartbeats 4000000 in
theorem as_fault (x y : Int) (z : Value) (g : Nat) (o0 o1 o2 : Value) (w : World) (hg : ErrG w) (hz : z.oneCell' = true)
    (ht0 : w.cell? ⟨g, 0, none⟩ = some o0) (ht1 : w.cell? ⟨g, 1, none⟩ = some o1) (ht2 : w.cell? ⟨g, 2, none⟩ = some o2)
    (hf0 : w.frozen? ⟨g, 0, none⟩ = false) (hf1 : w.frozen? ⟨g, 1, none⟩ = false) (hf2 : w.frozen? ⟨g, 2, none⟩ = false) :
    Calls Tryz.prog 44 #[.iface 92 (.agg #[.int .i64 x, .int .i64 y, z]), .iface 95 (.pointer (some ⟨g, 0, none⟩))] w fun ev w' => ev = .returned (.bool true) ∧
      ∃ w1, Below w.heap.size w w1 ∧ w' = ((w1.setCell ⟨g, 0, none⟩ (.int .i64 x)).setCell ⟨g, 1, none⟩ (.int .i64 y)).setCell ⟨g, 2, none⟩ z := by
  have h6 := @run_callFunc_extern Tryz.prog 52 _ (fun args => ReflectliteValue.unpack (args.getD 0 (.tuple #[]))) Tryz.func52 (by kernel_rfl) (by kernel_rfl) (by kernel_rfl) (by kernel_rfl)
  have h7 := @run_callFunc_extern Tryz.prog 53 _ (ReflectliteValue.methodAny (ReflectliteValue.valueError "reflectlite.Value.Type" 0) (fun t _ _ _ => ReflectliteType.toType t)) Tryz.func53 (by kernel_rfl) (by kernel_rfl) (by kernel_rfl) (by kernel_rfl)
  have h8 := @run_callFunc_extern Tryz.prog 54 _ (ReflectliteValue.method (ReflectliteValue.valueError "reflectlite.Value.IsNil" 0) ReflectliteValue.isNil) Tryz.func54 (by kernel_rfl) (by kernel_rfl) (by kernel_rfl) (by kernel_rfl)
  have h27 := @run_callFunc_extern Tryz.prog 112 _ (ReflectliteType.abiMethod fun t => do pure (.int .u8 (← Rtype.kind t))) Tryz.func112 (by kernel_rfl) (by kernel_rfl) (by kernel_rfl) (by kernel_rfl)
  have h37 := @run_callFunc_extern Tryz.prog 124 _ (ReflectliteType.method ReflectliteType.elem) Tryz.func124 (by kernel_rfl) (by kernel_rfl) (by kernel_rfl) (by kernel_rfl)
  have h38 := @run_callFunc_extern Tryz.prog 125 _ (ReflectliteType.relation "Implements" ReflectliteType.implements_) Tryz.func125 (by kernel_rfl) (by kernel_rfl) (by kernel_rfl) (by kernel_rfl)
  have h10 := @run_callFunc_extern Tryz.prog 62 _ ReflectliteType.typeOf Tryz.func62 (by kernel_rfl) (by kernel_rfl) (by kernel_rfl) (by kernel_rfl)
  have h35 := @run_callFunc_extern Tryz.prog 122 _ (ReflectliteType.relation "AssignableTo" ReflectliteType.assignableTo) Tryz.func122 (by kernel_rfl) (by kernel_rfl) (by kernel_rfl) (by kernel_rfl)
  have h11 := @run_callFunc_extern Tryz.prog 63 _ (ReflectliteValue.method (ReflectliteValue.valueError "reflectlite.Value.Elem" 0) ReflectliteValue.elem) Tryz.func63 (by kernel_rfl) (by kernel_rfl) (by kernel_rfl) (by kernel_rfl)
  have h12 := @run_callFunc_extern Tryz.prog 64 _ ReflectliteValue.set Tryz.func64 (by kernel_rfl) (by kernel_rfl) (by kernel_rfl) (by kernel_rfl)
  have tO := tTF
  have mA := mA
  have a25 := aFF
  have v25 := vTF
  have f6 := vPF
  have f7 := tyPF
  have mK := mK
  have mE := mE
  have mI := mI
  have k27 := kPF
  have k25 := kTF
  have e27 := ePF
  have i25 := iTF
  obtain ⟨h, hh⟩ : ∃ h, h = w.heap.size := ⟨_, rfl⟩
  have hlt : 2 < w.heap.size := lt_of_cell hg
  have htl := lt_of_cell ht0
  have n8 := nPF ⟨w.heap.size, 0, none⟩ ⟨g, 0, none⟩ ((w.alloc (.cells #[.pointer (some ⟨g, 0, none⟩)] 95)).alloc (.cells #[.pointer (some ⟨3, 95, none⟩), .pointer (some ⟨w.heap.size, 0, none⟩), .int .u64 150] 104)) (by simp)
  have hg2 : ((w.alloc (.cells #[.pointer (some ⟨g, 0, none⟩)] 95)).alloc (.cells #[.pointer (some ⟨3, 95, none⟩), .pointer (some ⟨w.heap.size, 0, none⟩), .int .u64 150] 104)).cell? ⟨2, 0, none⟩ = some (.iface 121 (.agg #[.pointer (some ⟨3, 90, none⟩)])) := (hg.alloc _).alloc _
  go_enter Tryz.func44, Tryz.ntmps44
  have hB4 : Below w.heap.size w ((((w.alloc (.cells #[.pointer (some ⟨g, 0, none⟩)] 95)).alloc (.cells #[.pointer (some ⟨3, 95, none⟩), .pointer (some ⟨w.heap.size, 0, none⟩), .int .u64 150] 104)).alloc (.cells #[.pointer (some ⟨3, 95, none⟩), .pointer (some ⟨w.heap.size, 0, none⟩), .int .u64 150] 104)).alloc (.cells #[.int .i64 x, .int .i64 y, z] 92)) := ((((Below.refl _ w).alloc (Nat.le_refl _) _).alloc (by simp) _).alloc (by simp; omega) _).alloc (by simp; omega) _
  have el := evPF ⟨w.heap.size, 0, none⟩ ⟨g, 0, none⟩ (((w.alloc (.cells #[.pointer (some ⟨g, 0, none⟩)] 95)).alloc (.cells #[.pointer (some ⟨3, 95, none⟩), .pointer (some ⟨w.heap.size, 0, none⟩), .int .u64 150] 104)).alloc (.cells #[.pointer (some ⟨3, 95, none⟩), .pointer (some ⟨w.heap.size, 0, none⟩), .int .u64 150] 104)) (by rw [World.cell?_alloc_lt _ _ ⟨w.heap.size, 0, none⟩ (by simp; omega)]; simp)
  have fz : ∀ i, ((((w.alloc (.cells #[.pointer (some ⟨g, 0, none⟩)] 95)).alloc (.cells #[.pointer (some ⟨3, 95, none⟩), .pointer (some ⟨w.heap.size, 0, none⟩), .int .u64 150] 104)).alloc (.cells #[.pointer (some ⟨3, 95, none⟩), .pointer (some ⟨w.heap.size, 0, none⟩), .int .u64 150] 104)).alloc (.cells #[.int .i64 x, .int .i64 y, z] 92)).frozen? ⟨g, i, none⟩ = w.frozen? ⟨g, i, none⟩ := fun i => hB4.frozen (p := ⟨g, i, none⟩) htl
  have st := setTF g (w.heap.size + 1 + 1 + 1) x y z o0 o1 o2 ((((w.alloc (.cells #[.pointer (some ⟨g, 0, none⟩)] 95)).alloc (.cells #[.pointer (some ⟨3, 95, none⟩), .pointer (some ⟨w.heap.size, 0, none⟩), .int .u64 150] 104)).alloc (.cells #[.pointer (some ⟨3, 95, none⟩), .pointer (some ⟨w.heap.size, 0, none⟩), .int .u64 150] 104)).alloc (.cells #[.int .i64 x, .int .i64 y, z] 92))
    (by rw [World.cell?_alloc_at _ _ _ _ (by simp)]; rfl) (by rw [World.cell?_alloc_at _ _ _ _ (by simp)]; rfl) (by rw [World.cell?_alloc_at _ _ _ _ (by simp)]; rfl)
    ((hB4.cell (p := ⟨g, 0, none⟩) htl).trans ht0) ((hB4.cell (p := ⟨g, 1, none⟩) htl).trans ht1) ((hB4.cell (p := ⟨g, 2, none⟩) htl).trans ht2)
    ((fz 0).trans hf0) ((fz 1).trans hf1) ((fz 2).trans hf2) hz
  have HB4 := Lib.hid hB4
  clear fz hB4
  go_wp2
  refine wp_loop_rounds 1 ?_
  rw [rounds_succ]
  go_wp2
  go_ret
  exact ⟨rfl, _, HB4.out, rfl⟩
end EA
end Go.Proofs.YtaelfjphgdlbcaaGreatDoor
namespace Go.Proofs.YtaelfjphgdlbcaaGreatDoor
open Go.RowKit Go.Extern.Stop Go.Stop Go.Extern
set_option linter.unusedVariables false
set_option linter.unusedSimpArgs false
namespace EA
theorem noAs (v : Value) (xT : TypeId) (w : World) : (Instr.typeAssert (.iface 92 v) xT 126 true).run Tryz.prog w = .ok (.tuple #[.nilIface, .bool false]) w := run_typeAssert_lacksB Tryz.underlying126 (by kernel_rfl) (by kernel_rfl) v xT w
theorem hasUnwrap (v : Value) (xT : TypeId) (w : World) : (Instr.typeAssert (.iface 92 v) xT 129 true).run Tryz.prog w = .ok (.tuple #[.iface 92 v, .bool true]) w := run_typeAssert_hasB Tryz.underlying129 (by kernel_rfl) v xT w

set_option maxHeartbeats 4000000 in
theorem as_errno (x y e : Int) (g : Nat) (o0 : Value) (w : World) (hg : ErrG w) 
    (ht0 : w.cell? ⟨g, 0, none⟩ = some o0) (hf0 : w.frozen? ⟨g, 0, none⟩ = false) :
    Calls Tryz.prog 44 #[.iface 92 (.agg #[.int .i64 x, .int .i64 y, .iface 32 (.int .i64 e)]), .iface 96 (.pointer (some ⟨g, 0, none⟩))] w fun ev w' => ev = .returned (.bool true) ∧
      ∃ w1, Below w.heap.size w w1 ∧ w' = w1.setCell ⟨g, 0, none⟩ (.int .i64 e) := by
  have h6 := @run_callFunc_extern Tryz.prog 52 _ (fun args => ReflectliteValue.unpack (args.getD 0 (.tuple #[]))) Tryz.func52 (by kernel_rfl) (by kernel_rfl) (by kernel_rfl) (by kernel_rfl)
  have h7 := @run_callFunc_extern Tryz.prog 53 _ (ReflectliteValue.methodAny (ReflectliteValue.valueError "reflectlite.Value.Type" 0) (fun t _ _ _ => ReflectliteType.toType t)) Tryz.func53 (by kernel_rfl) (by kernel_rfl) (by kernel_rfl) (by kernel_rfl)
  have h8 := @run_callFunc_extern Tryz.prog 54 _ (ReflectliteValue.method (ReflectliteValue.valueError "reflectlite.Value.IsNil" 0) ReflectliteValue.isNil) Tryz.func54 (by kernel_rfl) (by kernel_rfl) (by kernel_rfl) (by kernel_rfl)
  have h27 := @run_callFunc_extern Tryz.prog 112 _ (ReflectliteType.abiMethod fun t => do pure (.int .u8 (← Rtype.kind t))) Tryz.func112 (by kernel_rfl) (by kernel_rfl) (by kernel_rfl) (by kernel_rfl)
  have h37 := @run_callFunc_extern Tryz.prog 124 _ (ReflectliteType.method ReflectliteType.elem) Tryz.func124 (by kernel_rfl) (by kernel_rfl) (by kernel_rfl) (by kernel_rfl)
  have h38 := @run_callFunc_extern Tryz.prog 125 _ (ReflectliteType.relation "Implements" ReflectliteType.implements_) Tryz.func125 (by kernel_rfl) (by kernel_rfl) (by kernel_rfl) (by kernel_rfl)
  have h10 := @run_callFunc_extern Tryz.prog 62 _ ReflectliteType.typeOf Tryz.func62 (by kernel_rfl) (by kernel_rfl) (by kernel_rfl) (by kernel_rfl)
  have h35 := @run_callFunc_extern Tryz.prog 122 _ (ReflectliteType.relation "AssignableTo" ReflectliteType.assignableTo) Tryz.func122 (by kernel_rfl) (by kernel_rfl) (by kernel_rfl) (by kernel_rfl)
  have h11 := @run_callFunc_extern Tryz.prog 63 _ (ReflectliteValue.method (ReflectliteValue.valueError "reflectlite.Value.Elem" 0) ReflectliteValue.elem) Tryz.func63 (by kernel_rfl) (by kernel_rfl) (by kernel_rfl) (by kernel_rfl)
  have h12 := @run_callFunc_extern Tryz.prog 64 _ ReflectliteValue.set Tryz.func64 (by kernel_rfl) (by kernel_rfl) (by kernel_rfl) (by kernel_rfl)
  have tF := tTF
  have tN := tTN
  have mA := mA
  have aFN := aFN
  have aNN := aNN
  have v25 := vTN
  have f6 := vPN
  have f7 := tyPN
  have mK := mK
  have mE := mE
  have mI := mI
  have mU := mU
  have k27 := kPN
  have k25 := kTN
  have e27 := ePN
  have i25 := iTN
  have nA := noAs
  have hU := hasUnwrap
  have hlt : 2 < w.heap.size := lt_of_cell hg
  have htl := lt_of_cell ht0
  have n8 := nPN ⟨w.heap.size, 0, none⟩ ⟨g, 0, none⟩ ((w.alloc (.cells #[.pointer (some ⟨g, 0, none⟩)] 96)).alloc (.cells #[.pointer (some ⟨3, 96, none⟩), .pointer (some ⟨w.heap.size, 0, none⟩), .int .u64 150] 104)) (by simp)
  have hg2 : ((w.alloc (.cells #[.pointer (some ⟨g, 0, none⟩)] 96)).alloc (.cells #[.pointer (some ⟨3, 96, none⟩), .pointer (some ⟨w.heap.size, 0, none⟩), .int .u64 150] 104)).cell? ⟨2, 0, none⟩ = some (.iface 121 (.agg #[.pointer (some ⟨3, 90, none⟩)])) := (hg.alloc _).alloc _
  have hB5 : Below w.heap.size w (((((w.alloc (.cells #[.pointer (some ⟨g, 0, none⟩)] 96)).alloc (.cells #[.pointer (some ⟨3, 96, none⟩), .pointer (some ⟨w.heap.size, 0, none⟩), .int .u64 150] 104)).alloc (.cells #[.pointer (some ⟨3, 96, none⟩), .pointer (some ⟨w.heap.size, 0, none⟩), .int .u64 150] 104)).alloc (.cells #[.int .i64 x, .int .i64 y, .iface 32 (.int .i64 e)] 92)).alloc (.cells #[.int .i64 e] 32)) := (((((Below.refl _ w).alloc (Nat.le_refl _) _).alloc (by simp) _).alloc (by simp; omega) _).alloc (by simp; omega) _).alloc (by simp; omega) _
  have el := evPN ⟨w.heap.size, 0, none⟩ ⟨g, 0, none⟩ ((((w.alloc (.cells #[.pointer (some ⟨g, 0, none⟩)] 96)).alloc (.cells #[.pointer (some ⟨3, 96, none⟩), .pointer (some ⟨w.heap.size, 0, none⟩), .int .u64 150] 104)).alloc (.cells #[.pointer (some ⟨3, 96, none⟩), .pointer (some ⟨w.heap.size, 0, none⟩), .int .u64 150] 104)).alloc (.cells #[.int .i64 x, .int .i64 y, .iface 32 (.int .i64 e)] 92)) (by rw [World.cell?_alloc_lt _ _ ⟨w.heap.size, 0, none⟩ (by simp; omega), World.cell?_alloc_lt _ _ ⟨w.heap.size, 0, none⟩ (by simp; omega)]; simp)
  have st := setTN ⟨g, 0, none⟩ ⟨w.heap.size + 1 + 1 + 1 + 1, 0, none⟩ e o0 (((((w.alloc (.cells #[.pointer (some ⟨g, 0, none⟩)] 96)).alloc (.cells #[.pointer (some ⟨3, 96, none⟩), .pointer (some ⟨w.heap.size, 0, none⟩), .int .u64 150] 104)).alloc (.cells #[.pointer (some ⟨3, 96, none⟩), .pointer (some ⟨w.heap.size, 0, none⟩), .int .u64 150] 104)).alloc (.cells #[.int .i64 x, .int .i64 y, .iface 32 (.int .i64 e)] 92)).alloc (.cells #[.int .i64 e] 32))
    (by rw [World.cell?_alloc_at _ _ _ _ (by simp)]; rfl) ((hB5.cell (p := ⟨g, 0, none⟩) htl).trans ht0) ((hB5.frozen (p := ⟨g, 0, none⟩) htl).trans hf0)
  have HB5 := Lib.hid hB5
  clear hB5
  go_enter Tryz.func44, Tryz.ntmps44
  go_wp2
  refine wp_loop_rounds 2 ?_
  rw [rounds_succ]
  go_wp2
  rw [rounds_succ]
  go_wp2
  go_ret
  exact ⟨rfl, _, HB5.out, rfl⟩
end EA
end Go.Proofs.YtaelfjphgdlbcaaGreatDoor
