/-
  THE LIBRARY's TrimPrefix AND TrimSuffix AT ONE BYTE, over any world.
  WHAT LINE SOME WORDS WOULD BE (made), over any world that holds the registers.
  WHAT LINE SOME WORDS WOULD BE (made, from worked on), over any world that holds the registers.
  THE WORDS OF A LINE, kind by kind, over any world that holds the registers.
  ops.Words, over any world that holds the registers.
  THE LIBRARY's slices.Equal AT ROWS OF TEXTS, over any world.
  PLAIN MATHEMATICS OF LAYER 3: lengths.
  ops.Get, over any world that holds the registers.
-/
import Derived.Test.YtkkjodjachbifaaGreatDoorKit
import Derived.Test.YtkkjodjachbifaaGreatDoorMath
import Derived.Test.YtkkjodjachbifaaGreatDoorKit2
import Derived.Test.YtkkjodjachbifaaGreatDoorOpsW
import Derived.Test.YtkkjodjachbifaaGreatDoorNums
import Derived.StillTailTactics
import Derived.Deep.RegionHeld3
import Derived.Test.YtkkjodjachbifaaGreatDoorOpsK
import Derived.Laws.OwnMore
import Derived.Test.YtkkjodjachbifaaGreatDoorSame
namespace Go.Proofs.YtkkjodjachbifaaGreatDoor
open Go.RowKit
set_option linter.unusedVariables false
open WordM (L)

theorem ba_of {s : ByteArray} {l : L} (h : s.data.toList = l) : s = ⟨l.toArray⟩ := by subst h; rfl
theorem extract_full (s : ByteArray) (a b : Nat) : (s.extract a b).toList = (s.data.toList.drop a).take (b - a) := by rw [Lib.toList_data, Lib.extract_data]
theorem nil_of_size {s : ByteArray} (h : s.size < 1) : s.data.toList = [] := by
  have := Lib.size_eq s
  exact List.eq_nil_of_length_eq_zero (by omega)

end Go.Proofs.YtkkjodjachbifaaGreatDoor
namespace Go.Proofs.YtkkjodjachbifaaGreatDoor
open Go.RowKit
set_option linter.unusedVariables false
set_option linter.unusedSimpArgs false
open WordM (L)

/-- A line as a value, by what it has. -/
def lnw (l : OpsM.Ln) : Value := lnv l.op ⟨l.reg.toArray⟩ ⟨l.loc.toArray⟩ ⟨l.label.toArray⟩ l.n

theorem offEnd_len (c : UInt8) (s : L) : (OpsM.offEnd c s).length ≤ s.length := by
  unfold OpsM.offEnd; split <;> simp
theorem offHead_len (c : UInt8) (s : L) : (OpsM.offHead c s).length ≤ s.length := by
  unfold OpsM.offHead; split <;> simp

end Go.Proofs.YtkkjodjachbifaaGreatDoor
namespace Go.Proofs.YtkkjodjachbifaaGreatDoor
open Go.RowKit
set_option linter.unusedVariables false
set_option linter.unusedSimpArgs false
open WordM (L)

theorem strs_cell {B : Nat} {w : World} {v : Value} {ls : List L} (h : Strs B w v ls) (hB : B ≤ w.heap.size) : ∃ A c, v = .slice A ls.length c ∧ ls.length ≤ c ∧ (0 < ls.length → ∃ g f, A = some ⟨g, f, none⟩ ∧ g < w.heap.size ∧ ∀ j (hj : j < ls.length), w.cell? ⟨g, f + j, none⟩ = some (sv ls[j])) := by
  obtain ⟨A, c, e, h1, _, h3⟩ := h
  refine ⟨A, c, e, h1, fun k => ?_⟩
  obtain ⟨b, f, e2, h4, h5⟩ := h3 k
  exact ⟨b, f, e2, by omega, h5⟩
end Go.Proofs.YtkkjodjachbifaaGreatDoor
namespace Go.Proofs.YtkkjodjachbifaaGreatDoor
open Go.RowKit
set_option linter.unusedVariables false
open WordM (L)

theorem own_lit {W : World} (ls : List L) (B : Nat) (hB : B ≤ W.heap.size) (h : ls.length ≤ maxLen) : (W.alloc (.cells (svs ls).toArray 9)).ownsRow B 9 1 (.slice (some ⟨W.heap.size, 0, none⟩) ls.length ls.length) ls.length (svs ls) := by
  have := World.ownsRow_lit (base := B) (e := 9) (size := 1) W (svs ls).toArray ls.length hB h (by simp [svs])
  simpa using this
/-- A slice that was written out, and is handed back. -/
theorem ret_lit {w W : World} (ls : List L) {g n : Nat} {cs : Array Value} (hg : g = W.heap.size) (hn : n = ls.length) (hc : cs = (svs ls).toArray) (h : ls.length ≤ 100) (hb : Below w.heap.size w W) :
    RetStrs ls w (.returned (.slice (some ⟨g, 0, none⟩) n n)) (W.alloc (.cells cs 9)) := by
  subst hg; subst hn; subst hc
  exact ⟨_, rfl, own_lit ls _ hb.size (by unfold maxLen; omega), hb.alloc hb.size _⟩
theorem ret_litd {w W : World} (ls : List L) {g n : Nat} {cs : Array Value} (hg : g = W.heap.size) (hn : n = ls.length) (hc : cs = (svs ls).toArray) (h : ls.length ≤ 100) (hb : Below w.heap.size w W) :
    RetStrs ls w (.returned (.slice (some ⟨g, 0, none⟩) n n)) (W.alloc (.cells cs 9)).drew := by
  obtain ⟨v, e, ho, hB⟩ := ret_lit ls hg hn hc h hb
  exact ⟨v, e, ho, below_drewN hB 1⟩
set_option maxHeartbeats 1000000 in
set_option maxRecDepth 100000 in
theorem brk_any (s : ByteArray) (w : World) (hs : s.size ≤ 100000) :
    Calls Tryz.prog 127 #[.string s] w fun e w' => e = .returned (.string ⟨(OpsM.brk s.data.toList).toArray⟩) ∧ w = w' := by
  have z1 : (⟨#[91]⟩ : ByteArray).size = 1 := rfl
  have z2 : (⟨#[93]⟩ : ByteArray).size = 1 := rfl
  have z3 : (⟨#[91]⟩ ++ s : ByteArray).size = 1 + s.size := by rw [ByteArray.size_append]; rfl
  have hc1 := fun W => run_string_add_sum (P := Tryz.prog) (w := W) ⟨#[91]⟩ s (by omega)
  have hc2 := fun W => run_string_add_sum (P := Tryz.prog) (w := W) (⟨#[91]⟩ ++ s) ⟨#[93]⟩ (by omega)
  have E := Lib.hid (show (⟨#[91]⟩ ++ s ++ ⟨#[93]⟩ : ByteArray) = ⟨(OpsM.brk s.data.toList).toArray⟩ by apply ByteArray.ext; rw [ByteArray.data_append, ByteArray.data_append]; apply Array.toList_inj.1; simp [OpsM.brk])
  clear z1 z2 z3
  go_enter Tryz.func127, Tryz.ntmps127
  go_wp2
  go_ret
  exact ⟨by rw [← E.out]; rfl, rfl⟩

theorem ret_chain {ls : List L} {w w1 w2 : World} {e : Ending} (hB : Below w.heap.size w w1) (h : RetStrs ls w1 e w2) : RetStrs ls w e w2 := by
  obtain ⟨v, he, ho, hb⟩ := h
  exact ⟨v, he, own_base ho hB.size, chain hB hb⟩
theorem ret_nil {w w1 : World} (hB : Below w.heap.size w w1) : RetStrs [] w (.returned (.slice none 0 0)) w1 := ⟨_, rfl, ⟨rfl, .inl ⟨rfl, rfl⟩⟩, hB⟩

set_option maxHeartbeats 1000000 in
set_option maxRecDepth 100000 in
theorem words1 (n : Int) (r o b : ByteArray) (w : World) (hn : NumM.inR n) (ho : o.size ≤ 100000) (hb : b.size ≤ 100000) :
    Calls Tryz.prog 124 #[lnv 1 r o b n] w (RetStrs [OpsM.kmov, r.data.toList, NumM.text n] w) := by
  have HT := Lib.hid (fun W => text_any n W hn)
  unfold lnv
  go_enter Tryz.func124, Tryz.ntmps124
  go_wp2
  go_region_held3 (fun w' => w'.cell? ⟨w.heap.size, 1, none⟩ = some (.string r) ∧ w'.cell? ⟨w.heap.size, 4, none⟩ = some (.int .i64 n)) (first | go_keep | (exact held_below2 hB (by assumption)))
    (first | (go_at_call 47; refine (HT.out _).mono ?_; rintro e w' ⟨rfl, hB⟩))
  all_goals
    go_wp2
    go_ret
    exact ret_lit [OpsM.kmov, r.data.toList, NumM.text n] (by simp) rfl rfl (by simp) (below_box hB)
set_option maxHeartbeats 1000000 in
set_option maxRecDepth 100000 in
theorem words2 (n : Int) (r o b : ByteArray) (w : World) (hn : NumM.inR n) (ho : o.size ≤ 100000) (hb : b.size ≤ 100000) :
    Calls Tryz.prog 126 #[lnv 2 r o b n] w (RetStrs [OpsM.kmov, r.data.toList, OpsM.brk o.data.toList] w) := by
  have HB := Lib.hid (fun W => brk_any o W ho)
  unfold lnv
  go_enter Tryz.func126, Tryz.ntmps126
  go_wp2
  go_region_held3 (fun w' => w'.cell? ⟨w.heap.size, 1, none⟩ = some (.string r) ∧ w'.cell? ⟨w.heap.size, 2, none⟩ = some (.string o)) (first | go_keep | (exact held_below2 hB (by assumption)))
    (first | (go_at_call 127; refine (HB.out _).mono ?_; rintro e w' ⟨rfl, rfl⟩))
  all_goals
    go_wp2
    go_ret
    exact ret_litd [OpsM.kmov, r.data.toList, OpsM.brk o.data.toList] (by simp) rfl rfl (by simp) ((Below.refl _ _).alloc (Nat.le_refl _) _)
set_option maxHeartbeats 1000000 in
set_option maxRecDepth 100000 in
theorem words3 (n : Int) (r o b : ByteArray) (w : World) (hn : NumM.inR n) (ho : o.size ≤ 100000) (hb : b.size ≤ 100000) :
    Calls Tryz.prog 128 #[lnv 3 r o b n] w (RetStrs [OpsM.kmov, OpsM.brk o.data.toList, r.data.toList] w) := by
  have HB := Lib.hid (fun W => brk_any o W ho)
  unfold lnv
  go_enter Tryz.func128, Tryz.ntmps128
  go_wp2
  go_region_held3 (fun w' => w'.cell? ⟨w.heap.size, 1, none⟩ = some (.string r) ∧ w'.cell? ⟨w.heap.size, 2, none⟩ = some (.string o)) (first | go_keep | (exact held_below2 hB (by assumption)))
    (first | (go_at_call 127; refine (HB.out _).mono ?_; rintro e w' ⟨rfl, rfl⟩))
  all_goals
    go_wp2
    go_ret
    exact ret_litd [OpsM.kmov, OpsM.brk o.data.toList, r.data.toList] (by simp) rfl rfl (by simp) ((Below.refl _ _).alloc (Nat.le_refl _) _)
set_option maxHeartbeats 1000000 in
set_option maxRecDepth 100000 in
theorem words4 (n : Int) (r o b : ByteArray) (w : World) (hn : NumM.inR n) (ho : o.size ≤ 100000) (hb : b.size ≤ 100000) :
    Calls Tryz.prog 130 #[lnv 4 r o b n] w (RetStrs [OpsM.kmov, OpsM.brk o.data.toList, NumM.text n] w) := by
  have HT := Lib.hid (fun W => text_any n W hn)
  have HB := Lib.hid (fun W => brk_any o W ho)
  unfold lnv
  go_enter Tryz.func130, Tryz.ntmps130
  go_wp2
  go_region_held3 (fun w' => w'.cell? ⟨w.heap.size, 2, none⟩ = some (.string o) ∧ w'.cell? ⟨w.heap.size, 4, none⟩ = some (.int .i64 n)) (first | go_keep | (exact held_below2 hB (by assumption)))
    (first | (go_at_call 47; refine (HT.out _).mono ?_; rintro e w' ⟨rfl, hB⟩) | (go_at_call 127; refine (HB.out _).mono ?_; rintro e w' ⟨rfl, rfl⟩))
  all_goals
    go_wp2
    go_ret
    exact ret_lit [OpsM.kmov, OpsM.brk o.data.toList, NumM.text n] (by simp) rfl rfl (by simp) (below_box hB)
set_option maxHeartbeats 1000000 in
set_option maxRecDepth 100000 in
theorem words5 (n : Int) (r o b : ByteArray) (w : World) (hn : NumM.inR n) (ho : o.size ≤ 100000) (hb : b.size ≤ 100000) :
    Calls Tryz.prog 131 #[lnv 5 r o b n] w (RetStrs [OpsM.kxchg, OpsM.brk o.data.toList, r.data.toList] w) := by
  have HB := Lib.hid (fun W => brk_any o W ho)
  unfold lnv
  go_enter Tryz.func131, Tryz.ntmps131
  go_wp2
  go_region_held3 (fun w' => w'.cell? ⟨w.heap.size, 1, none⟩ = some (.string r) ∧ w'.cell? ⟨w.heap.size, 2, none⟩ = some (.string o)) (first | go_keep | (exact held_below2 hB (by assumption)))
    (first | (go_at_call 127; refine (HB.out _).mono ?_; rintro e w' ⟨rfl, rfl⟩))
  all_goals
    go_wp2
    go_ret
    exact ret_litd [OpsM.kxchg, OpsM.brk o.data.toList, r.data.toList] (by simp) rfl rfl (by simp) ((Below.refl _ _).alloc (Nat.le_refl _) _)
set_option maxHeartbeats 1000000 in
set_option maxRecDepth 100000 in
theorem words6 (n : Int) (r o b : ByteArray) (w : World) (hn : NumM.inR n) (ho : o.size ≤ 100000) (hb : b.size ≤ 100000) :
    Calls Tryz.prog 133 #[lnv 6 r o b n] w (RetStrs [OpsM.kmfence] w) := by
  unfold lnv
  go_enter Tryz.func133, Tryz.ntmps133
  go_wp2
  go_ret
  exact ret_lit [OpsM.kmfence] (by simp) rfl rfl (by simp) ((Below.refl _ _).alloc (Nat.le_refl _) _)
set_option maxHeartbeats 1000000 in
set_option maxRecDepth 100000 in
theorem words7 (n : Int) (r o b : ByteArray) (w : World) (hn : NumM.inR n) (ho : o.size ≤ 100000) (hb : b.size ≤ 100000) :
    Calls Tryz.prog 134 #[lnv 7 r o b n] w (RetStrs [OpsM.kcmp, r.data.toList, NumM.text n] w) := by
  have HT := Lib.hid (fun W => text_any n W hn)
  unfold lnv
  go_enter Tryz.func134, Tryz.ntmps134
  go_wp2
  go_region_held3 (fun w' => w'.cell? ⟨w.heap.size, 1, none⟩ = some (.string r) ∧ w'.cell? ⟨w.heap.size, 4, none⟩ = some (.int .i64 n)) (first | go_keep | (exact held_below2 hB (by assumption)))
    (first | (go_at_call 47; refine (HT.out _).mono ?_; rintro e w' ⟨rfl, hB⟩))
  all_goals
    go_wp2
    go_ret
    exact ret_lit [OpsM.kcmp, r.data.toList, NumM.text n] (by simp) rfl rfl (by simp) (below_box hB)
set_option maxHeartbeats 1000000 in
set_option maxRecDepth 100000 in
theorem words8 (n : Int) (r o b : ByteArray) (w : World) (hn : NumM.inR n) (ho : o.size ≤ 100000) (hb : b.size ≤ 100000) :
    Calls Tryz.prog 136 #[lnv 8 r o b n] w (RetStrs [OpsM.kjmp, b.data.toList] w) := by
  unfold lnv
  go_enter Tryz.func136, Tryz.ntmps136
  go_wp2
  go_ret
  exact ret_lit [OpsM.kjmp, b.data.toList] (by simp) rfl rfl (by simp) ((Below.refl _ _).alloc (Nat.le_refl _) _)
set_option maxHeartbeats 1000000 in
set_option maxRecDepth 100000 in
theorem words9 (n : Int) (r o b : ByteArray) (w : World) (hn : NumM.inR n) (ho : o.size ≤ 100000) (hb : b.size ≤ 100000) :
    Calls Tryz.prog 137 #[lnv 9 r o b n] w (RetStrs [OpsM.kje, b.data.toList] w) := by
  unfold lnv
  go_enter Tryz.func137, Tryz.ntmps137
  go_wp2
  go_ret
  exact ret_lit [OpsM.kje, b.data.toList] (by simp) rfl rfl (by simp) ((Below.refl _ _).alloc (Nat.le_refl _) _)
set_option maxHeartbeats 1000000 in
set_option maxRecDepth 100000 in
theorem words10 (n : Int) (r o b : ByteArray) (w : World) (hn : NumM.inR n) (ho : o.size ≤ 100000) (hb : b.size ≤ 100000) :
    Calls Tryz.prog 138 #[lnv 10 r o b n] w (RetStrs [OpsM.kjne, b.data.toList] w) := by
  unfold lnv
  go_enter Tryz.func138, Tryz.ntmps138
  go_wp2
  go_ret
  exact ret_lit [OpsM.kjne, b.data.toList] (by simp) rfl rfl (by simp) ((Below.refl _ _).alloc (Nat.le_refl _) _)
set_option maxHeartbeats 1000000 in
set_option maxRecDepth 100000 in
theorem words11 (n : Int) (r o b : ByteArray) (w : World) (hn : NumM.inR n) (ho : o.size ≤ 100000) (hb : b.size ≤ 100000) :
    Calls Tryz.prog 139 #[lnv 11 r o b n] w (RetStrs [OpsM.col b.data.toList] w) := by
  have z1 : (⟨#[58]⟩ : ByteArray).size = 1 := rfl
  have hc1 := fun W => run_string_add_sum (P := Tryz.prog) (w := W) b ⟨#[58]⟩ (by omega)
  have E := Lib.hid (show (b ++ ⟨#[58]⟩ : ByteArray) = ⟨(OpsM.col b.data.toList).toArray⟩ by apply ByteArray.ext; rw [ByteArray.data_append]; apply Array.toList_inj.1; simp [OpsM.col])
  rw [E.out] at hc1
  clear z1
  unfold lnv
  go_enter Tryz.func139, Tryz.ntmps139
  go_wp2
  go_ret
  exact ret_lit [OpsM.col b.data.toList] (by simp) rfl rfl (by simp) ((Below.refl _ _).alloc (Nat.le_refl _) _)
end Go.Proofs.YtkkjodjachbifaaGreatDoor
namespace Go.Proofs.YtkkjodjachbifaaGreatDoor
open Go.RowKit
set_option linter.unusedVariables false
open WordM (L)

theorem methW1 (n : Int) (r o b : ByteArray) (W : World) : (method 303 116 (.agg #[.int .i64 1, .string r, .string o, .string b, .int .i64 n]) "fencepost/ops.words").run Tryz.prog W = .ok (124, .agg #[.int .i64 1, .string r, .string o, .string b, .int .i64 n]) W := by kernel_rfl
set_option maxHeartbeats 1000000 in
set_option maxRecDepth 100000 in
theorem lwords1 (n : Int) (r o b : ByteArray) (w : World) (hr : Regs w) (hn : NumM.inR n) (ho : o.size ≤ 100000) (hb : b.size ≤ 100000) :
    Calls Tryz.prog 35 #[lnv 1 r o b n] w (RetStrs (OpsM.words 1 r.data.toList o.data.toList b.data.toList n) w) := by
  have E := Lib.hid (show OpsM.words 1 r.data.toList o.data.toList b.data.toList n = if OpsM.okNum r.data.toList o.data.toList b.data.toList then [OpsM.kmov, r.data.toList, NumM.text n] else [] from rfl)
  have HW := Lib.hid hr
  have hm := meth1 n r o b
  have hm2 := methW1 n r o b
  have HR := Lib.hid (fun W h => wnum_any 1 n r o b W h)
  have HK := Lib.hid (fun W => kind1 n r o b W)
  have HS := Lib.hid (fun W => words1 n r o b W hn ho hb)
  clear hr
  rw [E.out]
  clear E
  generalize OpsM.okNum r.data.toList o.data.toList b.data.toList = res at *
  have HO := ho
  clear ho hb
  unfold lnv at *
  cases res
  · go_enter Tryz.func35, Tryz.ntmps35
    go_wp2_with fail
    refine (HK.out _).mono ?_
    rintro e w1 ⟨rfl, hB⟩
    go_wp2_with fail
    refine (HR.out _ ((HW.out.below ((Below.refl _ _).alloc (Nat.le_refl _) _)).below hB)).mono ?_
    rintro e w2 ⟨rfl, hB2⟩
    go_wp2
    go_ret
    exact ret_nil (((Below.refl _ _).alloc (Nat.le_refl _) _).trans ((chain hB hB2).mono (by simp)))
  · go_enter Tryz.func35, Tryz.ntmps35
    go_wp2_with fail
    refine (HK.out _).mono ?_
    rintro e w1 ⟨rfl, hB⟩
    go_wp2_with fail
    refine (HR.out _ ((HW.out.below ((Below.refl _ _).alloc (Nat.le_refl _) _)).below hB)).mono ?_
    rintro e w2 ⟨rfl, hB2⟩
    go_wp2_with fail
    refine (HS.out _).mono ?_
    rintro e w3 ⟨v, rfl, how, hB3⟩
    go_wp2
    go_ret
    exact ret_chain (((Below.refl _ _).alloc (Nat.le_refl _) _).trans ((chain hB hB2).mono (by simp))) ⟨_, rfl, how, hB3⟩
theorem methW2 (n : Int) (r o b : ByteArray) (W : World) : (method 303 119 (.agg #[.int .i64 2, .string r, .string o, .string b, .int .i64 n]) "fencepost/ops.words").run Tryz.prog W = .ok (126, .agg #[.int .i64 2, .string r, .string o, .string b, .int .i64 n]) W := by kernel_rfl
set_option maxHeartbeats 1000000 in
set_option maxRecDepth 100000 in
theorem lwords2 (n : Int) (r o b : ByteArray) (w : World) (hr : Regs w) (hn : NumM.inR n) (ho : o.size ≤ 100000) (hb : b.size ≤ 100000) :
    Calls Tryz.prog 35 #[lnv 2 r o b n] w (RetStrs (OpsM.words 2 r.data.toList o.data.toList b.data.toList n) w) := by
  have E := Lib.hid (show OpsM.words 2 r.data.toList o.data.toList b.data.toList n = if OpsM.okLoc r.data.toList o.data.toList b.data.toList n then [OpsM.kmov, r.data.toList, OpsM.brk o.data.toList] else [] from rfl)
  have HW := Lib.hid hr
  have hm := meth2 n r o b
  have hm2 := methW2 n r o b
  have HR := Lib.hid (fun W h => wloc_any 2 n r o b W h)
  have HK := Lib.hid (fun W => kind2 n r o b W)
  have HS := Lib.hid (fun W => words2 n r o b W hn ho hb)
  clear hr
  rw [E.out]
  clear E
  generalize OpsM.okLoc r.data.toList o.data.toList b.data.toList n = res at *
  have HO := ho
  clear ho hb
  unfold lnv at *
  cases res
  · go_enter Tryz.func35, Tryz.ntmps35
    go_wp2_with fail
    refine (HK.out _).mono ?_
    rintro e w1 ⟨rfl, hB⟩
    go_wp2_with fail
    refine (HR.out _ ((HW.out.below ((Below.refl _ _).alloc (Nat.le_refl _) _)).below hB)).mono ?_
    rintro e w2 ⟨rfl, hB2⟩
    go_wp2
    go_ret
    exact ret_nil (((Below.refl _ _).alloc (Nat.le_refl _) _).trans ((chain hB hB2).mono (by simp)))
  · go_enter Tryz.func35, Tryz.ntmps35
    go_wp2_with fail
    refine (HK.out _).mono ?_
    rintro e w1 ⟨rfl, hB⟩
    go_wp2_with fail
    refine (HR.out _ ((HW.out.below ((Below.refl _ _).alloc (Nat.le_refl _) _)).below hB)).mono ?_
    rintro e w2 ⟨rfl, hB2⟩
    go_wp2_with fail
    refine (HS.out _).mono ?_
    rintro e w3 ⟨v, rfl, how, hB3⟩
    go_wp2
    go_ret
    exact ret_chain (((Below.refl _ _).alloc (Nat.le_refl _) _).trans ((chain hB hB2).mono (by simp))) ⟨_, rfl, how, hB3⟩
theorem methW3 (n : Int) (r o b : ByteArray) (W : World) : (method 303 120 (.agg #[.int .i64 3, .string r, .string o, .string b, .int .i64 n]) "fencepost/ops.words").run Tryz.prog W = .ok (128, .agg #[.int .i64 3, .string r, .string o, .string b, .int .i64 n]) W := by kernel_rfl
set_option maxHeartbeats 1000000 in
set_option maxRecDepth 100000 in
theorem lwords3 (n : Int) (r o b : ByteArray) (w : World) (hr : Regs w) (hn : NumM.inR n) (ho : o.size ≤ 100000) (hb : b.size ≤ 100000) :
    Calls Tryz.prog 35 #[lnv 3 r o b n] w (RetStrs (OpsM.words 3 r.data.toList o.data.toList b.data.toList n) w) := by
  have E := Lib.hid (show OpsM.words 3 r.data.toList o.data.toList b.data.toList n = if OpsM.okLoc r.data.toList o.data.toList b.data.toList n then [OpsM.kmov, OpsM.brk o.data.toList, r.data.toList] else [] from rfl)
  have HW := Lib.hid hr
  have hm := meth3 n r o b
  have hm2 := methW3 n r o b
  have HR := Lib.hid (fun W h => wloc_any 3 n r o b W h)
  have HK := Lib.hid (fun W => kind3 n r o b W)
  have HS := Lib.hid (fun W => words3 n r o b W hn ho hb)
  clear hr
  rw [E.out]
  clear E
  generalize OpsM.okLoc r.data.toList o.data.toList b.data.toList n = res at *
  have HO := ho
  clear ho hb
  unfold lnv at *
  cases res
  · go_enter Tryz.func35, Tryz.ntmps35
    go_wp2_with fail
    refine (HK.out _).mono ?_
    rintro e w1 ⟨rfl, hB⟩
    go_wp2_with fail
    refine (HR.out _ ((HW.out.below ((Below.refl _ _).alloc (Nat.le_refl _) _)).below hB)).mono ?_
    rintro e w2 ⟨rfl, hB2⟩
    go_wp2
    go_ret
    exact ret_nil (((Below.refl _ _).alloc (Nat.le_refl _) _).trans ((chain hB hB2).mono (by simp)))
  · go_enter Tryz.func35, Tryz.ntmps35
    go_wp2_with fail
    refine (HK.out _).mono ?_
    rintro e w1 ⟨rfl, hB⟩
    go_wp2_with fail
    refine (HR.out _ ((HW.out.below ((Below.refl _ _).alloc (Nat.le_refl _) _)).below hB)).mono ?_
    rintro e w2 ⟨rfl, hB2⟩
    go_wp2_with fail
    refine (HS.out _).mono ?_
    rintro e w3 ⟨v, rfl, how, hB3⟩
    go_wp2
    go_ret
    exact ret_chain (((Below.refl _ _).alloc (Nat.le_refl _) _).trans ((chain hB hB2).mono (by simp))) ⟨_, rfl, how, hB3⟩
theorem methW4 (n : Int) (r o b : ByteArray) (W : World) : (method 303 121 (.agg #[.int .i64 4, .string r, .string o, .string b, .int .i64 n]) "fencepost/ops.words").run Tryz.prog W = .ok (130, .agg #[.int .i64 4, .string r, .string o, .string b, .int .i64 n]) W := by kernel_rfl
set_option maxHeartbeats 1000000 in
set_option maxRecDepth 100000 in
theorem lwords4 (n : Int) (r o b : ByteArray) (w : World) (hr : Regs w) (hn : NumM.inR n) (ho : o.size ≤ 100000) (hb : b.size ≤ 100000) :
    Calls Tryz.prog 35 #[lnv 4 r o b n] w (RetStrs (OpsM.words 4 r.data.toList o.data.toList b.data.toList n) w) := by
  have E := Lib.hid (show OpsM.words 4 r.data.toList o.data.toList b.data.toList n = if OpsM.okPut r.data.toList o.data.toList b.data.toList then [OpsM.kmov, OpsM.brk o.data.toList, NumM.text n] else [] from rfl)
  have HW := Lib.hid hr
  have hm := meth4 n r o b
  have hm2 := methW4 n r o b
  have HR := Lib.hid (fun W h => wput_any 4 n r o b W h)
  have HK := Lib.hid (fun W => kind4 n r o b W)
  have HS := Lib.hid (fun W => words4 n r o b W hn ho hb)
  clear hr
  rw [E.out]
  clear E
  generalize OpsM.okPut r.data.toList o.data.toList b.data.toList = res at *
  have HO := ho
  clear ho hb
  unfold lnv at *
  cases res
  · go_enter Tryz.func35, Tryz.ntmps35
    go_wp2_with fail
    refine (HK.out _).mono ?_
    rintro e w1 ⟨rfl, hB⟩
    go_wp2_with fail
    refine (HR.out _ ((HW.out.below ((Below.refl _ _).alloc (Nat.le_refl _) _)).below hB)).mono ?_
    rintro e w2 ⟨rfl, hB2⟩
    go_wp2
    go_ret
    exact ret_nil (((Below.refl _ _).alloc (Nat.le_refl _) _).trans ((chain hB hB2).mono (by simp)))
  · go_enter Tryz.func35, Tryz.ntmps35
    go_wp2_with fail
    refine (HK.out _).mono ?_
    rintro e w1 ⟨rfl, hB⟩
    go_wp2_with fail
    refine (HR.out _ ((HW.out.below ((Below.refl _ _).alloc (Nat.le_refl _) _)).below hB)).mono ?_
    rintro e w2 ⟨rfl, hB2⟩
    go_wp2_with fail
    refine (HS.out _).mono ?_
    rintro e w3 ⟨v, rfl, how, hB3⟩
    go_wp2
    go_ret
    exact ret_chain (((Below.refl _ _).alloc (Nat.le_refl _) _).trans ((chain hB hB2).mono (by simp))) ⟨_, rfl, how, hB3⟩
theorem methW5 (n : Int) (r o b : ByteArray) (W : World) : (method 303 122 (.agg #[.int .i64 5, .string r, .string o, .string b, .int .i64 n]) "fencepost/ops.words").run Tryz.prog W = .ok (131, .agg #[.int .i64 5, .string r, .string o, .string b, .int .i64 n]) W := by kernel_rfl
set_option maxHeartbeats 1000000 in
set_option maxRecDepth 100000 in
theorem lwords5 (n : Int) (r o b : ByteArray) (w : World) (hr : Regs w) (hn : NumM.inR n) (ho : o.size ≤ 100000) (hb : b.size ≤ 100000) :
    Calls Tryz.prog 35 #[lnv 5 r o b n] w (RetStrs (OpsM.words 5 r.data.toList o.data.toList b.data.toList n) w) := by
  have E := Lib.hid (show OpsM.words 5 r.data.toList o.data.toList b.data.toList n = if OpsM.okLoc r.data.toList o.data.toList b.data.toList n then [OpsM.kxchg, OpsM.brk o.data.toList, r.data.toList] else [] from rfl)
  have HW := Lib.hid hr
  have hm := meth5 n r o b
  have hm2 := methW5 n r o b
  have HR := Lib.hid (fun W h => wloc_any 5 n r o b W h)
  have HK := Lib.hid (fun W => kind5 n r o b W)
  have HS := Lib.hid (fun W => words5 n r o b W hn ho hb)
  clear hr
  rw [E.out]
  clear E
  generalize OpsM.okLoc r.data.toList o.data.toList b.data.toList n = res at *
  have HO := ho
  clear ho hb
  unfold lnv at *
  cases res
  · go_enter Tryz.func35, Tryz.ntmps35
    go_wp2_with fail
    refine (HK.out _).mono ?_
    rintro e w1 ⟨rfl, hB⟩
    go_wp2_with fail
    refine (HR.out _ ((HW.out.below ((Below.refl _ _).alloc (Nat.le_refl _) _)).below hB)).mono ?_
    rintro e w2 ⟨rfl, hB2⟩
    go_wp2
    go_ret
    exact ret_nil (((Below.refl _ _).alloc (Nat.le_refl _) _).trans ((chain hB hB2).mono (by simp)))
  · go_enter Tryz.func35, Tryz.ntmps35
    go_wp2_with fail
    refine (HK.out _).mono ?_
    rintro e w1 ⟨rfl, hB⟩
    go_wp2_with fail
    refine (HR.out _ ((HW.out.below ((Below.refl _ _).alloc (Nat.le_refl _) _)).below hB)).mono ?_
    rintro e w2 ⟨rfl, hB2⟩
    go_wp2_with fail
    refine (HS.out _).mono ?_
    rintro e w3 ⟨v, rfl, how, hB3⟩
    go_wp2
    go_ret
    exact ret_chain (((Below.refl _ _).alloc (Nat.le_refl _) _).trans ((chain hB hB2).mono (by simp))) ⟨_, rfl, how, hB3⟩
theorem methW6 (n : Int) (r o b : ByteArray) (W : World) : (method 303 123 (.agg #[.int .i64 6, .string r, .string o, .string b, .int .i64 n]) "fencepost/ops.words").run Tryz.prog W = .ok (133, .agg #[.int .i64 6, .string r, .string o, .string b, .int .i64 n]) W := by kernel_rfl
set_option maxHeartbeats 1000000 in
set_option maxRecDepth 100000 in
theorem lwords6 (n : Int) (r o b : ByteArray) (w : World) (hr : Regs w) (hn : NumM.inR n) (ho : o.size ≤ 100000) (hb : b.size ≤ 100000) :
    Calls Tryz.prog 35 #[lnv 6 r o b n] w (RetStrs (OpsM.words 6 r.data.toList o.data.toList b.data.toList n) w) := by
  have E := Lib.hid (show OpsM.words 6 r.data.toList o.data.toList b.data.toList n = if OpsM.okFen r.data.toList o.data.toList b.data.toList n then [OpsM.kmfence] else [] from rfl)
  have HW := Lib.hid hr
  have hm := meth6 n r o b
  have hm2 := methW6 n r o b
  have HR := Lib.hid (fun W h => wfen_any 6 n r o b W h)
  have HK := Lib.hid (fun W => kind6 n r o b W)
  have HS := Lib.hid (fun W => words6 n r o b W hn ho hb)
  clear hr
  rw [E.out]
  clear E
  generalize OpsM.okFen r.data.toList o.data.toList b.data.toList n = res at *
  have HO := ho
  clear ho hb
  unfold lnv at *
  cases res
  · go_enter Tryz.func35, Tryz.ntmps35
    go_wp2_with fail
    refine (HK.out _).mono ?_
    rintro e w1 ⟨rfl, hB⟩
    go_wp2_with fail
    refine (HR.out _ ((HW.out.below ((Below.refl _ _).alloc (Nat.le_refl _) _)).below hB)).mono ?_
    rintro e w2 ⟨rfl, hB2⟩
    go_wp2
    go_ret
    exact ret_nil (((Below.refl _ _).alloc (Nat.le_refl _) _).trans ((chain hB hB2).mono (by simp)))
  · go_enter Tryz.func35, Tryz.ntmps35
    go_wp2_with fail
    refine (HK.out _).mono ?_
    rintro e w1 ⟨rfl, hB⟩
    go_wp2_with fail
    refine (HR.out _ ((HW.out.below ((Below.refl _ _).alloc (Nat.le_refl _) _)).below hB)).mono ?_
    rintro e w2 ⟨rfl, hB2⟩
    go_wp2_with fail
    refine (HS.out _).mono ?_
    rintro e w3 ⟨v, rfl, how, hB3⟩
    go_wp2
    go_ret
    exact ret_chain (((Below.refl _ _).alloc (Nat.le_refl _) _).trans ((chain hB hB2).mono (by simp))) ⟨_, rfl, how, hB3⟩
theorem methW7 (n : Int) (r o b : ByteArray) (W : World) : (method 303 124 (.agg #[.int .i64 7, .string r, .string o, .string b, .int .i64 n]) "fencepost/ops.words").run Tryz.prog W = .ok (134, .agg #[.int .i64 7, .string r, .string o, .string b, .int .i64 n]) W := by kernel_rfl
set_option maxHeartbeats 1000000 in
set_option maxRecDepth 100000 in
theorem lwords7 (n : Int) (r o b : ByteArray) (w : World) (hr : Regs w) (hn : NumM.inR n) (ho : o.size ≤ 100000) (hb : b.size ≤ 100000) :
    Calls Tryz.prog 35 #[lnv 7 r o b n] w (RetStrs (OpsM.words 7 r.data.toList o.data.toList b.data.toList n) w) := by
  have E := Lib.hid (show OpsM.words 7 r.data.toList o.data.toList b.data.toList n = if OpsM.okNum r.data.toList o.data.toList b.data.toList then [OpsM.kcmp, r.data.toList, NumM.text n] else [] from rfl)
  have HW := Lib.hid hr
  have hm := meth7 n r o b
  have hm2 := methW7 n r o b
  have HR := Lib.hid (fun W h => wnum_any 7 n r o b W h)
  have HK := Lib.hid (fun W => kind7 n r o b W)
  have HS := Lib.hid (fun W => words7 n r o b W hn ho hb)
  clear hr
  rw [E.out]
  clear E
  generalize OpsM.okNum r.data.toList o.data.toList b.data.toList = res at *
  have HO := ho
  clear ho hb
  unfold lnv at *
  cases res
  · go_enter Tryz.func35, Tryz.ntmps35
    go_wp2_with fail
    refine (HK.out _).mono ?_
    rintro e w1 ⟨rfl, hB⟩
    go_wp2_with fail
    refine (HR.out _ ((HW.out.below ((Below.refl _ _).alloc (Nat.le_refl _) _)).below hB)).mono ?_
    rintro e w2 ⟨rfl, hB2⟩
    go_wp2
    go_ret
    exact ret_nil (((Below.refl _ _).alloc (Nat.le_refl _) _).trans ((chain hB hB2).mono (by simp)))
  · go_enter Tryz.func35, Tryz.ntmps35
    go_wp2_with fail
    refine (HK.out _).mono ?_
    rintro e w1 ⟨rfl, hB⟩
    go_wp2_with fail
    refine (HR.out _ ((HW.out.below ((Below.refl _ _).alloc (Nat.le_refl _) _)).below hB)).mono ?_
    rintro e w2 ⟨rfl, hB2⟩
    go_wp2_with fail
    refine (HS.out _).mono ?_
    rintro e w3 ⟨v, rfl, how, hB3⟩
    go_wp2
    go_ret
    exact ret_chain (((Below.refl _ _).alloc (Nat.le_refl _) _).trans ((chain hB hB2).mono (by simp))) ⟨_, rfl, how, hB3⟩
theorem methW8 (n : Int) (r o b : ByteArray) (W : World) : (method 303 127 (.agg #[.int .i64 8, .string r, .string o, .string b, .int .i64 n]) "fencepost/ops.words").run Tryz.prog W = .ok (136, .agg #[.int .i64 8, .string r, .string o, .string b, .int .i64 n]) W := by kernel_rfl
set_option maxHeartbeats 1000000 in
set_option maxRecDepth 100000 in
theorem lwords8 (n : Int) (r o b : ByteArray) (w : World) (hr : Regs w) (hn : NumM.inR n) (ho : o.size ≤ 100000) (hb : b.size ≤ 100000) :
    Calls Tryz.prog 35 #[lnv 8 r o b n] w (RetStrs (OpsM.words 8 r.data.toList o.data.toList b.data.toList n) w) := by
  have E := Lib.hid (show OpsM.words 8 r.data.toList o.data.toList b.data.toList n = if OpsM.okLab r.data.toList o.data.toList b.data.toList n then [OpsM.kjmp, b.data.toList] else [] from rfl)
  have HW := Lib.hid hr
  have hm := meth8 n r o b
  have hm2 := methW8 n r o b
  have HR := Lib.hid (fun W h => wlab_any 8 n r o b W h)
  have HK := Lib.hid (fun W => kind8 n r o b W)
  have HS := Lib.hid (fun W => words8 n r o b W hn ho hb)
  clear hr
  rw [E.out]
  clear E
  generalize OpsM.okLab r.data.toList o.data.toList b.data.toList n = res at *
  have HO := ho
  clear ho hb
  unfold lnv at *
  cases res
  · go_enter Tryz.func35, Tryz.ntmps35
    go_wp2_with fail
    refine (HK.out _).mono ?_
    rintro e w1 ⟨rfl, hB⟩
    go_wp2_with fail
    refine (HR.out _ ((HW.out.below ((Below.refl _ _).alloc (Nat.le_refl _) _)).below hB)).mono ?_
    rintro e w2 ⟨rfl, hB2⟩
    go_wp2
    go_ret
    exact ret_nil (((Below.refl _ _).alloc (Nat.le_refl _) _).trans ((chain hB hB2).mono (by simp)))
  · go_enter Tryz.func35, Tryz.ntmps35
    go_wp2_with fail
    refine (HK.out _).mono ?_
    rintro e w1 ⟨rfl, hB⟩
    go_wp2_with fail
    refine (HR.out _ ((HW.out.below ((Below.refl _ _).alloc (Nat.le_refl _) _)).below hB)).mono ?_
    rintro e w2 ⟨rfl, hB2⟩
    go_wp2_with fail
    refine (HS.out _).mono ?_
    rintro e w3 ⟨v, rfl, how, hB3⟩
    go_wp2
    go_ret
    exact ret_chain (((Below.refl _ _).alloc (Nat.le_refl _) _).trans ((chain hB hB2).mono (by simp))) ⟨_, rfl, how, hB3⟩
theorem methW9 (n : Int) (r o b : ByteArray) (W : World) : (method 303 128 (.agg #[.int .i64 9, .string r, .string o, .string b, .int .i64 n]) "fencepost/ops.words").run Tryz.prog W = .ok (137, .agg #[.int .i64 9, .string r, .string o, .string b, .int .i64 n]) W := by kernel_rfl
set_option maxHeartbeats 1000000 in
set_option maxRecDepth 100000 in
theorem lwords9 (n : Int) (r o b : ByteArray) (w : World) (hr : Regs w) (hn : NumM.inR n) (ho : o.size ≤ 100000) (hb : b.size ≤ 100000) :
    Calls Tryz.prog 35 #[lnv 9 r o b n] w (RetStrs (OpsM.words 9 r.data.toList o.data.toList b.data.toList n) w) := by
  have E := Lib.hid (show OpsM.words 9 r.data.toList o.data.toList b.data.toList n = if OpsM.okLab r.data.toList o.data.toList b.data.toList n then [OpsM.kje, b.data.toList] else [] from rfl)
  have HW := Lib.hid hr
  have hm := meth9 n r o b
  have hm2 := methW9 n r o b
  have HR := Lib.hid (fun W h => wlab_any 9 n r o b W h)
  have HK := Lib.hid (fun W => kind9 n r o b W)
  have HS := Lib.hid (fun W => words9 n r o b W hn ho hb)
  clear hr
  rw [E.out]
  clear E
  generalize OpsM.okLab r.data.toList o.data.toList b.data.toList n = res at *
  have HO := ho
  clear ho hb
  unfold lnv at *
  cases res
  · go_enter Tryz.func35, Tryz.ntmps35
    go_wp2_with fail
    refine (HK.out _).mono ?_
    rintro e w1 ⟨rfl, hB⟩
    go_wp2_with fail
    refine (HR.out _ ((HW.out.below ((Below.refl _ _).alloc (Nat.le_refl _) _)).below hB)).mono ?_
    rintro e w2 ⟨rfl, hB2⟩
    go_wp2
    go_ret
    exact ret_nil (((Below.refl _ _).alloc (Nat.le_refl _) _).trans ((chain hB hB2).mono (by simp)))
  · go_enter Tryz.func35, Tryz.ntmps35
    go_wp2_with fail
    refine (HK.out _).mono ?_
    rintro e w1 ⟨rfl, hB⟩
    go_wp2_with fail
    refine (HR.out _ ((HW.out.below ((Below.refl _ _).alloc (Nat.le_refl _) _)).below hB)).mono ?_
    rintro e w2 ⟨rfl, hB2⟩
    go_wp2_with fail
    refine (HS.out _).mono ?_
    rintro e w3 ⟨v, rfl, how, hB3⟩
    go_wp2
    go_ret
    exact ret_chain (((Below.refl _ _).alloc (Nat.le_refl _) _).trans ((chain hB hB2).mono (by simp))) ⟨_, rfl, how, hB3⟩
theorem methW10 (n : Int) (r o b : ByteArray) (W : World) : (method 303 129 (.agg #[.int .i64 10, .string r, .string o, .string b, .int .i64 n]) "fencepost/ops.words").run Tryz.prog W = .ok (138, .agg #[.int .i64 10, .string r, .string o, .string b, .int .i64 n]) W := by kernel_rfl
set_option maxHeartbeats 1000000 in
set_option maxRecDepth 100000 in
theorem lwords10 (n : Int) (r o b : ByteArray) (w : World) (hr : Regs w) (hn : NumM.inR n) (ho : o.size ≤ 100000) (hb : b.size ≤ 100000) :
    Calls Tryz.prog 35 #[lnv 10 r o b n] w (RetStrs (OpsM.words 10 r.data.toList o.data.toList b.data.toList n) w) := by
  have E := Lib.hid (show OpsM.words 10 r.data.toList o.data.toList b.data.toList n = if OpsM.okLab r.data.toList o.data.toList b.data.toList n then [OpsM.kjne, b.data.toList] else [] from rfl)
  have HW := Lib.hid hr
  have hm := meth10 n r o b
  have hm2 := methW10 n r o b
  have HR := Lib.hid (fun W h => wlab_any 10 n r o b W h)
  have HK := Lib.hid (fun W => kind10 n r o b W)
  have HS := Lib.hid (fun W => words10 n r o b W hn ho hb)
  clear hr
  rw [E.out]
  clear E
  generalize OpsM.okLab r.data.toList o.data.toList b.data.toList n = res at *
  have HO := ho
  clear ho hb
  unfold lnv at *
  cases res
  · go_enter Tryz.func35, Tryz.ntmps35
    go_wp2_with fail
    refine (HK.out _).mono ?_
    rintro e w1 ⟨rfl, hB⟩
    go_wp2_with fail
    refine (HR.out _ ((HW.out.below ((Below.refl _ _).alloc (Nat.le_refl _) _)).below hB)).mono ?_
    rintro e w2 ⟨rfl, hB2⟩
    go_wp2
    go_ret
    exact ret_nil (((Below.refl _ _).alloc (Nat.le_refl _) _).trans ((chain hB hB2).mono (by simp)))
  · go_enter Tryz.func35, Tryz.ntmps35
    go_wp2_with fail
    refine (HK.out _).mono ?_
    rintro e w1 ⟨rfl, hB⟩
    go_wp2_with fail
    refine (HR.out _ ((HW.out.below ((Below.refl _ _).alloc (Nat.le_refl _) _)).below hB)).mono ?_
    rintro e w2 ⟨rfl, hB2⟩
    go_wp2_with fail
    refine (HS.out _).mono ?_
    rintro e w3 ⟨v, rfl, how, hB3⟩
    go_wp2
    go_ret
    exact ret_chain (((Below.refl _ _).alloc (Nat.le_refl _) _).trans ((chain hB hB2).mono (by simp))) ⟨_, rfl, how, hB3⟩
theorem methW11 (n : Int) (r o b : ByteArray) (W : World) : (method 303 130 (.agg #[.int .i64 11, .string r, .string o, .string b, .int .i64 n]) "fencepost/ops.words").run Tryz.prog W = .ok (139, .agg #[.int .i64 11, .string r, .string o, .string b, .int .i64 n]) W := by kernel_rfl
set_option maxHeartbeats 1000000 in
set_option maxRecDepth 100000 in
theorem lwords11 (n : Int) (r o b : ByteArray) (w : World) (hr : Regs w) (hn : NumM.inR n) (ho : o.size ≤ 100000) (hb : b.size ≤ 100000) :
    Calls Tryz.prog 35 #[lnv 11 r o b n] w (RetStrs (OpsM.words 11 r.data.toList o.data.toList b.data.toList n) w) := by
  have E := Lib.hid (show OpsM.words 11 r.data.toList o.data.toList b.data.toList n = if OpsM.okLab r.data.toList o.data.toList b.data.toList n then [OpsM.col b.data.toList] else [] from rfl)
  have HW := Lib.hid hr
  have hm := meth11 n r o b
  have hm2 := methW11 n r o b
  have HR := Lib.hid (fun W h => wlab_any 11 n r o b W h)
  have HK := Lib.hid (fun W => kind11 n r o b W)
  have HS := Lib.hid (fun W => words11 n r o b W hn ho hb)
  clear hr
  rw [E.out]
  clear E
  generalize OpsM.okLab r.data.toList o.data.toList b.data.toList n = res at *
  have HO := ho
  clear ho hb
  unfold lnv at *
  cases res
  · go_enter Tryz.func35, Tryz.ntmps35
    go_wp2_with fail
    refine (HK.out _).mono ?_
    rintro e w1 ⟨rfl, hB⟩
    go_wp2_with fail
    refine (HR.out _ ((HW.out.below ((Below.refl _ _).alloc (Nat.le_refl _) _)).below hB)).mono ?_
    rintro e w2 ⟨rfl, hB2⟩
    go_wp2
    go_ret
    exact ret_nil (((Below.refl _ _).alloc (Nat.le_refl _) _).trans ((chain hB hB2).mono (by simp)))
  · go_enter Tryz.func35, Tryz.ntmps35
    go_wp2_with fail
    refine (HK.out _).mono ?_
    rintro e w1 ⟨rfl, hB⟩
    go_wp2_with fail
    refine (HR.out _ ((HW.out.below ((Below.refl _ _).alloc (Nat.le_refl _) _)).below hB)).mono ?_
    rintro e w2 ⟨rfl, hB2⟩
    go_wp2_with fail
    refine (HS.out _).mono ?_
    rintro e w3 ⟨v, rfl, how, hB3⟩
    go_wp2
    go_ret
    exact ret_chain (((Below.refl _ _).alloc (Nat.le_refl _) _).trans ((chain hB hB2).mono (by simp))) ⟨_, rfl, how, hB3⟩
set_option maxHeartbeats 1000000 in
set_option maxRecDepth 100000 in
theorem lwordsNo (op n : Int) (r o b : ByteArray) (w : World) (h1 : op ≠ 1) (h2 : op ≠ 2) (h3 : op ≠ 3) (h4 : op ≠ 4) (h5 : op ≠ 5) (h6 : op ≠ 6) (h7 : op ≠ 7) (h8 : op ≠ 8) (h9 : op ≠ 9) (h10 : op ≠ 10) (h11 : op ≠ 11) :
    Calls Tryz.prog 35 #[lnv op r o b n] w (RetStrs [] w) := by
  have HK := Lib.hid (fun W => kindNo op n r o b W h1 h2 h3 h4 h5 h6 h7 h8 h9 h10 h11)
  clear h1 h2 h3 h4 h5 h6 h7 h8 h9 h10 h11
  unfold lnv at *
  go_enter Tryz.func35, Tryz.ntmps35
  go_wp2_with fail
  refine (HK.out _).mono ?_
  rintro e w1 ⟨rfl, hB⟩
  go_wp2
  go_ret
  exact ret_nil (((Below.refl _ _).alloc (Nat.le_refl _) _).trans (hB.mono (by simp)))
theorem lwords_any (op n : Int) (r o b : ByteArray) (w : World) (hr : Regs w) (hn : NumM.inR n) (ho : o.size ≤ 100000) (hb : b.size ≤ 100000) :
    Calls Tryz.prog 35 #[lnv op r o b n] w (RetStrs (OpsM.words op r.data.toList o.data.toList b.data.toList n) w) := by
  by_cases h1 : op = 1
  · subst h1; exact lwords1 n r o b w hr hn ho hb
  by_cases h2 : op = 2
  · subst h2; exact lwords2 n r o b w hr hn ho hb
  by_cases h3 : op = 3
  · subst h3; exact lwords3 n r o b w hr hn ho hb
  by_cases h4 : op = 4
  · subst h4; exact lwords4 n r o b w hr hn ho hb
  by_cases h5 : op = 5
  · subst h5; exact lwords5 n r o b w hr hn ho hb
  by_cases h6 : op = 6
  · subst h6; exact lwords6 n r o b w hr hn ho hb
  by_cases h7 : op = 7
  · subst h7; exact lwords7 n r o b w hr hn ho hb
  by_cases h8 : op = 8
  · subst h8; exact lwords8 n r o b w hr hn ho hb
  by_cases h9 : op = 9
  · subst h9; exact lwords9 n r o b w hr hn ho hb
  by_cases h10 : op = 10
  · subst h10; exact lwords10 n r o b w hr hn ho hb
  by_cases h11 : op = 11
  · subst h11; exact lwords11 n r o b w hr hn ho hb
  have e : OpsM.words op r.data.toList o.data.toList b.data.toList n = [] := by unfold OpsM.words; rw [right_no op n _ _ _ h1 h2 h3 h4 h5 h6 h7 h8 h9 h10 h11]; rfl
  rw [e]
  exact lwordsNo op n r o b w h1 h2 h3 h4 h5 h6 h7 h8 h9 h10 h11
end Go.Proofs.YtkkjodjachbifaaGreatDoor
namespace Go.Proofs.YtkkjodjachbifaaGreatDoor
open Go.RowKit
set_option linter.unusedVariables false
open WordM (L)

def EqRel (a b : List L) (w : World) (i : Value) (wr : World) : Prop :=
  ∃ k n : Nat, k ≤ a.length ∧ i = .int .i64 k ∧ wr = w.drewN n ∧ ∀ j (_ : j < k) (ha : j < a.length) (hb : j < b.length), a[j] = b[j]
end Go.Proofs.YtkkjodjachbifaaGreatDoor
namespace Go.Proofs.YtkkjodjachbifaaGreatDoor.OpsM
open WordM (L)
set_option linter.unusedVariables false

theorem offEnd_len (c : UInt8) (s : L) : (offEnd c s).length ≤ s.length := by
  unfold offEnd; split <;> simp
theorem offHead_len (c : UInt8) (s : L) : (offHead c s).length ≤ s.length := by
  unfold offHead; split <;> simp
theorem inside_len (s : L) : (inside s).length ≤ s.length := Nat.le_trans (offEnd_len _ _) (offHead_len _ _)
theorem made_len (w : List L) (N : Nat) (h : ∀ l ∈ w, l.length ≤ N) : (made w).loc.length ≤ N ∧ (made w).label.length ≤ N := by
  have z : ([] : L).length ≤ N := Nat.zero_le _
  match w with
  | [] => exact ⟨z, z⟩
  | [a] =>
    have := offEnd_len 58 a
    have := h a (by simp)
    show (alone a).loc.length ≤ N ∧ (alone a).label.length ≤ N
    unfold alone; split
    · exact ⟨z, z⟩
    · exact ⟨z, by show (offEnd 58 a).length ≤ N; omega⟩
  | [a, b] =>
    have hb := h b (by simp)
    show (jumped a b).loc.length ≤ N ∧ (jumped a b).label.length ≤ N
    unfold jumped; split
    · exact ⟨z, hb⟩
    · split
      · exact ⟨z, hb⟩
      · split
        · exact ⟨z, hb⟩
        · exact ⟨z, z⟩
  | [a, b, c] =>
    have hb := h b (by simp)
    have hc := h c (by simp)
    have ib := inside_len b
    have ic := inside_len c
    have jb : (inside b).length ≤ N := by omega
    have jc : (inside c).length ≤ N := by omega
    show (worked a b c).loc.length ≤ N ∧ (worked a b c).label.length ≤ N
    unfold worked; split
    · unfold moved; split
      · split
        · exact ⟨z, z⟩
        · exact ⟨jb, z⟩
      · split
        · exact ⟨jc, z⟩
        · exact ⟨jb, z⟩
    · split
      · exact ⟨jb, z⟩
      · split
        · exact ⟨z, z⟩
        · exact ⟨z, z⟩
  | _ :: _ :: _ :: _ :: _ => exact ⟨z, z⟩
end Go.Proofs.YtkkjodjachbifaaGreatDoor.OpsM
namespace Go.Proofs.YtkkjodjachbifaaGreatDoor
open Go.RowKit
set_option linter.unusedVariables false
set_option linter.unusedSimpArgs false
open WordM (L)

theorem rightw_any (l : OpsM.Ln) (w : World) (hr : Regs w) :
    Calls Tryz.prog 93 #[lnw l] w fun e w' => e = .returned (.bool (OpsM.rightL l)) ∧ Below w.heap.size w w' := right_any _ _ _ _ _ w hr
theorem wordsw_any (l : OpsM.Ln) (w : World) (hr : Regs w) (hn : NumM.inR l.n) (ho : l.loc.length ≤ 100000) (hb : l.label.length ≤ 100000) :
    Calls Tryz.prog 35 #[lnw l] w (RetStrs (OpsM.wordsL l) w) :=
  lwords_any _ _ _ _ _ w hr hn (by rw [Lib.size_eq]; simpa using ho) (by rw [Lib.size_eq]; simpa using hb)

end Go.Proofs.YtkkjodjachbifaaGreatDoor
