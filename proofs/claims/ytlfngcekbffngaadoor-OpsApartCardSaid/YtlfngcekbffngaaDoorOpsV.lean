/-
  THE WORDS OF A LINE, kind by kind, over any world that holds the registers.
-/
import Derived.Test.YtlfngcekbffngaaDoorOpsK
import Derived.Test.YtlfngcekbffngaaDoorKit2
import Derived.Laws.OwnMore
import Derived.StillTailTactics
import Derived.Deep.RegionHeld3
namespace Go.Proofs.YtlfngcekbffngaaDoor
open Go.RowKit
set_option linter.unusedVariables false
open WordM (L)

theorem own_lit {W : World} (ls : List L) (B : Nat) (hB : B ≤ W.heap.size) (h : ls.length ≤ maxLen) : (W.alloc (.cells (svs ls).toArray 9)).ownsRow B 9 1 (.slice (some ⟨W.heap.size, 0, none⟩) ls.length ls.length) ls.length (svs ls) := by
  have := World.ownsRow_lit (base := B) (e := 9) (size := 1) W (svs ls).toArray ls.length hB h (by simp [svs])
  simpa using this
/-- A slice that was written out, and is handed back. -/
theorem ret_lit {w W : World} (ls : List L) {g n : Nat} {cs : Array Value} (hg : g = W.heap.size) (hn : n = ls.length) (hc : cs = (svs ls).toArray) (h : ls.length ≤ 100) (hb : Below w.heap.size w W) :
    RetStrs ls w (.returned (.slice (some ⟨g, 0, none⟩) n n)) (W.alloc (.cells cs 9)) := by
  subst hg; subst hn; subst hc
  exact ⟨_, rfl, own_lit ls _ hb.size (by unfold maxLen; omega), hb.alloc hb.size _⟩
theorem ret_litd {w W : World} (ls : List L) {g n : Nat} {cs : Array Value} (hg : g = W.heap.size) (hn : n = ls.length) (hc : cs = (svs ls).toArray) (h : ls.length ≤ 100) (hb : Below w.heap.size w W) :
    RetStrs ls w (.returned (.slice (some ⟨g, 0, none⟩) n n)) (W.alloc (.cells cs 9)).drew := by
  obtain ⟨v, e, ho, hB⟩ := ret_lit ls hg hn hc h hb
  exact ⟨v, e, ho, below_drewN hB 1⟩
set_option maxHeartbeats 1000000 in
set_option maxRecDepth 100000 in
theorem brk_any (s : ByteArray) (w : World) (hs : s.size ≤ 100000) :
    Calls Tryd.prog 91 #[.string s] w fun e w' => e = .returned (.string ⟨(OpsM.brk s.data.toList).toArray⟩) ∧ w = w' := by
  have z1 : (⟨#[91]⟩ : ByteArray).size = 1 := rfl
  have z2 : (⟨#[93]⟩ : ByteArray).size = 1 := rfl
  have z3 : (⟨#[91]⟩ ++ s : ByteArray).size = 1 + s.size := by rw [ByteArray.size_append]; rfl
  have hc1 := fun W => run_string_add_sum (P := Tryd.prog) (w := W) ⟨#[91]⟩ s (by omega)
  have hc2 := fun W => run_string_add_sum (P := Tryd.prog) (w := W) (⟨#[91]⟩ ++ s) ⟨#[93]⟩ (by omega)
  have E := Lib.hid (show (⟨#[91]⟩ ++ s ++ ⟨#[93]⟩ : ByteArray) = ⟨(OpsM.brk s.data.toList).toArray⟩ by apply ByteArray.ext; rw [ByteArray.data_append, ByteArray.data_append]; apply Array.toList_inj.1; simp [OpsM.brk])
  clear z1 z2 z3
  go_enter Tryd.func91, Tryd.ntmps91
  go_wp2
  go_ret
  exact ⟨by rw [← E.out]; rfl, rfl⟩

theorem ret_chain {ls : List L} {w w1 w2 : World} {e : Ending} (hB : Below w.heap.size w w1) (h : RetStrs ls w1 e w2) : RetStrs ls w e w2 := by
  obtain ⟨v, he, ho, hb⟩ := h
  exact ⟨v, he, own_base ho hB.size, chain hB hb⟩
theorem ret_nil {w w1 : World} (hB : Below w.heap.size w w1) : RetStrs [] w (.returned (.slice none 0 0)) w1 := ⟨_, rfl, ⟨rfl, .inl ⟨rfl, rfl⟩⟩, hB⟩

set_option maxHeartbeats 1000000 in
set_option maxRecDepth 100000 in
theorem words1 (n : Int) (r o b : ByteArray) (w : World) (hn : NumM.inR n) (ho : o.size ≤ 100000) (hb : b.size ≤ 100000) :
    Calls Tryd.prog 88 #[lnv 1 r o b n] w (RetStrs [OpsM.kmov, r.data.toList, NumM.text n] w) := by
  have HT := Lib.hid (fun W => text_any n W hn)
  unfold lnv
  go_enter Tryd.func88, Tryd.ntmps88
  go_wp2
  go_region_held3 (fun w' => w'.cell? ⟨w.heap.size, 1, none⟩ = some (.string r) ∧ w'.cell? ⟨w.heap.size, 4, none⟩ = some (.int .i64 n)) (first | go_keep | (exact held_below2 hB (by assumption)))
    (first | (go_at_call 38; refine (HT.out _).mono ?_; rintro e w' ⟨rfl, hB⟩))
  all_goals
    go_wp2
    go_ret
    exact ret_lit [OpsM.kmov, r.data.toList, NumM.text n] (by simp) rfl rfl (by simp) (below_box hB)
set_option maxHeartbeats 1000000 in
set_option maxRecDepth 100000 in
theorem words2 (n : Int) (r o b : ByteArray) (w : World) (hn : NumM.inR n) (ho : o.size ≤ 100000) (hb : b.size ≤ 100000) :
    Calls Tryd.prog 90 #[lnv 2 r o b n] w (RetStrs [OpsM.kmov, r.data.toList, OpsM.brk o.data.toList] w) := by
  have HB := Lib.hid (fun W => brk_any o W ho)
  unfold lnv
  go_enter Tryd.func90, Tryd.ntmps90
  go_wp2
  go_region_held3 (fun w' => w'.cell? ⟨w.heap.size, 1, none⟩ = some (.string r) ∧ w'.cell? ⟨w.heap.size, 2, none⟩ = some (.string o)) (first | go_keep | (exact held_below2 hB (by assumption)))
    (first | (go_at_call 91; refine (HB.out _).mono ?_; rintro e w' ⟨rfl, rfl⟩))
  all_goals
    go_wp2
    go_ret
    exact ret_litd [OpsM.kmov, r.data.toList, OpsM.brk o.data.toList] (by simp) rfl rfl (by simp) ((Below.refl _ _).alloc (Nat.le_refl _) _)
set_option maxHeartbeats 1000000 in
set_option maxRecDepth 100000 in
theorem words3 (n : Int) (r o b : ByteArray) (w : World) (hn : NumM.inR n) (ho : o.size ≤ 100000) (hb : b.size ≤ 100000) :
    Calls Tryd.prog 92 #[lnv 3 r o b n] w (RetStrs [OpsM.kmov, OpsM.brk o.data.toList, r.data.toList] w) := by
  have HB := Lib.hid (fun W => brk_any o W ho)
  unfold lnv
  go_enter Tryd.func92, Tryd.ntmps92
  go_wp2
  go_region_held3 (fun w' => w'.cell? ⟨w.heap.size, 1, none⟩ = some (.string r) ∧ w'.cell? ⟨w.heap.size, 2, none⟩ = some (.string o)) (first | go_keep | (exact held_below2 hB (by assumption)))
    (first | (go_at_call 91; refine (HB.out _).mono ?_; rintro e w' ⟨rfl, rfl⟩))
  all_goals
    go_wp2
    go_ret
    exact ret_litd [OpsM.kmov, OpsM.brk o.data.toList, r.data.toList] (by simp) rfl rfl (by simp) ((Below.refl _ _).alloc (Nat.le_refl _) _)
set_option maxHeartbeats 1000000 in
set_option maxRecDepth 100000 in
theorem words4 (n : Int) (r o b : ByteArray) (w : World) (hn : NumM.inR n) (ho : o.size ≤ 100000) (hb : b.size ≤ 100000) :
    Calls Tryd.prog 94 #[lnv 4 r o b n] w (RetStrs [OpsM.kmov, OpsM.brk o.data.toList, NumM.text n] w) := by
  have HT := Lib.hid (fun W => text_any n W hn)
  have HB := Lib.hid (fun W => brk_any o W ho)
  unfold lnv
  go_enter Tryd.func94, Tryd.ntmps94
  go_wp2
  go_region_held3 (fun w' => w'.cell? ⟨w.heap.size, 2, none⟩ = some (.string o) ∧ w'.cell? ⟨w.heap.size, 4, none⟩ = some (.int .i64 n)) (first | go_keep | (exact held_below2 hB (by assumption)))
    (first | (go_at_call 38; refine (HT.out _).mono ?_; rintro e w' ⟨rfl, hB⟩) | (go_at_call 91; refine (HB.out _).mono ?_; rintro e w' ⟨rfl, rfl⟩))
  all_goals
    go_wp2
    go_ret
    exact ret_lit [OpsM.kmov, OpsM.brk o.data.toList, NumM.text n] (by simp) rfl rfl (by simp) (below_box hB)
set_option maxHeartbeats 1000000 in
set_option maxRecDepth 100000 in
theorem words5 (n : Int) (r o b : ByteArray) (w : World) (hn : NumM.inR n) (ho : o.size ≤ 100000) (hb : b.size ≤ 100000) :
    Calls Tryd.prog 95 #[lnv 5 r o b n] w (RetStrs [OpsM.kxchg, OpsM.brk o.data.toList, r.data.toList] w) := by
  have HB := Lib.hid (fun W => brk_any o W ho)
  unfold lnv
  go_enter Tryd.func95, Tryd.ntmps95
  go_wp2
  go_region_held3 (fun w' => w'.cell? ⟨w.heap.size, 1, none⟩ = some (.string r) ∧ w'.cell? ⟨w.heap.size, 2, none⟩ = some (.string o)) (first | go_keep | (exact held_below2 hB (by assumption)))
    (first | (go_at_call 91; refine (HB.out _).mono ?_; rintro e w' ⟨rfl, rfl⟩))
  all_goals
    go_wp2
    go_ret
    exact ret_litd [OpsM.kxchg, OpsM.brk o.data.toList, r.data.toList] (by simp) rfl rfl (by simp) ((Below.refl _ _).alloc (Nat.le_refl _) _)
set_option maxHeartbeats 1000000 in
set_option maxRecDepth 100000 in
theorem words6 (n : Int) (r o b : ByteArray) (w : World) (hn : NumM.inR n) (ho : o.size ≤ 100000) (hb : b.size ≤ 100000) :
    Calls Tryd.prog 97 #[lnv 6 r o b n] w (RetStrs [OpsM.kmfence] w) := by
  unfold lnv
  go_enter Tryd.func97, Tryd.ntmps97
  go_wp2
  go_ret
  exact ret_lit [OpsM.kmfence] (by simp) rfl rfl (by simp) ((Below.refl _ _).alloc (Nat.le_refl _) _)
set_option maxHeartbeats 1000000 in
set_option maxRecDepth 100000 in
theorem words7 (n : Int) (r o b : ByteArray) (w : World) (hn : NumM.inR n) (ho : o.size ≤ 100000) (hb : b.size ≤ 100000) :
    Calls Tryd.prog 98 #[lnv 7 r o b n] w (RetStrs [OpsM.kcmp, r.data.toList, NumM.text n] w) := by
  have HT := Lib.hid (fun W => text_any n W hn)
  unfold lnv
  go_enter Tryd.func98, Tryd.ntmps98
  go_wp2
  go_region_held3 (fun w' => w'.cell? ⟨w.heap.size, 1, none⟩ = some (.string r) ∧ w'.cell? ⟨w.heap.size, 4, none⟩ = some (.int .i64 n)) (first | go_keep | (exact held_below2 hB (by assumption)))
    (first | (go_at_call 38; refine (HT.out _).mono ?_; rintro e w' ⟨rfl, hB⟩))
  all_goals
    go_wp2
    go_ret
    exact ret_lit [OpsM.kcmp, r.data.toList, NumM.text n] (by simp) rfl rfl (by simp) (below_box hB)
set_option maxHeartbeats 1000000 in
set_option maxRecDepth 100000 in
theorem words8 (n : Int) (r o b : ByteArray) (w : World) (hn : NumM.inR n) (ho : o.size ≤ 100000) (hb : b.size ≤ 100000) :
    Calls Tryd.prog 100 #[lnv 8 r o b n] w (RetStrs [OpsM.kjmp, b.data.toList] w) := by
  unfold lnv
  go_enter Tryd.func100, Tryd.ntmps100
  go_wp2
  go_ret
  exact ret_lit [OpsM.kjmp, b.data.toList] (by simp) rfl rfl (by simp) ((Below.refl _ _).alloc (Nat.le_refl _) _)
set_option maxHeartbeats 1000000 in
set_option maxRecDepth 100000 in
theorem words9 (n : Int) (r o b : ByteArray) (w : World) (hn : NumM.inR n) (ho : o.size ≤ 100000) (hb : b.size ≤ 100000) :
    Calls Tryd.prog 101 #[lnv 9 r o b n] w (RetStrs [OpsM.kje, b.data.toList] w) := by
  unfold lnv
  go_enter Tryd.func101, Tryd.ntmps101
  go_wp2
  go_ret
  exact ret_lit [OpsM.kje, b.data.toList] (by simp) rfl rfl (by simp) ((Below.refl _ _).alloc (Nat.le_refl _) _)
set_option maxHeartbeats 1000000 in
set_option maxRecDepth 100000 in
theorem words10 (n : Int) (r o b : ByteArray) (w : World) (hn : NumM.inR n) (ho : o.size ≤ 100000) (hb : b.size ≤ 100000) :
    Calls Tryd.prog 102 #[lnv 10 r o b n] w (RetStrs [OpsM.kjne, b.data.toList] w) := by
  unfold lnv
  go_enter Tryd.func102, Tryd.ntmps102
  go_wp2
  go_ret
  exact ret_lit [OpsM.kjne, b.data.toList] (by simp) rfl rfl (by simp) ((Below.refl _ _).alloc (Nat.le_refl _) _)
set_option maxHeartbeats 1000000 in
set_option maxRecDepth 100000 in
theorem words11 (n : Int) (r o b : ByteArray) (w : World) (hn : NumM.inR n) (ho : o.size ≤ 100000) (hb : b.size ≤ 100000) :
    Calls Tryd.prog 103 #[lnv 11 r o b n] w (RetStrs [OpsM.col b.data.toList] w) := by
  have z1 : (⟨#[58]⟩ : ByteArray).size = 1 := rfl
  have hc1 := fun W => run_string_add_sum (P := Tryd.prog) (w := W) b ⟨#[58]⟩ (by omega)
  have E := Lib.hid (show (b ++ ⟨#[58]⟩ : ByteArray) = ⟨(OpsM.col b.data.toList).toArray⟩ by apply ByteArray.ext; rw [ByteArray.data_append]; apply Array.toList_inj.1; simp [OpsM.col])
  rw [E.out] at hc1
  clear z1
  unfold lnv
  go_enter Tryd.func103, Tryd.ntmps103
  go_wp2
  go_ret
  exact ret_lit [OpsM.col b.data.toList] (by simp) rfl rfl (by simp) ((Below.refl _ _).alloc (Nat.le_refl _) _)
end Go.Proofs.YtlfngcekbffngaaDoor
