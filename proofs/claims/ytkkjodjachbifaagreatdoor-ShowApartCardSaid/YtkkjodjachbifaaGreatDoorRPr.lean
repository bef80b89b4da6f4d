/-
  THE DOCUMENT's join and Line.
  THE DOCUMENT's Print: a right program's text.
-/
import Derived.Test.YtkkjodjachbifaaGreatDoorShw
import Derived.Test.YtkkjodjachbifaaGreatDoorRef
import Derived.Test.YtkkjodjachbifaaGreatDoorRefQA
import Derived.Test.YtkkjodjachbifaaGreatDoorRChk
import Derived.Deep.RegionHeld3
namespace Go.Proofs.YtkkjodjachbifaaGreatDoor
open Go.RowKit
set_option linter.unusedVariables false
set_option linter.unusedSimpArgs false
open WordM (L)
open VM
theorem join_snoc (a : L) (r : List L) (x : L) : joinL ((a :: r) ++ [x]) = (joinL (a :: r) ++ [32]) ++ x := by
  rw [List.cons_append, joinL_cons, joinL_cons, List.map_append, List.flatten_append]; simp
theorem join_take {ls : List L} {n : Nat} (h : n + 1 < ls.length) : joinL (ls.take (n + 1 + 1)) = (joinL (ls.take (n + 1)) ++ [32]) ++ ls[n + 1] := by
  rw [List.take_succ_eq_append_getElem h]
  cases ls with
  | nil => exact absurd h (by simp)
  | cons a r => rw [List.take_succ_cons, join_snoc]
def RjRel (ls : List L) (w : World) (s i : Value) (wr : World) : Prop :=
  ∃ k : Nat, k ≤ ls.length ∧ i = .int .i64 k ∧ s = .string ⟨(joinL (ls.take k)).toArray⟩ ∧ Below w.heap.size w wr
set_option maxHeartbeats 2000000 in
set_option maxRecDepth 100000 in
theorem rjoin_any {B : Nat} {v : Value} {ls : List L} (w : World) (h : Strs B w v ls) (hBB : B ≤ w.heap.size) (hn : ls.length ≤ 1000000) (hm : ∀ l ∈ ls, l.length ≤ 100000) :
    Calls Tryz.prog 32 #[v] w fun e w' => e = .returned (.string ⟨(joinL ls).toArray⟩) ∧ Below w.heap.size w w' := by
  obtain ⟨A1, c1, rfl, h1, h2, h3⟩ := h
  unfold maxLen at h2
  have HM := Lib.hid hm
  clear hm
  go_enter Tryz.func32, Tryz.ntmps32
  go_wp2
  go_loopw [3, 4] (fun s i wr => RjRel ls w s i wr) (fun _ i _ => ls.length - (intOf i).toNat)
  case atStart => exact ⟨0, Nat.zero_le _, rfl, rfl, Below.refl _ _⟩
  case round =>
    obtain ⟨k, hk, rfl, rfl, hB⟩ := hrel
    by_cases hlt : k < ls.length
    · obtain ⟨b1, f1, rfl, hb1, hcl⟩ := h3 (by omega)
      have e1 : wr.cell? ⟨b1, f1 + k, none⟩ = some (.string ⟨ls[k].toArray⟩) := ((hB.mono hBB).cell (p := ⟨b1, f1 + k, none⟩) hb1).trans (hcl k hlt)
      have hxl := HM.out _ (List.getElem_mem hlt)
      have hjl := joinL_len 100000 (ls.take k) (fun l hl => HM.out l (List.mem_of_mem_take hl))
      rw [List.length_take, Nat.min_eq_left (by omega)] at hjl
      by_cases hk0 : k = 0
      · subst hk0
        have HS := Lib.hid (show joinL (ls.take (0 + 1)) = ls[0] from by
          rw [List.take_succ_eq_append_getElem hlt]; simp [joinL, Lib.join_one])
        obtain ⟨x, hx⟩ : ∃ x, x = ls[0] := ⟨_, rfl⟩
        rw [← hx] at e1 hxl HS
        rw [Nat.add_zero] at e1
        have hz : joinL (ls.take 0) = [] := by rw [List.take_zero]; rfl
        rw [hz]
        have hc : ∀ W, (Op.stringOp BinOp.add ⟨#[]⟩ ⟨x.toArray⟩).run Tryz.prog W = .ok (.string ⟨x.toArray⟩) W := fun W => add_l (P := Tryz.prog) W [] x (by simp; omega)
        clear hx hcl h3 hjl hz
        go_wp2
        go_roundw
        case rel => exact ⟨0 + 1, by omega, by go_num, by rw [HS.out], hB⟩
        case measure => simp [intOf]; omega
      · obtain ⟨n, rfl⟩ : ∃ n, k = n + 1 := ⟨k - 1, by omega⟩
        have HS := Lib.hid (join_take hlt)
        obtain ⟨x, hx⟩ : ∃ x, x = ls[n + 1] := ⟨_, rfl⟩
        rw [← hx] at e1 hxl HS
        have q1 : decide ((0 : Int) < ((n + 1 : Nat) : Int)) = true := decide_eq_true (by omega)
        obtain ⟨s, hs⟩ : ∃ s, s = joinL (ls.take (n + 1)) := ⟨_, rfl⟩
        rw [← hs] at HS hjl ⊢
        have hc1 : ∀ W, (Op.stringOp BinOp.add ⟨s.toArray⟩ ⟨#[32]⟩).run Tryz.prog W = .ok (.string ⟨(s ++ [32]).toArray⟩) W := fun W => add_l (P := Tryz.prog) W s [32] (by simp; omega)
        have hc2 : ∀ W, (Op.stringOp BinOp.add ⟨(s ++ [32]).toArray⟩ ⟨x.toArray⟩).run Tryz.prog W = .ok (.string ⟨((s ++ [32]) ++ x).toArray⟩) W := fun W => add_l (P := Tryz.prog) W (s ++ [32]) x (by simp; omega)
        clear hx hcl h3 hjl hs
        go_wp2
        go_roundw
        case rel => exact ⟨n + 1 + 1, by omega, by go_num, by rw [HS.out]; simp, hB⟩
        case measure => simp [intOf]; omega
    · obtain rfl : ls.length = k := by omega
      rw [List.take_length]
      clear h3
      go_wp2
      go_ret
      exact ⟨rfl, hB⟩
set_option maxHeartbeats 2000000 in
set_option maxRecDepth 100000 in
theorem rsline_any (x : OpsM.Ln) (w : World) (hx : LnSm x) :
    Calls Tryz.prog 15 #[.agg #[.int .i64 x.op, .string ⟨x.reg.toArray⟩, .string ⟨x.loc.toArray⟩, .string ⟨x.label.toArray⟩, .int .i64 x.n]] w fun e w' => e = .returned (.string ⟨(lineS x).toArray⟩) ∧ Below w.heap.size w w' := by
  obtain ⟨⟨s1, s2, s3⟩, s4⟩ := hx
  have hB0 := below_al (Below.refl w.heap.size w) (.cells #[.int .i64 x.op, .string ⟨x.reg.toArray⟩, .string ⟨x.loc.toArray⟩, .string ⟨x.label.toArray⟩, .int .i64 x.n] 28)
  have HW := Lib.hid (fun W => rwordsw_any x W s4 (by omega) (by omega) (by omega))
  unfold lnw lnv at HW
  go_enter Tryz.func15, Tryz.ntmps15
  go_wp2_with fail
  refine (HW.out _).mono ?_
  rintro e wa ⟨va, rfl, howna, hba⟩
  have hBa := chain hB0 hba
  have HJ := Lib.hid (rjoin_any wa (strs_own howna) (Nat.le_refl _) (by have := wordsL_len x; omega) (wordsL_words s1 s2 s3 s4))
  obtain ⟨Aa, ca, rfl⟩ := own_slice howna
  clear HW hB0 hba howna
  go_wp2_with fail
  refine HJ.out.mono ?_
  rintro e wb ⟨rfl, hbb⟩
  have hBb := chain hBa hbb
  go_wp2
  go_ret
  exact ⟨rfl, hBb⟩
end Go.Proofs.YtkkjodjachbifaaGreatDoor
namespace Go.Proofs.YtkkjodjachbifaaGreatDoor
open Go.RowKit
set_option linter.unusedVariables false
set_option linter.unusedSimpArgs false
open WordM (L)
open VM

/-- The program's box, and what is below. -/
def RpK (F : Fl) (vi vt vc : Value) (w : World) (wr : World) : Prop := Below w.heap.size w wr ∧ FlBox wr w.heap.size ⟨F.name.toArray⟩ vi vt vc F.all
/-- A row of the call's own, another than the box. -/
def OwnR (w wr : World) (v : Value) (N : Nat) (ls : List L) : Prop := wr.ownsRow (w.heap.size + 1) 9 1 v N (svs ls)
def Rp1 (F : Fl) (vi vt vc : Value) (w : World) (v i : Value) (wr : World) : Prop :=
  ∃ k N : Nat, k ≤ F.init.length ∧ i = .int .i64 k ∧ N = 1 + k * 2 ∧ OwnR w wr v N (initW (F.init.take k)) ∧ RpK F vi vt vc w wr
def Rp2 (F : Fl) (vi vt vc : Value) (s0 : L) (w : World) (v i : Value) (wr : World) : Prop :=
  ∃ (k : Nat) (s : L), k ≤ F.ths.length ∧ i = .int .i64 k ∧ v = .string ⟨s.toArray⟩ ∧ s = s0 ++ thsTx (F.ths.take k) ∧ RpK F vi vt vc w wr
def Rp3 (F : Fl) (ls : List OpsM.Ln) (vi vt vc : Value) (s0 : L) (w : World) (v i : Value) (wr : World) : Prop :=
  ∃ (k : Nat) (s : L), k ≤ ls.length ∧ i = .int .i64 k ∧ v = .string ⟨s.toArray⟩ ∧ s = s0 ++ lnsTx (ls.take k) ∧ RpK F vi vt vc w wr
theorem box_grown {w w' : World} {g : Nat} {nm : ByteArray} {vi vt vc : Value} {al : Bool} {row : Option Nat} (h : FlBox w g nm vi vt vc al) (hg : w.grownBy w' row) (hne : some g ≠ row) : FlBox w' g nm vi vt vc al := by
  obtain ⟨h0, h1, h2, h3, h4⟩ := h
  exact ⟨hg.cell h0 hne, hg.cell h1 hne, hg.cell h2 hne, hg.cell h3 hne, hg.cell h4 hne⟩
/-- What is put to a text, by a letter. -/
theorem add_to (a b : L) (h : a.length + b.length ≤ 9223372036854775807) : ∃ c : L, c = a ++ b ∧ ∀ W, (Op.stringOp BinOp.add ⟨a.toArray⟩ ⟨b.toArray⟩).run Tryz.prog W = .ok (.string ⟨c.toArray⟩) W := ⟨_, rfl, fun W => add_l (P := Tryz.prog) W a b h⟩
def Rp4 (F : Fl) (vi vt vc : Value) (w : World) (v i : Value) (wr : World) : Prop :=
  ∃ k N : Nat, k ≤ F.cond.length ∧ i = .int .i64 k ∧ N = 1 + k ∧ OwnR w wr v N (endW F.all (F.cond.take k)) ∧ RpK F vi vt vc w wr
theorem OwnR.below {w a b : World} {v : Value} {N : Nat} {ls : List L} (h : OwnR w a v N ls) (hb : Below a.heap.size a b) : OwnR w b v N ls := own_below h hb
theorem head_tx (nm : L) : lineTx [kx86, nm] = ([120, 56, 54, 32] ++ nm) ++ [10] := by
  unfold lineTx; rw [joinL_cons]; simp [kx86]
theorem thr_tx : lineTx [kthread] = [116, 104, 114, 101, 97, 100, 10] := by decide
set_option maxHeartbeats 8000000 in
set_option maxRecDepth 100000 in
theorem rprint_any {B : Nat} {v : Value} {F : Fl} (w : World) (hv : FlV B w v F) (hBB : B ≤ w.heap.size) (hp : FlP F) :
    Calls Tryz.prog 13 #[v] w fun e w' => e = .returned (.string ⟨(printL F).toArray⟩) ∧ Below w.heap.size w w' := by
  obtain ⟨i0, hi0, hz0, hz1, hz2⟩ := info_parts info_string
  have HVR := Lib.hid (fun W (hW : Below w.heap.size w W) => rvright_any W (hv.below (hW.mono hBB)) (Nat.le_trans hBB hW.size) hp.ok)
  obtain ⟨vi, vt, vc, rfl, hm⟩ := hv
  have HP := Lib.hid hp
  obtain ⟨⟨A0, c0, rfl, ha1, ha2, ha3⟩, ⟨A2, c2, rfl, hb1, hb2, hb3⟩, ⟨A1, c1, rfl, hd1, hd2, hd3⟩⟩ := hm
  unfold maxLen at ha2 hb2 hd2
  unfold flv at *
  clear hp
  have hB0 := below_al (Below.refl w.heap.size w) (.cells #[.string ⟨F.name.toArray⟩, .slice A0 F.init.length c0, .slice A2 F.ths.length c2, .bool F.all, .slice A1 F.cond.length c1] 26)
  have hbx := FlBox.at (w := w) rfl ⟨F.name.toArray⟩ (.slice A0 F.init.length c0) (.slice A2 F.ths.length c2) (.slice A1 F.cond.length c1) F.all 26
  go_enter Tryz.func13, Tryz.ntmps13
  go_wp2_with fail
  refine (HVR.out _ hB0).mono ?_
  rintro e w1 ⟨rfl, hbb⟩
  have hB1 := chain hB0 hbb
  have hbx1 := hbx.below hbb
  obtain ⟨t0, t1, t2, t3, t4⟩ := id hbx1
  clear hB0 hbb HVR hbx
  cases hrt : VM.right F
  · have E := Lib.hid (show printL F = [] from by unfold printL; rw [hrt]; rfl)
    clear hrt
    go_wp2
    go_ret
    exact ⟨by rw [E.out]; rfl, hB1⟩
  have E := Lib.hid (show printL F = printR F from by unfold printL; rw [hrt]; rfl)
  obtain ⟨h31, h33⟩ := right_three hrt
  clear hrt
  have hws : w.heap.size + 1 ≤ w1.heap.size := lt_of_cell hbx1.1
  have hin := HP.out.ok.nums.1
  have hnc := HP.out.ok.nums.2.2
  have HO0 := Lib.hid (show OwnR w (w1.alloc (.cells #[.string ⟨kinit.toArray⟩] 9)) (.slice (some ⟨w1.heap.size, 0, none⟩) 1 1) 1 (initW (F.init.take 0)) from World.ownsRow_lit (base := w.heap.size + 1) (e := 9) (size := 1) w1 #[.string ⟨kinit.toArray⟩] 1 hws (by decide) rfl)
  have HK0 := Lib.hid (show RpK F (.slice A0 F.init.length c0) (.slice A2 F.ths.length c2) (.slice A1 F.cond.length c1) w (w1.alloc (.cells #[.string ⟨kinit.toArray⟩] 9)) from ⟨below_al hB1 _, hbx1.below (below_al (Below.refl _ _) _)⟩)
  go_wp2
  go_loopw [3, 4] (fun v i wr => Rp1 F (.slice A0 F.init.length c0) (.slice A2 F.ths.length c2) (.slice A1 F.cond.length c1) w v i wr) (fun _ i _ => F.init.length - (intOf i).toNat)
  case atStart => exact ⟨0, 1, Nat.zero_le _, rfl, rfl, HO0.out, HK0.out⟩
  case round =>
    clear t0 t1 t2 t3 t4 HO0 HK0 hbx1 hws hB1
    obtain ⟨k, N, hk, rfl, hN, hown, hB, hbx⟩ := hrel
    have HN0 := Lib.hid hN
    have hNb : N ≤ 300000 := by omega
    have HO := Lib.hid hown
    obtain ⟨Av, cv, rfl⟩ := own_slice hown
    have HBX := Lib.hid hbx
    obtain ⟨t0, t1, t2, t3, t4⟩ := id hbx
    clear hown hN hbx
    by_cases hlt : k < F.init.length
    · obtain ⟨b1, f1, rfl, hb1', hcl⟩ := ha3 (by omega)
      have hb1w : b1 < w.heap.size := Nat.lt_of_lt_of_le hb1' hBB
      have D0 := Lib.hid (hcl k hlt).1
      have D1 := Lib.hid (hcl k hlt).2
      obtain ⟨d0, d1⟩ := (hcl k hlt).below hB hb1w
      have hxr := HP.out.init F.init[k] (List.getElem_mem hlt)
      have hts := initW_take F.init k hlt
      obtain ⟨x, hx⟩ : ∃ x, x = F.init[k] := ⟨_, rfl⟩
      rw [← hx] at d0 d1 hxr hts D0 D1
      have HTS := Lib.hid hts
      have hz9 : (0 : Int) ≤ (k : Int) := by omega
      clear hx hcl ha3 hts
      go_wp2
      refine wp_region_held_drew (S := (fun w' => (w'.cell? ⟨w.heap.size, 1, none⟩ = some (.slice (some ⟨b1, f1, none⟩) F.init.length c0) ∧ w'.cell? ⟨b1, f1 + k * 2, none⟩ = some (.string ⟨x.1.toArray⟩) ∧ w'.cell? ⟨b1, f1 + k * 2 + 1, none⟩ = some (.int .i64 x.2)) ∧ Below w.heap.size w w')) (by kernel_rfl) ⟨⟨t1, d0, d1⟩, below_drewN hB 1⟩ (fun hHeld => ?_)
      refine wpAnyH_take (i := 0) (v := ?_) rfl (by kernel_rfl) (by kernel_rfl) (by kernel_rfl) (fun _ _ _ h => h) (Or.inl ⟨by rfl, ?_⟩) (by assumption) ?_
      rotate_left
      · intro w hSw; (try dsimp only at hSw); go_simp; (try with_reducible rfl)
      (try simp only [Act.put, List.getElem_toArray, List.getElem_cons_zero, List.getElem_cons_succ, Array.getInternal_eq_getElem, List.setIfInBounds_toArray, List.set_cons_zero, List.set_cons_succ])
      refine wpAnyH_take (i := 1) (v := ?_) rfl (by kernel_rfl) (by kernel_rfl) (by kernel_rfl) (fun _ _ _ h => h) (Or.inl ⟨by rfl, ?_⟩) (by assumption) ?_
      rotate_left
      · intro w hSw; (try dsimp only at hSw); go_simp; (try with_reducible rfl)
      (try simp only [Act.put, List.getElem_toArray, List.getElem_cons_zero, List.getElem_cons_succ, Array.getInternal_eq_getElem, List.setIfInBounds_toArray, List.set_cons_zero, List.set_cons_succ])
      refine wpAnyH_take (i := 2) (v := ?_) rfl (by kernel_rfl) (by kernel_rfl) (by kernel_rfl) (fun _ _ _ h => h) (Or.inl ⟨by rfl, ?_⟩) (by assumption) ?_
      rotate_left
      · intro w hSw; (try dsimp only at hSw); go_simp; (try with_reducible rfl)
      (try simp only [Act.put, List.getElem_toArray, List.getElem_cons_zero, List.getElem_cons_succ, Array.getInternal_eq_getElem, List.setIfInBounds_toArray, List.set_cons_zero, List.set_cons_succ])
      refine wpAnyH_take (i := 3) (v := ?_) rfl (by kernel_rfl) (by kernel_rfl) (by kernel_rfl) (fun _ _ _ h => h) (Or.inl ⟨by rfl, ?_⟩) (by assumption) ?_
      rotate_left
      · intro w hSw; (try dsimp only at hSw); go_simp; (try with_reducible rfl)
      (try simp only [Act.put, List.getElem_toArray, List.getElem_cons_zero, List.getElem_cons_succ, Array.getInternal_eq_getElem, List.setIfInBounds_toArray, List.set_cons_zero, List.set_cons_succ])
      refine wpAnyH_take (i := 4) (v := ?_) rfl (by kernel_rfl) (by kernel_rfl) (by kernel_rfl) (fun _ _ _ h => h) (Or.inl ⟨by rfl, ?_⟩) (by assumption) ?_
      rotate_left
      · intro w hSw; (try dsimp only at hSw); go_simp; (try with_reducible rfl)
      (try simp only [Act.put, List.getElem_toArray, List.getElem_cons_zero, List.getElem_cons_succ, Array.getInternal_eq_getElem, List.setIfInBounds_toArray, List.set_cons_zero, List.set_cons_succ])
      refine wpAnyH_take (i := 5) (v := ?_) rfl (by kernel_rfl) (by kernel_rfl) (by kernel_rfl) (fun _ _ _ h => h) (Or.inl ⟨by rfl, ?_⟩) (by assumption) ?_
      rotate_left
      · intro w hSw; (try dsimp only at hSw); go_simp; (try with_reducible rfl)
      (try simp only [Act.put, List.getElem_toArray, List.getElem_cons_zero, List.getElem_cons_succ, Array.getInternal_eq_getElem, List.setIfInBounds_toArray, List.set_cons_zero, List.set_cons_succ])
      refine wpAnyH_take (i := 6) (v := ?_) rfl (by kernel_rfl) (by kernel_rfl) (by kernel_rfl) (fun _ _ _ h => h) (Or.inl ⟨by rfl, ?_⟩) (by assumption) ?_
      rotate_left
      · intro w hSw; (try dsimp only at hSw); go_simp; (try with_reducible rfl)
      (try simp only [Act.put, List.getElem_toArray, List.getElem_cons_zero, List.getElem_cons_succ, Array.getInternal_eq_getElem, List.setIfInBounds_toArray, List.set_cons_zero, List.set_cons_succ])
      refine wpAnyH_take (i := 7) (v := ?_) rfl (by kernel_rfl) (by kernel_rfl) (by kernel_rfl) (fun _ _ _ h => h) (Or.inl ⟨by rfl, ?_⟩) (by assumption) ?_
      rotate_left
      · intro w hSw; (try dsimp only at hSw); go_simp; (try with_reducible rfl)
      (try simp only [Act.put, List.getElem_toArray, List.getElem_cons_zero, List.getElem_cons_succ, Array.getInternal_eq_getElem, List.setIfInBounds_toArray, List.set_cons_zero, List.set_cons_succ])
      refine wpAnyH_take (i := 8) (v := ?_) rfl (by kernel_rfl) (by kernel_rfl) (by kernel_rfl) (fun _ _ _ h => h) (Or.inl ⟨by rfl, ?_⟩) (by assumption) ?_
      rotate_left
      · intro w hSw; (try dsimp only at hSw); go_simp; (try with_reducible rfl)
      (try simp only [Act.put, List.getElem_toArray, List.getElem_cons_zero, List.getElem_cons_succ, Array.getInternal_eq_getElem, List.setIfInBounds_toArray, List.set_cons_zero, List.set_cons_succ])
      refine wpAnyH_take (i := 9) (v := ?_) rfl (by kernel_rfl) (by kernel_rfl) (by kernel_rfl) (fun _ _ _ h => h) (Or.inl ⟨by rfl, ?_⟩) (by assumption) ?_
      rotate_left
      · intro w hSw; (try dsimp only at hSw); go_simp; (try with_reducible rfl)
      (try simp only [Act.put, List.getElem_toArray, List.getElem_cons_zero, List.getElem_cons_succ, Array.getInternal_eq_getElem, List.setIfInBounds_toArray, List.set_cons_zero, List.set_cons_succ])
      refine wpAnyH_take (i := 10) (v := ?_) rfl (by kernel_rfl) (by kernel_rfl) (by kernel_rfl) (fun _ _ _ h => h) (Or.inl ⟨by rfl, ?_⟩) (by assumption) ?_
      rotate_left
      · intro w hSw; (try dsimp only at hSw); go_simp; (try with_reducible rfl)
      (try simp only [Act.put, List.getElem_toArray, List.getElem_cons_zero, List.getElem_cons_succ, Array.getInternal_eq_getElem, List.setIfInBounds_toArray, List.set_cons_zero, List.set_cons_succ])
      refine wpAnyH_take (i := 11) (v := ?_) rfl (by kernel_rfl) (by kernel_rfl) (by kernel_rfl) (fun _ _ _ h => h) (Or.inl ⟨by rfl, ?_⟩) (by assumption) ?_
      rotate_left
      · intro w hSw; (try dsimp only at hSw); go_simp; (try with_reducible rfl)
      (try simp only [Act.put, List.getElem_toArray, List.getElem_cons_zero, List.getElem_cons_succ, Array.getInternal_eq_getElem, List.setIfInBounds_toArray, List.set_cons_zero, List.set_cons_succ])
      refine wpAnyH_take (i := 12) (v := ?_) rfl (by kernel_rfl) (by kernel_rfl) (by kernel_rfl) (fun _ _ _ h => h) (Or.inl ⟨by rfl, ?_⟩) (by assumption) ?_
      rotate_left
      · intro w hSw; (try dsimp only at hSw); go_simp; (try with_reducible rfl)
      (try simp only [Act.put, List.getElem_toArray, List.getElem_cons_zero, List.getElem_cons_succ, Array.getInternal_eq_getElem, List.setIfInBounds_toArray, List.set_cons_zero, List.set_cons_succ])
      refine wpAnyH_ready (rs := [13]) (by kernel_rfl) (by simp) ?_
      refine AllReadyH.cons rfl (fun K hK => ?_) AllReadyH.nil
      go_simp
      go_at_call 31
      refine (rtext_any x.2 _ hxr).mono ?_
      rintro e wa ⟨rfl, hba⟩
      have HOa := Lib.hid (own_below HO.out (show Below wr.heap.size wr wa from (below_drewN (Below.refl _ _) 1).trans hba))
      have HBXa := Lib.hid ((HBX.out.below (below_drewN (Below.refl _ _) 1)).below hba)
      refine hK.out _ _ ⟨⟨kc hba hHeld.1.1, kc hba hHeld.1.2.1, kc hba hHeld.1.2.2⟩, chain hHeld.2 hba⟩ (fun hHeld => ?_)
      clear hK K
      (try simp only [Act.put, List.getElem_toArray, List.getElem_cons_zero, List.getElem_cons_succ, Array.getInternal_eq_getElem, List.setIfInBounds_toArray, List.set_cons_zero, List.set_cons_succ])
      refine wpAnyH_ready (rs := [14]) (by kernel_rfl) (by simp) ?_
      refine AllReadyH.cons rfl (fun K hK => ?_) AllReadyH.nil
      go_simp
      have hbb := below_al (Below.refl wa.heap.size wa) (.cells #[.string ⟨x.1.toArray⟩, .string ⟨(NumM.text x.2).toArray⟩] 9)
      have HOb := Lib.hid (own_below HOa.out hbb)
      have HN := Lib.hid (World.news_of_block (heap_alloc_new wa (.cells #[.string ⟨x.1.toArray⟩, .string ⟨(NumM.text x.2).toArray⟩] 9)))
      have HBXb := Lib.hid (HBXa.out.below hbb)
      refine hK.out _ _ ⟨⟨kc hbb hHeld.1.1, kc hbb hHeld.1.2.1, kc hbb hHeld.1.2.2⟩, chain hHeld.2 hbb⟩ (fun hHeld => ?_)
      clear hK K
      (try simp only [Act.put, List.getElem_toArray, List.getElem_cons_zero, List.getElem_cons_succ, Array.getInternal_eq_getElem, List.setIfInBounds_toArray, List.set_cons_zero, List.set_cons_succ])
      refine wpAnyH_ready (rs := [15]) (by kernel_rfl) (by simp) ?_
      refine AllReadyH.cons rfl (fun K hK => ?_) AllReadyH.nil
      refine step_append_src (by rfl) _ _ _ (by rfl) (w.heap.size + 1) 9 i0 (.string ⟨#[]⟩) 1 16 Tryz.underlying40 hi0 hz0 hz1 hz2 (by rfl) (by decide) _ N (svs (initW (F.init.take k))) (by rfl) HOb.out (some ⟨wa.heap.size, 0, none⟩) 2 2 [.string ⟨x.1.toArray⟩, .string ⟨(NumM.text x.2).toArray⟩] (by rfl) (by rfl) (fun c => (by cases c)) (fun ad e j u h => by injection e with e; rw [← e]; exact HN.out j u h) (by simp [Value.oneCell']) (by unfold maxLen; omega) (by omega) (lt_of_cell hHeld.1.1) (fun v1 w7 hown7 hg7 => ?_)
      have HB7 := Lib.hid (below_append hHeld.2 HOb.out (Nat.le_succ _) hHeld.2.size hg7)
      have HO7 := Lib.hid hown7
      have hne7 : some w.heap.size ≠ (Value.slice Av N cv).ownBlock := fun c => by have h1 := (HOb.out.lt w.heap.size c.symm).1; omega
      have HX7 := Lib.hid (box_grown HBXb.out hg7 hne7)
      have hbx7 := HX7.out.2.1
      refine hK.out _ _ ⟨⟨hbx7, (HB7.out.cell (p := ⟨b1, f1 + k * 2, none⟩) hb1w).trans D0.out, (HB7.out.cell (p := ⟨b1, f1 + k * 2 + 1, none⟩) hb1w).trans D1.out⟩, HB7.out⟩ (fun hHeld => ?_)
      clear hK K
      (try simp only [Act.put, List.getElem_toArray, List.getElem_cons_zero, List.getElem_cons_succ, Array.getInternal_eq_getElem, List.setIfInBounds_toArray, List.set_cons_zero, List.set_cons_succ])
      refine wpAnyH_ready (rs := [16]) (by kernel_rfl) (by simp) ?_
      refine AllReadyH.cons rfl (fun K hK => ?_) AllReadyH.nil
      go_simp
      refine hK.out _ _ hHeld (fun hHeld => ?_)
      clear hK K
      (try simp only [Act.put, List.getElem_toArray, List.getElem_cons_zero, List.getElem_cons_succ, Array.getInternal_eq_getElem, List.setIfInBounds_toArray, List.set_cons_zero, List.set_cons_succ])
      refine wpAnyH_done (by kernel_rfl) ?_ _
      obtain ⟨A7, c7, rfl⟩ := own_slice HO7.out
      go_wp2
      go_roundw
      case rel => exact ⟨k + 1, N + 2, by omega, by go_num, by have := HN0.out; omega, by rw [HTS.out]; unfold OwnR; rw [svs_app]; exact HO7.out, HB7.out, HX7.out⟩
      case measure => simp [intOf]; omega
    · obtain rfl : F.init.length = k := by omega
      have e : N = (initW F.init).length := by rw [initW_len, HN0.out]
      rw [List.take_length] at HO
      have hiw := initW_words HP.out.ok.init HP.out.init
      have hN2 : (initW F.init).length ≤ 300000 := by rw [← e]; exact hNb
      have HS8 := Lib.hid (strs_below (strs_own (by rw [← e]; exact HO.out)) (below_drewN (Below.refl wr.heap.size wr) 1))
      have hjl := joinL_len 100000 (initW F.init) hiw
      rw [← e] at hjl
      have HJ := Lib.hid (fun W (hs : Strs W.heap.size W (.slice Av N cv) (initW F.init)) => rjoin_any W hs (Nat.le_refl _) (by omega) hiw)
      have hnm := HP.out.ok.name
      obtain ⟨p1, hp1, hc1⟩ := add_to [120, 56, 54, 32] F.name (by simp; omega)
      have hl1 : p1.length = 4 + F.name.length := by rw [hp1, List.length_append]; rfl
      obtain ⟨p2, hp2, hc2⟩ := add_to p1 [10] (by simp; omega)
      have hl2 : p2.length = p1.length + 1 := by rw [hp2, List.length_append]; rfl
      obtain ⟨p3, hp3, hc3⟩ := add_to p2 (joinL (initW F.init)) (by omega)
      have hl3 : p3.length = p2.length + (joinL (initW F.init)).length := by rw [hp3, List.length_append]
      obtain ⟨p4, hp4, hc4⟩ := add_to p3 [10] (by simp; omega)
      have hl4 : p4.length ≤ 100000000000 := by rw [hp4, List.length_append]; simp only [List.length_cons, List.length_nil]; omega
      have HP4 := Lib.hid (show p4 = lineTx [kx86, F.name] ++ lineTx (initW F.init) from by rw [hp4, hp3, hp2, hp1, head_tx]; unfold lineTx; simp)
      obtain ⟨jn, hjn⟩ : ∃ j, j = joinL (initW F.init) := ⟨_, rfl⟩
      rw [← hjn] at hc3 HJ
      clear hjn hp1 hp2 hp3 hp4 hl1 hl2 hl3 hjl hN2 hiw hnm ha3 HO e
      go_wp2
      refine wp_region_held_drew (S := (fun w' => w'.cell? ⟨w.heap.size, 0, none⟩ = some (.string ⟨F.name.toArray⟩) ∧ Below w.heap.size w w')) (by kernel_rfl) ⟨t0, below_drewN hB 1⟩ (fun hHeld => ?_)
      refine wpAnyH_take (i := 0) (v := ?_) rfl (by kernel_rfl) (by kernel_rfl) (by kernel_rfl) (fun _ _ _ h => h) (Or.inl ⟨by rfl, ?_⟩) (by assumption) ?_
      rotate_left
      · intro w hSw; (try dsimp only at hSw); go_simp; (try with_reducible rfl)
      (try simp only [Act.put, List.getElem_toArray, List.getElem_cons_zero, List.getElem_cons_succ, Array.getInternal_eq_getElem, List.setIfInBounds_toArray, List.set_cons_zero, List.set_cons_succ])
      refine wpAnyH_take (i := 1) (v := ?_) rfl (by kernel_rfl) (by kernel_rfl) (by kernel_rfl) (fun _ _ _ h => h) (Or.inl ⟨by rfl, ?_⟩) (by assumption) ?_
      rotate_left
      · intro w hSw; (try dsimp only at hSw); go_simp; (try with_reducible rfl)
      (try simp only [Act.put, List.getElem_toArray, List.getElem_cons_zero, List.getElem_cons_succ, Array.getInternal_eq_getElem, List.setIfInBounds_toArray, List.set_cons_zero, List.set_cons_succ])
      refine wpAnyH_take (i := 2) (v := ?_) rfl (by kernel_rfl) (by kernel_rfl) (by kernel_rfl) (fun _ _ _ h => h) (Or.inl ⟨by rfl, ?_⟩) (by assumption) ?_
      rotate_left
      · intro w hSw; (try dsimp only at hSw); go_simp; (try with_reducible rfl)
      (try simp only [Act.put, List.getElem_toArray, List.getElem_cons_zero, List.getElem_cons_succ, Array.getInternal_eq_getElem, List.setIfInBounds_toArray, List.set_cons_zero, List.set_cons_succ])
      refine wpAnyH_take (i := 3) (v := ?_) rfl (by kernel_rfl) (by kernel_rfl) (by kernel_rfl) (fun _ _ _ h => h) (Or.inl ⟨by rfl, ?_⟩) (by assumption) ?_
      rotate_left
      · intro w hSw; (try dsimp only at hSw); go_simp; (try with_reducible rfl)
      (try simp only [Act.put, List.getElem_toArray, List.getElem_cons_zero, List.getElem_cons_succ, Array.getInternal_eq_getElem, List.setIfInBounds_toArray, List.set_cons_zero, List.set_cons_succ])
      refine wpAnyH_take (i := 4) (v := ?_) rfl (by kernel_rfl) (by kernel_rfl) (by kernel_rfl) (fun _ _ _ h => h) (Or.inl ⟨by rfl, ?_⟩) (by assumption) ?_
      rotate_left
      · intro w hSw; (try dsimp only at hSw); go_simp; (try with_reducible rfl)
      (try simp only [Act.put, List.getElem_toArray, List.getElem_cons_zero, List.getElem_cons_succ, Array.getInternal_eq_getElem, List.setIfInBounds_toArray, List.set_cons_zero, List.set_cons_succ])
      refine wpAnyH_ready (rs := [5]) (by kernel_rfl) (by simp) ?_
      refine AllReadyH.cons rfl (fun K hK => ?_) AllReadyH.nil
      go_simp
      go_at_call 32
      refine (HJ.out wr.drew HS8.out).mono ?_
      rintro e wa ⟨rfl, hba⟩
      have HX8 := Lib.hid ((HBX.out.below (below_drewN (Below.refl _ _) 1)).below hba)
      refine hK.out _ _ ⟨kc hba hHeld.1, chain hHeld.2 hba⟩ (fun hHeld => ?_)
      clear hK K
      (try simp only [Act.put, List.getElem_toArray, List.getElem_cons_zero, List.getElem_cons_succ, Array.getInternal_eq_getElem, List.setIfInBounds_toArray, List.set_cons_zero, List.set_cons_succ])
      refine wpAnyH_take (i := 6) (v := ?_) rfl (by kernel_rfl) (by kernel_rfl) (by kernel_rfl) (fun _ _ _ h => h) (Or.inl ⟨by rfl, ?_⟩) (by assumption) ?_
      rotate_left
      · intro w hSw; (try dsimp only at hSw); go_simp; (try with_reducible rfl)
      (try simp only [Act.put, List.getElem_toArray, List.getElem_cons_zero, List.getElem_cons_succ, Array.getInternal_eq_getElem, List.setIfInBounds_toArray, List.set_cons_zero, List.set_cons_succ])
      refine wpAnyH_take (i := 7) (v := ?_) rfl (by kernel_rfl) (by kernel_rfl) (by kernel_rfl) (fun _ _ _ h => h) (Or.inl ⟨by rfl, ?_⟩) (by assumption) ?_
      rotate_left
      · intro w hSw; (try dsimp only at hSw); go_simp; (try with_reducible rfl)
      (try simp only [Act.put, List.getElem_toArray, List.getElem_cons_zero, List.getElem_cons_succ, Array.getInternal_eq_getElem, List.setIfInBounds_toArray, List.set_cons_zero, List.set_cons_succ])
      refine wpAnyH_ready (rs := [8]) (by kernel_rfl) (by simp) ?_
      refine AllReadyH.cons rfl (fun K hK => ?_) AllReadyH.nil
      go_simp
      refine hK.out _ _ hHeld (fun hHeld => ?_)
      clear hK K
      (try simp only [Act.put, List.getElem_toArray, List.getElem_cons_zero, List.getElem_cons_succ, Array.getInternal_eq_getElem, List.setIfInBounds_toArray, List.set_cons_zero, List.set_cons_succ])
      refine wpAnyH_done (by kernel_rfl) ?_ _
      go_wp2
      go_loopw [5, 6] (fun v i wr => Rp2 F (.slice A0 F.init.length c0) (.slice A2 F.ths.length c2) (.slice A1 F.cond.length c1) p4 w v i wr) (fun _ i _ => F.ths.length - (intOf i).toNat)
      case atStart => exact ⟨0, p4, Nat.zero_le _, rfl, rfl, by rw [List.take_zero]; unfold thsTx; simp, hHeld.2, HX8.out⟩
      case round =>
        clear hc1 hc2 hc3 hc4 HX8 hHeld t0 t1 t2 t3 t4 HBX HJ HS8 HN0 hB hNb
        obtain ⟨k, s, hk, rfl, rfl, hs, hB, hbx⟩ := hrel
        have HBX := Lib.hid hbx
        have hT3 := thsTx_len (ts := F.ths.take k) (M := 100000) (fun ls hl => ⟨(HP.out.ok.ths ls (List.mem_of_mem_take hl)).1, HP.out.ths ls (List.mem_of_mem_take hl)⟩)
        rw [List.length_take, Nat.min_eq_left (by omega)] at hT3
        have hT4 : k * ((100000 + 1) * 400000) ≤ 3 * ((100000 + 1) * 400000) := Nat.mul_le_mul_right _ (by omega)
        have hlen : s.length ≤ 1000000000000 := by rw [hs, List.length_append]; omega
        have HS := Lib.hid hs
        obtain ⟨t0, t1, t2, t3, t4⟩ := id hbx
        clear hT3 hT4 hs hbx
        by_cases hlt : k < F.ths.length
        · obtain ⟨b1, f1, rfl, hb1', hcl⟩ := hb3 (by omega)
          obtain ⟨vl, d0w, hLn⟩ := hcl k hlt
          have hts := thsTx_take F.ths k hlt
          have hlo := HP.out.ok.ths F.ths[k] (List.getElem_mem hlt)
          have HLP := Lib.hid (HP.out.ths F.ths[k] (List.getElem_mem hlt))
          obtain ⟨ls, hx⟩ : ∃ x, x = F.ths[k] := ⟨_, rfl⟩
          rw [← hx] at hLn hts hlo HLP
          have HTS := Lib.hid hts
          have hb1w : b1 < w.heap.size := Nat.lt_of_lt_of_le hb1' hBB
          have D0 := Lib.hid d0w
          have d0 := (hB.cell (p := ⟨b1, f1 + k, none⟩) hb1w).trans d0w
          have hlo1 := hlo.1
          obtain ⟨A3, c3, rfl, he1, he2, he3⟩ := hLn
          unfold maxLen at he2
          obtain ⟨q, hq, hc⟩ := add_to s [116, 104, 114, 101, 97, 100, 10] (by simp; omega)
          have hql : q.length ≤ 1000000000007 := by rw [hq, List.length_append]; simp only [List.length_cons, List.length_nil]; omega
          have HQ := Lib.hid hq
          clear hx hcl hb3 hts d0w hlo hq
          go_wp2
          go_loopw [5, 7] (fun v i wr => Rp3 F ls (.slice A0 F.init.length c0) (.slice (some ⟨b1, f1, none⟩) F.ths.length c2) (.slice A1 F.cond.length c1) q w v i wr) (fun _ i _ => ls.length - (intOf i).toNat)
          case atStart => exact ⟨0, q, Nat.zero_le _, rfl, rfl, by rw [List.take_zero]; unfold lnsTx; simp, hB, HBX.out⟩
          case round =>
            clear hc t0 t1 t2 t3 t4 d0 hB HBX hlen
            obtain ⟨m, s1, hm, rfl, rfl, hs1, hB, hbx⟩ := hrel
            have HBX := Lib.hid hbx
            have hT := lnsTx_len (ls := ls.take m) (fun y hy => HLP.out y (List.mem_of_mem_take hy))
            rw [List.length_take, Nat.min_eq_left (by omega)] at hT
            have hlen : s1.length ≤ 2000000000000 := by rw [hs1, List.length_append]; omega
            have HS1 := Lib.hid hs1
            obtain ⟨t0, t1, t2, t3, t4⟩ := id hbx
            have d0 := (hB.cell (p := ⟨b1, f1 + k, none⟩) hb1w).trans D0.out
            clear hT hs1 hbx
            by_cases hlm : m < ls.length
            · obtain ⟨b3, f3, rfl, hb3', hc3⟩ := he3 (by omega)
              obtain ⟨z0, z1, z2, z3, z4⟩ := (hc3 m hlm).below hB (Nat.lt_of_lt_of_le hb3' hBB)
              have hsm := HLP.out _ (List.getElem_mem hlm)
              have hts := lnsTx_take ls m hlm
              obtain ⟨x, hx⟩ : ∃ x, x = ls[m] := ⟨_, rfl⟩
              rw [← hx] at z0 z1 z2 z3 z4 hsm hts
              have hll := line_len hsm
              have hll2 : (lineS x).length ≤ 400000 := by unfold lineTx at hll; rw [List.length_append] at hll; unfold lineS; omega
              obtain ⟨q1, hq1, hd1⟩ := add_to s1 (lineS x) (by omega)
              have hq1l : q1.length ≤ 3000000000000 := by rw [hq1, List.length_append]; omega
              obtain ⟨q2, hq2, hd2⟩ := add_to q1 [10] (by simp; omega)
              have HTS2 := Lib.hid (show q2 = q ++ lnsTx (ls.take (m + 1)) from by rw [hts, hq2, hq1, HS1.out]; unfold lineTx lineS; simp)
              have HL := Lib.hid (rsline_any x wr hsm)
              clear hx hc3 he3 hts hsm hll hll2 hq1 hq2 hq1l hlen HLP
              go_wp2_with fail
              refine HL.out.mono ?_
              rintro e wa ⟨rfl, hba⟩
              have hBa := chain hB hba
              have HBXa := Lib.hid (HBX.out.below hba)
              clear z0 z1 z2 z3 z4 t0 t1 t2 t3 t4 d0 HL
              go_wp2
              go_roundw
              case rel => exact ⟨m + 1, q2, by omega, by go_num, rfl, HTS2.out, hBa, HBXa.out⟩
              case measure => simp [intOf]; omega
            · obtain rfl : ls.length = m := by omega
              have HF := Lib.hid (show s1 = p4 ++ thsTx (F.ths.take (k + 1)) from by
                have h1 := HS1.out
                rw [List.take_length] at h1
                rw [h1, HTS.out, HQ.out, HS.out]; unfold thrTx; rw [thr_tx]; simp)
              clear he3
              go_wp2
              go_roundw
              case rel => exact ⟨k + 1, s1, by omega, by go_num, rfl, HF.out, hB, HBX.out⟩
              case measure => simp [intOf]; omega
        · obtain rfl : F.ths.length = k := by omega
          clear hb3
          have hwz := HBX.out.1
          have hws : w.heap.size + 1 ≤ wr.heap.size := lt_of_cell hwz
          have HSF := Lib.hid (show s = p4 ++ thsTx F.ths from by have h := HS.out; rw [List.take_length] at h; exact h)
          clear hwz HS
          cases hal : F.all
          · obtain ⟨x0, x1, x2, x3, x4⟩ := HBX.out.below (below_al (Below.refl wr.heap.size wr) (.cells #[.string ⟨#[101, 120, 105, 115, 116, 115]⟩] 9))
            rw [hal] at t3 x3
            have HO0 := Lib.hid (show OwnR w (wr.alloc (.cells #[.string ⟨kexists.toArray⟩] 9)) (.slice (some ⟨wr.heap.size, 0, none⟩) 1 1) 1 (endW F.all (F.cond.take 0)) from by
              have h := World.ownsRow_lit (base := w.heap.size + 1) (e := 9) (size := 1) wr #[.string ⟨kexists.toArray⟩] 1 hws (by decide) rfl
              rw [hal]
              exact h)
            have HK0 := Lib.hid (show RpK F (.slice A0 F.init.length c0) (.slice A2 F.ths.length c2) (.slice A1 F.cond.length c1) w (wr.alloc (.cells #[.string ⟨kexists.toArray⟩] 9)) from ⟨below_al hB _, HBX.out.below (below_al (Below.refl _ _) _)⟩)
            clear hws hal
            go_wp2
            go_loopw [8, 9] (fun v i wr => Rp4 F (.slice A0 F.init.length c0) (.slice A2 F.ths.length c2) (.slice A1 F.cond.length c1) w v i wr) (fun _ i _ => F.cond.length - (intOf i).toNat)
            case atStart => exact ⟨0, 1, Nat.zero_le _, rfl, rfl, HO0.out, HK0.out⟩
            case round =>
              clear t0 t1 t2 t3 t4 x0 x1 x2 x3 x4 HO0 HK0 HBX hB
              obtain ⟨k, N, hk, rfl, hN, hown, hB, hbx⟩ := hrel
              have HN0 := Lib.hid hN
              have hNb : N ≤ 300000 := by omega
              have HO := Lib.hid hown
              obtain ⟨Av, cv, rfl⟩ := own_slice hown
              have HBX := Lib.hid hbx
              obtain ⟨t0, t1, t2, t3, t4⟩ := id hbx
              have hws : w.heap.size + 1 ≤ wr.heap.size := lt_of_cell hbx.1
              clear hown hN hbx
              by_cases hlt : k < F.cond.length
              · obtain ⟨b1, f1, rfl, hb1', hcl⟩ := hd3 (by omega)
                obtain ⟨d0, d1, d2⟩ := (hcl k hlt).below hB (Nat.lt_of_lt_of_le hb1' hBB)
                have hxc := HP.out.cond F.cond[k] (List.getElem_mem hlt)
                have hts := endW_take F.all F.cond k hlt
                obtain ⟨x, hx⟩ : ∃ x, x = F.cond[k] := ⟨_, rfl⟩
                rw [← hx] at d0 d1 d2 hxc hts
                have HTS := Lib.hid hts
                have HW := Lib.hid (raword_any x.t x.n ⟨x.nm.toArray⟩ wr hxc.2 (by rw [Lib.size_eq]; have := hxc.1; simp; omega))
                unfold atv at HW
                clear hx hcl hd3 hts hxc
                go_wp2_with fail
                refine HW.out.mono ?_
                rintro e wa ⟨rfl, hba⟩
                have hBa := chain hB hba
                have HOa := Lib.hid (own_below HO.out hba)
                have HBXa := Lib.hid ((HBX.out.below hba).below (below_al (Below.refl wa.heap.size wa) (.cells #[.string ⟨(AtomM.wordA x).toArray⟩] 9)))
                have hsa : w.heap.size + 1 ≤ wa.heap.size := Nat.le_trans hws hba.size
                clear d0 d1 d2 HW hba
                go_wp2_with (at_builtin; refine wpList_append_own _ rfl _ _ 40 rfl (w.heap.size + 1) 9 i0 (.string ⟨#[]⟩) 1 16 Tryz.underlying40 hi0 hz0 hz1 hz2 rfl (by decide) _ _ _ rfl (HOa.out.alloc _) ⟨wa.heap.size, 0, none⟩ 1 1 [.string ⟨(AtomM.wordA x).toArray⟩] rfl rfl (cell_one_new _ _ _) (by simp [Value.oneCell']) (by unfold maxLen; omega) (by omega) (by simp; omega) ?_; intro v1 w1 hown1 hg1 _)
                have hB2 := below_append (hBa.alloc (Nat.le_of_succ_le hsa) (.cells #[.string ⟨(AtomM.wordA x).toArray⟩] 9)) (HOa.out.alloc _) (Nat.le_succ _) (by simp; omega) hg1
                have hne1 : some w.heap.size ≠ (Value.slice Av N cv).ownBlock := fun c => by have h1 := (HOa.out.lt w.heap.size c.symm).1; omega
                have HBX1 := Lib.hid (box_grown HBXa.out hg1 hne1)
                go_roundw
                case rel => exact ⟨k + 1, N + 1, by omega, by go_num, by have := HN0.out; omega, by rw [HTS.out]; unfold OwnR; rw [svs_app]; exact hown1, hB2, HBX1.out⟩
                case measure => simp [intOf]; omega
              · obtain rfl : F.cond.length = k := by omega
                have e : N = (endW F.all F.cond).length := by rw [endW_len, HN0.out]
                rw [List.take_length] at HO
                have hew := endW_words (al := F.all) (fun a ha => (HP.out.cond a ha).1) (fun a ha => ⟨(HP.out.ok.cond a ha).2, (HP.out.cond a ha).2⟩)
                have HJ := Lib.hid (rjoin_any (v := .slice Av N cv) wr (strs_own (by rw [← e]; exact HO.out)) (Nat.le_refl _) (by rw [← e]; omega) hew)
                have hjl := joinL_len 100000 (endW F.all F.cond) hew
                rw [← e] at hjl
                obtain ⟨jn, hjn⟩ : ∃ j, j = joinL (endW F.all F.cond) := ⟨_, rfl⟩
                rw [← hjn] at HJ hjl
                obtain ⟨u1, hu1, hc1⟩ := add_to s jn (by omega)
                have hu1l : u1.length ≤ 2000000000000 := by rw [hu1, List.length_append]; omega
                obtain ⟨u2, hu2, hc2⟩ := add_to u1 [10] (by simp; omega)
                have HE := Lib.hid (show printL F = u2 from by
                  rw [E.out, hu2, hu1, hjn, HSF.out]; unfold printR; rw [HP4.out]; unfold lineTx; simp)
                clear hjn hu1 hu2 hu1l hjl hew e HO hd3
                go_wp2_with fail
                refine HJ.out.mono ?_
                rintro e wa ⟨rfl, hba⟩
                have hBa := chain hB hba
                clear t0 t1 t2 t3 t4 HJ
                go_wp2
                go_ret
                exact ⟨by rw [HE.out]; rfl, hBa⟩
          · obtain ⟨x0, x1, x2, x3, x4⟩ := HBX.out.below (below_al (Below.refl wr.heap.size wr) (.cells #[.string ⟨#[101, 120, 105, 115, 116, 115]⟩] 9))
            rw [hal] at t3 x3
            have HO0 := Lib.hid (show OwnR w ((wr.alloc (.cells #[.string ⟨kexists.toArray⟩] 9)).alloc (.cells #[.string ⟨kforall.toArray⟩] 9)) (.slice (some ⟨wr.heap.size + 1, 0, none⟩) 1 1) 1 (endW F.all (F.cond.take 0)) from by
              have h := World.ownsRow_lit (base := w.heap.size + 1) (e := 9) (size := 1) (wr.alloc (.cells #[.string ⟨kexists.toArray⟩] 9)) #[.string ⟨kforall.toArray⟩] 1 (by simp; omega) (by decide) rfl
              have hsz : (wr.alloc (.cells #[.string ⟨kexists.toArray⟩] 9)).heap.size = wr.heap.size + 1 := by simp
              rw [hsz] at h
              rw [hal]
              exact h)
            have HK0 := Lib.hid (show RpK F (.slice A0 F.init.length c0) (.slice A2 F.ths.length c2) (.slice A1 F.cond.length c1) w ((wr.alloc (.cells #[.string ⟨kexists.toArray⟩] 9)).alloc (.cells #[.string ⟨kforall.toArray⟩] 9)) from ⟨below_al (below_al hB _) _, HBX.out.below (below_al (below_al (Below.refl _ _) _) _)⟩)
            clear hws hal
            go_wp2
            go_loopw [8, 9] (fun v i wr => Rp4 F (.slice A0 F.init.length c0) (.slice A2 F.ths.length c2) (.slice A1 F.cond.length c1) w v i wr) (fun _ i _ => F.cond.length - (intOf i).toNat)
            case atStart => exact ⟨0, 1, Nat.zero_le _, rfl, rfl, HO0.out, HK0.out⟩
            case round =>
              clear t0 t1 t2 t3 t4 x0 x1 x2 x3 x4 HO0 HK0 HBX hB
              obtain ⟨k, N, hk, rfl, hN, hown, hB, hbx⟩ := hrel
              have HN0 := Lib.hid hN
              have hNb : N ≤ 300000 := by omega
              have HO := Lib.hid hown
              obtain ⟨Av, cv, rfl⟩ := own_slice hown
              have HBX := Lib.hid hbx
              obtain ⟨t0, t1, t2, t3, t4⟩ := id hbx
              have hws : w.heap.size + 1 ≤ wr.heap.size := lt_of_cell hbx.1
              clear hown hN hbx
              by_cases hlt : k < F.cond.length
              · obtain ⟨b1, f1, rfl, hb1', hcl⟩ := hd3 (by omega)
                obtain ⟨d0, d1, d2⟩ := (hcl k hlt).below hB (Nat.lt_of_lt_of_le hb1' hBB)
                have hxc := HP.out.cond F.cond[k] (List.getElem_mem hlt)
                have hts := endW_take F.all F.cond k hlt
                obtain ⟨x, hx⟩ : ∃ x, x = F.cond[k] := ⟨_, rfl⟩
                rw [← hx] at d0 d1 d2 hxc hts
                have HTS := Lib.hid hts
                have HW := Lib.hid (raword_any x.t x.n ⟨x.nm.toArray⟩ wr hxc.2 (by rw [Lib.size_eq]; have := hxc.1; simp; omega))
                unfold atv at HW
                clear hx hcl hd3 hts hxc
                go_wp2_with fail
                refine HW.out.mono ?_
                rintro e wa ⟨rfl, hba⟩
                have hBa := chain hB hba
                have HOa := Lib.hid (own_below HO.out hba)
                have HBXa := Lib.hid ((HBX.out.below hba).below (below_al (Below.refl wa.heap.size wa) (.cells #[.string ⟨(AtomM.wordA x).toArray⟩] 9)))
                have hsa : w.heap.size + 1 ≤ wa.heap.size := Nat.le_trans hws hba.size
                clear d0 d1 d2 HW hba
                go_wp2_with (at_builtin; refine wpList_append_own _ rfl _ _ 40 rfl (w.heap.size + 1) 9 i0 (.string ⟨#[]⟩) 1 16 Tryz.underlying40 hi0 hz0 hz1 hz2 rfl (by decide) _ _ _ rfl (HOa.out.alloc _) ⟨wa.heap.size, 0, none⟩ 1 1 [.string ⟨(AtomM.wordA x).toArray⟩] rfl rfl (cell_one_new _ _ _) (by simp [Value.oneCell']) (by unfold maxLen; omega) (by omega) (by simp; omega) ?_; intro v1 w1 hown1 hg1 _)
                have hB2 := below_append (hBa.alloc (Nat.le_of_succ_le hsa) (.cells #[.string ⟨(AtomM.wordA x).toArray⟩] 9)) (HOa.out.alloc _) (Nat.le_succ _) (by simp; omega) hg1
                have hne1 : some w.heap.size ≠ (Value.slice Av N cv).ownBlock := fun c => by have h1 := (HOa.out.lt w.heap.size c.symm).1; omega
                have HBX1 := Lib.hid (box_grown HBXa.out hg1 hne1)
                go_roundw
                case rel => exact ⟨k + 1, N + 1, by omega, by go_num, by have := HN0.out; omega, by rw [HTS.out]; unfold OwnR; rw [svs_app]; exact hown1, hB2, HBX1.out⟩
                case measure => simp [intOf]; omega
              · obtain rfl : F.cond.length = k := by omega
                have e : N = (endW F.all F.cond).length := by rw [endW_len, HN0.out]
                rw [List.take_length] at HO
                have hew := endW_words (al := F.all) (fun a ha => (HP.out.cond a ha).1) (fun a ha => ⟨(HP.out.ok.cond a ha).2, (HP.out.cond a ha).2⟩)
                have HJ := Lib.hid (rjoin_any (v := .slice Av N cv) wr (strs_own (by rw [← e]; exact HO.out)) (Nat.le_refl _) (by rw [← e]; omega) hew)
                have hjl := joinL_len 100000 (endW F.all F.cond) hew
                rw [← e] at hjl
                obtain ⟨jn, hjn⟩ : ∃ j, j = joinL (endW F.all F.cond) := ⟨_, rfl⟩
                rw [← hjn] at HJ hjl
                obtain ⟨u1, hu1, hc1⟩ := add_to s jn (by omega)
                have hu1l : u1.length ≤ 2000000000000 := by rw [hu1, List.length_append]; omega
                obtain ⟨u2, hu2, hc2⟩ := add_to u1 [10] (by simp; omega)
                have HE := Lib.hid (show printL F = u2 from by
                  rw [E.out, hu2, hu1, hjn, HSF.out]; unfold printR; rw [HP4.out]; unfold lineTx; simp)
                clear hjn hu1 hu2 hu1l hjl hew e HO hd3
                go_wp2_with fail
                refine HJ.out.mono ?_
                rintro e wa ⟨rfl, hba⟩
                have hBa := chain hB hba
                clear t0 t1 t2 t3 t4 HJ
                go_wp2
                go_ret
                exact ⟨by rw [HE.out]; rfl, hBa⟩
end Go.Proofs.YtkkjodjachbifaaGreatDoor
