/-
  ShowLines, as a walk over any world that holds the registers and the type of errors: it returns true.
-/
import Derived.Test.YtkkjodjachbifaaGreatDoorHds
import Derived.Test.YtkkjodjachbifaaGreatDoorShM
import Derived.Test.YtkkjodjachbifaaGreatDoorSTell
import Derived.Deep.RegionHeld3
namespace Go.Proofs.YtkkjodjachbifaaGreatDoor
open Go.RowKit
set_option linter.unusedVariables false
set_option linter.unusedSimpArgs false
open WordM (L)
open VM
theorem keepsl {W1 W w' : World} {g h j d : Nat} {a f c : Nat} {x0 x1 x2 y0 y1 y2 y3 y4 : Value} (hb : Below W.heap.size W w')
    (k : (W.cell? ⟨g, 2, none⟩ = some x0 ∧ W.cell? ⟨h, a, none⟩ = some x1 ∧ W.cell? ⟨j, f, none⟩ = some x2) ∧ (W.cell? ⟨d, c, none⟩ = some y0 ∧ W.cell? ⟨d, c + 1, none⟩ = some y1 ∧ W.cell? ⟨d, c + 2, none⟩ = some y2 ∧ W.cell? ⟨d, c + 3, none⟩ = some y3 ∧ W.cell? ⟨d, c + 4, none⟩ = some y4) ∧ Below W1.heap.size W1 W) :
    (w'.cell? ⟨g, 2, none⟩ = some x0 ∧ w'.cell? ⟨h, a, none⟩ = some x1 ∧ w'.cell? ⟨j, f, none⟩ = some x2) ∧ (w'.cell? ⟨d, c, none⟩ = some y0 ∧ w'.cell? ⟨d, c + 1, none⟩ = some y1 ∧ w'.cell? ⟨d, c + 2, none⟩ = some y2 ∧ w'.cell? ⟨d, c + 3, none⟩ = some y3 ∧ w'.cell? ⟨d, c + 4, none⟩ = some y4) ∧ Below W1.heap.size W1 w' := by
  obtain ⟨⟨h0, h1, h2⟩, ⟨k0, k1, k2, k3, k4⟩, hB⟩ := k
  exact ⟨⟨kc hb h0, kc hb h1, kc hb h2⟩, ⟨kc hb k0, kc hb k1, kc hb k2, kc hb k3, kc hb k4⟩, chain hB hb⟩
/-- At a round: t threads are gone along, and the lines of these. -/
def LtRel (F : Fl) (w1 : World) (at_ i : Value) (wr : World) : Prop :=
  ∃ k N : Nat, k ≤ F.ths.length ∧ i = .int .i64 k ∧ at_ = .int .i64 N ∧ Hid (N = atL F k) ∧ Below w1.heap.size w1 wr
def LsRel (ls : List OpsM.Ln) (N : Nat) (w1 : World) (at_ i : Value) (wr : World) : Prop :=
  ∃ m M : Nat, m ≤ ls.length ∧ i = .int .i64 m ∧ at_ = .int .i64 M ∧ Hid (M = N + 1 + m) ∧ Below w1.heap.size w1 wr
set_option maxHeartbeats 8000000 in
set_option maxRecDepth 100000 in
theorem slines_any {v : Value} {F : Fl} (w : World) (hr : Regs w) (hg : EA.ErrG w) (hv : FlV w.heap.size w v F) (hi : IntsOk F) (hnm : NumsOk F) :
    Calls Tryz.prog 7 #[v] w fun e w' => e = .returned (.bool true) ∧ Below w.heap.size w w' := by
  obtain ⟨vi, vt, vc, rfl, hm⟩ := hv
  have HM := Lib.hid hm
  have HR := Lib.hid hr
  have HG := Lib.hid hg
  have HI := Lib.hid hi
  have HNM := Lib.hid hnm
  have HV : ∀ W, Below w.heap.size w W → FlV W.heap.size W (flv ⟨F.name.toArray⟩ vi vt vc F.all) F := fun W hW => ⟨vi, vt, vc, rfl, (HM.out.below hW).more hW.size⟩
  have HHd := Lib.hid (fun W (hW : Below w.heap.size w W) => shead_any W (HR.out.below hW) (HG.out.below hW))
  have HGr := Lib.hid (fun W (hW : Below w.heap.size w W) => vgreat_any W (HV W hW) (Nat.le_refl _))
  have HRV := Lib.hid (fun (hp : FlP F) W (hW : Below w.heap.size w W) => rvright_any W (HV W hW) (Nat.le_refl _) hp.ok)
  have HPP := Lib.hid (fun (hp : FlP F) W (hW : Below w.heap.size w W) => print_any W (HR.out.below hW) (HG.out.below hW) (HV W hW) (Nat.le_refl _) hp)
  have HSL := Lib.hid (fun (x : OpsM.Ln) (hx : LnSm x) W (hW : Below w.heap.size w W) => sline_any x W (HR.out.below hW) hx)
  obtain ⟨⟨A0, c0, rfl, -⟩, ⟨A2, c2, rfl, hb1, hb2, -⟩, ⟨A1, c1, rfl, -⟩⟩ := hm
  unfold maxLen at hb2
  unfold flv at *
  clear HV hr hg hi hnm HR HG
  have hB := below_al (Below.refl w.heap.size w) (.cells #[.string ⟨F.name.toArray⟩, .slice A0 F.init.length c0, .slice A2 F.ths.length c2, .bool F.all, .slice A1 F.cond.length c1] 26)
  have hbx := Lib.hid (FlBox.at (w := w) rfl ⟨F.name.toArray⟩ (.slice A0 F.init.length c0) (.slice A2 F.ths.length c2) (.slice A1 F.cond.length c1) F.all 26)
  obtain ⟨t0, t1, t2, t3, t4⟩ := hbx.out
  go_enter Tryz.func7, Tryz.ntmps7
  go_wp2_with fail
  refine (HHd.out _ hB).mono ?_
  rintro e w1 ⟨rfl, hbb⟩
  have hB := chain hB hbb
  replace hbx := Lib.hid (hbx.out.below hbb)
  clear t0 t1 t2 t3 t4 hbb
  obtain ⟨t0, t1, t2, t3, t4⟩ := hbx.out
  clear HHd
  go_wp2_with fail
  refine (HGr.out _ hB).mono ?_
  rintro e w1 ⟨b, rfl, hsx, hbb⟩
  have hB := chain hB hbb
  replace hbx := Lib.hid (hbx.out.below hbb)
  clear t0 t1 t2 t3 t4 hbb
  obtain ⟨t0, t1, t2, t3, t4⟩ := hbx.out
  cases b
  case true =>
    go_wp2
    go_ret
    exact ⟨rfl, hB⟩
  have hs := hsx rfl
  have hp := small_p hs HI.out HNM.out
  clear HGr hsx HI HNM
  replace HRV := Lib.hid (HRV.out hp)
  replace HPP := Lib.hid (HPP.out hp)
  have HFR := Lib.hid (fun (h : VM.right F = true) => fr_of h hp)
  have HLx := Lib.hid (fun ls (h : ls ∈ F.ths) x (hx : x ∈ ls) => hp.ths ls h x hx)
  have HPn := Lib.hid (print_len hp ⟨hs.n1, hs.n2, hs.n3, fun ls hl => by obtain ⟨j, hj, rfl⟩ := List.mem_iff_getElem.1 hl; exact (hs.ths j hj).1⟩)
  clear hs hp
  go_wp2_with fail
  refine (HRV.out _ hB).mono ?_
  rintro e w1 ⟨rfl, hbb⟩
  have hB := chain hB hbb
  replace hbx := Lib.hid (hbx.out.below hbb)
  clear t0 t1 t2 t3 t4 hbb
  obtain ⟨t0, t1, t2, t3, t4⟩ := hbx.out
  cases hrf : VM.right F
  case false =>
    go_wp2
    go_ret
    exact ⟨rfl, hB⟩
  have hfr := HFR.out hrf
  have hpl : printL F = printR F := by unfold printL; rw [if_pos hrf]
  have HL := Lib.hid (show WordM.lines (⟨(printL F).toArray⟩ : ByteArray).data.toList = linesL F by
    rw [hpl]; exact lines_print hfr)
  have HNE := Lib.hid (fun ls (h : ls ∈ F.ths) x (hx : x ∈ ls) => line_ne (hfr.ths ls h x hx).1 (hfr.ths ls h x hx).2)
  clear HRV hrf HFR hfr hpl
  go_wp2_with fail
  refine (HPP.out _ hB).mono ?_
  rintro e w2 ⟨rfl, hbb⟩
  have hB := chain hB hbb
  replace hbx := Lib.hid (hbx.out.below hbb)
  clear t0 t1 t2 t3 t4 hbb
  obtain ⟨t0, t1, t2, t3, t4⟩ := hbx.out
  clear HPP
  have HLN := Lib.hid (rlines_any ⟨(printL F).toArray⟩ w2 (by rw [Lib.size_eq]; have := HPn.out; simp only [List.toList_toArray] at *; omega))
  rw [HL.out] at HLN
  clear HL HPn
  go_wp2_with fail
  refine HLN.out.mono ?_
  rintro e w1 ⟨vu, rfl, hown, hbb⟩
  have hB := chain hB hbb
  replace hbx := Lib.hid (hbx.out.below hbb)
  clear t0 t1 t2 t3 t4 hbb
  obtain ⟨t0, t1, t2, t3, t4⟩ := hbx.out
  clear HLN
  obtain ⟨A5, c5, rfl, h51, h52, h53⟩ := strs_own hown
  unfold maxLen at h52
  clear hown
  have hmt := (((HM.out.below hB).more hB.size).2.1)
  obtain ⟨A6, c6, e6, -, -, hcl0⟩ := hmt
  injection e6 with e6a e6b e6c
  subst e6a; subst e6c
  have HCL := Lib.hid hcl0
  have HSP := Lib.hid (fun (x : OpsM.Ln) (hx : LnSm x) W (hW : Below w1.heap.size w1 W) => HSL.out x hx W (chain hB hW))
  have HBX := hbx
  obtain ⟨n, hn⟩ : ∃ n, n = (linesL F).length := ⟨_, rfl⟩
  have HLL := Lib.hid (show ∀ j (h : j < (linesL F).length), ∃ b f, A5 = some ⟨b, f, none⟩ ∧ w1.cell? ⟨b, f + j, none⟩ = some (.string ⟨((linesL F)[j]).toArray⟩) ∧ b < w1.heap.size from fun j h => by
    obtain ⟨b, f, e1, e2, e3⟩ := h53 (by omega)
    exact ⟨b, f, e1, e3 j h, e2⟩)
  have HEN := Lib.hid (show n = atL F F.ths.length + 1 by rw [hn]; exact atL_end F)
  rw [← hn] at h51 ⊢
  have HN := Lib.hid hn
  clear hn h53 hcl0 hbx HSL HM
  have HB := Lib.hid hB
  clear hB
  go_wp2
  go_loopw [5, 6] (fun a i wr => LtRel F w1 a i wr) (fun _ i _ => F.ths.length - (intOf i).toNat)
  case atStart => exact ⟨0, 2, Nat.zero_le _, rfl, rfl, Lib.hid (by unfold atL bodyL; simp), Below.refl _ _⟩
  case round =>
    clear t0 t1 t2 t3 t4
    obtain ⟨k, N, hk, rfl, rfl, hN, hC⟩ := hrel
    obtain ⟨t0, t1, t2, t3, t4⟩ := HBX.out.below hC
    by_cases hlt : k < F.ths.length
    · obtain ⟨b1, f1, rfl, hb1, hcl⟩ := HCL.out (by omega)
      obtain ⟨vl, d0w, hLn⟩ := hcl k hlt
      have HHD := Lib.hid (line_head F k hlt)
      have HOW := Lib.hid (fun i hi => line_own F k hlt i hi)
      have HNX := Lib.hid (atL_next F k hlt)
      rw [← hN.out] at HHD HOW HNX
      have hNn : N < n := by obtain ⟨q, _⟩ := HHD.out; rw [← HN.out] at q; exact q
      obtain ⟨b5, f5, rfl, d5w, hb5⟩ := HLL.out N (by rw [← HN.out]; exact hNn)
      obtain ⟨X, hX⟩ : ∃ X : ByteArray, X = ⟨((linesL F)[N]'(by rw [← HN.out]; exact hNn)).toArray⟩ := ⟨_, rfl⟩
      have hXl : X.toList = kthread := by rw [hX, Lib.toList_data]; exact HHD.out.2
      rw [← hX] at d5w
      have q1 : (X.toList == [116, 104, 114, 101, 97, 100]) = true := by rw [hXl]; rfl
      have d5 := (hC.cell (p := ⟨b5, f5 + N, none⟩) hb5).trans d5w
      obtain ⟨ls, hx⟩ : ∃ x, x = F.ths[k] := ⟨_, rfl⟩
      have HLX := Lib.hid (show ∀ x, x ∈ ls → LnSm x ∧ lineS x ≠ [] from fun x hxm => by
        have hmm : ls ∈ F.ths := by rw [hx]; exact List.getElem_mem _
        exact ⟨HLx.out ls hmm x hxm, HNE.out ls hmm x hxm⟩)
      rw [← hx] at hLn
      have HX := Lib.hid hx
      rw [← hx] at HNX
      have HOW2 := Lib.hid (show ∀ i (hi : i < ls.length), ∃ q : N + 1 + i < n, w1.cell? ⟨b5, f5 + (N + 1 + i), none⟩ = some (.string ⟨(lineS ls[i]).toArray⟩) from fun i hi => by
        obtain ⟨q, e⟩ := HOW.out i (by rw [← hx]; exact hi)
        refine ⟨by rw [HN.out]; exact q, ?_⟩
        obtain ⟨b, f, e1, e2, _⟩ := HLL.out (N + 1 + i) q
        injection e1 with e1
        injection e1 with e3 e4
        subst e3; subst e4
        rw [e2, e]
        simp only [hx])
      obtain ⟨A3, c3, rfl, he1, he2, he3⟩ := hLn
      unfold maxLen at he2
      have HE3 := Lib.hid he3
      have D0' := Lib.hid d0w
      have y0 := (hC.cell (p := ⟨b1, f1 + k, none⟩) hb1).trans d0w
      have q7 : decide (n ≤ N) = false := decide_eq_false (by omega)
      have q8 : ¬ n ≤ N := by omega
      clear hx hcl HOW HHD hX hXl d5w d0w he3
      go_wp2
      go_loopw [5, 7] (fun a i wr => LsRel ls N w1 a i wr) (fun _ i _ => ls.length - (intOf i).toNat)
      case atStart => exact ⟨0, N + 1, Nat.zero_le _, rfl, by go_num, Lib.hid rfl, hC⟩
      case round =>
        clear t0 t1 t2 t3 t4 y0 d5 q1 hC
        obtain ⟨m, M, hm, rfl, rfl, hM, hC⟩ := hrel
        obtain ⟨t0, t1, t2, t3, t4⟩ := HBX.out.below hC
        have y0 := (hC.cell (p := ⟨b1, f1 + k, none⟩) hb1).trans D0'.out
        by_cases hlm : m < ls.length
        · obtain ⟨b3, f3, rfl, hb3, hc3⟩ := HE3.out (by omega)
          obtain ⟨l0, l1, l2, l3, l4⟩ := (hc3 m hlm).below hC hb3
          obtain ⟨hNm, d5w⟩ := HOW2.out m hlm
          rw [← hM.out] at hNm d5w
          have d5 := (hC.cell (p := ⟨b5, f5 + M, none⟩) hb5).trans d5w
          obtain ⟨x, hx⟩ : ∃ x, x = ls[m] := ⟨_, rfl⟩
          have hxx : LnSm x ∧ lineS x ≠ [] := HLX.out x (by rw [hx]; exact List.getElem_mem _)
          rw [← hx] at l0 l1 l2 l3 l4 d5
          have HPL := Lib.hid (fun W hW => HSP.out x hxx.1 W hW)
          obtain ⟨sx, hsx⟩ : ∃ s, s = lineS x := ⟨_, rfl⟩
          rw [← hsx] at HPL d5 hxx
          obtain ⟨X, hX⟩ : ∃ X : ByteArray, X = ⟨sx.toArray⟩ := ⟨_, rfl⟩
          have hXl : X.toList = sx := by rw [hX, Lib.toList_data]
          rw [← hX] at d5 HPL
          have q2 : (X.toList == []) = false := by rw [hXl]; exact beq_eq_false_iff_ne.2 hxx.2
          have q3 : X.toList.isEmpty = false := by rw [hXl]; cases h : sx with | nil => exact absurd h hxx.2 | cons a r => rfl
          have q4 : decide (n ≤ M) = false := decide_eq_false (by omega)
          have q6 : ¬ n ≤ M := by omega
          clear hx hc3 d5w hsx hxx hX hXl
          go_wp2
          refine wp_region_held_drew (S := (fun w' => (w'.cell? ⟨w.heap.size, 2, none⟩ = some (.slice (some ⟨b1, f1, none⟩) F.ths.length c2) ∧ w'.cell? ⟨b1, f1 + k, none⟩ = some (.slice (some ⟨b3, f3, none⟩) ls.length c3) ∧ w'.cell? ⟨b5, f5 + M, none⟩ = some (.string X)) ∧ (w'.cell? ⟨b3, f3 + m * 5, none⟩ = some (.int .i64 x.op) ∧ w'.cell? ⟨b3, f3 + m * 5 + 1, none⟩ = some (.string ⟨x.reg.toArray⟩) ∧ w'.cell? ⟨b3, f3 + m * 5 + 2, none⟩ = some (.string ⟨x.loc.toArray⟩) ∧ w'.cell? ⟨b3, f3 + m * 5 + 3, none⟩ = some (.string ⟨x.label.toArray⟩) ∧ w'.cell? ⟨b3, f3 + m * 5 + 4, none⟩ = some (.int .i64 x.n)) ∧ Below w1.heap.size w1 w')) (by kernel_rfl) ⟨⟨t2, y0, d5⟩, ⟨l0, l1, l2, l3, l4⟩, below_drewN hC 1⟩ (fun hHeld => ?_)
          refine wpAnyH_take (i := 0) (v := ?_) rfl (by kernel_rfl) (by kernel_rfl) (by kernel_rfl) (fun _ _ _ h => h) (Or.inl ⟨by rfl, ?_⟩) (by assumption) ?_
          rotate_left
          · intro w hSw; (try dsimp only at hSw); go_simp; (try with_reducible rfl)
          (try simp only [Act.put, List.getElem_toArray, List.getElem_cons_zero, List.getElem_cons_succ, Array.getInternal_eq_getElem, List.setIfInBounds_toArray, List.set_cons_zero, List.set_cons_succ])
          refine wpAnyH_take (i := 1) (v := ?_) rfl (by kernel_rfl) (by kernel_rfl) (by kernel_rfl) (fun _ _ _ h => h) (Or.inl ⟨by rfl, ?_⟩) (by assumption) ?_
          rotate_left
          · intro w hSw; (try dsimp only at hSw); go_simp; (try with_reducible rfl)
          (try simp only [Act.put, List.getElem_toArray, List.getElem_cons_zero, List.getElem_cons_succ, Array.getInternal_eq_getElem, List.setIfInBounds_toArray, List.set_cons_zero, List.set_cons_succ])
          refine wpAnyH_take (i := 2) (v := ?_) rfl (by kernel_rfl) (by kernel_rfl) (by kernel_rfl) (fun _ _ _ h => h) (Or.inl ⟨by rfl, ?_⟩) (by assumption) ?_
          rotate_left
          · intro w hSw; (try dsimp only at hSw); go_simp; (try with_reducible rfl)
          (try simp only [Act.put, List.getElem_toArray, List.getElem_cons_zero, List.getElem_cons_succ, Array.getInternal_eq_getElem, List.setIfInBounds_toArray, List.set_cons_zero, List.set_cons_succ])
          refine wpAnyH_take (i := 3) (v := ?_) rfl (by kernel_rfl) (by kernel_rfl) (by kernel_rfl) (fun _ _ _ h => h) (Or.inl ⟨by rfl, ?_⟩) (by assumption) ?_
          rotate_left
          · intro w hSw; (try dsimp only at hSw); go_simp; (try with_reducible rfl)
          (try simp only [Act.put, List.getElem_toArray, List.getElem_cons_zero, List.getElem_cons_succ, Array.getInternal_eq_getElem, List.setIfInBounds_toArray, List.set_cons_zero, List.set_cons_succ])
          refine wpAnyH_take (i := 4) (v := ?_) rfl (by kernel_rfl) (by kernel_rfl) (by kernel_rfl) (fun _ _ _ h => h) (Or.inl ⟨by rfl, ?_⟩) (by assumption) ?_
          rotate_left
          · intro w hSw; (try dsimp only at hSw); go_simp; (try with_reducible rfl)
          (try simp only [Act.put, List.getElem_toArray, List.getElem_cons_zero, List.getElem_cons_succ, Array.getInternal_eq_getElem, List.setIfInBounds_toArray, List.set_cons_zero, List.set_cons_succ])
          refine wpAnyH_take (i := 5) (v := ?_) rfl (by kernel_rfl) (by kernel_rfl) (by kernel_rfl) (fun _ _ _ h => h) (Or.inl ⟨by rfl, ?_⟩) (by assumption) ?_
          rotate_left
          · intro w hSw; (try dsimp only at hSw); go_simp; (try with_reducible rfl)
          (try simp only [Act.put, List.getElem_toArray, List.getElem_cons_zero, List.getElem_cons_succ, Array.getInternal_eq_getElem, List.setIfInBounds_toArray, List.set_cons_zero, List.set_cons_succ])
          refine wpAnyH_take (i := 6) (v := ?_) rfl (by kernel_rfl) (by kernel_rfl) (by kernel_rfl) (fun _ _ _ h => h) (Or.inl ⟨by rfl, ?_⟩) (by assumption) ?_
          rotate_left
          · intro w hSw; (try dsimp only at hSw); go_simp; (try with_reducible rfl)
          (try simp only [Act.put, List.getElem_toArray, List.getElem_cons_zero, List.getElem_cons_succ, Array.getInternal_eq_getElem, List.setIfInBounds_toArray, List.set_cons_zero, List.set_cons_succ])
          refine wpAnyH_take (i := 7) (v := ?_) rfl (by kernel_rfl) (by kernel_rfl) (by kernel_rfl) (fun _ _ _ h => h) (Or.inl ⟨by rfl, ?_⟩) (by assumption) ?_
          rotate_left
          · intro w hSw; (try dsimp only at hSw); go_simp; (try with_reducible rfl)
          (try simp only [Act.put, List.getElem_toArray, List.getElem_cons_zero, List.getElem_cons_succ, Array.getInternal_eq_getElem, List.setIfInBounds_toArray, List.set_cons_zero, List.set_cons_succ])
          refine wpAnyH_take (i := 8) (v := ?_) rfl (by kernel_rfl) (by kernel_rfl) (by kernel_rfl) (fun _ _ _ h => h) (Or.inl ⟨by rfl, ?_⟩) (by assumption) ?_
          rotate_left
          · intro w hSw; (try dsimp only at hSw); go_simp; (try with_reducible rfl)
          (try simp only [Act.put, List.getElem_toArray, List.getElem_cons_zero, List.getElem_cons_succ, Array.getInternal_eq_getElem, List.setIfInBounds_toArray, List.set_cons_zero, List.set_cons_succ])
          refine wpAnyH_take (i := 9) (v := ?_) rfl (by kernel_rfl) (by kernel_rfl) (by kernel_rfl) (fun _ _ _ h => h) (Or.inl ⟨by rfl, ?_⟩) (by assumption) ?_
          rotate_left
          · intro w hSw; (try dsimp only at hSw); go_simp; (try with_reducible rfl)
          (try simp only [Act.put, List.getElem_toArray, List.getElem_cons_zero, List.getElem_cons_succ, Array.getInternal_eq_getElem, List.setIfInBounds_toArray, List.set_cons_zero, List.set_cons_succ])
          refine wpAnyH_take (i := 10) (v := ?_) rfl (by kernel_rfl) (by kernel_rfl) (by kernel_rfl) (fun _ _ _ h => h) (Or.inl ⟨by rfl, ?_⟩) (by assumption) ?_
          rotate_left
          · intro w hSw; (try dsimp only at hSw); go_simp; (try with_reducible rfl)
          (try simp only [Act.put, List.getElem_toArray, List.getElem_cons_zero, List.getElem_cons_succ, Array.getInternal_eq_getElem, List.setIfInBounds_toArray, List.set_cons_zero, List.set_cons_succ])
          refine wpAnyH_take (i := 11) (v := ?_) rfl (by kernel_rfl) (by kernel_rfl) (by kernel_rfl) (fun _ _ _ h => h) (Or.inl ⟨by rfl, ?_⟩) (by assumption) ?_
          rotate_left
          · intro w hSw; (try dsimp only at hSw); go_simp; (try with_reducible rfl)
          (try simp only [Act.put, List.getElem_toArray, List.getElem_cons_zero, List.getElem_cons_succ, Array.getInternal_eq_getElem, List.setIfInBounds_toArray, List.set_cons_zero, List.set_cons_succ])
          refine wpAnyH_take (i := 12) (v := ?_) rfl (by kernel_rfl) (by kernel_rfl) (by kernel_rfl) (fun _ _ _ h => h) (Or.inl ⟨by rfl, ?_⟩) (by assumption) ?_
          rotate_left
          · intro w hSw; (try dsimp only at hSw); go_simp; (try with_reducible rfl)
          (try simp only [Act.put, List.getElem_toArray, List.getElem_cons_zero, List.getElem_cons_succ, Array.getInternal_eq_getElem, List.setIfInBounds_toArray, List.set_cons_zero, List.set_cons_succ])
          refine wpAnyH_take (i := 13) (v := ?_) rfl (by kernel_rfl) (by kernel_rfl) (by kernel_rfl) (fun _ _ _ h => h) (Or.inl ⟨by rfl, ?_⟩) (by assumption) ?_
          rotate_left
          · intro w hSw; (try dsimp only at hSw); go_simp; (try with_reducible rfl)
          (try simp only [Act.put, List.getElem_toArray, List.getElem_cons_zero, List.getElem_cons_succ, Array.getInternal_eq_getElem, List.setIfInBounds_toArray, List.set_cons_zero, List.set_cons_succ])
          refine wpAnyH_take (i := 14) (v := ?_) rfl (by kernel_rfl) (by kernel_rfl) (by kernel_rfl) (fun _ _ _ h => h) (Or.inl ⟨by rfl, ?_⟩) (by assumption) ?_
          rotate_left
          · intro w hSw; (try dsimp only at hSw); go_simp; (try with_reducible rfl)
          (try simp only [Act.put, List.getElem_toArray, List.getElem_cons_zero, List.getElem_cons_succ, Array.getInternal_eq_getElem, List.setIfInBounds_toArray, List.set_cons_zero, List.set_cons_succ])
          refine wpAnyH_take (i := 15) (v := ?_) rfl (by kernel_rfl) (by kernel_rfl) (by kernel_rfl) (fun _ _ _ h => h) (Or.inl ⟨by rfl, ?_⟩) (by assumption) ?_
          rotate_left
          · intro w hSw; (try dsimp only at hSw); go_simp; (try with_reducible rfl)
          (try simp only [Act.put, List.getElem_toArray, List.getElem_cons_zero, List.getElem_cons_succ, Array.getInternal_eq_getElem, List.setIfInBounds_toArray, List.set_cons_zero, List.set_cons_succ])
          refine wpAnyH_take (i := 16) (v := ?_) rfl (by kernel_rfl) (by kernel_rfl) (by kernel_rfl) (fun _ _ _ h => h) (Or.inl ⟨by rfl, ?_⟩) (by assumption) ?_
          rotate_left
          · intro w hSw; (try dsimp only at hSw); go_simp; (try with_reducible rfl)
          (try simp only [Act.put, List.getElem_toArray, List.getElem_cons_zero, List.getElem_cons_succ, Array.getInternal_eq_getElem, List.setIfInBounds_toArray, List.set_cons_zero, List.set_cons_succ])
          refine wpAnyH_take (i := 17) (v := ?_) rfl (by kernel_rfl) (by kernel_rfl) (by kernel_rfl) (fun _ _ _ h => h) (Or.inl ⟨by rfl, ?_⟩) (by assumption) ?_
          rotate_left
          · intro w hSw; (try dsimp only at hSw); go_simp; (try with_reducible rfl)
          (try simp only [Act.put, List.getElem_toArray, List.getElem_cons_zero, List.getElem_cons_succ, Array.getInternal_eq_getElem, List.setIfInBounds_toArray, List.set_cons_zero, List.set_cons_succ])
          refine wpAnyH_ready (rs := [18]) (by kernel_rfl) (by simp) ?_
          refine AllReadyH.cons rfl (fun K hK => ?_) AllReadyH.nil
          go_simp
          go_at_call 14
          refine (HPL.out _ hHeld.2.2).mono ?_
          rintro e z0 ⟨rfl, hz0⟩
          refine hK.out _ _ (keepsl hz0 hHeld) (fun hHeld => ?_)
          clear hK K
          (try simp only [Act.put, List.getElem_toArray, List.getElem_cons_zero, List.getElem_cons_succ, Array.getInternal_eq_getElem, List.setIfInBounds_toArray, List.set_cons_zero, List.set_cons_succ])
          refine wpAnyH_take (i := 19) (v := ?_) rfl (by kernel_rfl) (by kernel_rfl) (by kernel_rfl) (fun _ _ _ h => h) (Or.inl ⟨by rfl, ?_⟩) (by assumption) ?_
          rotate_left
          · intro w hSw; (try dsimp only at hSw); go_simp; (try with_reducible rfl)
          (try simp only [Act.put, List.getElem_toArray, List.getElem_cons_zero, List.getElem_cons_succ, Array.getInternal_eq_getElem, List.setIfInBounds_toArray, List.set_cons_zero, List.set_cons_succ])
          refine wpAnyH_take (i := 20) (v := ?_) rfl (by kernel_rfl) (by kernel_rfl) (by kernel_rfl) (fun _ _ _ h => h) (Or.inl ⟨by rfl, ?_⟩) (by assumption) ?_
          rotate_left
          · intro w hSw; (try dsimp only at hSw); go_simp; (try with_reducible rfl)
          (try simp only [Act.put, List.getElem_toArray, List.getElem_cons_zero, List.getElem_cons_succ, Array.getInternal_eq_getElem, List.setIfInBounds_toArray, List.set_cons_zero, List.set_cons_succ])
          refine wpAnyH_take (i := 21) (v := ?_) rfl (by kernel_rfl) (by kernel_rfl) (by kernel_rfl) (fun _ _ _ h => h) (Or.inl ⟨by rfl, ?_⟩) (by assumption) ?_
          rotate_left
          · intro w hSw; (try dsimp only at hSw); go_simp; (try with_reducible rfl)
          (try simp only [Act.put, List.getElem_toArray, List.getElem_cons_zero, List.getElem_cons_succ, Array.getInternal_eq_getElem, List.setIfInBounds_toArray, List.set_cons_zero, List.set_cons_succ])
          refine wpAnyH_take (i := 22) (v := ?_) rfl (by kernel_rfl) (by kernel_rfl) (by kernel_rfl) (fun _ _ _ h => h) (Or.inl ⟨by rfl, ?_⟩) (by assumption) ?_
          rotate_left
          · intro w hSw; (try dsimp only at hSw); go_simp; (try with_reducible rfl)
          (try simp only [Act.put, List.getElem_toArray, List.getElem_cons_zero, List.getElem_cons_succ, Array.getInternal_eq_getElem, List.setIfInBounds_toArray, List.set_cons_zero, List.set_cons_succ])
          refine wpAnyH_take (i := 23) (v := ?_) rfl (by kernel_rfl) (by kernel_rfl) (by kernel_rfl) (fun _ _ _ h => h) (Or.inl ⟨by rfl, ?_⟩) (by assumption) ?_
          rotate_left
          · intro w hSw; (try dsimp only at hSw); go_simp; (try with_reducible rfl)
          (try simp only [Act.put, List.getElem_toArray, List.getElem_cons_zero, List.getElem_cons_succ, Array.getInternal_eq_getElem, List.setIfInBounds_toArray, List.set_cons_zero, List.set_cons_succ])
          refine wpAnyH_take (i := 24) (v := ?_) rfl (by kernel_rfl) (by kernel_rfl) (by kernel_rfl) (fun _ _ _ h => h) (Or.inl ⟨by rfl, ?_⟩) (by assumption) ?_
          rotate_left
          · intro w hSw; (try dsimp only at hSw); go_simp; (try with_reducible rfl)
          (try simp only [Act.put, List.getElem_toArray, List.getElem_cons_zero, List.getElem_cons_succ, Array.getInternal_eq_getElem, List.setIfInBounds_toArray, List.set_cons_zero, List.set_cons_succ])
          refine wpAnyH_take (i := 25) (v := ?_) rfl (by kernel_rfl) (by kernel_rfl) (by kernel_rfl) (fun _ _ _ h => h) (Or.inl ⟨by rfl, ?_⟩) (by assumption) ?_
          rotate_left
          · intro w hSw; (try dsimp only at hSw); go_simp; (try with_reducible rfl)
          (try simp only [Act.put, List.getElem_toArray, List.getElem_cons_zero, List.getElem_cons_succ, Array.getInternal_eq_getElem, List.setIfInBounds_toArray, List.set_cons_zero, List.set_cons_succ])
          refine wpAnyH_take (i := 26) (v := ?_) rfl (by kernel_rfl) (by kernel_rfl) (by kernel_rfl) (fun _ _ _ h => h) (Or.inl ⟨by rfl, ?_⟩) (by assumption) ?_
          rotate_left
          · intro w hSw; (try dsimp only at hSw); go_simp; (try with_reducible rfl)
          (try simp only [Act.put, List.getElem_toArray, List.getElem_cons_zero, List.getElem_cons_succ, Array.getInternal_eq_getElem, List.setIfInBounds_toArray, List.set_cons_zero, List.set_cons_succ])
          refine wpAnyH_take (i := 27) (v := ?_) rfl (by kernel_rfl) (by kernel_rfl) (by kernel_rfl) (fun _ _ _ h => h) (Or.inl ⟨by rfl, ?_⟩) (by assumption) ?_
          rotate_left
          · intro w hSw; (try dsimp only at hSw); go_simp; (try with_reducible rfl)
          (try simp only [Act.put, List.getElem_toArray, List.getElem_cons_zero, List.getElem_cons_succ, Array.getInternal_eq_getElem, List.setIfInBounds_toArray, List.set_cons_zero, List.set_cons_succ])
          refine wpAnyH_done (by kernel_rfl) ?_ _
          go_wp2
          go_roundw
          case rel => exact ⟨m + 1, M + 1, by omega, by go_num, by go_num, Lib.hid (by have := hM.out; omega), hHeld.2.2⟩
          case measure => simp [intOf]; omega
        · obtain rfl : ls.length = m := by omega
          go_wp2
          go_roundw
          case rel => exact ⟨k + 1, M, by omega, by go_num, rfl, Lib.hid (hM.out.trans HNX.out.symm), hC⟩
          case measure => simp [intOf]; omega
    · obtain rfl : F.ths.length = k := by omega
      have hE : n = N + 1 := by rw [HEN.out, hN.out]
      subst hE
      go_wp2
      go_ret
      exact ⟨rfl, chain HB.out hC⟩
end Go.Proofs.YtkkjodjachbifaaGreatDoor
