/-
  THE DOCUMENT's line: a fence right behind a fence.
-/
import Derived.Test.YtaelfjphgdlbcaaRLn0
namespace Go.Proofs.Ytaelfjphgdlbcaa
open Go.RowKit
set_option linter.unusedVariables false
set_option linter.unusedSimpArgs false
open WordM (L)
open VM

set_option maxHeartbeats 8000000 in
set_option maxRecDepth 100000 in
theorem rline_f {B : Nat} {v : Value} {ls : List OpsM.Ln} {k : Nat} (w : World) (h : Lns B w v ls) (hBB : B ≤ w.heap.size) (hk : k < ls.length) (hn : ls.length ≤ 100000) (hs : ∀ l ∈ ls, l.reg.length ≤ 100000 ∧ l.loc.length ≤ 100000 ∧ l.label.length ≤ 100000) (hR : ¬ OpsM.rightL ls[k] = false) (h6 : ls[k].op = 6) (k' : Nat) (hk' : k = k' + 1) (hf : ((ls[k']'(by omega)).op == 6) = true) :
    Calls Try.prog 67 #[v, .int .i64 k] w fun e w' => e = .returned (.int .i64 (lnC ls k)) ∧ Below w.heap.size w w' := by
  obtain ⟨A1, c1, rfl, ha1, ha2, ha3⟩ := h
  obtain ⟨b1, f1, rfl, hb1, hcl⟩ := ha3 (by omega)
  have HC := Lib.hid (lnC_take ls k hk)
  have hxs := hs ls[k] (List.getElem_mem _)
  have HS := Lib.hid hs
  have hat := hcl k hk
  have HCL := Lib.hid hcl
  have HT := Lib.hid (fun W (hW : Below w.heap.size w W) => lns_take (B := W.heap.size) (Nat.lt_of_lt_of_le hb1 (Nat.le_trans hBB hW.size)) (Nat.le_of_lt hk) ha1 ha2 (fun j hj => (hcl j hj).below (hW.mono hBB) hb1))
  have HD := Lib.hid (fun W (hW : Below w.heap.size w W) => lns_drop (B := W.heap.size) (k := k + 1) (Nat.lt_of_lt_of_le hb1 (Nat.le_trans hBB hW.size)) hk ha1 ha2 (fun j hj => (hcl j hj).below (hW.mono hBB) hb1))
  obtain ⟨x, hx⟩ : ∃ x, x = ls[k] := ⟨_, rfl⟩
  rw [← hx] at hxs hat
  obtain ⟨d0, d1, d2, d3, d4⟩ := hat
  replace HC := Lib.hid (HC.out.trans (by rw [← hx]))
  have HX := Lib.hid hx
  have hB0 := below_al (Below.refl w.heap.size w) (.cells #[.int .i64 x.op, .string ⟨x.reg.toArray⟩, .string ⟨x.loc.toArray⟩, .string ⟨x.label.toArray⟩, .int .i64 x.n] 60)
  have hbx0 := Lib.hid (show BxL (w.alloc (.cells #[.int .i64 x.op, .string ⟨x.reg.toArray⟩, .string ⟨x.loc.toArray⟩, .string ⟨x.label.toArray⟩, .int .i64 x.n] 60)) w.heap.size x from LnBox.at rfl _ _ _ _ _ _)
  have HR := Lib.hid (fun W => rright_l x W hxs.1 hxs.2.1 hxs.2.2)
  have HJ := Lib.hid (fun W => rjump_l x W)
  have HI := Lib.hid (fun W => rinstr_l x W)
  clear hx hcl ha3 hs hxs
  have hq1 : (k : Int) ≤ (ls.length : Int) := by omega
  have hq2 : (0 : Int) ≤ (k : Int) := by omega
  unfold maxLen at ha2
  have HRr := Lib.hid (show ¬ OpsM.rightL x = false by rw [HX.out]; exact hR)
  have hR' : OpsM.rightL x = true := by have := HRr.out; simpa using this
  rw [hR'] at HR
  clear hR hR'
  rw [← HX.out] at h6
  have q11 : (x.op == 11) = false := by rw [h6]; rfl
  have q6 : (x.op == 6) = true := by rw [h6]; rfl
  have h11 : ¬ x.op = 11 := by omega
  have hj : jmpB x = false := by unfold jmpB; rw [h6]; rfl
  have hi : insB x = false := by unfold insB; rw [h6]; rfl
  have Hi := Lib.hid hi
  rw [hj] at HJ
  have qk : decide ((0 : Int) < (k : Int)) = true := decide_eq_true (by omega)
  have qk2 : decide (0 < k) = true := decide_eq_true (by omega)
  have hw1 : wrap64 ((k : Int) - 1) = (k' : Int) := by rw [NumM.wrap64_inR _ (by unfold NumM.inR; omega)]; omega
  have hw2 : IntKind.i64.wrap ((k : Int) - 1) = (k' : Int) := by rw [IntWalk.i64_in _ (by omega)]; omega
  have hfe : fenB ls k = ((ls[k']'(by omega)).op == 6) := by subst hk'; exact fenB_succ ls k' (by omega)
  have hk2 : k' < ls.length := by omega
  obtain ⟨p0, -⟩ := HCL.out k' (by omega)
  obtain ⟨y, hy⟩ : ∃ y, y = ls[k']'(by omega) := ⟨_, rfl⟩
  rw [← hy] at p0 hfe hf
  have E := Lib.hid (show lnC ls k = 23 by rw [HC.out]; unfold lineC; rw [if_neg HRr.out, if_neg (fun c => h11 c.1), if_pos ⟨h6, by rw [hfe, hf]⟩])
  clear h6 h11 HC HX HRr hj hi HD hfe hy hk' HJ HI HCL
  go_enter Try.func67, Try.ntmps67
  go_wp2_with fail
  refine (HR.out _).mono ?_
  rintro e w1 ⟨rfl, hb⟩
  have hbx1 := Lib.hid (show BxL w1 w.heap.size x from LnBox.below hbx0.out hb)
  have hB1 := chain hB0 hb
  clear hB0 hb hbx0
  obtain ⟨t0, t1, t2, t3, t4⟩ := hbx1.out
  have p0' := ((hB1.mono hBB).cell (p := ⟨b1, f1 + k' * 5, none⟩) hb1).trans p0
  clear p0
  go_wp2
  go_quiet (fail)
  go_wp2
  go_ret
  exact ⟨ret_int E.out.symm, below_drewN hB1 _⟩
end Go.Proofs.Ytaelfjphgdlbcaa
