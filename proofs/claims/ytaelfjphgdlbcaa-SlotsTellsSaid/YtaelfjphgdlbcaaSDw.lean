/-
  THE DOCUMENT's without of layer 8.
-/
import Derived.Test.YtaelfjphgdlbcaaSDf
namespace Go.Proofs.Ytaelfjphgdlbcaa
open Go.RowKit
set_option linter.unusedVariables false
set_option linter.unusedSimpArgs false
open WordM (L)
open VM
open CodM (hasS)
open SlM

/-- The document's state along a thread: how many are left, is a fence behind, what is left. -/
structure DSt (D : Nat → Nat) (E : Nat → Bool) (tk : Nat → List OpsM.Ln) (g : List Int) (fr : Nat) (ls : List OpsM.Ln) : Prop where
  z : D 0 = 0 ∧ E 0 = false ∧ tk 0 = []
  le : ∀ q, D q ≤ q ∧ (tk q).length ≤ q
  lab : ∀ q (h : q < ls.length), hasS ls[q] = false → D (q + 1) = D q ∧ E (q + 1) = E q ∧ tk (q + 1) = tk q ++ [ls[q]]
  out : ∀ q (h : q < ls.length), hasS ls[q] = true → (has g ((fr + D q : Nat) : Int) && !(E q)) = true → D (q + 1) = D q ∧ E (q + 1) = true ∧ tk (q + 1) = tk q
  inn : ∀ q (h : q < ls.length), hasS ls[q] = true → (has g ((fr + D q : Nat) : Int) && !(E q)) = false → D (q + 1) = D q + 1 ∧ E (q + 1) = false ∧ tk (q + 1) = tk q ++ [ls[q]]
theorem dst_of (g : List Int) (fr : Nat) (ls : List OpsM.Ln) : DSt (fun q => (dT hasS g fr ls q).1) (fun q => (dT hasS g fr ls q).2.1) (fun q => (dT hasS g fr ls q).2.2) g fr ls := by
  refine ⟨⟨rfl, rfl, rfl⟩, dT_len hasS g fr ls, fun q h hs => ?_, fun q h hs hb => ?_, fun q h hs hb => ?_⟩
  · simp only [dT_next hasS g fr ls q h, dS, hs]; simp
  · simp only [dT_next hasS g fr ls q h, dS, hs, hb]; simp
  · simp only [dT_next hasS g fr ls q h, dS, hs, hb]; simp
set_option maxHeartbeats 8000000 in
set_option maxRecDepth 100000 in
theorem rwithout_any {B : Nat} {vl vg : Value} {ls : List OpsM.Ln} {g : List Int} (fr : Nat) (w : World) (hl : Lns B w vl ls) (hg : Ints B w vg g) (hBB : B ≤ w.heap.size) (hll : ls.length ≤ 1000000) (hfr : fr ≤ 1000000000000) :
    Calls Try.prog 43 #[vl, vg, .int .i64 fr] w fun e w' => ∃ A c, e = .returned (.tuple #[.slice A (dT hasS g fr ls ls.length).2.2.length c, .int .i64 ((dT hasS g fr ls ls.length).1 : Nat)]) ∧ w'.ownsRow w.heap.size 60 5 (.slice A (dT hasS g fr ls ls.length).2.2.length c) (dT hasS g fr ls ls.length).2.2.length (lnsCs (dT hasS g fr ls ls.length).2.2) ∧ Below w.heap.size w w' := by
  have HHs := Lib.hid (fun n W (hW : Below w.heap.size w W) => rhas_any n W (hg.below (hW.mono hBB)) (Nat.le_trans hBB hW.size))
  have HD := Lib.hid (dst_of g fr ls)
  obtain ⟨AG, cg, rfl, -⟩ := hg
  obtain ⟨A3, c3, rfl, e1, e2, e3⟩ := hl
  unfold maxLen at e2
  have HE3 := Lib.hid e3
  clear e3
  obtain ⟨D, hD⟩ : ∃ D, D = fun q => (dT hasS g fr ls q).1 := ⟨_, rfl⟩
  obtain ⟨E, hE⟩ : ∃ E, E = fun q => (dT hasS g fr ls q).2.1 := ⟨_, rfl⟩
  obtain ⟨tk, hT⟩ : ∃ T, T = fun q => (dT hasS g fr ls q).2.2 := ⟨_, rfl⟩
  rw [← hD, ← hE, ← hT] at HD
  have h1 : (dT hasS g fr ls ls.length).1 = D ls.length := by rw [hD]
  have h2 : (dT hasS g fr ls ls.length).2.2 = tk ls.length := by rw [hT]
  rw [h1, h2]
  clear hD hE hT h1 h2
  obtain ⟨i2', hi2', hx1, hx2, hx3⟩ := info_parts info_lne
  go_enter Try.func43, Try.ntmps43
  go_wp2
  go_loopw [8, 9, 10, 11] (fun v nv fv i wq => (∃ (q n m : Nat) (b : Bool), q ≤ ls.length ∧ i = .int .i64 q ∧ nv = .int .i64 n ∧ n = D q ∧ n ≤ q ∧ fv = .bool b ∧ b = E q ∧ m = (tk q).length ∧ m ≤ q ∧ wq.ownsRow w.heap.size 60 5 v m (lnsCs (tk q)) ∧ Below w.heap.size w wq)) (fun _ _ _ i _ => ls.length - (intOf i).toNat)
  case atStart => exact ⟨0, 0, 0, false, Nat.zero_le _, rfl, rfl, HD.out.z.1.symm, Nat.le_refl _, rfl, HD.out.z.2.1.symm, by rw [HD.out.z.2.2]; rfl, Nat.le_refl _, by rw [HD.out.z.2.2]; exact World.ownsRow_nil _ _ _ _, Below.refl _ _⟩
  case round =>
    obtain ⟨q, n, m, b, hq, rfl, rfl, hn, hnq, rfl, hb, hm, hm2, how, hBQ⟩ := hrel
    have HN := Lib.hid hn
    have HBb := Lib.hid hb
    have HMm := Lib.hid hm
    have HOW := Lib.hid how
    have HBQ := Lib.hid hBQ
    have hszq := hBQ.size
    obtain ⟨Au, cu, rfl⟩ := own_slice how
    clear hn hb hm how hBQ
    by_cases hlq : q < ls.length
    · obtain ⟨b3, f3, rfl, hb3, hc3⟩ := HE3.out (by omega)
      obtain ⟨x0, x1, x2, x3, x4⟩ := lnAt_fr HBQ.out (by omega) (hc3 q hlq)
      have hlab := HD.out.lab q hlq
      have hout := HD.out.out q hlq
      have hinn := HD.out.inn q hlq
      obtain ⟨x, hx⟩ : ∃ x, x = ls[q] := ⟨_, rfl⟩
      rw [← hx] at hlab hout hinn x0 x1 x2 x3 x4
      rw [← HN.out, ← HBb.out] at hlab hout hinn
      have HLab := Lib.hid hlab
      have HOut := Lib.hid hout
      have HInn := Lib.hid hinn
      have HV2 := Lib.hid (HOW.out.alloc (.cells #[.int .i64 x.op, .string ⟨x.reg.toArray⟩, .string ⟨x.loc.toArray⟩, .string ⟨x.label.toArray⟩, .int .i64 x.n] 60))
      have HN2 := Lib.hid (World.news_of_block (heap_alloc_new wr (.cells #[.int .i64 x.op, .string ⟨x.reg.toArray⟩, .string ⟨x.loc.toArray⟩, .string ⟨x.label.toArray⟩, .int .i64 x.n] 60)))
      have HLX := Lib.hid (show LnAt w b3 (f3 + q * 5) x from by rw [hx]; exact hc3 q hlq)
      have hlx : b3 < w.heap.size := by omega
      clear hlab hout hinn hx hc3
      by_cases ho : x.op = 11
      · have q12 : (x.op != 11) = false := by simp [ho]
        have hsx : hasS x = false := by unfold CodM.hasS; simp [ho]
        obtain ⟨k1, k2, k3⟩ := HLab.out hsx
        have HE := Lib.hid (And.intro k1 (And.intro k2 k3))
        clear ho hsx HLab HOut HInn k1 k2 k3
        go_wp2_with (at_builtin; refine wpList_append_own _ rfl _ _ 56 rfl w.heap.size 60 i2' _ 5 64 Try.underlying56 hi2' hx1 hx2 hx3 rfl (by decide) (.slice Au m cu) m (lnsCs (tk q)) rfl HV2.out ⟨wr.heap.size, 0, none⟩ 1 1 [.int .i64 x.op, .string ⟨x.reg.toArray⟩, .string ⟨x.loc.toArray⟩, .string ⟨x.label.toArray⟩, .int .i64 x.n] rfl rfl HN2.out (by simp [Value.oneCell']) (by unfold maxLen; omega) (by omega) (by simp; omega) ?_; intro v2 wy hown3 hg3 _; have hBy := below_append (below_al HBQ.out (.cells #[.int .i64 x.op, .string ⟨x.reg.toArray⟩, .string ⟨x.loc.toArray⟩, .string ⟨x.label.toArray⟩, .int .i64 x.n] 60)) HV2.out (Nat.le_refl _) (by simp; omega) hg3; obtain ⟨x0, x1, x2, x3, x4⟩ := lnAt_fr hBy hlx HLX.out)
        go_roundw
        case rel => exact ⟨q + 1, n, m + 1, b, by omega, by go_num, by go_num, HE.out.1.symm, by omega, rfl, HBb.out.trans (HBb.out ▸ HE.out.2.1.symm), by rw [HE.out.2.2, List.length_append, ← HMm.out]; rfl, by omega, by rw [HE.out.2.2, lnsCs_app]; exact hown3, hBy⟩
        case measure => simp [intOf]; omega
      · have q12 : (x.op != 11) = true := by simpa using ho
        have hsx : hasS x = true := by unfold CodM.hasS; simp [ho]
        have HOut2 := Lib.hid (HOut.out hsx)
        have HInn2 := Lib.hid (HInn.out hsx)
        clear ho hsx HLab HOut HInn
        go_wp2_with fail
        refine (HHs.out ((fr : Int) + (n : Int)) _ HBQ.out).mono ?_
        rintro e w7 ⟨rfl, rfl⟩
        rw [show ((fr + n : Nat) : Int) = (fr : Int) + (n : Int) from rfl] at HOut2 HInn2
        cases hh : has g ((fr : Int) + (n : Int))
        case false =>
          obtain ⟨k1, k2, k3⟩ := HInn2.out (by rw [hh]; rfl)
          have HE := Lib.hid (And.intro k1 (And.intro k2 k3))
          clear hh HOut2 HInn2 k1 k2 k3
          go_wp2_with (at_builtin; refine wpList_append_own _ rfl _ _ 56 rfl w.heap.size 60 i2' _ 5 64 Try.underlying56 hi2' hx1 hx2 hx3 rfl (by decide) (.slice Au m cu) m (lnsCs (tk q)) rfl HV2.out ⟨wr.heap.size, 0, none⟩ 1 1 [.int .i64 x.op, .string ⟨x.reg.toArray⟩, .string ⟨x.loc.toArray⟩, .string ⟨x.label.toArray⟩, .int .i64 x.n] rfl rfl HN2.out (by simp [Value.oneCell']) (by unfold maxLen; omega) (by omega) (by simp; omega) ?_; intro v2 wy hown3 hg3 _; have hBy := below_append (below_al HBQ.out (.cells #[.int .i64 x.op, .string ⟨x.reg.toArray⟩, .string ⟨x.loc.toArray⟩, .string ⟨x.label.toArray⟩, .int .i64 x.n] 60)) HV2.out (Nat.le_refl _) (by simp; omega) hg3; obtain ⟨x0, x1, x2, x3, x4⟩ := lnAt_fr hBy hlx HLX.out)
          go_roundw
          case rel => exact ⟨q + 1, n + 1, m + 1, false, by omega, by go_num, by go_num, HE.out.1.symm, by omega, rfl, HE.out.2.1.symm, by rw [HE.out.2.2, List.length_append, ← HMm.out]; rfl, by omega, by rw [HE.out.2.2, lnsCs_app]; exact hown3, hBy⟩
          case measure => simp [intOf]; omega
        case true =>
          cases b
          case true =>
            obtain ⟨k1, k2, k3⟩ := HInn2.out (by rw [hh]; rfl)
            have HE := Lib.hid (And.intro k1 (And.intro k2 k3))
            clear hh HOut2 HInn2 k1 k2 k3
            go_wp2_with (at_builtin; refine wpList_append_own _ rfl _ _ 56 rfl w.heap.size 60 i2' _ 5 64 Try.underlying56 hi2' hx1 hx2 hx3 rfl (by decide) (.slice Au m cu) m (lnsCs (tk q)) rfl HV2.out ⟨wr.heap.size, 0, none⟩ 1 1 [.int .i64 x.op, .string ⟨x.reg.toArray⟩, .string ⟨x.loc.toArray⟩, .string ⟨x.label.toArray⟩, .int .i64 x.n] rfl rfl HN2.out (by simp [Value.oneCell']) (by unfold maxLen; omega) (by omega) (by simp; omega) ?_; intro v2 wy hown3 hg3 _; have hBy := below_append (below_al HBQ.out (.cells #[.int .i64 x.op, .string ⟨x.reg.toArray⟩, .string ⟨x.loc.toArray⟩, .string ⟨x.label.toArray⟩, .int .i64 x.n] 60)) HV2.out (Nat.le_refl _) (by simp; omega) hg3; obtain ⟨x0, x1, x2, x3, x4⟩ := lnAt_fr hBy hlx HLX.out)
            go_roundw
            case rel => exact ⟨q + 1, n + 1, m + 1, false, by omega, by go_num, by go_num, HE.out.1.symm, by omega, rfl, HE.out.2.1.symm, by rw [HE.out.2.2, List.length_append, ← HMm.out]; rfl, by omega, by rw [HE.out.2.2, lnsCs_app]; exact hown3, hBy⟩
            case measure => simp [intOf]; omega
          case false =>
            obtain ⟨k1, k2, k3⟩ := HOut2.out (by rw [hh]; rfl)
            have HE := Lib.hid (And.intro k1 (And.intro k2 k3))
            clear hh HOut2 HInn2 k1 k2 k3 HV2 HN2
            go_wp2
            go_roundw
            case rel => exact ⟨q + 1, n, m, true, by omega, by go_num, rfl, HE.out.1.symm, by omega, rfl, HE.out.2.1.symm, by rw [HE.out.2.2]; exact HMm.out, by omega, by rw [HE.out.2.2]; exact HOW.out, HBQ.out⟩
            case measure => simp [intOf]; omega
    · obtain rfl : ls.length = q := by omega
      obtain rfl : n = D ls.length := HN.out
      obtain rfl : m = (tk ls.length).length := HMm.out
      go_wp2
      refine bodyPost_ret (v := .tuple #[.slice Au (tk ls.length).length cu, .int .i64 (D ls.length : Nat)]) (by simp [results, Try.results43, go_sem]) rfl ⟨_, _, rfl, HOW.out, HBQ.out⟩
end Go.Proofs.Ytaelfjphgdlbcaa
