/-
  LAYER 16: the walk of ExplStrict.
-/
import Derived.Test.YtbffjhdocicfoaaQs1
import Derived.Test.YtbffjhdocicfoaaK00
import Derived.Test.YtbffjhdocicfoaaK01
import Derived.Test.YtbffjhdocicfoaaK02
import Derived.Test.YtbffjhdocicfoaaK03
import Derived.Test.YtbffjhdocicfoaaK04
import Derived.Test.YtbffjhdocicfoaaCdC
import Derived.Test.YtbffjhdocicfoaaScP
import Derived.Test.YtbffjhdocicfoaaK15
import Derived.Test.YtbffjhdocicfoaaK16
import Derived.Test.YtbffjhdocicfoaaRCdB
import Derived.Test.YtbffjhdocicfoaaRCdC
import Derived.Test.YtbffjhdocicfoaaScW
import Derived.Test.YtbffjhdocicfoaaK10
import Derived.Test.YtbffjhdocicfoaaScX
import Derived.Test.YtbffjhdocicfoaaEnW
import Derived.Test.YtbffjhdocicfoaaK19
import Derived.Test.YtbffjhdocicfoaaScAt
import Derived.Test.YtbffjhdocicfoaaK21
import Derived.Test.YtbffjhdocicfoaaScPo
import Derived.Test.YtbffjhdocicfoaaScDo
import Derived.Test.YtbffjhdocicfoaaScPs
import Derived.Test.YtbffjhdocicfoaaScPb
import Derived.Test.YtbffjhdocicfoaaScY
import Derived.Test.YtbffjhdocicfoaaK27
import Derived.Test.YtbffjhdocicfoaaTsO
import Derived.Test.YtbffjhdocicfoaaSuU
import Derived.Test.YtbffjhdocicfoaaTsR
import Derived.Test.YtbffjhdocicfoaaTsS
import Derived.Test.YtbffjhdocicfoaaEyR
import Derived.Test.YtbffjhdocicfoaaK33
import Derived.Test.YtbffjhdocicfoaaEyT
import Derived.Test.YtbffjhdocicfoaaEyU
import Derived.Test.YtbffjhdocicfoaaK36
import Derived.Test.YtbffjhdocicfoaaEyC
import Derived.Test.YtbffjhdocicfoaaEyD
import Derived.Test.YtbffjhdocicfoaaEyE
import Derived.Test.YtbffjhdocicfoaaEyF
import Derived.Test.YtbffjhdocicfoaaEyG
import Derived.Test.YtbffjhdocicfoaaEyH
import Derived.Test.YtbffjhdocicfoaaEyI
import Derived.Test.YtbffjhdocicfoaaEyX
import Derived.Test.YtbffjhdocicfoaaEyW
import Derived.Test.YtbffjhdocicfoaaK46
import Derived.Test.YtbffjhdocicfoaaRowP
import Derived.Test.YtbffjhdocicfoaaEh0
import Derived.Test.YtbffjhdocicfoaaRuU
import Derived.Test.YtbffjhdocicfoaaEv1
namespace Go.Proofs.Ytbffjhdocicfoaa
open Go.RowKit Go.WideMaps
set_option linter.unusedVariables false
set_option linter.unusedSimpArgs false
open CodM (St Pg rightP hReg hLoc)
open BfM (Wr plc)
open OtM ScM EnM ExM ExN ExP EyP EyM ExR

theorem putF_len {π : Type} : ∀ (l : List (Ot × List π)) (f : Ot × List π), (putF l f).length ≤ l.length + 1
  | [], _ => by simp [putF]
  | x :: l, f => by
    have ih := putF_len l f
    unfold putF
    split
    · simp
    · split
      · simp
      · simp only [List.length_cons]; omega
theorem fold_len {π : Type} : ∀ (L P : List (Ot × List π)), (L.foldl putF P).length ≤ P.length + L.length
  | [], P => by simp
  | f :: L, P => by
    have ih := fold_len L (putF P f)
    have := putF_len P f
    rw [List.foldl_cons, List.length_cons]; omega
theorem exp_len {P : Pg} {wk : Bool} {fuel : Int} {a : List FdE} {n : Nat} (e : expS P wk fuel = (a, n, true)) : a.length ≤ 20000 := by
  obtain ⟨l, -, h2, rfl, -⟩ := exp_true e
  have h3 : (fnd (ExO.endsOf (overB P) enS l)).length ≤ (ExO.endsOf (overB P) enS l).length := by
    have := fold_len (ExO.endsOf (overB P) enS l) []
    unfold fnd
    simpa using this
  have h4 : (ExO.endsOf (overB P) enS l).length ≤ l.length := by
    unfold ExO.endsOf
    rw [List.length_map]; exact List.length_filter_le _ _
  omega
def toO (f : FV) : OV := ⟨f.m, f.r, f.o⟩
set_option maxHeartbeats 8000000 in
set_option maxRecDepth 100000 in
/-- The document's ends of what was found: the same rows, not copied. -/
theorem rens16_any {b n c : Nat} {A : Option Addr} {fs : List FV} (w : World) (h : OwnF b w (.slice A n c) fs) (hn : n = fs.length) (hl : n ≤ 1000000) :
    Calls Try.prog 16 #[.slice A n c] w fun e w' => ∃ r, e = .returned r ∧ AcK w.heap.size w.heap.size (fs.map toO) n r w w' := by
  have HN := Lib.hid hn
  have HO := Lib.hid h
  obtain ⟨i0, hi0, hz0, hz1, hz2⟩ := info_parts info_out
  clear h hn
  go_enter Try.func16, Try.ntmps16
  go_wp2
  go_loopw [3, 4] (fun s i wr => ∃ (k ca : Nat) (AA : Option Addr), k ≤ n ∧ i = .int .i64 k ∧ s = .slice AA k ca ∧ Hid (AcK w.heap.size w.heap.size ((fs.take k).map toO) k (.slice AA k ca) w wr)) (fun _ i _ => n - (intOf i).toNat)
  case atStart => exact ⟨0, 0, none, Nat.zero_le _, rfl, rfl, Lib.hid (AcK.nil _ w)⟩
  case round =>
    obtain ⟨k, ca, AA, hk, rfl, rfl, HK⟩ := hrel
    by_cases hlt : k < n
    · have hkx : k < fs.length := by have := HN.out; omega
      have HOk := Lib.hid (HO.out.grow HK.out.below)
      obtain ⟨ga, hga, d1, d2, -⟩ := fd_at HOk.out hkx
      subst hga
      have hfi := HO.out.ok _ (List.getElem_mem hkx)
      have HFS := Lib.hid (show (fs.take (k + 1)).map toO = (fs.take k).map toO ++ [toO fs[k]] from by rw [List.take_succ_eq_append_getElem hkx, List.map_append]; rfl)
      obtain ⟨x, hx⟩ : ∃ x, x = fs[k] := ⟨_, rfl⟩
      rw [← hx] at d1 d2 hfi
      simp only [← hx] at HFS
      clear hx hkx
      have hok : OvOk w.heap.size w (toO x) := ⟨Rw.own hfi.1 (Nat.le_refl _), Rw.own hfi.2.1 (Nat.le_refl _)⟩
      obtain ⟨⟨A1, c1, ea1⟩, ⟨A2, c2, ea2⟩, -⟩ := hfi.sl
      obtain ⟨n1, hn1⟩ : ∃ m, m = x.o.1.length := ⟨_, rfl⟩
      obtain ⟨n2, hn2⟩ : ∃ m, m = x.o.2.length := ⟨_, rfl⟩
      rw [← hn1] at ea1
      rw [← hn2] at ea2
      have HTO := Lib.hid (show toO x = ⟨.slice A1 n1 c1, .slice A2 n2 c2, x.o⟩ from by unfold toO; rw [ea1, ea2])
      rw [ea1] at d1
      rw [ea2] at d2
      have HOK1 := Lib.hid hok
      clear hok ea1 ea2 hn1 hn2 hfi
      obtain ⟨acc, hacc⟩ : ∃ a, a = (fs.take k).map toO := ⟨_, rfl⟩
      rw [← hacc] at HK
      simp only [← hacc] at HFS
      clear hacc
      obtain ⟨W7, hW7⟩ : ∃ W, W = wr.alloc (.cells #[.slice A1 n1 c1, .slice A2 n2 c2] 33) := ⟨_, rfl⟩
      obtain ⟨gc, hgc⟩ : ∃ x, x = wr.heap.size := ⟨_, rfl⟩
      have HL7 := Lib.hid (show Below wr.heap.size wr W7 from by rw [hW7]; exact below_al (Below.refl _ _) _)
      have hx7 := box2 (w := wr) (.slice A1 n1 c1) (.slice A2 n2 c2) 33
      rw [← hW7, ← hgc] at hx7
      have HAD := Lib.hid (show ∀ j u, [(.slice A1 n1 c1 : Value), .slice A2 n2 c2][j]? = some u → W7.cell? ((⟨gc, 0, none⟩ : Addr).add j) = some u from fun j u hu => by
        match j, hu with
        | 0, hu => injection hu with hu; rw [← hu]; exact hx7.1
        | 1, hu => injection hu with hu; rw [← hu]; exact hx7.2)
      have HK7 := Lib.hid (HK.out.grown HL7.out HK.out.below.size)
      clear hx7
      go_upto_region 4 with (first | (at_builtin; (try rw [← hW7]); (try rw [← hgc]); refine wpList_append_own _ rfl _ _ 43 rfl w.heap.size 33 i0 (.agg #[.slice none 0 0, .slice none 0 0]) 2 48 Try.underlying43 hi0 hz0 hz1 hz2 rfl (by decide) _ k (acc.flatMap ovC) rfl HK7.out.own ⟨gc, 0, none⟩ 1 1 [.slice A1 n1 c1, .slice A2 n2 c2] rfl rfl HAD.out (by intro u hu; simp at hu; rcases hu with rfl | rfl <;> rfl) (by unfold maxLen; omega) (by omega) HK7.out.below.size ?_; intro v8 w8 hown8 hg8 _; obtain ⟨A8, c8, rfl⟩ := own_slice hown8))
      have HK8 := Lib.hid (HK7.out.put (x := ⟨.slice A1 n1 c1, .slice A2 n2 c2, x.o⟩) (by have := HOK1.out; rw [HTO.out] at this; exact this) hown8 hg8 HK7.out.below.size)
      clear hown8 hg8 HAD hW7 hgc
      rw [← HTO.out, ← HFS.out] at HK8
      clear d1 d2
      go_wp2
      go_roundw
      case rel => exact ⟨k + 1, c8, A8, by omega, by go_num, rfl, HK8⟩
      case measure => simp [intOf]; omega
    · obtain rfl : n = k := by omega
      have HE := Lib.hid (show fs.take n = fs from List.take_of_length_le (by have := HN.out; omega))
      rw [HE.out] at HK
      clear HE
      go_wp2
      go_ret
      exact ⟨_, rfl, HK.out⟩
set_option maxHeartbeats 16000000 in
set_option maxRecDepth 100000 in
theorem explstrict_any {B : Nat} {v : Value} {P : Pg} {fu : Int} (w : World) (hv : PgZ B w v P) (hI : InP P) (hfu : 0 ≤ fu ∧ fu < 65536) (hBB : B ≤ w.heap.size) :
    Calls Try.prog 5 #[v, .int .u16 fu] w fun e w' => e = .returned (.bool true) ∧ Below w.heap.size w w' := by
  have HPZ := Lib.hid (fun W (hW : Below w.heap.size w W) => (show PgZ W.heap.size W v P from (hv.below (hW.mono hBB)).more (Nat.le_trans hBB hW.size)))
  obtain ⟨pi, pt, rfl, hpm, hpz⟩ := hv
  have HIP := Lib.hid hI
  obtain ⟨⟨P0, d0, rfl, -⟩, ⟨P1, d1, rfl, -⟩⟩ := hpm
  clear hpz hI
  obtain ⟨W2, hW2⟩ : ∃ W, W = w.alloc (.cells #[.slice P0 P.init.length d0, .slice P1 P.ths.length d1] 25) := ⟨_, rfl⟩
  obtain ⟨gp, hgp⟩ : ∃ g, g = w.heap.size := ⟨_, rfl⟩
  have HX := Lib.hid (show BoxC W2 gp 25 #[.slice P0 P.init.length d0, .slice P1 P.ths.length d1] from by rw [hW2, hgp]; exact BoxC.new w _ _)
  have HB := Lib.hid (show Below w.heap.size w W2 from by rw [hW2]; exact below_al (Below.refl _ _) _)
  obtain ⟨n0, hn0⟩ : ∃ n, n = P.init.length := ⟨_, rfl⟩
  obtain ⟨n1, hn1⟩ : ∃ n, n = P.ths.length := ⟨_, rfl⟩
  rw [← hn0, ← hn1] at hW2 HX HPZ
  rw [← hn0, ← hn1]
  clear hn0 hn1
  go_enter Try.func5, Try.ntmps5
  go_upto_region 1 with fail
  rw [← hW2]
  (try rw [← hgp])
  clear hW2 hgp
  go_wp2_with fail
  refine (head16_any _).mono ?_
  rintro e W3 ⟨rfl, hb⟩
  have HB3 := Lib.hid (chain HB.out hb)
  have HX3 := Lib.hid (HX.out.below hb HX.out.lt)
  clear hb
  have x0 := HX3.out.cell 0 (.slice P0 n0 d0) rfl
  have x1 := HX3.out.cell 1 (.slice P1 n1 d1) rfl
  go_wp2_with fail
  refine (cgreat_any _ ((HPZ.out _ HB3.out).v) (Nat.le_refl _)).mono ?_
  rintro e W4 ⟨bg, rfl, hg, hb⟩
  have HB4 := Lib.hid (chain HB3.out hb)
  have HX4 := Lib.hid (HX3.out.below hb HX3.out.lt)
  have HG := Lib.hid hg
  clear hb hg x0 x1
  cases bg
  · have HR := Lib.hid (HG.out rfl).2
    have x0 := HX4.out.cell 0 (.slice P0 n0 d0) rfl
    have x1 := HX4.out.cell 1 (.slice P1 n1 d1) rfl
    obtain ⟨hf0, hf1⟩ := hfu
    go_wp2_with fail
    refine (xexplore_any false (fu % 400) _ (HPZ.out _ HB4.out) (Nat.le_refl _) HR.out HIP.out).mono ?_
    rintro e W5 ⟨Aa, ca, fs, rfl, hoa, hfa, hb⟩
    have HB5 := Lib.hid (chain HB4.out hb)
    have HX5 := Lib.hid (HX4.out.below hb HX4.out.lt)
    have HO5 := Lib.hid hoa
    obtain ⟨⟨aa, na, ba⟩, hqa⟩ : ∃ q, q = expS P false (fu % 400) := ⟨_, rfl⟩
    rw [← hqa] at hfa ⊢
    dsimp only at hfa ⊢
    have HQA := Lib.hid hqa.symm
    have HFA := Lib.hid hfa
    clear hoa hfa hb x0 x1 hqa
    have x0 := HX5.out.cell 0 (.slice P0 n0 d0) rfl
    have x1 := HX5.out.cell 1 (.slice P1 n1 d1) rfl
    go_wp2_with fail
    refine (xexplore_any true (fu % 400) _ (HPZ.out _ HB5.out) (Nat.le_refl _) HR.out HIP.out).mono ?_
    rintro e W6 ⟨Ab, cb, gs, rfl, hob, hfb, hb⟩
    have HB6 := Lib.hid (chain HB5.out hb)
    have HO6 := Lib.hid (HO5.out.grow hb)
    obtain ⟨⟨ab, nb, bb⟩, hqb⟩ : ∃ q, q = expS P true (fu % 400) := ⟨_, rfl⟩
    rw [← hqb] at hfb ⊢
    dsimp only at hfb ⊢
    have HQB := Lib.hid hqb.symm
    have HFB := Lib.hid hfb
    have HOB := Lib.hid hob
    clear hob hfb hb x0 x1 hqb HO5 HX5
    cases bb
    · go_wp2
      go_ret
      exact ⟨rfl, HB6.out⟩
    · obtain ⟨a3, m3, e3, hmn, hsub⟩ := law_strict HR.out HQB.out
      rw [HQA.out] at e3
      injection e3 with e3 e4
      injection e4 with e4 e5
      subst e3 e4 e5
      have HLA := Lib.hid (show fs.length ≤ 1000000 from by have h1 := exp_len HQA.out; rw [← HFA.out, List.length_map] at h1; omega)
      have HLB := Lib.hid (show gs.length ≤ 1000000 from by have h1 := exp_len HQB.out; rw [← HFB.out, List.length_map] at h1; omega)
      have HS := Lib.hid (show (fs.map toO).filter (kp (gs.map toO)) = [] from by
        rw [List.filter_eq_nil_iff]
        intro z hz
        obtain ⟨f, hf, rfl⟩ := List.mem_map.1 hz
        obtain ⟨q, hq, hqe⟩ := hsub (fvP f) (by rw [← HFA.out]; exact List.mem_map.2 ⟨f, hf, rfl⟩)
        rw [← HFB.out] at hq
        obtain ⟨g, hg, rfl⟩ := List.mem_map.1 hq
        unfold kp
        simp only [decide_eq_true_eq, Classical.not_not]
        exact List.mem_map.2 ⟨toO g, List.mem_map.2 ⟨g, hg, rfl⟩, hqe⟩)
      clear hsub
      obtain ⟨nf, hnf⟩ : ∃ n, n = fs.length := ⟨_, rfl⟩
      obtain ⟨ng, hng⟩ : ∃ n, n = gs.length := ⟨_, rfl⟩
      have HNF := Lib.hid hnf
      have HNG := Lib.hid hng
      rw [← hnf] at HO6 ⊢
      rw [← hng] at HOB ⊢
      clear hnf hng
      go_wp2_with fail
      refine (rens16_any _ HO6.out HNF.out (by have := HNF.out; have := HLA.out; omega)).mono ?_
      rintro e W7 ⟨r7, rfl, hk7⟩
      have HB7 := Lib.hid (chain HB6.out hk7.below)
      have HOB7 := Lib.hid (HOB.out.grow hk7.below)
      have HK7 := Lib.hid hk7
      clear hk7
      go_wp2_with fail
      refine (rens16_any _ HOB7.out HNG.out (by have := HNG.out; have := HLB.out; omega)).mono ?_
      rintro e W8 ⟨r8, rfl, hk8⟩
      have HB8 := Lib.hid (chain HB7.out hk8.below)
      have HV7 := Lib.hid ((HK7.out.outs (Nat.le_refl _) HK7.out.below.size).below hk8.below)
      have HV8 := Lib.hid (hk8.outs (Nat.le_refl _) hk8.below.size)
      have HS8 := Lib.hid (show W7.heap.size ≤ W8.heap.size from hk8.below.size)
      clear hk8
      go_wp2_with fail
      refine (rminus_any _ (HV7.out.more HS8.out) HV8.out (Nat.le_refl _) (by rw [List.length_map]; exact HLA.out) (by rw [List.length_map]; exact HLB.out)).mono ?_
      rintro e W9 ⟨r9, n9, rfl, hk9⟩
      have HB9 := Lib.hid (chain HB8.out hk9.below)
      have hn9 : n9 = 0 := by have := hk9.len; rw [HS.out] at this; exact this.symm
      subst hn9
      obtain ⟨A9, c9, rfl⟩ := own_slice hk9.own
      clear hk9
      go_wp2
      go_ret
      exact ⟨rfl, HB9.out⟩
  · go_wp2
    go_ret
    exact ⟨rfl, HB4.out⟩
end Go.Proofs.Ytbffjhdocicfoaa
