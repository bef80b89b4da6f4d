/-
  LAYER 14: cross.Raise, cross.Lower.
  LAYER 13: run.Over.
  LAYER 13: ends: what locations have, and all registers; run.End.
  LAYER 13: run.Ends.
  LAYER 13: ends and picks, alike.
  LAYER 13: Loose, Great, head: a live question whose answer is fixed.
  LAYER 14: what the laws' head asks, as mathematics.
-/
import Derived.Test.YtlpjgaeelnlipaaGreatK32
import Derived.Test.YtlpjgaeelnlipaaGreatK22
import Derived.Deep.RegionHeld3
import Derived.Deep.DeepCutAuto
import Derived.Test.YtlpjgaeelnlipaaGreatK12
import Derived.Test.YtlpjgaeelnlipaaGreatScX
import Derived.Test.YtlpjgaeelnlipaaGreatK28
import Derived.Test.YtlpjgaeelnlipaaGreatK10
import Derived.Test.YtlpjgaeelnlipaaGreatScW
set_option linter.unusedVariables false
set_option linter.unusedSimpArgs false
namespace Go.Proofs.YtlpjgaeelnlipaaGreat
open Go.RowKit
open CodM (St Pg rightP)
open BfM (Wr plc)
open ScM
open SlM
open CrM

/-- What is raised of a pick and its way; what is lowered. -/
def raF (f : Int → Bool) (y : (Int × Bool) × (Int × Bool)) : List (Int × Bool) := if f y.2.1 then [y.1, y.1] else [y.1]
def loF (f : Int → Bool) (y : (Int × Bool) × (Int × Bool)) : List (Int × Bool) := if f y.2.1 then [] else [y.1]
theorem flat_le {A B : Type} {φ : A → List B} {c : Nat} (h : ∀ a, (φ a).length ≤ c) : ∀ l : List A, (l.flatMap φ).length ≤ c * l.length
  | [] => by simp
  | a :: l => by
    rw [List.flatMap_cons, List.length_append, List.length_cons, Nat.mul_succ]
    have := h a
    have := flat_le h l
    omega
theorem raF_le (f : Int → Bool) (y : (Int × Bool) × (Int × Bool)) : (raF f y).length ≤ 2 := by unfold raF; split <;> simp
theorem loF_le (f : Int → Bool) (y : (Int × Bool) × (Int × Bool)) : (loF f y).length ≤ 2 := by unfold loF; split <;> simp
theorem flat_next {A B : Type} (φ : A → List B) (l : List A) {k : Nat} (hk : k < l.length) : (l.take (k + 1)).flatMap φ = (l.take k).flatMap φ ++ φ l[k] := by
  rw [List.take_succ_eq_append_getElem hk, List.flatMap_append]; simp
/-- Are the fences' slots crossed? -/
def raOk (f : Int → Bool) (E : List ((Int × Bool) × (Int × Bool))) (k : Nat) : Bool := match E[k]? with | some y => !(f y.2.1 && y.2.2) | none => true
theorem raOk_at (f : Int → Bool) {E : List ((Int × Bool) × (Int × Bool))} {k : Nat} (hk : k < E.length) : raOk f E k = !(f E[k].2.1 && E[k].2.2) := by unfold raOk; rw [List.getElem?_eq_getElem hk]
theorem keyB_small {g : List Int} {m : Nat} (hm : m ≤ 240) : ∀ x, keyB g m x = true → 0 ≤ x ∧ x ≤ 1000000 := fun x h => by
  unfold keyB at h
  simp only [Bool.and_eq_true, decide_eq_true_eq] at h
  omega
theorem pgo_kept {base : Nat} {W W' : World} {u : Value} {P : Pg} (h : PgO base W u P) (hk : ∀ g cs T, base ≤ g → W.heap[g]? = some (.cells cs T (0, 0)) → T ≠ 53 → W'.heap[g]? = some (.cells cs T (0, 0))) : PgO base W' u P := by
  have k : ∀ {T s n : Nat} {v : Value} {xs : List Value}, T ≠ 53 → W.ownsRow base T s v n xs → W'.ownsRow base T s v n xs := fun {T s n v xs} hT ho => by
    obtain ⟨h0, h | ⟨g, cap, cur, h1, h2, h3, h4⟩⟩ := ho
    · exact ⟨h0, .inl h⟩
    · exact ⟨h0, .inr ⟨g, cap, cur, h1, h2, hk g cur T h2 h3 hT, h4⟩⟩
  obtain ⟨ui, ut, vs, rfl, h1, h2, h3⟩ := h
  exact ⟨ui, ut, vs, rfl, k (by decide) h1, k (by decide) h2, fun q hq => by
    obtain ⟨v, e1, e2⟩ := h3 q hq
    exact ⟨v, e1, k (by decide) e2⟩⟩
/-- What Raise hands back. -/
def RaRet (P : Pg) (g : List Int) (l : List (Int × Bool)) (w : World) (e : Ending) (w' : World) : Prop :=
  ∃ A c r b, e = .returned (.tuple #[.slice A r.length c, .bool b]) ∧ (b = true ↔ (runS P true (beg P) l).2.2 = true ∧ ∀ k, k < (wysS P (beg P) l).length → raOk (keyB g (many anyS P.ths)) (wysS P (beg P) l) k = true) ∧
    r = (if b then (wysS P (beg P) l).flatMap (raF (keyB g (many anyS P.ths))) else []) ∧ r.length ≤ 2 * l.length ∧ OwnKi w.heap.size w' (.slice A r.length c) r ∧ Below w.heap.size w w'
/-- What Lower hands back. -/
def LoRet (P : Pg) (g : List Int) (l : List (Int × Bool)) (w : World) (e : Ending) (w' : World) : Prop :=
  ∃ A c r ks, e = .returned (.tuple #[.slice A r.length c, .bool (runS (insP P g) true (beg (insP P g)) l).2.2]) ∧ RisF (keyB g (many anyS P.ths)) ks ∧
    r = (if (runS (insP P g) true (beg (insP P g)) l).2.2 then (wysS (insP P g) (beg (insP P g)) l).flatMap (loF (ldaK ks ks.length)) else []) ∧ r.length ≤ 2 * l.length ∧ OwnKi w.heap.size w' (.slice A r.length c) r ∧ Below w.heap.size w w'
set_option maxHeartbeats 8000000 in
set_option maxRecDepth 100000 in
theorem crraise_any {B : Nat} {v vg vl : Value} {P : Pg} {g : List Int} {l : List (Int × Bool)} (w : World) (hv : PgZ B w v P) (hg : Ints B w vg g) (hl : KiR B w vl l) (hBB : B ≤ w.heap.size) (hp : rightP P = true) (hn : l.length ≤ 50000) (hgl : g.length ≤ 1000000) :
    Calls Tryz.prog 12 #[v, vg, vl] w (RaRet P g l w) := by
  obtain ⟨pi, pt, rfl, hpm⟩ := hv
  have HV := Lib.hid (show PgZ B w (.agg #[pi, pt]) P from ⟨pi, pt, rfl, hpm⟩)
  have HL := Lib.hid hl
  have HI := Lib.hid hg
  obtain ⟨⟨⟨P0, d0, rfl, -⟩, ⟨P1, d1, rfl, -⟩⟩, -⟩ := hpm
  obtain ⟨Al, cl, rfl, hl1, hl2, -⟩ := hl
  obtain ⟨Ag, cg, rfl, -⟩ := hg
  unfold maxLen at hl2
  obtain ⟨W1, hW1⟩ : ∃ W, W = (w.alloc (.cells #[.slice P0 P.init.length d0, .slice P1 P.ths.length d1] 25)).alloc (.cells #[.slice none 0 0] 26) := ⟨_, rfl⟩
  obtain ⟨gp, hgp⟩ : ∃ g, g = w.heap.size := ⟨_, rfl⟩
  obtain ⟨g3, hg3⟩ : ∃ g, g = w.heap.size + 1 := ⟨_, rfl⟩
  have HX := Lib.hid (show BoxC W1 gp 25 #[.slice P0 P.init.length d0, .slice P1 P.ths.length d1] from by rw [hW1, hgp]; exact (BoxC.new w _ _).alloc _)
  have H3 := Lib.hid (show BoxC W1 g3 26 #[.slice none 0 0] from by rw [hW1, hg3]; have := BoxC.new (w.alloc (.cells #[.slice P0 P.init.length d0, .slice P1 P.ths.length d1] 25)) 26 #[.slice none 0 0]; rw [World.size_alloc] at this; exact this)
  have HB1 := Lib.hid (show Below w.heap.size w W1 from by rw [hW1]; exact below_al (below_al (Below.refl _ _) _) _)
  have HS1 := Lib.hid (show W1.heap.size = w.heap.size + 2 from by rw [hW1]; simp)
  have HGP := Lib.hid (show gp < W1.heap.size ∧ g3 < W1.heap.size ∧ w.heap.size ≤ g3 from by have := HS1.out; omega)
  have HCH := Lib.hid (fun W (hW : Below w.heap.size w W) => crchosen_any (v := .agg #[.slice P0 P.init.length d0, .slice P1 P.ths.length d1]) (vg := .slice Ag g.length cg) W ((HV.out.below (hW.mono hBB)).v) (HI.out.below (hW.mono hBB)) (Nat.le_trans hBB hW.size) hp hgl)
  have HMS := Lib.hid (many_small hp)
  have HLL := Lib.hid (wys_lt P l (beg P))
  have HRP := Lib.hid hp
  have x0 := HX.out.cell 0 _ rfl
  have x1 := HX.out.cell 1 _ rfl
  clear hp
  go_enter Tryz.func12, Tryz.ntmps12
  go_upto_region 2 with fail
  rw [← hW1]
  (try rw [← hg3])
  (try rw [← hgp])
  clear hW1 hg3 hgp
  go_upto_region 3 with (go_at_call 34; refine (HCH.out _ HB1.out).mono ?_; rintro e W2 ⟨bF, rfl, hbF, hmF, hb2⟩; have HMF := Lib.hid hmF; have HB2 := Lib.hid hb2; have HBF := Lib.hid hbF; clear hmF hb2 hbF)
  obtain ⟨W3, hW3⟩ : ∃ W, W = W2.alloc (.cells #[.map (some bF)] 55) := ⟨_, rfl⟩
  obtain ⟨gF, hgF⟩ : ∃ g, g = W2.heap.size := ⟨_, rfl⟩
  have HX3 := Lib.hid (show Below W2.heap.size W2 W3 from by rw [hW3]; exact below_al (Below.refl _ _) _)
  have HFB := Lib.hid (show BoxC W3 gF 55 #[.map (some bF)] from by rw [hW3, hgF]; exact BoxC.new W2 _ _)
  have HM3 := Lib.hid (show MapT W3 bF g.length (keyB g (many anyS P.ths)) from HMF.out.below HX3.out HMF.out.lt)
  have HB3 := Lib.hid (chain HB1.out (chain HB2.out HX3.out))
  have H33 := Lib.hid ((H3.out.below HB2.out H3.out.lt).below HX3.out (Nat.lt_of_lt_of_le H3.out.lt HB2.out.size))
  have HXX := Lib.hid ((HX.out.below HB2.out HX.out.lt).below HX3.out (Nat.lt_of_lt_of_le HX.out.lt HB2.out.size))
  have HNN := Lib.hid (show gF < W3.heap.size ∧ bF < W3.heap.size ∧ g3 < W3.heap.size ∧ w.heap.size ≤ W3.heap.size from ⟨HFB.out.lt, HM3.out.lt, H33.out.lt, HB3.out.size⟩)
  rw [← hW3]
  (try rw [← hgF])
  clear hW3 hgF x0 x1
  have HJ0 := Lib.hid (show RwJ W3 gF bF g.length (keyB g (many anyS P.ths)) g3 w.heap.size [] from ⟨HFB.out, HM3.out, none, 0, H33.out, World.ownsRow_nil _ _ _ _⟩)
  obtain ⟨f, hf⟩ : ∃ f, f = keyB g (many anyS P.ths) := ⟨_, rfl⟩
  have HGO := Lib.hid (goes_any (B := w.heap.size) (Fm := 38) (caps := #[.pointer (some ⟨gF, 0, none⟩), .pointer (some ⟨g3, 0, none⟩)]) (bm := raOk f (wysS P (beg P) l)) (Jm := fun k W => RwJ W gF bF g.length f g3 w.heap.size (((wysS P (beg P) l).take k).flatMap (raF f))) W3 ((HV.out.below (HB3.out.mono hBB)).more hBB) ((HL.out.below (HB3.out.mono hBB)).more hBB) HB3.out.size HRP.out hn (enters_of Tryz.func38 (by kernel_rfl) rfl) (by rw [hf]; exact HJ0.out)
    (RwJ.ab (E := wysS P (beg P) l) HNN.out.1 HNN.out.2.1 HNN.out.2.2.1) (fun k hk W hJ hW => by
    have hsm := way_small HRP.out l (beg P) _ (List.getElem_mem hk)
    have hkl : k ≤ 50000 := by have := HLL.out; omega
    have hrl : (((wysS P (beg P) l).take k).flatMap (raF f)).length ≤ 150000 := by have := flat_le (raF_le f) ((wysS P (beg P) l).take k); rw [List.length_take] at this; omega
    refine (ramay_any (B := w.heap.size) (N := W3.heap.size) _ _ _ _ W hJ (by omega) hrl (Nat.le_trans HNN.out.2.2.2 hW.size) HGP.out.2.2 HNN.out.2.2.1 (Nat.le_refl _) (Nat.le_trans HNN.out.2.2.2 hW.size)).mono ?_
    rintro e w' ⟨rfl, q1, q2⟩
    exact ⟨by rw [raOk_at f hk], fun _ => by rw [flat_next _ _ hk]; exact q1, q2⟩))
  rw [← hf] at HJ0
  have y0 := HXX.out.cell 0 _ rfl
  have y1 := HXX.out.cell 1 _ rfl
  have HF := Lib.hid hf
  clear hf
  go_wp2_with fail
  refine HGO.out.mono ?_
  rintro e w5 ⟨bb, rfl, hbi, hbj, hbw⟩
  have HBW := Lib.hid (show Below w.heap.size w w5 from HB3.out.trans hbw)
  have HBI := Lib.hid hbi
  clear y0 y1 HGO
  cases bb
  · clear hbi hbj hbw
    go_wp2
    go_ret2
    exact ⟨none, 0, [], false, rfl, by rw [← HF.out]; exact HBI.out, rfl, by simp, World.ownsRow_nil _ _ _ _, HBW.out⟩
  · obtain ⟨-, -, A, c, h3, h4⟩ := hbj rfl
    rw [List.take_length] at h3 h4
    obtain ⟨r, hr⟩ : ∃ r, r = (wysS P (beg P) l).flatMap (raF f) := ⟨_, rfl⟩
    rw [← hr] at h3 h4
    have hrl : r.length ≤ 2 * l.length := by have h1 := flat_le (raF_le f) (wysS P (beg P) l); have := HLL.out; rw [hr]; omega
    obtain ⟨m, hm⟩ : ∃ m, m = r.length := ⟨_, rfl⟩
    have HR := Lib.hid hr
    have HM := Lib.hid hm
    have HRL := Lib.hid hrl
    have HO := Lib.hid h4
    rw [← hm] at h3
    have z0 := h3.cell 0 _ rfl
    clear hbi hbj hbw h3 h4 hr hrl hm
    go_wp2
    go_ret2
    exact ⟨A, c, r, true, by rw [← HM.out]; rfl, by rw [← HF.out]; exact ⟨fun _ => HBI.out.1 trivial, fun _ => rfl⟩, by rw [← HF.out]; exact HR.out, HRL.out, HO.out, HBW.out⟩
set_option maxHeartbeats 8000000 in
set_option maxRecDepth 100000 in
theorem crlower_any {B : Nat} {v vg vl : Value} {P : Pg} {g : List Int} {l : List (Int × Bool)} (w : World) (hv : PgZ B w v P) (hg : Ints B w vg g) (hl : KiR B w vl l) (hBB : B ≤ w.heap.size) (hp : rightP P = true) (hq : rightP (insP P g) = true) (hn : l.length ≤ 50000) (hgl : g.length ≤ 1000000)
    (hj : ∀ ss ∈ P.ths, ∀ s ∈ ss, jmpS s = true → 0 ≤ s.5 ∧ s.5 ≤ 1000000) :
    Calls Tryz.prog 10 #[v, vg, vl] w (LoRet P g l w) := by
  obtain ⟨pi, pt, rfl, hpm⟩ := hv
  have HV := Lib.hid (show PgZ B w (.agg #[pi, pt]) P from ⟨pi, pt, rfl, hpm⟩)
  have HL := Lib.hid hl
  have HI := Lib.hid hg
  obtain ⟨⟨⟨P0, d0, rfl, -⟩, ⟨P1, d1, rfl, -⟩⟩, -⟩ := hpm
  obtain ⟨Al, cl, rfl, hl1, hl2, -⟩ := hl
  obtain ⟨Ag, cg, rfl, -⟩ := hg
  unfold maxLen at hl2
  obtain ⟨W1, hW1⟩ : ∃ W, W = (w.alloc (.cells #[.slice P0 P.init.length d0, .slice P1 P.ths.length d1] 25)).alloc (.cells #[.slice none 0 0] 26) := ⟨_, rfl⟩
  obtain ⟨gp, hgp⟩ : ∃ g, g = w.heap.size := ⟨_, rfl⟩
  obtain ⟨g3, hg3⟩ : ∃ g, g = w.heap.size + 1 := ⟨_, rfl⟩
  have HX := Lib.hid (show BoxC W1 gp 25 #[.slice P0 P.init.length d0, .slice P1 P.ths.length d1] from by rw [hW1, hgp]; exact (BoxC.new w _ _).alloc _)
  have H3 := Lib.hid (show BoxC W1 g3 26 #[.slice none 0 0] from by rw [hW1, hg3]; have := BoxC.new (w.alloc (.cells #[.slice P0 P.init.length d0, .slice P1 P.ths.length d1] 25)) 26 #[.slice none 0 0]; rw [World.size_alloc] at this; exact this)
  have HB1 := Lib.hid (show Below w.heap.size w W1 from by rw [hW1]; exact below_al (below_al (Below.refl _ _) _) _)
  have HS1 := Lib.hid (show W1.heap.size = w.heap.size + 2 from by rw [hW1]; simp)
  have HGP := Lib.hid (show gp < W1.heap.size ∧ g3 < W1.heap.size ∧ w.heap.size ≤ g3 from by have := HS1.out; omega)
  have HCH := Lib.hid (fun W (hW : Below w.heap.size w W) => crchosen_any (v := .agg #[.slice P0 P.init.length d0, .slice P1 P.ths.length d1]) (vg := .slice Ag g.length cg) W ((HV.out.below (hW.mono hBB)).v) (HI.out.below (hW.mono hBB)) (Nat.le_trans hBB hW.size) hp hgl)
  have HMS := Lib.hid (many_small hp)
  have HLL := Lib.hid (wys_lt (insP P g) l (beg (insP P g)))
  have HRQ := Lib.hid hq
  have HINS := Lib.hid (fun W (hW : Below w.heap.size w W) => insert_any (v := .agg #[.slice P0 P.init.length d0, .slice P1 P.ths.length d1]) (vg := .slice Ag g.length cg) W ((HV.out.below (hW.mono hBB)).v) (HI.out.below (hW.mono hBB)) (Nat.le_trans hBB hW.size) (by have := (right_ths hp).1; omega) (right_small hp).1 (right_small hp).2 hgl hj)
  have x0 := HX.out.cell 0 _ rfl
  have x1 := HX.out.cell 1 _ rfl
  clear hp hq hj
  go_enter Tryz.func10, Tryz.ntmps10
  go_upto_region 2 with fail
  rw [← hW1]
  (try rw [← hg3])
  (try rw [← hgp])
  clear hW1 hg3 hgp
  go_upto_region 3 with (first
    | (go_at_call 34; refine (HCH.out _ HB1.out).mono ?_; rintro e W2 ⟨bC, rfl, hbC, hmC, hb2⟩; have HMC := Lib.hid (crlaid_any W2 hmC hgl (keyB_small HMS.out)); have HB2 := Lib.hid hb2; clear hmC hb2 hbC)
    | (go_at_call 33; refine HMC.out.mono ?_; rintro e V2 ⟨bF, ks, rfl, hbF, hks, hkl, hmF, hb3⟩; have HMF := Lib.hid hmF; have HKS := Lib.hid hks; have HKL := Lib.hid hkl; have HV2 := Lib.hid (chain HB2.out hb3); clear hmF hb3 hbF hks hkl))
  obtain ⟨W3, hW3⟩ : ∃ W, W = V2.alloc (.cells #[.map (some bF)] 55) := ⟨_, rfl⟩
  obtain ⟨gF, hgF⟩ : ∃ g, g = V2.heap.size := ⟨_, rfl⟩
  have HX3 := Lib.hid (show Below V2.heap.size V2 W3 from by rw [hW3]; exact below_al (Below.refl _ _) _)
  have HFB := Lib.hid (show BoxC W3 gF 55 #[.map (some bF)] from by rw [hW3, hgF]; exact BoxC.new V2 _ _)
  have HM3 := Lib.hid (show MapT W3 bF ks.length (ldaK ks ks.length) from HMF.out.below HX3.out HMF.out.lt)
  have HB3 := Lib.hid (chain HB1.out (chain HV2.out HX3.out))
  have H33 := Lib.hid ((H3.out.below HV2.out H3.out.lt).below HX3.out (Nat.lt_of_lt_of_le H3.out.lt HV2.out.size))
  have HXX := Lib.hid ((HX.out.below HV2.out HX.out.lt).below HX3.out (Nat.lt_of_lt_of_le HX.out.lt HV2.out.size))
  rw [← hW3]
  (try rw [← hgF])
  clear hW3 hgF x0 x1
  have y0 := HXX.out.cell 0 _ rfl
  have y1 := HXX.out.cell 1 _ rfl
  obtain ⟨f, hf⟩ : ∃ f, f = ldaK ks ks.length := ⟨_, rfl⟩
  have HF := Lib.hid hf
  rw [← hf] at HM3
  clear hf
  go_wp2_with fail
  refine (HINS.out _ HB3.out).mono ?_
  rintro e W4 ⟨u, rfl, hu, hb4⟩
  have HB4 := Lib.hid (chain HB3.out hb4)
  have H34 := Lib.hid (H33.out.below hb4 H33.out.lt)
  have HFB4 := Lib.hid (HFB.out.below hb4 HFB.out.lt)
  have HM4 := Lib.hid (HM3.out.below hb4 HM3.out.lt)
  have HNN := Lib.hid (show gF < W4.heap.size ∧ bF < W4.heap.size ∧ g3 < W4.heap.size ∧ w.heap.size ≤ W4.heap.size from ⟨HFB4.out.lt, HM4.out.lt, H34.out.lt, HB4.out.size⟩)
  obtain ⟨ui, ut, hue⟩ : ∃ ui ut, u = .agg #[ui, ut] := by obtain ⟨a, b, _, e, _⟩ := hu; exact ⟨a, b, e⟩
  subst hue
  have HN3 := Lib.hid (show g3 < W3.heap.size from H33.out.lt)
  clear hb4 y0 y1 HINS
  have HJ0 := Lib.hid (show RwJ W4 gF bF ks.length f g3 w.heap.size [] from ⟨HFB4.out, HM4.out, none, 0, H34.out, World.ownsRow_nil _ _ _ _⟩)
  obtain ⟨Q, hQ⟩ : ∃ Q, Q = insP P g := ⟨_, rfl⟩
  rw [← hQ] at HLL HRQ
  have HPO := Lib.hid hu
  have HGO := Lib.hid (goesv_any (B := w.heap.size) (Fm := 36) (caps := #[.pointer (some ⟨gF, 0, none⟩), .pointer (some ⟨g3, 0, none⟩)]) (bm := fun _ => true) (Jm := fun k W => RwJ W gF bF ks.length f g3 w.heap.size (((wysS Q (beg Q) l).take k).flatMap (loF f))) (KV := fun W => W4.heap.size ≤ W.heap.size ∧ KpY g3 W4 W) W4 ⟨Nat.le_refl _, fun k o h _ _ => h⟩
    (fun k A X row h hgr hr => ⟨Nat.le_trans h.1 hgr.size, fun q o h1 h2 h3 => (hgr.block q (by have := (Array.getElem?_eq_some_iff.1 (h.2 q o h1 h2 h3)).1; exact this) (fun e => by have := (hr q e.symm).1; have := (Array.getElem?_eq_some_iff.1 h1).1; omega)).trans (h.2 q o h1 h2 h3)⟩)
    (fun W h => by
      have hpo := HPO.out
      rw [← hQ] at hpo
      have := pgo_kept hpo (fun q cs T hq hh hT => h.2 q _ hh (by have := HN3.out; omega) (fun cs2 ro e => by injection e with _ e; exact hT e))
      exact this.v.z this.nz)
    ((HL.out.below (HB4.out.mono hBB)).more hBB) HB4.out.size HRQ.out hn (enters_of Tryz.func36 (by kernel_rfl) rfl) HJ0.out
    (RwJ.ab (E := wysS Q (beg Q) l) HNN.out.1 HNN.out.2.1 HNN.out.2.2.1) (fun k hk W hJ hW hKV => by
    have hsm := way_small HRQ.out l (beg Q) _ (List.getElem_mem hk)
    have hkl : k ≤ 50000 := by have := HLL.out; omega
    have hrl : (((wysS Q (beg Q) l).take k).flatMap (loF f)).length ≤ 150000 := by have := flat_le (loF_le f) ((wysS Q (beg Q) l).take k); rw [List.length_take] at this; omega
    refine (lomay_any (B := w.heap.size) (N := W4.heap.size) _ _ _ _ W hJ (by omega) hrl (Nat.le_trans HNN.out.2.2.2 hW.size |> fun h => by have := hKV.1; have := HNN.out; omega) HGP.out.2.2 HNN.out.2.2.1 (Nat.le_refl _) (by have := hKV.1; have := HNN.out; omega)).mono ?_
    rintro e w' ⟨rfl, q1, q2, q3⟩
    exact ⟨rfl, fun _ => by rw [flat_next _ _ hk]; exact q1, q2, Nat.le_trans hKV.1 q2.2.size, fun q o h1 h2 h3 => q3 q o (hKV.2 q o h1 h2 h3) h2 h3⟩))
  clear hu
  go_wp2_with fail
  refine HGO.out.mono ?_
  rintro e w5 ⟨bb, rfl, hbi, hbj, hbw⟩
  have HBW := Lib.hid (show Below w.heap.size w w5 from HB4.out.trans hbw)
  have HBE := Lib.hid (show bb = (runS Q true (beg Q) l).2.2 from by
    cases h : (runS Q true (beg Q) l).2.2
    · cases bb
      · rfl
      · have := (hbi.1 rfl).1; rw [h] at this; cases this
    · exact hbi.2 ⟨h, fun _ _ => rfl⟩)
  have HQ := Lib.hid hQ
  clear HGO hQ
  cases bb
  · clear hbi hbj hbw
    go_wp2
    go_ret2
    exact ⟨none, 0, [], ks, by rw [← HQ.out, ← HBE.out]; rfl, HKS.out, by rw [← HQ.out, ← HBE.out]; rfl, by simp, World.ownsRow_nil _ _ _ _, HBW.out⟩
  · obtain ⟨-, -, A, c, h3, h4⟩ := hbj rfl
    rw [List.take_length] at h3 h4
    obtain ⟨r, hr⟩ : ∃ r, r = (wysS Q (beg Q) l).flatMap (loF f) := ⟨_, rfl⟩
    rw [← hr] at h3 h4
    have hrl : r.length ≤ 2 * l.length := by have h1 := flat_le (loF_le f) (wysS Q (beg Q) l); have := HLL.out; rw [hr]; omega
    obtain ⟨m, hm⟩ : ∃ m, m = r.length := ⟨_, rfl⟩
    have HR := Lib.hid hr
    have HM := Lib.hid hm
    have HRL := Lib.hid hrl
    have HO := Lib.hid h4
    rw [← hm] at h3
    have z0 := h3.cell 0 _ rfl
    clear hbi hbj hbw h3 h4 hr hrl hm
    go_wp2
    go_ret2
    exact ⟨A, c, r, ks, by rw [← HQ.out, ← HBE.out, ← HM.out]; rfl, HKS.out, by rw [← HQ.out, ← HBE.out, ← HF.out]; exact HR.out, HRL.out, HO.out, HBW.out⟩
end Go.Proofs.YtlpjgaeelnlipaaGreat
namespace Go.Proofs.YtlpjgaeelnlipaaGreat
open Go.RowKit
open CodM (St Pg rightP)
open BfM (Wr plc)
open ScM

end Go.Proofs.YtlpjgaeelnlipaaGreat
namespace Go.Proofs.YtlpjgaeelnlipaaGreat
open Go.RowKit
open CodM (St Pg rightP)
open BfM (Wr plc)
open ScM

end Go.Proofs.YtlpjgaeelnlipaaGreat
namespace Go.Proofs.YtlpjgaeelnlipaaGreat
open Go.RowKit
open CodM (St Pg rightP)
open BfM (Wr plc)
open ScM

end Go.Proofs.YtlpjgaeelnlipaaGreat
namespace Go.Proofs.YtlpjgaeelnlipaaGreat
open Go.RowKit
open CodM (St Pg rightP)
open BfM (Wr plc)
open ScM

set_option maxHeartbeats 4000000 in
set_option maxRecDepth 100000 in
theorem kisame_any {B : Nat} {v u : Value} {ns : List (Int × Bool)} (w : World) (hv : KiR B w v ns) (hu : KiR B w u ns) (hBB : B ≤ w.heap.size) :
    Calls Tryz.prog 15 #[v, u] w fun e w' => e = .returned (.bool true) ∧ Below w.heap.size w w' := by
  obtain ⟨A1, c1, rfl, ha1, ha2, -, ha3⟩ := hv
  obtain ⟨A2, c2, rfl, hb1, hb2, -, hb3⟩ := hu
  unfold maxLen at ha2 hb2
  have ha3 := ki_at (c := c1) ha3
  have hb3 := ki_at (c := c2) hb3
  go_enter Tryz.func15, Tryz.ntmps15
  go_wp2
  go_loopw [5] (fun i wr => ∃ k : Nat, k ≤ ns.length ∧ i = .int .i64 k ∧ Below w.heap.size w wr) (fun i _ => ns.length - (intOf i).toNat)
  case atStart => exact ⟨0, Nat.zero_le _, rfl, Below.refl _ _⟩
  case round =>
    obtain ⟨k, hk, rfl, hB⟩ := hrel
    by_cases hlt : k < ns.length
    · obtain ⟨b1, f1, rfl, hl1, hc1⟩ := ha3 (by omega)
      obtain ⟨b2, f2, rfl, hl2, hc2⟩ := hb3 (by omega)
      obtain ⟨p0, p1⟩ := hc1 k hlt
      obtain ⟨q0, q1⟩ := hc2 k hlt
      have d1 := ((hB.mono hBB).cell (p := ⟨b1, f1 + k * 2, none⟩) hl1).trans p0
      have d2 := ((hB.mono hBB).cell (p := ⟨b1, f1 + k * 2 + 1, none⟩) hl1).trans p1
      have d3 := ((hB.mono hBB).cell (p := ⟨b2, f2 + k * 2, none⟩) hl2).trans q0
      have d4 := ((hB.mono hBB).cell (p := ⟨b2, f2 + k * 2 + 1, none⟩) hl2).trans q1
      obtain ⟨x, hx⟩ : ∃ x, x = ns[k] := ⟨_, rfl⟩
      rw [← hx] at d1 d2 d3 d4
      clear hx hc1 hc2 ha3 hb3 p0 p1 q0 q1
      go_wp2
      go_quiet (fail)
      go_wp2
      go_roundw
      case rel => exact ⟨k + 1, by omega, by go_num, below_drewN hB _⟩
      case measure => simp [intOf]; omega
    · obtain rfl : ns.length = k := by omega
      clear ha3 hb3
      go_wp2
      go_ret
      exact ⟨rfl, hB⟩
end Go.Proofs.YtlpjgaeelnlipaaGreat
namespace Go.Proofs.YtlpjgaeelnlipaaGreat
open Go.RowKit
open CodM (St Pg rightP)
open BfM (Wr plc)
open ScM

theorem rw_box {α : Type} {one : α → List Value} {s : Nat} {W : World} {g : Nat} {T : TypeId} {cs : Array Value} (h : BoxC W g T cs) (l : List α) (n c : Nat) (hc : ∀ (j : Nat) (u : Value), (l.flatMap one)[j]? = some u → cs[j]? = some u) (hn : n = l.length) (hnc : n ≤ c) (hm : c ≤ 1000) : Rw one s W.heap.size W (.slice (some ⟨g, 0, none⟩) n c) l := by
  subst hn
  refine ⟨_, _, rfl, hnc, by unfold maxLen; omega, fun e => (by cases e), fun _ => ⟨g, 0, rfl, h.lt, fun j u hu => ?_⟩⟩
  rw [Nat.zero_add]
  exact h.cell j u (hc j u hu)
def looseL : List (Int × Bool) := [(0, false), (0, false), (1, false), (1, false), (0, true), (1, true)]
def looseC : Array Value := #[.int .i64 0, .bool false, .int .i64 0, .bool false, .int .i64 1, .bool false, .int .i64 1, .bool false, .int .i64 0, .bool true, .int .i64 1, .bool true]
theorem loose_cs : looseC.toList = looseL.flatMap kiC := rfl
theorem loose_at {g : Nat} {W : World} (h : BoxC W g 53 looseC) : KiR W.heap.size W (.slice (some ⟨g, 0, none⟩) 6 6) looseL := rw_box h looseL 6 6 (fun j u hu => by rw [← loose_cs] at hu; simpa using hu) rfl (by decide) (by decide)
theorem loose_3 {g : Nat} {W : World} (h : BoxC W g 53 looseC) : KiR W.heap.size W (.slice (some ⟨g, 0, none⟩) 3 6) (looseL.take 3) := rw_box h (looseL.take 3) 3 6 (fun j u hu => by
  have hj : j < 6 := by
    have := (List.getElem?_eq_some_iff.1 hu).1
    rw [fl_len kiC_len] at this
    simpa [looseL] using this
  match j, hj with
  | 0, _ => exact hu
  | 1, _ => exact hu
  | 2, _ => exact hu
  | 3, _ => exact hu
  | 4, _ => exact hu
  | 5, _ => exact hu) rfl (by decide) (by decide)
set_option maxHeartbeats 4000000 in
set_option maxRecDepth 100000 in
theorem loose_any (w : World) : Calls Tryz.prog 23 #[] w fun e w' => ∃ g, e = .returned (.slice (some ⟨g, 0, none⟩) 6 6) ∧ BoxC w' g 53 looseC ∧ Below w.heap.size w w' := by
  have hB := below_al (Below.refl w.heap.size w) (.cells #[.int .i64 0, .bool false, .int .i64 0, .bool false, .int .i64 1, .bool false, .int .i64 1, .bool false, .int .i64 0, .bool true, .int .i64 1, .bool true] 53)
  have HQ := Lib.hid (show BoxC (w.alloc (.cells #[.int .i64 0, .bool false, .int .i64 0, .bool false, .int .i64 1, .bool false, .int .i64 1, .bool false, .int .i64 0, .bool true, .int .i64 1, .bool true] 53)) w.heap.size 53 looseC from BoxC.new w _ _)
  go_enter Tryz.func23, Tryz.ntmps23
  go_wp2
  go_ret
  exact ⟨w.heap.size, rfl, HQ.out, hB⟩
/-! What the head asks, as mathematics. -/
def hl2 : List (Int × Bool) := [(0, false), (0, false), (1, false), (1, false)]
def hl3 : List (Int × Bool) := [(0, false), (0, true)]
def hs3 : Sta := ⟨[1, 0], [⟨1, [0, 0, 0, 0], false, []⟩, ⟨0, [0, 0, 0, 0], false, []⟩]⟩
def hl4 : List (Int × Bool) := [(0, false), (1, false)]
end Go.Proofs.YtlpjgaeelnlipaaGreat
namespace Go.Proofs.YtlpjgaeelnlipaaGreat
open Go.RowKit
open CodM (St Pg rightP)
open BfM (Wr plc)
open ScM
open SlM
open CrM

def wE : List ((Int × Bool) × (Int × Bool)) := [((0, false), (0, false)), ((0, false), (1, true)), ((1, false), (2, false)), ((1, false), (3, true)), ((0, true), (-1, false)), ((1, true), (-1, false))]
theorem h14_E : wysS bufP (beg bufP) looseL = wE := by decide
theorem h14_cb : (runS bufP true (beg bufP) looseL).2.2 = true := by decide
theorem h14_ck : RisF (crF (wysS bufP (beg bufP) looseL)) [1, 3] := by
  rw [h14_E]
  refine ⟨by decide, fun x => ?_⟩
  simp [crF, wE]
theorem h14_nb : (runS bufP true (beg bufP) [(0, true)]).2.2 = false := by decide
theorem h14_of : ¬ ((runS bufP true (beg bufP) looseL).2.2 = true ∧ ∀ k, k < (wysS bufP (beg bufP) looseL).length → raOk (keyB [1] (many anyS bufP.ths)) (wysS bufP (beg bufP) looseL) k = true) := fun h => by
  have := h.2 1 (by decide)
  revert this
  decide
def l3 : List (Int × Bool) := [(0, false), (0, false), (1, false)]
theorem h14_ra : (runS bufP true (beg bufP) l3).2.2 = true ∧ ∀ k, k < (wysS bufP (beg bufP) l3).length → raOk (keyB [0, 2] (many anyS bufP.ths)) (wysS bufP (beg bufP) l3) k = true := by decide
def a14 : List (Int × Bool) := [(0, false), (0, false), (0, false), (1, false), (1, false)]
theorem h14_ar : (wysS bufP (beg bufP) l3).flatMap (raF (keyB [0, 2] (many anyS bufP.ths))) = a14 := by decide
theorem h14_q : rightP (insP bufP [0, 2]) = true := by kernel_rfl
theorem h14_j : ∀ ss ∈ bufP.ths, ∀ s ∈ ss, jmpS s = true → 0 ≤ s.5 ∧ s.5 ≤ 1000000 := by decide
theorem h14_lb : (runS (insP bufP [0, 2]) true (beg (insP bufP [0, 2])) a14).2.2 = true := by decide
theorem h14_k : RisF (keyB [0, 2] (many anyS bufP.ths)) [0, 2] := by
  refine ⟨by decide, fun x => ?_⟩
  have hm : many anyS bufP.ths = 4 := by decide
  unfold keyB has
  simp only [hm, List.mem_cons, List.not_mem_nil, or_false, List.any_cons, List.any_nil, Bool.or_false, Bool.and_eq_true, Bool.or_eq_true, beq_iff_eq, decide_eq_true_eq]
  omega
theorem h14_lr : (wysS (insP bufP [0, 2]) (beg (insP bufP [0, 2])) a14).flatMap (loF (ldaK [0, 2] 2)) = l3 := by decide
end Go.Proofs.YtlpjgaeelnlipaaGreat
