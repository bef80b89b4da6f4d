/-
  slices.insertionSortCmpFunc over ends with places.
-/
import Derived.Test.YtbffjhdocicfoaaEyD
import Derived.Test.YtbffjhdocicfoaaK10
namespace Go.Proofs.Ytbffjhdocicfoaa
open Go.RowKit
set_option linter.unusedVariables false
set_option linter.unusedSimpArgs false
open OtM EyM

/-- S of what stands between X and Y: its first i are sorted. -/
def InsK (B b g n cap : Nat) (w0 : World) (X S Y : List EV) (t : Nat) (W : World) : Prop := ∃ P, SR B b g n cap w0 (X ++ P ++ (S.drop t ++ Y)) W ∧ Sx P ∧ P.Perm (S.take t) ∧ t ≤ S.length
theorem ins_zero {B b g n cap : Nat} {w0 : World} {X S Y : List EV} {W : World} (h : SR B b g n cap w0 (X ++ S ++ Y) W) : InsK B b g n cap w0 X S Y (min 1 S.length) W := by
  refine ⟨S.take (min 1 S.length), ?_, ?_, List.Perm.refl _, Nat.min_le_right _ _⟩
  · rw [show X ++ S.take (min 1 S.length) ++ (S.drop (min 1 S.length) ++ Y) = X ++ (S.take (min 1 S.length) ++ S.drop (min 1 S.length)) ++ Y by simp only [List.append_assoc], List.take_append_drop]; exact h
  · match S with
    | [] => exact .nil
    | [x] => exact List.pairwise_singleton _ _
    | x :: y :: r => exact List.pairwise_singleton _ _
/-- One is being put into its place: what stands behind it is behind it. -/
structure InsJ (B b g n cap : Nat) (w0 : World) (X P Z : List EV) (x : EV) (t : Nat) (W : World) : Prop where
  sr : SR B b g n cap w0 (X ++ P.take t ++ x :: (P.drop t ++ Z)) W
  le : t ≤ P.length
  up : P.drop t = [] ∨ ∃ y Q, P.drop t = y :: Q ∧ Lt x.o y.o
theorem InsJ.at {B b g n cap : Nat} {w0 : World} {X P Z : List EV} {x : EV} {t a : Nat} {W : World} (h : InsJ B b g n cap w0 X P Z x (t + 1) W) (ha : X.length = a) :
    (X ++ P.take (t + 1) ++ x :: (P.drop (t + 1) ++ Z))[a + t + 1]? = some x ∧ (X ++ P.take (t + 1) ++ x :: (P.drop (t + 1) ++ Z))[a + t]? = some (P[t]'(Nat.lt_of_succ_le h.le)) := by
  have hl := h.le
  constructor
  · rw [List.getElem?_append_right (by rw [List.length_append, List.length_take]; omega), List.length_append, List.length_take, show a + t + 1 - (X.length + min (t + 1) P.length) = 0 by omega]; rfl
  · rw [List.getElem?_append_left (by rw [List.length_append, List.length_take]; omega), List.getElem?_append_right (by omega), show a + t - X.length = t by omega, List.getElem?_take, if_pos (by omega), List.getElem?_eq_getElem]
theorem InsJ.down {B b g n cap : Nat} {w0 : World} {X P Z : List EV} {x : EV} {t a : Nat} {W W' : World} (h : InsJ B b g n cap w0 X P Z x (t + 1) W) (ha : X.length = a) (hlt : LtA (X ++ P.take (t + 1) ++ x :: (P.drop (t + 1) ++ Z)) (a + t + 1) (a + t))
    (hw : SR B b g n cap w0 (swap1 (X ++ P.take (t + 1) ++ x :: (P.drop (t + 1) ++ Z)) (a + t + 1) (a + t)) W') : InsJ B b g n cap w0 X P Z x t W' := by
  have hl := h.le
  obtain ⟨e1, e2⟩ := h.at ha
  refine ⟨?_, by omega, .inr ⟨_, _, List.drop_eq_getElem_cons (by omega), hlt _ _ e1 e2⟩⟩
  rw [step_down X P Z x (t := t) (k := a + t) (by omega) (by omega)] at hw
  exact hw
theorem InsJ.done {B b g n cap : Nat} {w0 : World} {X P Z : List EV} {x : EV} {t a : Nat} {W : World} (h : InsJ B b g n cap w0 X P Z x t W) (ha : X.length = a) (hp : Sx P) (hl : Bl P [x]) (hlo : t = 0 ∨ NltA (X ++ P.take t ++ x :: (P.drop t ++ Z)) (a + t) (a + t - 1)) :
    Sx (P.take t ++ x :: P.drop t) ∧ (P.take t ++ x :: P.drop t).Perm (P ++ [x]) := by
  have hd : P.take t ++ P.drop t = P := List.take_append_drop _ _
  constructor
  · refine ins_last (by rw [hd]; exact hp) (by rw [hd]; exact hl) ?_ h.up
    rcases Nat.eq_zero_or_pos t with c | c
    · left; rw [c]; rfl
    · obtain ⟨s, rfl⟩ : ∃ s, t = s + 1 := ⟨t - 1, by omega⟩
      have hll := h.le
      obtain ⟨e1, e2⟩ := h.at ha
      refine .inr ⟨P.take s, P[s], List.take_succ_eq_append_getElem (by omega), ?_⟩
      rcases hlo with h0 | h0
      · omega
      · exact h0 _ _ e1 (by rw [show a + (s + 1) - 1 = a + s by omega]; exact e2)
  · have h3 := List.perm_middle (a := x) (l₁ := P.take t) (l₂ := P.drop t)
    rw [hd] at h3
    exact h3.trans (by simpa using (List.perm_append_comm (l₁ := [x]) (l₂ := P)))
theorem InsK.open {B b g n cap : Nat} {w0 : World} {X S Y : List EV} {t : Nat} {W : World} (h : InsK B b g n cap w0 X S Y t W) (ht : t < S.length) (hx : Ix S) : ∃ P, InsJ B b g n cap w0 X P (S.drop (t + 1) ++ Y) (S[t]) P.length W ∧ P.length = t ∧ Sx P ∧ Bl P [S[t]] ∧ P.Perm (S.take t) := by
  obtain ⟨P, h1, h2, h3, h4⟩ := h
  have hl : P.length = t := by rw [h3.length_eq, List.length_take]; omega
  refine ⟨P, ⟨?_, Nat.le_refl _, .inl (List.drop_of_length_le (Nat.le_refl _))⟩, hl, h2, ?_, h3⟩
  · rw [List.take_length, List.drop_length, List.nil_append]
    rw [List.drop_eq_getElem_cons ht] at h1
    exact h1
  · intro u hu v hv
    rw [List.mem_singleton.1 hv]
    obtain ⟨k, hk, rfl⟩ := List.mem_iff_getElem.1 (h3.mem_iff.1 hu)
    rw [List.length_take] at hk
    rw [List.getElem_take]
    exact List.pairwise_iff_getElem.1 hx k t (by omega) ht (by omega)
theorem InsK.shut {B b g n cap : Nat} {w0 : World} {X S Y P : List EV} {t r : Nat} {W : World} {x : EV} (ht : t < S.length) (hx : x = S[t]) (h : InsJ B b g n cap w0 X P (S.drop (t + 1) ++ Y) x r W) (hs : Sx (P.take r ++ x :: P.drop r) ∧ (P.take r ++ x :: P.drop r).Perm (P ++ [x])) (hp : P.Perm (S.take t)) : InsK B b g n cap w0 X S Y (t + 1) W := by
  refine ⟨P.take r ++ x :: P.drop r, ?_, hs.1, ?_, by omega⟩
  · have := h.sr
    simp only [List.append_assoc, List.cons_append] at this ⊢
    exact this
  · rw [List.take_succ_eq_append_getElem ht, ← hx]
    exact hs.2.trans (List.Perm.append_right _ hp)
set_option maxHeartbeats 8000000 in
set_option maxRecDepth 100000 in
theorem eins_any {B b g n cap : Nat} {w0 : World} {X S Y : List EV} (a q : Nat) (w : World) (h : SR B b g n cap w0 (X ++ S ++ Y) w) (ha : X.length = a) (hq : q = a + S.length) (hx : Ix S) (hn : n ≤ 1000000) :
    Calls Try.prog 71 #[.slice (some ⟨g, 0, none⟩) n cap, .int .i64 (a : Int), .int .i64 (q : Int), oF] w (fun e w' => e = .returned (.tuple #[]) ∧ ∃ D, SR B b g n cap w0 (X ++ D ++ Y) w' ∧ D.Perm S ∧ Sx D) := by
  have hlen := h.len
  simp only [List.length_append] at hlen
  have hqn : q ≤ n := by omega
  have HL := Lib.hid (And.intro ha hq)
  have H0 := Lib.hid (ins_zero h)
  have HX := Lib.hid hx
  have han : a ≤ n := by omega
  have haq : a ≤ q := by omega
  clear h hlen ha hq hx
  go_enter Try.func71, Try.ntmps71
  go_wp2
  go_loopw [8] (fun u wr => ∃ i t : Nat, u = .int .i64 i ∧ Hid (InsK B b g n cap w0 X S Y t wr) ∧ Hid (i = a + 1 + (t - min 1 S.length) ∧ min 1 S.length ≤ t ∧ t ≤ S.length) ∧ i ≤ n + 1) (fun u _ => n + 1 - (intOf u).toNat)
  case atStart => exact ⟨a + 1, min 1 S.length, by go_num, H0, Lib.hid ⟨by omega, Nat.le_refl _, Nat.min_le_right _ _⟩, by omega⟩
  case round =>
    obtain ⟨i, t, rfl, HK, HI, hin⟩ := hrel
    by_cases hlt : i < q
    · have HT := Lib.hid (show t < S.length ∧ i = a + t ∧ 0 < t from by have := HI.out; have := HL.out; omega)
      obtain ⟨P, hj, hpl, hsp, hbl, hpp⟩ := HK.out.open HT.out.1 HX.out
      obtain ⟨x, hxs⟩ : ∃ x, x = S[t]'(HT.out.1) := ⟨_, rfl⟩
      rw [← hxs] at hj hbl
      have HXS := Lib.hid hxs
      have HJ := Lib.hid hj
      have HP := Lib.hid (show P.length = t ∧ Sx P ∧ Bl P [x] ∧ P.Perm (S.take t) from ⟨hpl, hsp, hbl, hpp⟩)
      clear hj hpl hsp hbl hpp hxs HK
      go_wp2
      go_loopw [9] (fun u wr => ∃ j r : Nat, u = .int .i64 j ∧ Hid (j = a + r) ∧ j ≤ i ∧ Hid (InsJ B b g n cap w0 X P (S.drop (t + 1) ++ Y) x r wr)) (fun u _ => (intOf u).toNat)
      case atStart => exact ⟨i, P.length, rfl, Lib.hid (by have := HT.out; have := HP.out.1; omega), Nat.le_refl _, HJ⟩
      case round =>
        obtain ⟨j, r, rfl, HR, hji, HK⟩ := hrel
        by_cases hja : a < j
        · obtain ⟨j1, hj1⟩ : ∃ x, x = j - 1 := ⟨_, rfl⟩
          obtain ⟨r1, hr1⟩ : ∃ x, x = r - 1 := ⟨_, rfl⟩
          have hrr : r = r1 + 1 := by have := HR.out; omega
          subst hrr
          have HJ1 := Lib.hid (show j = a + r1 + 1 ∧ j1 = a + r1 from by have := HR.out; omega)
          have w3 : IntKind.i64.wrap ((j : Int) - 1) = (j1 : Int) := by rw [IntWalk.i64_in _ (by omega)]; omega
          have hb1 : j < n := by omega
          have hb2 : j1 < n := by omega
          have HDN := Lib.hid (fun (W W' : World) (h : InsJ B b g n cap w0 X P (S.drop (t + 1) ++ Y) x (r1 + 1) W) => h.down (W' := W') HL.out.1)
          have HDO := Lib.hid (fun (W : World) (h : InsJ B b g n cap w0 X P (S.drop (t + 1) ++ Y) x (r1 + 1) W) hlo => InsK.shut (W := W) HT.out.1 HXS.out h (h.done HL.out.1 HP.out.2.1 HP.out.2.2.1 (.inr hlo)) HP.out.2.2.2)
          rw [show a + r1 + 1 = j from HJ1.out.1.symm, show a + r1 = j1 from HJ1.out.2.symm] at HDN
          rw [show a + (r1 + 1) = j from HR.out.symm, show j - 1 = j1 from hj1.symm] at HDO
          have HSR := Lib.hid HK.out.sr
          have HGR := Lib.hid (fun (W : World) (h : SR B b g n cap w0 (X ++ P.take (r1 + 1) ++ x :: (P.drop (r1 + 1) ++ (S.drop (t + 1) ++ Y))) W) => show InsJ B b g n cap w0 X P (S.drop (t + 1) ++ Y) x (r1 + 1) W from ⟨h, HK.out.le, HK.out.up⟩)
          obtain ⟨zc, hzc⟩ : ∃ z, z = X ++ P.take (r1 + 1) ++ x :: (P.drop (r1 + 1) ++ (S.drop (t + 1) ++ Y)) := ⟨_, rfl⟩
          rw [← hzc] at HSR HDN HDO HGR
          have hga : ((a : Int) < (j : Int)) := by omega
          have hbA := hb1
          have hbB := hb2
          clear hzc hj1 hr1 HK
          obtain ⟨x0', hx0'⟩ : ∃ z, z = x := ⟨_, rfl⟩
          clear hx0'
          have hi1 : j < zc.length := by rw [HSR.out.len]; exact hb1
          have hi2 : j1 < zc.length := by rw [HSR.out.len]; exact hb2
          obtain ⟨x0, x1, x2⟩ := HSR.out.at hi1
          obtain ⟨y0, y1, y2⟩ := HSR.out.at hi2
          have HC1 := fun (W : World) (hW : Below wr.heap.size wr W) => eorder_any W ((HSR.out.grown hW).ev hi1) ((HSR.out.grown hW).ev hi2) ((HSR.out.grown hW).size)
          obtain ⟨r, hr⟩ : ∃ r, r = cmpE zc[j] zc[j1] := ⟨_, rfl⟩
          have HLT := Lib.hid (show (r < 0 → LtA zc j j1) ∧ (¬ r < 0 → NltA zc j j1) from by
            have h := cmpE_neg zc[j] zc[j1]
            rw [← hr, decide_eq_decide] at h
            exact ⟨fun k => ltA_of hi1 hi2 (h.1 k), fun k => nltA_of hi1 hi2 (fun g => k (h.2 g))⟩)
          rw [← hr] at HC1
          obtain ⟨⟨A1, n1, c1, e1⟩, A2, n2, c2, e2⟩ := And.intro (HSR.out.ev hi1).1.sl (HSR.out.ev hi1).2.sl
          obtain ⟨⟨A3, n3, c3, e3⟩, A4, n4, c4, e4⟩ := And.intro (HSR.out.ev hi2).1.sl (HSR.out.ev hi2).2.sl
          obtain ⟨x, hx⟩ : ∃ z, z = zc[j] := ⟨_, rfl⟩
          obtain ⟨y, hy⟩ : ∃ z, z = zc[j1] := ⟨_, rfl⟩
          rw [← hx] at x0 x1 x2 HC1 e1 e2
          rw [← hy] at y0 y1 y2 HC1 e3 e4
          clear hx hy hi1 hi2 hr
          obtain ⟨xm, xr, xo, xi⟩ := x
          obtain ⟨ym, yr, yo, yi⟩ := y
          dsimp only at x0 x1 x2 y0 y1 y2 HC1 e1 e2 e3 e4
          subst e1 e2 e3 e4
          have HC2 := Lib.hid HC1
          clear HC1
          have hS : wr.cell? ⟨g, j * 3, none⟩ = some (.slice A1 n1 c1) ∧ wr.cell? ⟨g, j * 3 + 1, none⟩ = some (.slice A2 n2 c2) ∧ wr.cell? ⟨g, j * 3 + 2, none⟩ = some (.int .i64 (xi : Int)) ∧ wr.cell? ⟨g, j1 * 3, none⟩ = some (.slice A3 n3 c3) ∧ wr.cell? ⟨g, j1 * 3 + 1, none⟩ = some (.slice A4 n4 c4) ∧ wr.cell? ⟨g, j1 * 3 + 2, none⟩ = some (.int .i64 (yi : Int)) ∧ Bg wr wr := ⟨x0, x1, x2, y0, y1, y2, Bg.refl _⟩
          clear x0 x1 x2 y0 y1 y2
          go_upto_region 4 with fail
          go_region_held3 (fun w' => w'.cell? ⟨g, j * 3, none⟩ = some (.slice A1 n1 c1) ∧ w'.cell? ⟨g, j * 3 + 1, none⟩ = some (.slice A2 n2 c2) ∧ w'.cell? ⟨g, j * 3 + 2, none⟩ = some (.int .i64 (xi : Int)) ∧ w'.cell? ⟨g, j1 * 3, none⟩ = some (.slice A3 n3 c3) ∧ w'.cell? ⟨g, j1 * 3 + 1, none⟩ = some (.slice A4 n4 c4) ∧ w'.cell? ⟨g, j1 * 3 + 2, none⟩ = some (.int .i64 (yi : Int)) ∧ Bg wr w') (first | (exact keep6 (by assumption) (by assumption)) | (exact keep6 (by assumption) (Bg.dn _ 1)))
            (first | (go_at_call 41; refine (HC2.out _ (bg6 (by assumption)).1).mono ?_; rintro e w' ⟨rfl, hb2⟩))
          all_goals
            rename_i hHeld
            have HBF := Lib.hid (bg6 hHeld)
            have HK2 := Lib.hid (HSR.out.grown HBF.out.1)
            clear hHeld hS
            by_cases hr : r < 0
            · have HLL := Lib.hid (HLT.out.1 hr)
              clear HLT HC2 HDO
              have HK3 := HK2
              have hb1 := hbA
              have hb2 := hbB
              clear HK2
              obtain ⟨W5, hW5⟩ : ∃ W, W = wr := ⟨_, rfl⟩
              clear hW5
              have hi1 : j < zc.length := by rw [HK3.out.len]; exact hb1
              have hi2 : j1 < zc.length := by rw [HK3.out.len]; exact hb2
              obtain ⟨x0, x1, x2⟩ := HK3.out.at hi1
              obtain ⟨y0, y1, y2⟩ := HK3.out.at hi2
              have HS1 := Lib.hid (HK3.out.set1 hi1 hi2)
              have HS := Lib.hid (HK3.out.swap hi1 hi2)
              obtain ⟨⟨A1, n1, c1, e1⟩, A2, n2, c2, e2⟩ := And.intro (HK3.out.ev hi1).1.sl (HK3.out.ev hi1).2.sl
              obtain ⟨⟨A3, n3, c3, e3⟩, A4, n4, c4, e4⟩ := And.intro (HK3.out.ev hi2).1.sl (HK3.out.ev hi2).2.sl
              have f0 := own_frozen HK3.out.own (j * 3)
              have f1 := own_frozen HK3.out.own (j * 3 + 1)
              have f2 := own_frozen HK3.out.own (j * 3 + 2)
              obtain ⟨zi, hzi⟩ : ∃ z, z = swap1 zc j j1 := ⟨_, rfl⟩
              rw [← hzi] at HS
              have HZI := Lib.hid hzi
              obtain ⟨x, hx⟩ : ∃ z, z = zc[j] := ⟨_, rfl⟩
              obtain ⟨y, hy⟩ : ∃ z, z = zc[j1] := ⟨_, rfl⟩
              rw [← hx] at x0 x1 x2 HS e1 e2
              rw [← hy] at y0 y1 y2 HS HS1 e3 e4
              obtain ⟨zu, hzu⟩ : ∃ z, z = zc.set j y := ⟨_, rfl⟩
              rw [← hzu] at HS1
              clear hx hy hi1 hi2 hzi hzu
              obtain ⟨xm, xr, xo, xi⟩ := x
              obtain ⟨ym, yr, yo, yi⟩ := y
              dsimp only at x0 x1 x2 y0 y1 y2 HS HS1 e1 e2 e3 e4
              subst e1 e2 e3 e4
              have HFIN := Lib.hid (fun W' hw => HDN.out _ W' (HGR.out _ HK3.out) HLL.out hw)
              rw [HZI.out] at HS
              clear HZI HDN HGR
              go_upto_region 6 with fail
              refine wp_region_held_drew (S := (fun w' => True)) (by kernel_rfl) trivial (fun hHeld => ?_)
              refine wpAnyH_take (i := 0) (v := ?_) rfl (by kernel_rfl) (by kernel_rfl) (by kernel_rfl) (fun _ _ _ h => h) (Or.inl ⟨by rfl, ?_⟩) (by assumption) ?_
              rotate_left
              · intro w hSw; (try dsimp only at hSw); go_simp; (try with_reducible rfl)
              (try simp only [Act.put, pt8])
              refine wpAnyH_take (i := 1) (v := ?_) rfl (by kernel_rfl) (by kernel_rfl) (by kernel_rfl) (fun _ _ _ h => h) (Or.inl ⟨by rfl, ?_⟩) (by assumption) ?_
              rotate_left
              · intro w hSw; (try dsimp only at hSw); go_simp; (try with_reducible rfl)
              (try simp only [Act.put, pt8])
              refine wpAnyH_take (i := 2) (v := ?_) rfl (by kernel_rfl) (by kernel_rfl) (by kernel_rfl) (fun _ _ _ h => h) (Or.inl ⟨by rfl, ?_⟩) (by assumption) ?_
              rotate_left
              · intro w hSw; (try dsimp only at hSw); go_simp; (try with_reducible rfl)
              (try simp only [Act.put, pt8])
              refine wpAnyH_take (i := 3) (v := ?_) rfl (by kernel_rfl) (by kernel_rfl) (by kernel_rfl) (fun _ _ _ h => h) (Or.inl ⟨by rfl, ?_⟩) (by assumption) ?_
              rotate_left
              · intro w hSw; (try dsimp only at hSw); go_simp; (try with_reducible rfl)
              (try simp only [Act.put, pt8])
              refine wpAnyH_take (i := 4) (v := ?_) rfl (by kernel_rfl) (by kernel_rfl) (by kernel_rfl) (fun _ _ _ h => h) (Or.inl ⟨by rfl, ?_⟩) (by assumption) ?_
              rotate_left
              · intro w hSw; (try dsimp only at hSw); go_simp; (try with_reducible rfl)
              (try simp only [Act.put, pt8])
              refine wpAnyH_take (i := 5) (v := ?_) rfl (by kernel_rfl) (by kernel_rfl) (by kernel_rfl) (fun _ _ _ h => h) (Or.inl ⟨by rfl, ?_⟩) (by assumption) ?_
              rotate_left
              · intro w hSw; (try dsimp only at hSw); go_simp; (try with_reducible rfl)
              (try simp only [Act.put, pt8])
              refine wpAnyH_take (i := 6) (v := ?_) rfl (by kernel_rfl) (by kernel_rfl) (by kernel_rfl) (fun _ _ _ h => h) (Or.inl ⟨by rfl, ?_⟩) (by assumption) ?_
              rotate_left
              · intro w hSw; (try dsimp only at hSw); go_simp; (try with_reducible rfl)
              (try simp only [Act.put, pt8])
              refine wpAnyH_take (i := 7) (v := ?_) rfl (by kernel_rfl) (by kernel_rfl) (by kernel_rfl) (fun _ _ _ h => h) (Or.inl ⟨by rfl, ?_⟩) (by assumption) ?_
              rotate_left
              · intro w hSw; (try dsimp only at hSw); go_simp; (try with_reducible rfl)
              (try simp only [Act.put, pt8])
              refine wpAnyH_take (i := 8) (v := ?_) rfl (by kernel_rfl) (by kernel_rfl) (by kernel_rfl) (fun _ _ _ h => h) (Or.inl ⟨by rfl, ?_⟩) (by assumption) ?_
              rotate_left
              · intro w hSw; (try dsimp only at hSw); go_simp; (try with_reducible rfl)
              (try simp only [Act.put, pt8])
              refine wpAnyH_take (i := 10) (v := ?_) rfl (by kernel_rfl) (by kernel_rfl) (by kernel_rfl) (fun _ _ _ h => h) (Or.inl ⟨by rfl, ?_⟩) (by assumption) ?_
              rotate_left
              · intro w hSw; (try dsimp only at hSw); go_simp; (try with_reducible rfl)
              (try simp only [Act.put, pt8])
              refine wpAnyH_take (i := 11) (v := ?_) rfl (by kernel_rfl) (by kernel_rfl) (by kernel_rfl) (fun _ _ _ h => h) (Or.inl ⟨by rfl, ?_⟩) (by assumption) ?_
              rotate_left
              · intro w hSw; (try dsimp only at hSw); go_simp; (try with_reducible rfl)
              (try simp only [Act.put, pt8])
              refine wpAnyH_take (i := 12) (v := ?_) rfl (by kernel_rfl) (by kernel_rfl) (by kernel_rfl) (fun _ _ _ h => h) (Or.inl ⟨by rfl, ?_⟩) (by assumption) ?_
              rotate_left
              · intro w hSw; (try dsimp only at hSw); go_simp; (try with_reducible rfl)
              (try simp only [Act.put, pt8])
              refine wpAnyH_ready (rs := [9, 13]) (by kernel_rfl) (by simp) ?_
              refine AllReadyH.cons rfl (fun K hK => ?_) (AllReadyH.cons rfl (fun K hK => ?_) (AllReadyH.nil))
              · -- 9 first
                go_simp
                refine hK.out _ _ trivial (fun hHeld => ?_)
                clear hK K
                (try simp only [Act.put, pt8])
                refine wpAnyH_ready (rs := [13]) (by kernel_rfl) (by simp) ?_
                refine AllReadyH.cons rfl (fun K hK => ?_) AllReadyH.nil
                go_simp
                refine hK.out _ _ trivial (fun hHeld => ?_)
                clear hK K
                (try simp only [Act.put, pt8])
                refine wpAnyH_take (i := 14) (v := ?_) rfl (by kernel_rfl) (by kernel_rfl) (by kernel_rfl) (fun _ _ _ h => h) (Or.inl ⟨by rfl, ?_⟩) (by assumption) ?_
                rotate_left
                · intro w hSw; (try dsimp only at hSw); go_simp; (try with_reducible rfl)
                (try simp only [Act.put, pt8])
                refine wpAnyH_ready (rs := [15]) (by kernel_rfl) (by simp) ?_
                refine AllReadyH.cons rfl (fun K hK => ?_) AllReadyH.nil
                go_simp
                refine hK.out _ _ trivial (fun hHeld => ?_)
                clear hK K
                (try simp only [Act.put, pt8])
                obtain ⟨Y1, hY1⟩ : ∃ W, W = ((w'.setCell ⟨g, j * 3, none⟩ (.slice A3 n3 c3)).setCell ⟨g, j * 3 + 1, none⟩ (.slice A4 n4 c4)).setCell ⟨g, j * 3 + 2, none⟩ (.int .i64 (yi : Int)) := ⟨_, rfl⟩
                rw [← hY1] at HS HS1
                rw [← hY1]
                clear hY1 x0 x1 x2 y0 y1 y2 f0 f1 f2
                obtain ⟨v0, v1, v2, x0, x1, x2, f0, f1, f2⟩ := HS1.out.there hb2
                refine wpAnyH_take (i := 16) (v := ?_) rfl (by kernel_rfl) (by kernel_rfl) (by kernel_rfl) (fun _ _ _ h => h) (Or.inl ⟨by rfl, ?_⟩) (by assumption) ?_
                rotate_left
                · intro w hSw; (try dsimp only at hSw); go_simp; (try with_reducible rfl)
                (try simp only [Act.put, pt8])
                refine wpAnyH_ready (rs := [17]) (by kernel_rfl) (by simp) ?_
                refine AllReadyH.cons rfl (fun K hK => ?_) AllReadyH.nil
                go_simp
                refine hK.out _ _ trivial (fun hHeld => ?_)
                clear hK K
                (try simp only [Act.put, pt8])
                refine wpAnyH_done (by kernel_rfl) ?_ _
                clear x0 x1 x2 f0 f1 f2
                go_wp2
                go_roundw
                case rel => exact ⟨j1, r1, by go_num, Lib.hid (by have := HJ1.out; omega), by have := HJ1.out; omega, Lib.hid (HFIN.out _ (HS.out.grown (Bg.dn _ 1).1))⟩
                case measure => simp [intOf]; have := HJ1.out; omega
              · -- 13 first
                go_simp
                refine hK.out _ _ trivial (fun hHeld => ?_)
                clear hK K
                (try simp only [Act.put, pt8])
                refine wpAnyH_ready (rs := [9]) (by kernel_rfl) (by simp) ?_
                refine AllReadyH.cons rfl (fun K hK => ?_) AllReadyH.nil
                go_simp
                refine hK.out _ _ trivial (fun hHeld => ?_)
                clear hK K
                (try simp only [Act.put, pt8])
                refine wpAnyH_take (i := 14) (v := ?_) rfl (by kernel_rfl) (by kernel_rfl) (by kernel_rfl) (fun _ _ _ h => h) (Or.inl ⟨by rfl, ?_⟩) (by assumption) ?_
                rotate_left
                · intro w hSw; (try dsimp only at hSw); go_simp; (try with_reducible rfl)
                (try simp only [Act.put, pt8])
                refine wpAnyH_ready (rs := [15]) (by kernel_rfl) (by simp) ?_
                refine AllReadyH.cons rfl (fun K hK => ?_) AllReadyH.nil
                go_simp
                refine hK.out _ _ trivial (fun hHeld => ?_)
                clear hK K
                (try simp only [Act.put, pt8])
                obtain ⟨Y1, hY1⟩ : ∃ W, W = ((w'.setCell ⟨g, j * 3, none⟩ (.slice A3 n3 c3)).setCell ⟨g, j * 3 + 1, none⟩ (.slice A4 n4 c4)).setCell ⟨g, j * 3 + 2, none⟩ (.int .i64 (yi : Int)) := ⟨_, rfl⟩
                rw [← hY1] at HS HS1
                rw [← hY1]
                clear hY1 x0 x1 x2 y0 y1 y2 f0 f1 f2
                obtain ⟨v0, v1, v2, x0, x1, x2, f0, f1, f2⟩ := HS1.out.there hb2
                refine wpAnyH_take (i := 16) (v := ?_) rfl (by kernel_rfl) (by kernel_rfl) (by kernel_rfl) (fun _ _ _ h => h) (Or.inl ⟨by rfl, ?_⟩) (by assumption) ?_
                rotate_left
                · intro w hSw; (try dsimp only at hSw); go_simp; (try with_reducible rfl)
                (try simp only [Act.put, pt8])
                refine wpAnyH_ready (rs := [17]) (by kernel_rfl) (by simp) ?_
                refine AllReadyH.cons rfl (fun K hK => ?_) AllReadyH.nil
                go_simp
                refine hK.out _ _ trivial (fun hHeld => ?_)
                clear hK K
                (try simp only [Act.put, pt8])
                refine wpAnyH_done (by kernel_rfl) ?_ _
                clear x0 x1 x2 f0 f1 f2
                go_wp2
                go_roundw
                case rel => exact ⟨j1, r1, by go_num, Lib.hid (by have := HJ1.out; omega), by have := HJ1.out; omega, Lib.hid (HFIN.out _ (HS.out.grown (Bg.dn _ 1).1))⟩
                case measure => simp [intOf]; have := HJ1.out; omega
            · have HLL := Lib.hid (HLT.out.2 (by omega))
              have HE := Lib.hid (HDO.out _ (HGR.out _ HK2.out) HLL.out)
              clear HLT HC2 HDO HDN
              go_wp2
              go_roundw
              case rel => exact ⟨i + 1, t + 1, by go_num, HE, Lib.hid (by have := HI.out; have := HT.out; omega), by omega⟩
              case measure => simp [intOf]; omega
        · have HE := Lib.hid (show InsK B b g n cap w0 X S Y (t + 1) wr.drew from by
            have hr0 : r = 0 := by have := HR.out; omega
            have hk := HK.out
            have := InsK.shut HT.out.1 HXS.out hk (hk.done HL.out.1 HP.out.2.1 HP.out.2.2.1 (.inl hr0)) HP.out.2.2.2
            obtain ⟨P', p1, p2⟩ := this
            exact ⟨P', p1.grown (Bg.dn _ 1).1, p2⟩)
          have hga : ¬ ((a : Int) < (j : Int)) := by omega
          go_upto_region 4 with fail
          refine wp_region_held_drew (S := (fun w' => True)) (by kernel_rfl) trivial (fun hHeld => ?_)
          refine wpAnyH_take (i := 0) (v := ?_) rfl (by kernel_rfl) (by kernel_rfl) (by kernel_rfl) (fun _ _ _ h => h) (Or.inl ⟨by rfl, ?_⟩) (by assumption) ?_
          rotate_left
          · intro w hSw; (try dsimp only at hSw); go_simp; (try with_reducible rfl)
          (try simp only [Act.put, pt8])
          refine wpAnyH_take (i := 1) (v := ?_) rfl (by kernel_rfl) (by kernel_rfl) (by kernel_rfl) (fun _ _ _ h => h) (Or.inl ⟨by rfl, ?_⟩) (by assumption) ?_
          rotate_left
          · intro w hSw; (try dsimp only at hSw); go_simp; (try with_reducible rfl)
          (try simp only [Act.put, pt8])
          refine wpAnyH_take (i := 2) (v := ?_) rfl (by kernel_rfl) (by kernel_rfl) (by kernel_rfl) (fun _ _ _ h => h) (Or.inl ⟨by rfl, ?_⟩) (by assumption) ?_
          rotate_left
          · intro w hSw; (try dsimp only at hSw); go_simp; (try with_reducible rfl)
          (try simp only [Act.put, pt8])
          refine wpAnyH_take (i := 3) (v := ?_) rfl (by kernel_rfl) (by kernel_rfl) (by kernel_rfl) (fun _ _ _ h => h) (Or.inl ⟨by rfl, ?_⟩) (by assumption) ?_
          rotate_left
          · intro w hSw; (try dsimp only at hSw); go_simp; (try with_reducible rfl)
          (try simp only [Act.put, pt8])
          refine wpAnyH_take (i := 4) (v := undef) rfl (by kernel_rfl) (by kernel_rfl) (by kernel_rfl) (fun _ _ _ h => h) (Or.inr ⟨by rfl, rfl⟩) (by assumption) ?_
          (try simp only [Act.put, pt8])
          refine wpAnyH_take (i := 5) (v := undef) rfl (by kernel_rfl) (by kernel_rfl) (by kernel_rfl) (fun _ _ _ h => h) (Or.inr ⟨by rfl, rfl⟩) (by assumption) ?_
          (try simp only [Act.put, pt8])
          refine wpAnyH_take (i := 6) (v := undef) rfl (by kernel_rfl) (by kernel_rfl) (by kernel_rfl) (fun _ _ _ h => h) (Or.inr ⟨by rfl, rfl⟩) (by assumption) ?_
          (try simp only [Act.put, pt8])
          refine wpAnyH_take (i := 7) (v := undef) rfl (by kernel_rfl) (by kernel_rfl) (by kernel_rfl) (fun _ _ _ h => h) (Or.inr ⟨by rfl, rfl⟩) (by assumption) ?_
          (try simp only [Act.put, pt8])
          refine wpAnyH_take (i := 8) (v := undef) rfl (by kernel_rfl) (by kernel_rfl) (by kernel_rfl) (fun _ _ _ h => h) (Or.inr ⟨by rfl, rfl⟩) (by assumption) ?_
          (try simp only [Act.put, pt8])
          refine wpAnyH_take (i := 9) (v := undef) rfl (by kernel_rfl) (by kernel_rfl) (by kernel_rfl) (fun _ _ _ h => h) (Or.inr ⟨by rfl, rfl⟩) (by assumption) ?_
          (try simp only [Act.put, pt8])
          refine wpAnyH_take (i := 10) (v := undef) rfl (by kernel_rfl) (by kernel_rfl) (by kernel_rfl) (fun _ _ _ h => h) (Or.inr ⟨by rfl, rfl⟩) (by assumption) ?_
          (try simp only [Act.put, pt8])
          refine wpAnyH_take (i := 11) (v := undef) rfl (by kernel_rfl) (by kernel_rfl) (by kernel_rfl) (fun _ _ _ h => h) (Or.inr ⟨by rfl, rfl⟩) (by assumption) ?_
          (try simp only [Act.put, pt8])
          refine wpAnyH_take (i := 12) (v := undef) rfl (by kernel_rfl) (by kernel_rfl) (by kernel_rfl) (fun _ _ _ h => h) (Or.inr ⟨by rfl, rfl⟩) (by assumption) ?_
          (try simp only [Act.put, pt8])
          refine wpAnyH_take (i := 13) (v := undef) rfl (by kernel_rfl) (by kernel_rfl) (by kernel_rfl) (fun _ _ _ h => h) (Or.inr ⟨by rfl, rfl⟩) (by assumption) ?_
          (try simp only [Act.put, pt8])
          refine wpAnyH_take (i := 14) (v := undef) rfl (by kernel_rfl) (by kernel_rfl) (by kernel_rfl) (fun _ _ _ h => h) (Or.inr ⟨by rfl, rfl⟩) (by assumption) ?_
          (try simp only [Act.put, pt8])
          refine wpAnyH_take (i := 15) (v := undef) rfl (by kernel_rfl) (by kernel_rfl) (by kernel_rfl) (fun _ _ _ h => h) (Or.inr ⟨by rfl, rfl⟩) (by assumption) ?_
          (try simp only [Act.put, pt8])
          refine wpAnyH_take (i := 16) (v := ?_) rfl (by kernel_rfl) (by kernel_rfl) (by kernel_rfl) (fun _ _ _ h => h) (Or.inl ⟨by rfl, ?_⟩) (by assumption) ?_
          rotate_left
          · intro w hSw; (try dsimp only at hSw); go_simp; (try with_reducible rfl)
          (try simp only [Act.put, pt8])
          refine wpAnyH_done (by kernel_rfl) ?_ _
          clear hHeld
          go_wp2
          go_roundw
          case rel => exact ⟨i + 1, t + 1, by go_num, HE, Lib.hid (by have := HI.out; have := HT.out; omega), by omega⟩
          case measure => simp [intOf]; omega
    · have HE := Lib.hid (show ∃ D, SR B b g n cap w0 (X ++ D ++ Y) wr ∧ D.Perm S ∧ Sx D from by
        have hts : t = S.length := by have := HI.out; have := HL.out; omega
        obtain ⟨P, p1, p2, p3, p4⟩ := HK.out
        rw [hts, List.drop_length, List.nil_append] at p1
        rw [hts, List.take_length] at p3
        exact ⟨P, p1, p3, p2⟩)
      go_wp2
      refine bodyPost_end (v := .tuple #[]) (by simp [results, Try.results71, go_sem]) rfl ?_
      exact ⟨rfl, HE.out⟩
end Go.Proofs.Ytbffjhdocicfoaa
