/-
  ATOMS: the document's Atom, over any world.
-/
import Derived.Test.YtlfngcekbffngaaDoorRefA
namespace Go.Proofs.YtlfngcekbffngaaDoor
open Go.RowKit
set_option linter.unusedVariables false
set_option linter.unusedSimpArgs false
open WordM (L)

def NoEq (s : ByteArray) (k : Nat) : Prop := ∀ j (h : j < s.size), j < k → s[j] ≠ 61
def AtRel (s : ByteArray) (i : Value) : Prop := ∃ k : Nat, k ≤ s.size ∧ i = .int .i64 k ∧ NoEq s k
theorem noeq_next {s : ByteArray} {k : Nat} (hk : k < s.size) (h : s[k] ≠ 61) (hall : NoEq s k) : AtRel s (.int .i64 ((k : Int) + 1)) :=
  ⟨k + 1, by omega, by go_num, fun j hj h1 => by
    by_cases e : j = k
    · subst e; exact h
    · exact hall j hj (by omega)⟩
theorem noeq_take {s : ByteArray} {k : Nat} (hk : k ≤ s.size) (hall : NoEq s k) : (61 : UInt8) ∉ s.data.toList.take k := by
  intro hm
  rw [List.mem_iff_getElem] at hm
  obtain ⟨j, hj, e⟩ := hm
  have hl := Lib.size_eq s
  simp only [List.length_take] at hj
  refine hall j (by omega) (by omega) ?_
  rw [← e, List.getElem_take]; rfl
theorem eq_hit {s : ByteArray} {k : Nat} (hk : k < s.size) (h : s[k] = 61) (hall : NoEq s k) :
    61 ∈ s.data.toList ∧ s.extract 0 k = ⟨(AtomM.before 61 s.data.toList).toArray⟩ ∧ s.extract (k + 1) s.size = ⟨(AtomM.after 61 s.data.toList).toArray⟩ := by
  have hf := noeq_take (Nat.le_of_lt hk) hall
  have e : s.data.toList = s.data.toList.take k ++ 61 :: s.data.toList.drop (k + 1) := by
    have := List.take_append_drop k s.data.toList
    rw [drop_at s k hk, h] at this
    exact this.symm
  refine ⟨by rw [e]; simp, ba_eq ?_, ba_eq ?_⟩
  · conv => rhs; rw [e]
    rw [AtomM.before_at _ _ _ hf, Lib.extract_data]; simp
  · conv => rhs; rw [e]
    rw [AtomM.after_at _ _ _ hf, Lib.extract_data]
    exact List.take_of_length_le (by rw [List.length_drop, ← Lib.size_eq]; exact Nat.le_refl _)
theorem eq_miss {s : ByteArray} (hall : NoEq s s.size) : (61 : UInt8) ∉ s.data.toList := by
  have := noeq_take (Nat.le_refl _) hall
  rwa [take_full] at this
theorem ratom_miss {l : L} (h : (61 : UInt8) ∉ l) : AtomM.ratom l = (AtomM.zero, false) := by unfold AtomM.ratom; rw [if_neg h]
theorem ratom_hit {l : L} (h : 61 ∈ l) : AtomM.ratom l = if (NumM.get (AtomM.after 61 l)).2 && decide (AtomM.wordA (AtomM.rguess l) = l) then (AtomM.rguess l, true) else (AtomM.zero, false) := by
  unfold AtomM.ratom; rw [if_pos h]
theorem rguess_yes {l : L} {X : ByteArray} (hX : X = ⟨(AtomM.before 61 l).toArray⟩) (h2 : 2 < X.size) (h1 : X[1] = 58) : AtomM.rguess l = ⟨((X[0]).toNat : Int) - 48, (X.extract 2 X.size).data.toList, (NumM.get (AtomM.after 61 l)).1⟩ := by
  have e : AtomM.before 61 l = X.data.toList := by rw [hX]
  unfold AtomM.rguess
  rw [e, if_pos ⟨by rw [← Lib.size_eq]; exact h2, by rw [List.getElem?_eq_getElem (by rw [← Lib.size_eq]; omega)]; exact congrArg some h1⟩, head_at X (by omega)]
  refine AtomM.At.same rfl ?_ rfl
  show X.data.toList.drop 2 = _
  rw [Lib.extract_data, List.take_of_length_le (by rw [List.length_drop, ← Lib.size_eq]; exact Nat.le_refl _)]
theorem rguess_no {l : L} {X : ByteArray} (hX : X = ⟨(AtomM.before 61 l).toArray⟩) (h : ∀ h : 2 < X.size, X[1] ≠ 58) : AtomM.rguess l = ⟨-1, X.data.toList, (NumM.get (AtomM.after 61 l)).1⟩ := by
  have e : AtomM.before 61 l = X.data.toList := by rw [hX]
  unfold AtomM.rguess
  rw [e, if_neg]
  rintro ⟨h2, h1⟩
  rw [← Lib.size_eq] at h2
  rw [List.getElem?_eq_getElem (by rw [← Lib.size_eq]; omega)] at h1
  exact h h2 (Option.some.inj h1)

theorem rawordw_any (a : AtomM.At) (w : World) (hn : NumM.inR a.n) (hs : a.nm.length ≤ 100000) :
    Calls Tryd.prog 24 #[atw a] w fun e w' => e = .returned (.string ⟨(AtomM.wordA a).toArray⟩) ∧ Below w.heap.size w w' := raword_any _ _ _ w hn (by rw [size_l]; exact hs)

theorem nm_len {a : AtomM.At} {t n : Int} {X : ByteArray} {i j : Nat} (h : a = ⟨t, (X.extract i j).data.toList, n⟩) (hs : X.size ≤ 100000) : a.nm.length ≤ 100000 := by
  rw [h]
  show (X.extract i j).data.toList.length ≤ 100000
  rw [← Lib.size_eq]; simp; omega
theorem nm_len' {a : AtomM.At} {t n : Int} {X : ByteArray} (h : a = ⟨t, X.data.toList, n⟩) (hs : X.size ≤ 100000) : a.nm.length ≤ 100000 := by
  rw [h]
  show X.data.toList.length ≤ 100000
  rw [← Lib.size_eq]; exact hs

set_option maxHeartbeats 2000000 in
set_option maxRecDepth 100000 in
theorem ratom_any (s : ByteArray) (w : World) (hs : s.size ≤ 100000) :
    Calls Tryd.prog 15 #[.string s] w fun e w' => e = .returned (.tuple #[atw (AtomM.ratom s.data.toList).1, .bool (AtomM.ratom s.data.toList).2]) ∧ Below w.heap.size w w' := by
  obtain ⟨res, hres⟩ : ∃ res, AtomM.ratom s.data.toList = res := ⟨_, rfl⟩
  rw [hres]
  have HRes := Lib.hid hres
  clear hres
  go_enter Tryd.func15, Tryd.ntmps15
  go_wp2
  go_loop [4] (fun i => AtRel s i) (fun i => s.size - (intOf i).toNat)
  case atStart => exact ⟨0, Nat.zero_le _, rfl, fun j _ h => absurd h (Nat.not_lt_zero j)⟩
  case round =>
    obtain ⟨k, hk, rfl, hall⟩ := hrel
    by_cases hlt : k < s.size
    · by_cases hc : s[k] = 61
      · have q : ((s[k].toNat : Int) != 61) = false := by rw [hc]; rfl
        obtain ⟨hm, hX, hY⟩ := eq_hit hlt hc hall
        have HA := Lib.hid (HRes.out.symm.trans (ratom_hit hm))
        have zx : (s.extract 0 k).size ≤ 100000 := by simp; omega
        have zy : (s.extract (k + 1) s.size).size ≤ 100000 := by simp; omega
        clear hm hc hall HRes
        generalize hXe : s.extract 0 k = X at *
        generalize hYe : s.extract (k + 1) s.size = Y at *
        have G := fun W => rget_any Y W (by unfold maxLen; omega)
        have hYd : Y.data.toList = AtomM.after 61 s.data.toList := by rw [hY]
        rw [hYd] at G
        have G' := Lib.hid G
        clear G hYd hY
        have hge := AtomM.rguess_range s.data.toList
        by_cases h2 : 2 < X.size
        · by_cases h1 : X[1] = 58
          · have q1 : ((X[1].toNat : Int) == 58) = true := by rw [h1]; rfl
            have hb0 := (X[0]).toNat_lt
            have HG := Lib.hid (rguess_yes hX h2 h1)
            clear h1 hX
            have HN := Lib.hid (nm_len HG.out zx)
            generalize AtomM.rguess s.data.toList = a at *
            have HS := fun W => rawordw_any a W hge HN.out
            generalize AtomM.wordA a = ws at *
            unfold atw at HS
            rw [HG.out] at HS
            unfold atv at HS
            generalize NumM.get (AtomM.after 61 s.data.toList) = g at *
            obtain ⟨n1, i1⟩ := g
            have HS' := Lib.hid HS
            clear HS hge
            cases i1
            · go_wp2_with fail
              refine (G'.out _).mono ?_
              rintro e w1 ⟨rfl, hB⟩
              obtain ⟨c0, f0⟩ := kept_box hB 0 rfl
              obtain ⟨c1, f1⟩ := kept_box hB 1 rfl
              obtain ⟨c2, f2⟩ := kept_box hB 2 rfl
              have hz := box_lt hB
              go_wp2
              exact bodyPost_ret (v := .tuple #[atw AtomM.zero, .bool false]) (by simp [results, Tryd.results15, go_sem, atw, atv, AtomM.zero, c0, c1, c2, hz]) rfl ⟨by rw [HA.out]; first | rfl | (rw [HG.out]; rfl), (fun h => Below.alloc h h.size _) ((((box_below hB).setCell (Nat.le_refl _) _).setCell (Nat.le_refl _) _).setCell (Nat.le_refl _) _)⟩
            · by_cases hq : ws = s.data.toList
              · have hq2 : (ws == s.toList) = true := by rw [Lib.toList_data, beq_dec]; exact decide_eq_true hq
                rw [decide_eq_true hq] at HA
                clear hq
                go_wp2_with fail
                refine (G'.out _).mono ?_
                rintro e w1 ⟨rfl, hB⟩
                go_wp2_with fail
                refine (HS'.out _).mono ?_
                rintro e w2 ⟨rfl, hB2⟩
                have B02 := chain hB (box_below hB2)
                obtain ⟨c0, f0⟩ := kept_box B02 0 rfl
                obtain ⟨c1, f1⟩ := kept_box B02 1 rfl
                obtain ⟨c2, f2⟩ := kept_box B02 2 rfl
                obtain ⟨b0, g0⟩ := kept_box hB2 0 rfl
                obtain ⟨b1, g1⟩ := kept_box hB2 1 rfl
                obtain ⟨b2, g2⟩ := kept_box hB2 2 rfl
                have hz := box_lt B02
                go_wp2
                exact bodyPost_ret (v := .tuple #[atv ((X[0].toNat : Int) - 48) (X.extract 2 X.size) n1, .bool true]) (by simp [results, Tryd.results15, go_sem, atw, atv, AtomM.zero, c0, c1, c2, hz]) rfl ⟨by rw [HA.out]; first | rfl | (rw [HG.out]; rfl), (((box_below B02).setCell (Nat.le_refl _) _).setCell (Nat.le_refl _) _).setCell (Nat.le_refl _) _⟩
              · have hq2 : (ws == s.toList) = false := by rw [Lib.toList_data, beq_dec]; exact decide_eq_false hq
                rw [decide_eq_false hq] at HA
                clear hq
                go_wp2_with fail
                refine (G'.out _).mono ?_
                rintro e w1 ⟨rfl, hB⟩
                go_wp2_with fail
                refine (HS'.out _).mono ?_
                rintro e w2 ⟨rfl, hB2⟩
                have B02 := chain hB (box_below hB2)
                obtain ⟨c0, f0⟩ := kept_box B02 0 rfl
                obtain ⟨c1, f1⟩ := kept_box B02 1 rfl
                obtain ⟨c2, f2⟩ := kept_box B02 2 rfl
                obtain ⟨b0, g0⟩ := kept_box hB2 0 rfl
                obtain ⟨b1, g1⟩ := kept_box hB2 1 rfl
                obtain ⟨b2, g2⟩ := kept_box hB2 2 rfl
                have hz := box_lt B02
                go_wp2
                exact bodyPost_ret (v := .tuple #[atw AtomM.zero, .bool false]) (by simp [results, Tryd.results15, go_sem, atw, atv, AtomM.zero, c0, c1, c2, hz]) rfl ⟨by rw [HA.out]; first | rfl | (rw [HG.out]; rfl), (((box_below B02).setCell (Nat.le_refl _) _).setCell (Nat.le_refl _) _).setCell (Nat.le_refl _) _⟩
          · have q1 : ((X[1].toNat : Int) == 58) = false := by
              rw [beq_eq_false_iff_ne]; intro e; apply h1; apply UInt8.toNat_inj.1
              have : (58 : UInt8).toNat = 58 := rfl
              omega
            have HG := Lib.hid (rguess_no hX (fun _ => h1))
            clear h1 hX
            have HN := Lib.hid (nm_len' HG.out zx)
            generalize AtomM.rguess s.data.toList = a at *
            have HS := fun W => rawordw_any a W hge HN.out
            generalize AtomM.wordA a = ws at *
            unfold atw at HS
            rw [HG.out] at HS
            unfold atv at HS
            generalize NumM.get (AtomM.after 61 s.data.toList) = g at *
            obtain ⟨n1, i1⟩ := g
            have HS' := Lib.hid HS
            clear HS hge
            cases i1
            · go_wp2_with fail
              refine (G'.out _).mono ?_
              rintro e w1 ⟨rfl, hB⟩
              obtain ⟨c0, f0⟩ := kept_box hB 0 rfl
              obtain ⟨c1, f1⟩ := kept_box hB 1 rfl
              obtain ⟨c2, f2⟩ := kept_box hB 2 rfl
              have hz := box_lt hB
              go_wp2
              exact bodyPost_ret (v := .tuple #[atw AtomM.zero, .bool false]) (by simp [results, Tryd.results15, go_sem, atw, atv, AtomM.zero, c0, c1, c2, hz]) rfl ⟨by rw [HA.out]; first | rfl | (rw [HG.out]; rfl), (fun h => Below.alloc h h.size _) ((((box_below hB).setCell (Nat.le_refl _) _).setCell (Nat.le_refl _) _).setCell (Nat.le_refl _) _)⟩
            · by_cases hq : ws = s.data.toList
              · have hq2 : (ws == s.toList) = true := by rw [Lib.toList_data, beq_dec]; exact decide_eq_true hq
                rw [decide_eq_true hq] at HA
                clear hq
                go_wp2_with fail
                refine (G'.out _).mono ?_
                rintro e w1 ⟨rfl, hB⟩
                go_wp2_with fail
                refine (HS'.out _).mono ?_
                rintro e w2 ⟨rfl, hB2⟩
                have B02 := chain hB (box_below hB2)
                obtain ⟨c0, f0⟩ := kept_box B02 0 rfl
                obtain ⟨c1, f1⟩ := kept_box B02 1 rfl
                obtain ⟨c2, f2⟩ := kept_box B02 2 rfl
                obtain ⟨b0, g0⟩ := kept_box hB2 0 rfl
                obtain ⟨b1, g1⟩ := kept_box hB2 1 rfl
                obtain ⟨b2, g2⟩ := kept_box hB2 2 rfl
                have hz := box_lt B02
                go_wp2
                exact bodyPost_ret (v := .tuple #[atv (-1) X n1, .bool true]) (by simp [results, Tryd.results15, go_sem, atw, atv, AtomM.zero, c0, c1, c2, hz]) rfl ⟨by rw [HA.out]; first | rfl | (rw [HG.out]; rfl), (((box_below B02).setCell (Nat.le_refl _) _).setCell (Nat.le_refl _) _).setCell (Nat.le_refl _) _⟩
              · have hq2 : (ws == s.toList) = false := by rw [Lib.toList_data, beq_dec]; exact decide_eq_false hq
                rw [decide_eq_false hq] at HA
                clear hq
                go_wp2_with fail
                refine (G'.out _).mono ?_
                rintro e w1 ⟨rfl, hB⟩
                go_wp2_with fail
                refine (HS'.out _).mono ?_
                rintro e w2 ⟨rfl, hB2⟩
                have B02 := chain hB (box_below hB2)
                obtain ⟨c0, f0⟩ := kept_box B02 0 rfl
                obtain ⟨c1, f1⟩ := kept_box B02 1 rfl
                obtain ⟨c2, f2⟩ := kept_box B02 2 rfl
                obtain ⟨b0, g0⟩ := kept_box hB2 0 rfl
                obtain ⟨b1, g1⟩ := kept_box hB2 1 rfl
                obtain ⟨b2, g2⟩ := kept_box hB2 2 rfl
                have hz := box_lt B02
                go_wp2
                exact bodyPost_ret (v := .tuple #[atw AtomM.zero, .bool false]) (by simp [results, Tryd.results15, go_sem, atw, atv, AtomM.zero, c0, c1, c2, hz]) rfl ⟨by rw [HA.out]; first | rfl | (rw [HG.out]; rfl), (((box_below B02).setCell (Nat.le_refl _) _).setCell (Nat.le_refl _) _).setCell (Nat.le_refl _) _⟩
        · have HG := Lib.hid (rguess_no hX (fun h => absurd h h2))
          clear hX
          have HN := Lib.hid (nm_len' HG.out zx)
          generalize AtomM.rguess s.data.toList = a at *
          have HS := fun W => rawordw_any a W hge HN.out
          generalize AtomM.wordA a = ws at *
          unfold atw at HS
          rw [HG.out] at HS
          unfold atv at HS
          generalize NumM.get (AtomM.after 61 s.data.toList) = g at *
          obtain ⟨n1, i1⟩ := g
          have HS' := Lib.hid HS
          clear HS hge
          cases i1
          · go_wp2_with fail
            refine (G'.out _).mono ?_
            rintro e w1 ⟨rfl, hB⟩
            obtain ⟨c0, f0⟩ := kept_box hB 0 rfl
            obtain ⟨c1, f1⟩ := kept_box hB 1 rfl
            obtain ⟨c2, f2⟩ := kept_box hB 2 rfl
            have hz := box_lt hB
            go_wp2
            exact bodyPost_ret (v := .tuple #[atw AtomM.zero, .bool false]) (by simp [results, Tryd.results15, go_sem, atw, atv, AtomM.zero, c0, c1, c2, hz]) rfl ⟨by rw [HA.out]; first | rfl | (rw [HG.out]; rfl), (fun h => Below.alloc h h.size _) ((((box_below hB).setCell (Nat.le_refl _) _).setCell (Nat.le_refl _) _).setCell (Nat.le_refl _) _)⟩
          · by_cases hq : ws = s.data.toList
            · have hq2 : (ws == s.toList) = true := by rw [Lib.toList_data, beq_dec]; exact decide_eq_true hq
              rw [decide_eq_true hq] at HA
              clear hq
              go_wp2_with fail
              refine (G'.out _).mono ?_
              rintro e w1 ⟨rfl, hB⟩
              go_wp2_with fail
              refine (HS'.out _).mono ?_
              rintro e w2 ⟨rfl, hB2⟩
              have B02 := chain hB (box_below hB2)
              obtain ⟨c0, f0⟩ := kept_box B02 0 rfl
              obtain ⟨c1, f1⟩ := kept_box B02 1 rfl
              obtain ⟨c2, f2⟩ := kept_box B02 2 rfl
              obtain ⟨b0, g0⟩ := kept_box hB2 0 rfl
              obtain ⟨b1, g1⟩ := kept_box hB2 1 rfl
              obtain ⟨b2, g2⟩ := kept_box hB2 2 rfl
              have hz := box_lt B02
              go_wp2
              exact bodyPost_ret (v := .tuple #[atv (-1) X n1, .bool true]) (by simp [results, Tryd.results15, go_sem, atw, atv, AtomM.zero, c0, c1, c2, hz]) rfl ⟨by rw [HA.out]; first | rfl | (rw [HG.out]; rfl), (((box_below B02).setCell (Nat.le_refl _) _).setCell (Nat.le_refl _) _).setCell (Nat.le_refl _) _⟩
            · have hq2 : (ws == s.toList) = false := by rw [Lib.toList_data, beq_dec]; exact decide_eq_false hq
              rw [decide_eq_false hq] at HA
              clear hq
              go_wp2_with fail
              refine (G'.out _).mono ?_
              rintro e w1 ⟨rfl, hB⟩
              go_wp2_with fail
              refine (HS'.out _).mono ?_
              rintro e w2 ⟨rfl, hB2⟩
              have B02 := chain hB (box_below hB2)
              obtain ⟨c0, f0⟩ := kept_box B02 0 rfl
              obtain ⟨c1, f1⟩ := kept_box B02 1 rfl
              obtain ⟨c2, f2⟩ := kept_box B02 2 rfl
              obtain ⟨b0, g0⟩ := kept_box hB2 0 rfl
              obtain ⟨b1, g1⟩ := kept_box hB2 1 rfl
              obtain ⟨b2, g2⟩ := kept_box hB2 2 rfl
              have hz := box_lt B02
              go_wp2
              exact bodyPost_ret (v := .tuple #[atw AtomM.zero, .bool false]) (by simp [results, Tryd.results15, go_sem, atw, atv, AtomM.zero, c0, c1, c2, hz]) rfl ⟨by rw [HA.out]; first | rfl | (rw [HG.out]; rfl), (((box_below B02).setCell (Nat.le_refl _) _).setCell (Nat.le_refl _) _).setCell (Nat.le_refl _) _⟩
      · have q : ((s[k].toNat : Int) != 61) = true := by
          rw [bne_iff_ne]; intro e; apply hc; apply UInt8.toNat_inj.1
          have : (61 : UInt8).toNat = 61 := rfl
          omega
        have HN := Lib.hid (noeq_next hlt hc hall)
        clear hc hall
        go_wp2
        go_round
        case rel => exact HN.out
        case measure => simp [intOf]; omega
    · obtain rfl : s.size = k := by omega
      have E := Lib.hid (HRes.out.symm.trans (ratom_miss (eq_miss hall)))
      clear hall
      go_wp2
      exact bodyPost_ret (v := .tuple #[atw AtomM.zero, .bool false]) (by simp [results, Tryd.results15, go_sem, atw, atv, AtomM.zero]) rfl ⟨by rw [E.out], (Below.refl _ _).alloc (Nat.le_refl _) _⟩
end Go.Proofs.YtlfngcekbffngaaDoor
