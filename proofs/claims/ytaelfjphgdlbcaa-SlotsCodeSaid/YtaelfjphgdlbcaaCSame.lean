/-
  The document's Same: are two programs alike?
-/
import Derived.Test.YtaelfjphgdlbcaaM02
import Derived.Test.YtaelfjphgdlbcaaM03
import Derived.Deep.QuietTactic
namespace Go.Proofs.Ytaelfjphgdlbcaa
open Go.RowKit
set_option linter.unusedVariables false
set_option linter.unusedSimpArgs false
open WordM (L)
open VM

/-- What Same hands back. -/
def RetSm (F G : Fl) (w : World) (e : Ending) (w' : World) : Prop := (∃ b, e = .returned (.bool b) ∧ (b = true ↔ F = G)) ∧ Below w.heap.size w w'
theorem RetSm.no {F G : Fl} {w w' : World} (hB : Below w.heap.size w w') (h : F ≠ G) : RetSm F G w (.returned (.bool false)) w' := ⟨⟨false, rfl, ⟨fun c => (by cases c), fun c => absurd c h⟩⟩, hB⟩
theorem RetSm.yes {F G : Fl} {w w' : World} (hB : Below w.heap.size w w') (h : F = G) : RetSm F G w (.returned (.bool true)) w' := ⟨⟨true, rfl, ⟨fun _ => h, fun _ => rfl⟩⟩, hB⟩
/-- The first k of two rows are alike. -/
def Up {α : Type} (a b : List α) (k : Nat) : Prop := ∀ j (h : j < a.length) (h' : j < b.length), j < k → a[j] = b[j]
theorem Up.next {α : Type} {a b : List α} {k : Nat} {x y : α} (h : Up a b k) (ha : k < a.length) (hb : k < b.length) (hx : x = a[k]) (hy : y = b[k]) (e : x = y) : Up a b (k + 1) := fun j h1 h2 h3 => by
  by_cases c : j = k
  · subst c; rw [← hx, ← hy, e]
  · exact h j h1 h2 (by omega)
theorem Up.all {α : Type} {a b : List α} (h : Up a b a.length) (hl : a.length = b.length) : a = b := List.ext_getElem hl (fun j h1 h2 => h j h1 h2 h1)
theorem Up.none {α : Type} (a b : List α) : Up a b 0 := fun j _ _ h => absurd h (Nat.not_lt_zero j)
theorem Up.not {α : Type} {a b : List α} {k : Nat} {x y : α} (ha : k < a.length) (hb : k < b.length) (hx : x = a[k]) (hy : y = b[k]) (e : x ≠ y) : a ≠ b := fun c => e (by subst c; rw [hx, hy])
def SmK (F G : Fl) (vi vt vc ui ut uc : Value) (w wr : World) : Prop :=
  Below w.heap.size w wr ∧ FlBox wr w.heap.size ⟨F.name.toArray⟩ vi vt vc F.all ∧ FlBox wr (w.heap.size + 1) ⟨G.name.toArray⟩ ui ut uc G.all
def S1Rel (F G : Fl) (vi vt vc ui ut uc : Value) (w : World) (i : Value) (wr : World) : Prop :=
  ∃ k : Nat, k ≤ F.init.length ∧ i = .int .i64 k ∧ Up F.init G.init k ∧ SmK F G vi vt vc ui ut uc w wr
def S2Rel (F G : Fl) (vi vt vc ui ut uc : Value) (w : World) (i : Value) (wr : World) : Prop :=
  ∃ k : Nat, k ≤ F.ths.length ∧ i = .int .i64 k ∧ Up F.ths G.ths k ∧ SmK F G vi vt vc ui ut uc w wr
def S3Rel (F G : Fl) (ls ms : List OpsM.Ln) (vi vt vc ui ut uc : Value) (w : World) (i : Value) (wr : World) : Prop :=
  ∃ k : Nat, k ≤ ls.length ∧ i = .int .i64 k ∧ Up ls ms k ∧ SmK F G vi vt vc ui ut uc w wr
def S4Rel (F G : Fl) (vi vt vc ui ut uc : Value) (w : World) (i : Value) (wr : World) : Prop :=
  ∃ k : Nat, k ≤ F.cond.length ∧ i = .int .i64 k ∧ Up F.cond G.cond k ∧ SmK F G vi vt vc ui ut uc w wr
set_option maxHeartbeats 8000000 in
set_option maxRecDepth 100000 in
theorem csame_any {B : Nat} {v u : Value} {F G : Fl} (w : World) (hv : FlV B w v F) (hu : FlV B w u G) (hBB : B ≤ w.heap.size) :
    Calls Try.prog 24 #[v, u] w (RetSm F G w) := by
  obtain ⟨vi, vt, vc, rfl, hm⟩ := hv
  obtain ⟨ui, ut, uc, rfl, hn⟩ := hu
  unfold flv
  obtain ⟨hmi, hmt, hmc⟩ := hm
  obtain ⟨hni, hnt, hnc⟩ := hn
  obtain ⟨A0, c0, rfl, hi1, hi2, hi3⟩ := hmi
  obtain ⟨A2, c2, rfl, hb1, hb2, hb3⟩ := hmt
  obtain ⟨A1, c1, rfl, ha1, ha2, ha3⟩ := hmc
  obtain ⟨D0, d0, rfl, gi1, gi2, gi3⟩ := hni
  obtain ⟨D2, d2, rfl, gb1, gb2, gb3⟩ := hnt
  obtain ⟨D1, d1, rfl, ga1, ga2, ga3⟩ := hnc
  have hB0 := below_al (below_al (Below.refl w.heap.size w) (.cells #[.string ⟨F.name.toArray⟩, .slice A0 F.init.length c0, .slice A2 F.ths.length c2, .bool F.all, .slice A1 F.cond.length c1] 30)) (.cells #[.string ⟨G.name.toArray⟩, .slice D0 G.init.length d0, .slice D2 G.ths.length d2, .bool G.all, .slice D1 G.cond.length d1] 30)
  have hb1' : Below (w.alloc (.cells #[.string ⟨F.name.toArray⟩, .slice A0 F.init.length c0, .slice A2 F.ths.length c2, .bool F.all, .slice A1 F.cond.length c1] 30)).heap.size (w.alloc (.cells #[.string ⟨F.name.toArray⟩, .slice A0 F.init.length c0, .slice A2 F.ths.length c2, .bool F.all, .slice A1 F.cond.length c1] 30)) ((w.alloc (.cells #[.string ⟨F.name.toArray⟩, .slice A0 F.init.length c0, .slice A2 F.ths.length c2, .bool F.all, .slice A1 F.cond.length c1] 30)).alloc (.cells #[.string ⟨G.name.toArray⟩, .slice D0 G.init.length d0, .slice D2 G.ths.length d2, .bool G.all, .slice D1 G.cond.length d1] 30)) := below_al (Below.refl _ _) _
  have hbx := (FlBox.at (w := w) rfl ⟨F.name.toArray⟩ (.slice A0 F.init.length c0) (.slice A2 F.ths.length c2) (.slice A1 F.cond.length c1) F.all 30).below hb1'
  have hsz : (w.alloc (.cells #[.string ⟨F.name.toArray⟩, .slice A0 F.init.length c0, .slice A2 F.ths.length c2, .bool F.all, .slice A1 F.cond.length c1] 30)).heap.size = w.heap.size + 1 := by simp
  have hby := FlBox.at (w := w.alloc (.cells #[.string ⟨F.name.toArray⟩, .slice A0 F.init.length c0, .slice A2 F.ths.length c2, .bool F.all, .slice A1 F.cond.length c1] 30)) hsz.symm ⟨G.name.toArray⟩ (.slice D0 G.init.length d0) (.slice D2 G.ths.length d2) (.slice D1 G.cond.length d1) G.all 30
  unfold maxLen at hb2 ha2 hi2 gb2 ga2 gi2
  have HBX := Lib.hid hbx
  have HBY := Lib.hid hby
  obtain ⟨t0, t1, t2, t3, t4⟩ := hbx
  obtain ⟨s0, s1, s2, s3, s4⟩ := hby
  clear hb1' hsz
  go_enter Try.func24, Try.ntmps24
  by_cases e1 : F.name = G.name
  case neg =>
    have q : (F.name == G.name) = false := beq_eq_false_iff_ne.2 e1
    have E := Lib.hid e1
    clear e1
    go_wp2
    go_ret
    exact RetSm.no hB0 (fun c => E.out (by rw [c]))
  have E1 := Lib.hid e1
  have q1 : (F.name == G.name) = true := beq_iff_eq.2 e1
  clear e1
  by_cases e2 : F.all = G.all
  case neg =>
    have q : (F.all == G.all) = false := beq_eq_false_iff_ne.2 e2
    have E := Lib.hid e2
    clear e2
    go_wp2
    go_ret
    exact RetSm.no hB0 (fun c => E.out (by rw [c]))
  have E2 := Lib.hid e2
  have q2 : (F.all == G.all) = true := beq_iff_eq.2 e2
  clear e2
  by_cases e3 : F.init.length = G.init.length
  case neg =>
    have q : ((F.init.length : Int) != (G.init.length : Int)) = true := bne_iff_ne.2 (by omega)
    have E := Lib.hid e3
    clear e3
    go_wp2
    go_ret
    exact RetSm.no hB0 (fun c => E.out (by rw [c]))
  have E3 := Lib.hid e3
  have q3 : ((F.init.length : Int) != (G.init.length : Int)) = false := by rw [show (F.init.length : Int) = (G.init.length : Int) by omega]; exact bne_self_eq_false _
  clear e3
  by_cases e4 : F.ths.length = G.ths.length
  case neg =>
    have q : ((F.ths.length : Int) != (G.ths.length : Int)) = true := bne_iff_ne.2 (by omega)
    have E := Lib.hid e4
    clear e4
    go_wp2
    go_ret
    exact RetSm.no hB0 (fun c => E.out (by rw [c]))
  have E4 := Lib.hid e4
  have q4 : ((F.ths.length : Int) != (G.ths.length : Int)) = false := by rw [show (F.ths.length : Int) = (G.ths.length : Int) by omega]; exact bne_self_eq_false _
  clear e4
  by_cases e5 : F.cond.length = G.cond.length
  case neg =>
    have q : ((F.cond.length : Int) != (G.cond.length : Int)) = true := bne_iff_ne.2 (by omega)
    have E := Lib.hid e5
    clear e5
    go_wp2
    go_ret
    exact RetSm.no hB0 (fun c => E.out (by rw [c]))
  have E5 := Lib.hid e5
  have q5 : ((F.cond.length : Int) != (G.cond.length : Int)) = false := by rw [show (F.cond.length : Int) = (G.cond.length : Int) by omega]; exact bne_self_eq_false _
  clear e5
  go_wp2
  go_loopw [5] (fun i wr => S1Rel F G (.slice A0 F.init.length c0) (.slice A2 F.ths.length c2) (.slice A1 F.cond.length c1) (.slice D0 G.init.length d0) (.slice D2 G.ths.length d2) (.slice D1 G.cond.length d1) w i wr) (fun i _ => F.init.length - (intOf i).toNat)
  case atStart => exact ⟨0, Nat.zero_le _, rfl, Up.none _ _, hB0, HBX.out, HBY.out⟩
  case round =>
    clear t0 t1 t2 t3 t4 s0 s1 s2 s3 s4 hB0 HBX HBY q1 q2 q3 q4 q5
    obtain ⟨k, hk, rfl, hall, hB, hbx, hby⟩ := hrel
    have HBX := Lib.hid hbx
    have HBY := Lib.hid hby
    obtain ⟨t0, t1, t2, t3, t4⟩ := hbx
    obtain ⟨s0, s1, s2, s3, s4⟩ := hby
    have HA1 := Lib.hid hall
    clear hall
    by_cases hlt : k < F.init.length
    · have hlt' : k < G.init.length := by have := E3.out; omega
      obtain ⟨b1, f1, rfl, hb1, hcl⟩ := hi3 (by omega)
      obtain ⟨b2, f2, rfl, hb2, hcl2⟩ := gi3 (by omega)
      obtain ⟨y0, y1⟩ := (hcl k hlt).below (hB.mono hBB) hb1
      obtain ⟨z0, z1⟩ := (hcl2 k hlt').below (hB.mono hBB) hb2
      obtain ⟨x, hx⟩ : ∃ x, x = F.init[k] := ⟨_, rfl⟩
      obtain ⟨y, hy⟩ : ∃ x, x = G.init[k] := ⟨_, rfl⟩
      rw [← hx] at y0 y1
      rw [← hy] at z0 z1
      have HX := Lib.hid hx
      have HY := Lib.hid hy
      clear hx hy hcl hi3 hcl2 gi3
      by_cases he : x = y
      · have HE := Lib.hid he
        subst he
        go_wp2
        go_quiet (fail)
        go_wp2
        go_roundw
        case rel => exact ⟨k + 1, by omega, by go_num, HA1.out.next hlt hlt' HX.out HY.out rfl, below_drewN hB _, HBX.out, HBY.out⟩
        case measure => simp [intOf]; omega
      · have HN := Lib.hid (fun c : F = G => Up.not hlt hlt' HX.out HY.out he (by rw [c]))
        have hd : ¬ x.1 = y.1 ∨ (x.1 = y.1 ∧ ¬ x.2 = y.2) := by
          by_cases c1 : x.1 = y.1
          · exact Or.inr ⟨c1, fun c2 => he (Prod.ext c1 c2)⟩
          · exact Or.inl c1
        clear he
        rcases hd with c1 | ⟨c1, c2⟩
        · go_wp2
          go_quiet (fail)
          go_wp2
          go_ret
          exact RetSm.no (below_drewN hB _) HN.out
        · go_wp2
          go_quiet (fail)
          go_wp2
          go_ret
          exact RetSm.no (below_drewN hB _) HN.out
    · obtain rfl : F.init.length = k := by omega
      clear hi3 gi3
      go_wp2
      go_loopw [6] (fun i wr => S2Rel F G (.slice A0 F.init.length c0) (.slice A2 F.ths.length c2) (.slice A1 F.cond.length c1) (.slice D0 G.init.length d0) (.slice D2 G.ths.length d2) (.slice D1 G.cond.length d1) w i wr) (fun i _ => F.ths.length - (intOf i).toNat)
      case atStart => exact ⟨0, Nat.zero_le _, rfl, Up.none _ _, hB, HBX.out, HBY.out⟩
      case round =>
        clear t0 t1 t2 t3 t4 s0 s1 s2 s3 s4 hB HBX HBY
        obtain ⟨k, hk, rfl, hall, hB, hbx, hby⟩ := hrel
        have HBX := Lib.hid hbx
        have HBY := Lib.hid hby
        obtain ⟨t0, t1, t2, t3, t4⟩ := hbx
        obtain ⟨s0, s1, s2, s3, s4⟩ := hby
        have HA2 := Lib.hid hall
        clear hall
        by_cases hlt : k < F.ths.length
        · have hlt' : k < G.ths.length := by have := E4.out; omega
          obtain ⟨b1, f1, rfl, hb1, hcl⟩ := hb3 (by omega)
          obtain ⟨b2, f2, rfl, hb2, hcl2⟩ := gb3 (by omega)
          obtain ⟨vl, d0w, hLn⟩ := hcl k hlt
          obtain ⟨ul, d1w, hLm⟩ := hcl2 k hlt'
          obtain ⟨ls, hx⟩ : ∃ x, x = F.ths[k] := ⟨_, rfl⟩
          obtain ⟨ms, hy⟩ : ∃ x, x = G.ths[k] := ⟨_, rfl⟩
          rw [← hx] at hLn
          rw [← hy] at hLm
          have HX := Lib.hid hx
          have HY := Lib.hid hy
          obtain ⟨A3, c3, rfl, he1, he2, he3⟩ := hLn
          obtain ⟨A4, c4, rfl, ge1, ge2, ge3⟩ := hLm
          unfold maxLen at he2 ge2
          have D0' := Lib.hid d0w
          have D1' := Lib.hid d1w
          have y0 := ((hB.mono hBB).cell (p := ⟨b1, f1 + k, none⟩) hb1).trans d0w
          have z0 := ((hB.mono hBB).cell (p := ⟨b2, f2 + k, none⟩) hb2).trans d1w
          clear hx hy hcl hcl2 hb3 gb3 d0w d1w
          by_cases hl : ls.length = ms.length
          case neg =>
            have q : ((ls.length : Int) != (ms.length : Int)) = true := bne_iff_ne.2 (by omega)
            have HN := Lib.hid (fun c : F = G => Up.not hlt hlt' HX.out HY.out (fun e => hl (by rw [e])) (by rw [c]))
            clear hl
            go_wp2
            go_quiet (fail)
            go_wp2
            go_ret
            exact RetSm.no (below_drewN hB _) HN.out
          have q : ((ls.length : Int) != (ms.length : Int)) = false := by rw [show (ls.length : Int) = (ms.length : Int) by omega]; exact bne_self_eq_false _
          have HL := Lib.hid hl
          clear hl
          go_wp2
          go_quiet (fail)
          go_wp2
          go_loopw [7] (fun i wr => S3Rel F G ls ms (.slice A0 F.init.length c0) (.slice (some ⟨b1, f1, none⟩) F.ths.length c2) (.slice A1 F.cond.length c1) (.slice D0 G.init.length d0) (.slice (some ⟨b2, f2, none⟩) G.ths.length d2) (.slice D1 G.cond.length d1) w i wr) (fun i _ => ls.length - (intOf i).toNat)
          case atStart => exact ⟨0, Nat.zero_le _, rfl, Up.none _ _, below_drewN hB _, HBX.out, HBY.out⟩
          case round =>
            clear y0 z0 q
            clear t0 t1 t2 t3 t4 s0 s1 s2 s3 s4 hB HBX HBY
            obtain ⟨m, hm, rfl, hall, hB, hbx, hby⟩ := hrel
            have HBX := Lib.hid hbx
            have HBY := Lib.hid hby
            obtain ⟨t0, t1, t2, t3, t4⟩ := hbx
            obtain ⟨s0, s1, s2, s3, s4⟩ := hby
            have HA3 := Lib.hid hall
            clear hall
            have y0 := ((hB.mono hBB).cell (p := ⟨b1, f1 + k, none⟩) hb1).trans D0'.out
            have z0 := ((hB.mono hBB).cell (p := ⟨b2, f2 + k, none⟩) hb2).trans D1'.out
            by_cases hlm : m < ls.length
            · have hlm' : m < ms.length := by have := HL.out; omega
              obtain ⟨b3, f3, rfl, hb3, hc3⟩ := he3 (by omega)
              obtain ⟨b4, f4, rfl, hb4, hc4⟩ := ge3 (by omega)
              obtain ⟨l0, l1, l2, l3, l4⟩ := (hc3 m hlm).below (hB.mono hBB) hb3
              obtain ⟨m0, m1, m2, m3, m4⟩ := (hc4 m hlm').below (hB.mono hBB) hb4
              obtain ⟨x, hx⟩ : ∃ x, x = ls[m] := ⟨_, rfl⟩
              obtain ⟨y, hy⟩ : ∃ x, x = ms[m] := ⟨_, rfl⟩
              rw [← hx] at l0 l1 l2 l3 l4
              rw [← hy] at m0 m1 m2 m3 m4
              have HX2 := Lib.hid hx
              have HY2 := Lib.hid hy
              clear hx hy hc3 hc4 he3 ge3
              by_cases he : x = y
              · have HE := Lib.hid he
                subst he
                go_wp2
                go_quiet (fail)
                go_wp2
                go_roundw
                case rel => exact ⟨m + 1, by omega, by go_num, HA3.out.next hlm hlm' HX2.out HY2.out rfl, below_drewN hB _, HBX.out, HBY.out⟩
                case measure => simp [intOf]; omega
              · have HN := Lib.hid (fun c : F = G => Up.not hlt hlt' HX.out HY.out (fun e => Up.not hlm hlm' HX2.out HY2.out he e) (by rw [c]))
                have hd : ¬ x.op = y.op ∨ (x.op = y.op ∧ ¬ x.reg = y.reg) ∨ (x.op = y.op ∧ x.reg = y.reg ∧ ¬ x.loc = y.loc) ∨ (x.op = y.op ∧ x.reg = y.reg ∧ x.loc = y.loc ∧ ¬ x.label = y.label) ∨ (x.op = y.op ∧ x.reg = y.reg ∧ x.loc = y.loc ∧ x.label = y.label ∧ ¬ x.n = y.n) := by
                  by_cases c1 : x.op = y.op
                  · by_cases c2 : x.reg = y.reg
                    · by_cases c3 : x.loc = y.loc
                      · by_cases c4 : x.label = y.label
                        · by_cases c5 : x.n = y.n
                          · exact absurd (OpsM.Ln.same c1 c2 c3 c4 c5) he
                          · exact Or.inr (Or.inr (Or.inr (Or.inr ⟨c1, c2, c3, c4, c5⟩)))
                        · exact Or.inr (Or.inr (Or.inr (Or.inl ⟨c1, c2, c3, c4⟩)))
                      · exact Or.inr (Or.inr (Or.inl ⟨c1, c2, c3⟩))
                    · exact Or.inr (Or.inl ⟨c1, c2⟩)
                  · exact Or.inl c1
                clear he
                rcases hd with c1 | ⟨c1, c2⟩ | ⟨c1, c2, c3⟩ | ⟨c1, c2, c3, c4⟩ | ⟨c1, c2, c3, c4, c5⟩
                · go_wp2
                  go_quiet (fail)
                  go_wp2
                  go_ret
                  exact RetSm.no (below_drewN hB _) HN.out
                · go_wp2
                  go_quiet (fail)
                  go_wp2
                  go_ret
                  exact RetSm.no (below_drewN hB _) HN.out
                · go_wp2
                  go_quiet (fail)
                  go_wp2
                  go_ret
                  exact RetSm.no (below_drewN hB _) HN.out
                · go_wp2
                  go_quiet (fail)
                  go_wp2
                  go_ret
                  exact RetSm.no (below_drewN hB _) HN.out
                · go_wp2
                  go_quiet (fail)
                  go_wp2
                  go_ret
                  exact RetSm.no (below_drewN hB _) HN.out
            · obtain rfl : ls.length = m := by omega
              clear he3 ge3
              go_wp2
              go_roundw
              case rel => exact ⟨k + 1, by omega, by go_num, HA2.out.next hlt hlt' HX.out HY.out (HA3.out.all HL.out), hB, HBX.out, HBY.out⟩
              case measure => simp [intOf]; omega
        · obtain rfl : F.ths.length = k := by omega
          clear hb3 gb3
          go_wp2
          go_loopw [8] (fun i wr => S4Rel F G (.slice A0 F.init.length c0) (.slice A2 F.ths.length c2) (.slice A1 F.cond.length c1) (.slice D0 G.init.length d0) (.slice D2 G.ths.length d2) (.slice D1 G.cond.length d1) w i wr) (fun i _ => F.cond.length - (intOf i).toNat)
          case atStart => exact ⟨0, Nat.zero_le _, rfl, Up.none _ _, hB, HBX.out, HBY.out⟩
          case round =>
            clear t0 t1 t2 t3 t4 s0 s1 s2 s3 s4 hB HBX HBY
            obtain ⟨k, hk, rfl, hall, hB, hbx, hby⟩ := hrel
            have HBX := Lib.hid hbx
            have HBY := Lib.hid hby
            obtain ⟨t0, t1, t2, t3, t4⟩ := hbx
            obtain ⟨s0, s1, s2, s3, s4⟩ := hby
            have HA4 := Lib.hid hall
            clear hall
            by_cases hlt : k < F.cond.length
            · have hlt' : k < G.cond.length := by have := E5.out; omega
              obtain ⟨b1, f1, rfl, hb1, hcl⟩ := ha3 (by omega)
              obtain ⟨b2, f2, rfl, hb2, hcl2⟩ := ga3 (by omega)
              obtain ⟨y0, y1, y2⟩ := (hcl k hlt).below (hB.mono hBB) hb1
              obtain ⟨z0, z1, z2⟩ := (hcl2 k hlt').below (hB.mono hBB) hb2
              obtain ⟨x, hx⟩ : ∃ x, x = F.cond[k] := ⟨_, rfl⟩
              obtain ⟨y, hy⟩ : ∃ x, x = G.cond[k] := ⟨_, rfl⟩
              rw [← hx] at y0 y1 y2
              rw [← hy] at z0 z1 z2
              have HX := Lib.hid hx
              have HY := Lib.hid hy
              clear hx hy hcl ha3 hcl2 ga3
              by_cases he : x = y
              · have HE := Lib.hid he
                subst he
                go_wp2
                go_quiet (fail)
                go_wp2
                go_roundw
                case rel => exact ⟨k + 1, by omega, by go_num, HA4.out.next hlt hlt' HX.out HY.out rfl, below_drewN hB _, HBX.out, HBY.out⟩
                case measure => simp [intOf]; omega
              · have HN := Lib.hid (fun c : F = G => Up.not hlt hlt' HX.out HY.out he (by rw [c]))
                have hd : ¬ x.t = y.t ∨ (x.t = y.t ∧ ¬ x.nm = y.nm) ∨ (x.t = y.t ∧ x.nm = y.nm ∧ ¬ x.n = y.n) := by
                  by_cases c1 : x.t = y.t
                  · by_cases c2 : x.nm = y.nm
                    · by_cases c3 : x.n = y.n
                      · exact absurd (AtomM.At.same c1 c2 c3) he
                      · exact Or.inr (Or.inr ⟨c1, c2, c3⟩)
                    · exact Or.inr (Or.inl ⟨c1, c2⟩)
                  · exact Or.inl c1
                clear he
                rcases hd with c1 | ⟨c1, c2⟩ | ⟨c1, c2, c3⟩
                · go_wp2
                  go_quiet (fail)
                  go_wp2
                  go_ret
                  exact RetSm.no (below_drewN hB _) HN.out
                · go_wp2
                  go_quiet (fail)
                  go_wp2
                  go_ret
                  exact RetSm.no (below_drewN hB _) HN.out
                · go_wp2
                  go_quiet (fail)
                  go_wp2
                  go_ret
                  exact RetSm.no (below_drewN hB _) HN.out
            · obtain rfl : F.cond.length = k := by omega
              clear ha3 ga3
              have HF := Lib.hid (show F = G by
                have a1 := E1.out; have a2 := E2.out; have a3 := HA1.out.all E3.out; have a4 := HA2.out.all E4.out; have a5 := HA4.out.all E5.out
                cases F; cases G; simp_all)
              go_wp2
              go_ret
              exact RetSm.yes hB HF.out
end Go.Proofs.Ytaelfjphgdlbcaa
