/-
  THE DOCUMENT's Picks of layer 11.
-/
import Derived.Test.YtbgjamoflbdhoaaTsE
import Derived.Test.YtbgjamoflbdhoaaTsI
import Derived.Deep.RegionHeld3
import Derived.Deep.DeepCutAuto
namespace Go.Proofs.Ytbgjamoflbdhoaa
open Go.RowKit Go.Shelf
set_option linter.unusedVariables false
set_option linter.unusedSimpArgs false
open CodM (St Pg rightP)
open BfM (Wr plc)
open ScM

theorem rtstep_any {B : Nat} {v u : Value} {P : Pg} {s : Sta} (t : Int) (d : Bool) (w : World) (hv : PgV B w v P) (hu : StaV B w u s) (hBB : B ≤ w.heap.size) (hp : rightP P = true) (ho : OkSt P s) (hw : WideS s) :
    Calls Try.prog 41 #[v, u, .agg #[.int .i64 t, .bool d]] w (TpRet P s t d w) := by
  cases d
  · exact rtstepN_any t w hv hu hBB hp ho hw
  · exact rtstepD_any t w hv hu hBB hw
set_option maxHeartbeats 8000000 in
set_option maxRecDepth 100000 in
theorem rpicks_any {B : Nat} {v u : Value} {P : Pg} {s : Sta} (w : World) (hv : PgV B w v P) (hu : StaV B w u s) (hBB : B ≤ w.heap.size) (hp : rightP P = true) (ho : OkSt P s) (hw : WideS s) :
    Calls Try.prog 26 #[v, u] w fun e w' => ∃ x, e = .returned x ∧ OwnK w.heap.size w' x (pks P s) ∧ Below w.heap.size w w' := by
  have HS := Lib.hid (fun (k : Nat) (d : Bool) W (hW : Below w.heap.size w W) => rtstep_any (k : Int) d W ((hv.below (hW.mono hBB)).more (Nat.le_trans hBB hW.size)) ((hu.below (hW.mono hBB)).more (Nat.le_trans hBB hW.size)) (Nat.le_refl _) hp ho hw)
  have ht9 := hw.ths
  clear hp ho hw
  obtain ⟨pi, pt, rfl, hpm⟩ := hv
  obtain ⟨um, ut, rfl, hum⟩ := hu
  obtain ⟨⟨P0, d0, rfl, -⟩, ⟨P1, d1, rfl, -⟩⟩ := hpm
  obtain ⟨⟨A7, c7, rfl, -⟩, ⟨A1, c1, rfl, -⟩⟩ := hum
  obtain ⟨i0, hi, hz0, hz1, hz2⟩ := info_parts info_pk
  obtain ⟨W2, hW2⟩ : ∃ W, W = (w.alloc (.cells #[.slice P0 P.init.length d0, .slice P1 P.ths.length d1] 25)).alloc (.cells #[.slice A7 s.mem.length c7, .slice A1 s.ths.length c1] 31) := ⟨_, rfl⟩
  obtain ⟨gp, hgp⟩ : ∃ g, g = w.heap.size := ⟨_, rfl⟩
  obtain ⟨gs, hgs⟩ : ∃ g, g = w.heap.size + 1 := ⟨_, rfl⟩
  have HX := Lib.hid (show BoxC W2 gp 25 #[.slice P0 P.init.length d0, .slice P1 P.ths.length d1] from by rw [hW2, hgp]; exact (BoxC.new w _ _).alloc _)
  have HY := Lib.hid (show BoxC W2 gs 31 #[.slice A7 s.mem.length c7, .slice A1 s.ths.length c1] from by rw [hW2, hgs]; have := BoxC.new (w.alloc (.cells #[.slice P0 P.init.length d0, .slice P1 P.ths.length d1] 25)) 31 #[.slice A7 s.mem.length c7, .slice A1 s.ths.length c1]; rw [World.size_alloc] at this; exact this)
  have HB2 := Lib.hid (show Below w.heap.size w W2 from by rw [hW2]; exact below_al (below_al (Below.refl _ _) _) _)
  go_enter Try.func26, Try.ntmps26
  go_upto_region 1 with fail
  rw [← hW2]
  (try rw [← hgs])
  (try rw [← hgp])
  clear hW2 hgs hgp
  go_wp2
  go_loopw [5, 6] (fun l i wr => ∃ k : Nat, k ≤ s.ths.length ∧ i = .int .i64 k ∧ wr.ownsRow W2.heap.size 47 2 l (pkN P s k).length ((pkN P s k).flatMap pkC) ∧ Below W2.heap.size W2 wr) (fun _ i _ => s.ths.length - (intOf i).toNat)
  case atStart => exact ⟨0, Nat.zero_le _, rfl, World.ownsRow_nil _ _ _ _, Below.refl _ _⟩
  case round =>
    obtain ⟨k, hk, rfl, hrow, hbw⟩ := hrel
    obtain ⟨Al, cl, rfl⟩ := own_slice hrow
    have HR := Lib.hid hrow
    have HL := Lib.hid hbw
    clear hrow hbw
    have x0 := (HX.out.below HL.out HX.out.lt).cell 0 _ rfl
    have x1 := (HX.out.below HL.out HX.out.lt).cell 1 _ rfl
    have y0 := (HY.out.below HL.out HY.out.lt).cell 0 _ rfl
    have y1 := (HY.out.below HL.out HY.out.lt).cell 1 _ rfl
    by_cases hlt : k < s.ths.length
    · have HLE := Lib.hid (pkN_len P s k)
      have HNX := Lib.hid (pkN_next P s k)
      go_wp2_with fail
      refine (HS.out k false _ (chain HB2.out HL.out)).mono ?_
      rintro e V1 ⟨vm, vt, ps1, rfl, hos, hb⟩
      obtain ⟨Am, cm, rfl⟩ := own_slice hos.mem
      obtain ⟨Av, cv, rfl⟩ := own_slice hos.ths
      obtain ⟨m1, hm1⟩ : ∃ n, n = ((tst P s (k : Int) false).getD s).mem.length := ⟨_, rfl⟩
      obtain ⟨m2, hm2⟩ : ∃ n, n = ((tst P s (k : Int) false).getD s).ths.length := ⟨_, rfl⟩
      rw [← hm1, ← hm2]
      have HL1 := Lib.hid (chain HL.out hb)
      have HR1 := Lib.hid (own_below HR.out hb)
      clear hos hb x0 x1 y0 y1 hm1 hm2
      go_upto_region 6 with fail
      obtain ⟨X1, hX⟩ : ∃ W, W = V1.alloc (.cells #[.slice Am m1 cm, .slice Av m2 cv] 31) := ⟨_, rfl⟩
      have HST := Lib.hid (show Below V1.heap.size V1 X1 from by rw [hX]; exact below_al (Below.refl _ _) _)
      rw [← hX]
      clear hX
      replace HL1 := Lib.hid (chain HL1.out HST.out)
      replace HR1 := Lib.hid (own_below HR1.out HST.out)
      clear HST
      have x0 := (HX.out.below HL1.out HX.out.lt).cell 0 _ rfl
      have x1 := (HX.out.below HL1.out HX.out.lt).cell 1 _ rfl
      have y0 := (HY.out.below HL1.out HY.out.lt).cell 0 _ rfl
      have y1 := (HY.out.below HL1.out HY.out.lt).cell 1 _ rfl
      go_wp2_with fail
      refine (HS.out k true _ (chain HB2.out HL1.out)).mono ?_
      rintro e V2 ⟨vm, vt, ps2, rfl, hos, hb⟩
      obtain ⟨An, cn, rfl⟩ := own_slice hos.mem
      obtain ⟨Aw, cw, rfl⟩ := own_slice hos.ths
      obtain ⟨m3, hm3⟩ : ∃ n, n = ((tst P s (k : Int) true).getD s).mem.length := ⟨_, rfl⟩
      obtain ⟨m4, hm4⟩ : ∃ n, n = ((tst P s (k : Int) true).getD s).ths.length := ⟨_, rfl⟩
      rw [← hm3, ← hm4]
      have HL2 := Lib.hid (chain HL1.out hb)
      have HR2 := Lib.hid (own_below HR1.out hb)
      clear hos hb x0 x1 y0 y1 hm3 hm4 HL1 HR1
      go_upto_region 7 with fail
      obtain ⟨X2, hX⟩ : ∃ W, W = V2.alloc (.cells #[.slice An m3 cn, .slice Aw m4 cw] 31) := ⟨_, rfl⟩
      have HST := Lib.hid (show Below V2.heap.size V2 X2 from by rw [hX]; exact below_al (Below.refl _ _) _)
      rw [← hX]
      clear hX
      replace HL2 := Lib.hid (chain HL2.out HST.out)
      replace HR2 := Lib.hid (own_below HR2.out HST.out)
      clear HST
      unfold cnd at HNX
      have hle := HLE.out
      have hsz := HL2.out.size
      have HLX := Lib.hid (Below.refl X2.heap.size X2)
      cases htf : (tst P s (k : Int) false).isSome
      · rw [htf] at HNX
        clear htf
        cases htd : (tst P s (k : Int) true).isSome
        · rw [htd] at HNX
          clear htd
          have HPE := Lib.hid (show pkN P s (k + 1) = pkN P s k from by rw [HNX.out]; simp)
          go_wp2
          go_roundw
          case rel => exact ⟨k + 1, by omega, by go_num, by rw [HPE.out]; exact HR2.out, HL2.out⟩
          case measure => simp [intOf]; omega
        · rw [htd] at HNX
          clear htd
          have HPE := Lib.hid (show pkN P s (k + 1) = pkN P s k ++ [(k, true)] from by rw [HNX.out]; simp)
          go_wp2_with (at_builtin; refine wpList_append_own _ rfl _ _ 26 rfl W2.heap.size 47 i0 (.agg #[.int .i64 0, .bool false]) 2 16 Try.underlying26 hi hz0 hz1 hz2 rfl (by decide) _ _ _ rfl (HR2.out.alloc _) ⟨X2.heap.size, 0, none⟩ 1 1 [.int .i64 (k : Int), .bool true] rfl rfl (cell_two_new _ _ _ _) (by simp [Value.oneCell']) (by unfold maxLen; omega) (by omega) (by rw [World.size_alloc]; omega) ?_; intro v1 wz1 hown1 hg1 _; obtain ⟨Az1, cz1, rfl⟩ := own_slice hown1)
          have HBZ := Lib.hid ((below_al HL2.out (.cells #[.int .i64 (k : Int), .bool true] 47)).grown hg1 (by rw [World.size_alloc]; omega) (fun r e => (own_none HR2.out e).1))
          go_roundw
          case rel => exact ⟨k + 1, by omega, by go_num, by rw [HPE.out, List.length_append, List.flatMap_append]; exact hown1, HBZ.out⟩
          case measure => simp [intOf]; omega
      · rw [htf] at HNX
        clear htf
        cases htd : (tst P s (k : Int) true).isSome
        · rw [htd] at HNX
          clear htd
          have HPE := Lib.hid (show pkN P s (k + 1) = pkN P s k ++ [(k, false)] from by rw [HNX.out]; simp)
          go_wp2_with (at_builtin; refine wpList_append_own _ rfl _ _ 26 rfl W2.heap.size 47 i0 (.agg #[.int .i64 0, .bool false]) 2 16 Try.underlying26 hi hz0 hz1 hz2 rfl (by decide) _ _ _ rfl (HR2.out.alloc _) ⟨X2.heap.size, 0, none⟩ 1 1 [.int .i64 (k : Int), .bool false] rfl rfl (cell_two_new _ _ _ _) (by simp [Value.oneCell']) (by unfold maxLen; omega) (by omega) (by rw [World.size_alloc]; omega) ?_; intro v1 wz1 hown1 hg1 _; obtain ⟨Az1, cz1, rfl⟩ := own_slice hown1)
          have HBZ := Lib.hid ((below_al HL2.out (.cells #[.int .i64 (k : Int), .bool false] 47)).grown hg1 (by rw [World.size_alloc]; omega) (fun r e => (own_none HR2.out e).1))
          go_roundw
          case rel => exact ⟨k + 1, by omega, by go_num, by rw [HPE.out, List.length_append, List.flatMap_append]; exact hown1, HBZ.out⟩
          case measure => simp [intOf]; omega
        · rw [htd] at HNX
          clear htd
          have HPE := Lib.hid (show pkN P s (k + 1) = pkN P s k ++ [(k, false)] ++ [(k, true)] from by rw [HNX.out]; simp)
          go_upto_region 9 with (at_builtin; refine wpList_append_own _ rfl _ _ 26 rfl W2.heap.size 47 i0 (.agg #[.int .i64 0, .bool false]) 2 16 Try.underlying26 hi hz0 hz1 hz2 rfl (by decide) _ _ _ rfl (HR2.out.alloc _) ⟨X2.heap.size, 0, none⟩ 1 1 [.int .i64 (k : Int), .bool false] rfl rfl (cell_two_new _ _ _ _) (by simp [Value.oneCell']) (by unfold maxLen; omega) (by omega) (by rw [World.size_alloc]; omega) ?_; intro v1 wz1 hown1 hg1 _; obtain ⟨Az1, cz1, rfl⟩ := own_slice hown1)
          have HBZ := Lib.hid ((below_al HL2.out (.cells #[.int .i64 (k : Int), .bool false] 47)).grown hg1 (by rw [World.size_alloc]; omega) (fun r e => (own_none HR2.out e).1))
          have HR3 := Lib.hid hown1
          have hsz3 := HBZ.out.size
          clear hown1 hg1
          go_wp2_with (at_builtin; refine wpList_append_own _ rfl _ _ 26 rfl W2.heap.size 47 i0 (.agg #[.int .i64 0, .bool false]) 2 16 Try.underlying26 hi hz0 hz1 hz2 rfl (by decide) _ _ _ rfl (HR3.out.alloc _) ⟨wz1.heap.size, 0, none⟩ 1 1 [.int .i64 (k : Int), .bool true] rfl rfl (cell_two_new _ _ _ _) (by simp [Value.oneCell']) (by unfold maxLen; omega) (by omega) (by rw [World.size_alloc]; omega) ?_; intro v2 wz2 hown2 hg2 _; obtain ⟨Az2, cz2, rfl⟩ := own_slice hown2)
          have HBY := Lib.hid ((below_al HBZ.out (.cells #[.int .i64 (k : Int), .bool true] 47)).grown hg2 (by rw [World.size_alloc]; omega) (fun r e => (own_none HR3.out e).1))
          go_roundw
          case rel => exact ⟨k + 1, by omega, by go_num, by rw [HPE.out, List.length_append, List.flatMap_append, List.length_append, List.flatMap_append]; exact hown2, HBY.out⟩
          case measure => simp [intOf]; omega
    · obtain rfl : s.ths.length = k := by omega
      go_wp2
      go_ret
      exact ⟨_, rfl, own_base HR.out HB2.out.size, chain HB2.out HL.out⟩
end Go.Proofs.Ytbgjamoflbdhoaa
