/-
  THE LAWS' live question of layer 7: Buffering as a code; head is true.
  THE LAWS' live question of layer 7: head is true.
-/
import Derived.Test.YtaelfjphgdlbcaaGreatDoorCd3
import Derived.Test.YtaelfjphgdlbcaaGreatDoorCd1
import Derived.Test.YtaelfjphgdlbcaaGreatDoorVHead
import Derived.Deep.RegionHeld3
namespace Go.Proofs.YtaelfjphgdlbcaaGreatDoor
open Go.RowKit
set_option linter.unusedVariables false
set_option linter.unusedSimpArgs false
open WordM (L)
open VM
open CodM (St Pg codP codE atI lineI rightP)

def bufP : Pg := ⟨[0, 0], [[⟨4, 0, 0, 1, 0⟩, ⟨2, 0, 1, 0, 0⟩], [⟨4, 0, 1, 1, 0⟩, ⟨2, 0, 0, 0, 0⟩]]⟩
def jmpF : Fl := ⟨[97], [], [[⟨9, [], [], [108], 0⟩, ⟨6, [], [], [], 0⟩, ⟨11, [], [], [108], 0⟩, ⟨7, [101, 100, 120], [], [], 7⟩]], [], false⟩
def jmpP : Pg := ⟨[], [[⟨9, 0, 0, 0, 2⟩, ⟨6, 0, 0, 0, 0⟩, ⟨7, 3, 0, 7, 0⟩]]⟩
def zeroP : Pg := ⟨[], []⟩
theorem buf_cod : codP bufF = bufP := by kernel_rfl
theorem buf_codE : codE bufF = 0 := by kernel_rfl
theorem jmp_cod : codP jmpF = jmpP := by kernel_rfl
theorem jmp_codE : codE jmpF = 0 := by kernel_rfl
theorem zero_codE : codE zeroF = 1 := by kernel_rfl
theorem jmp_at3 : atI jmpF 0 3 = 2 := by kernel_rfl
theorem jmp_at4 : atI jmpF 0 4 = 3 := by kernel_rfl
theorem jmp_at5 : atI jmpF 0 5 = -1 := by kernel_rfl
theorem jmp_ln2 : lineI jmpF 0 2 = 3 := by kernel_rfl
theorem jmp_ln3 : lineI jmpF 0 3 = -1 := by kernel_rfl
theorem buf_rp : rightP bufP = true := by kernel_rfl
theorem zero_rp : rightP zeroP = false := by kernel_rfl
theorem bufF_ok : FlOk bufF := by
  refine ⟨by decide, by decide, by decide, fun a ha => ?_, by decide⟩
  rcases List.mem_cons.1 ha with rfl | ha
  · exact ⟨by decide, (show NumM.inR 0 from by unfold NumM.inR; omega)⟩
  · rcases List.mem_cons.1 ha with rfl | ha
    · exact ⟨by decide, (show NumM.inR 1 from by unfold NumM.inR; omega)⟩
    · cases ha
theorem zeroF_ok : FlOk zeroF := ⟨by decide, by decide, by decide, fun a ha => (by cases ha), by decide⟩
theorem jmpF_ok : FlOk jmpF := ⟨by decide, by decide, by decide, fun a ha => (by cases ha), by decide⟩
theorem zero_fl (B : Nat) (W : World) : FlV B W (.agg #[.string ⟨#[]⟩, .slice none 0 0, .slice none 0 0, .bool false, .slice none 0 0]) zeroF :=
  ⟨.slice none 0 0, .slice none 0 0, .slice none 0 0, rfl, ⟨none, 0, rfl, Nat.le_refl _, by decide, fun h => absurd h (by decide)⟩, ⟨none, 0, rfl, Nat.le_refl _, by decide, fun h => absurd h (by decide)⟩, ⟨none, 0, rfl, Nat.le_refl _, by decide, fun h => absurd h (by decide)⟩⟩
theorem zero_pg (B : Nat) (W : World) : PgV B W (.agg #[.slice none 0 0, .slice none 0 0]) zeroP := ⟨_, _, rfl, ints_nil _ _, sss_nil _ _⟩
theorem sts_lit {B b : Nat} {W : World} {ss : List St} (hb : b < B) (hn : ss.length ≤ 1000) (h : ∀ j (hj : j < ss.length), StAt W b (j * 5) ss[j]) : Sts B W (.slice (some ⟨b, 0, none⟩) ss.length ss.length) ss :=
  ⟨_, ss.length, rfl, Nat.le_refl _, by unfold maxLen; omega, fun _ => ⟨b, 0, rfl, hb, fun j hj => by rw [Nat.zero_add]; exact h j hj⟩⟩
theorem sss_lit {B b : Nat} {W : World} {ts : List (List St)} (hb : b < B) (hn : ts.length ≤ 1000) (h : ∀ j (hj : j < ts.length), SsAt B W b j ts[j]) : Sss B W (.slice (some ⟨b, 0, none⟩) ts.length ts.length) ts :=
  ⟨_, ts.length, rfl, Nat.le_refl _, by unfold maxLen; omega, fun _ => ⟨b, 0, rfl, hb, fun j hj => by rw [Nat.zero_add]; exact h j hj⟩⟩
theorem ints_lit {B b : Nat} {W : World} {ns : List Int} (hb : b < B) (hn : ns.length ≤ 1000) (h : ∀ j (hj : j < ns.length), IntAt W b j ns[j]) : Ints B W (.slice (some ⟨b, 0, none⟩) ns.length ns.length) ns :=
  ⟨_, ns.length, rfl, Nat.le_refl _, by unfold maxLen; omega, fun _ => ⟨b, 0, rfl, hb, fun j hj => by rw [Nat.zero_add]; exact h j hj⟩⟩
set_option maxHeartbeats 8000000 in
set_option maxRecDepth 100000 in
theorem buf7_any (w : World) : Calls Tryz.prog 10 #[] w fun e w' => ∃ vi vt, e = .returned (.agg #[vi, vt]) ∧ PgM w'.heap.size w' vi vt bufP ∧ Below w.heap.size w w' := by
  have hz : Tryz.prog.cellsOf 25 = 2 := by kernel_rfl
  go_enter Tryz.func10, Tryz.ntmps10
  go_wp2
  have hB := (below_al (below_al (below_al (below_al (below_al (Below.refl w.heap.size w) (.cells #[.slice (some ⟨w.heap.size + 1, 0, none⟩) 2 2, .slice (some ⟨w.heap.size + 1 + 1 + 1 + 1, 0, none⟩) 2 2] 25)) (.cells #[.int .i64 0, .int .i64 0] 3)) (.cells #[.int .i64 4, .int .i64 0, .int .i64 0, .int .i64 1, .int .i64 0, .int .i64 2, .int .i64 0, .int .i64 1, .int .i64 0, .int .i64 0] 30)) (.cells #[.int .i64 4, .int .i64 0, .int .i64 1, .int .i64 1, .int .i64 0, .int .i64 2, .int .i64 0, .int .i64 0, .int .i64 0, .int .i64 0] 30)) (.cells #[.slice (some ⟨w.heap.size + 1 + 1, 0, none⟩) 2 2, .slice (some ⟨w.heap.size + 1 + 1 + 1, 0, none⟩) 2 2] 28))
  have HC : ∀ (j i : Nat) (cs : Array Value) (T : TypeId) (v : Value), ([.cells #[.slice (some ⟨w.heap.size + 1, 0, none⟩) 2 2, .slice (some ⟨w.heap.size + 1 + 1 + 1 + 1, 0, none⟩) 2 2] 25, .cells #[.int .i64 0, .int .i64 0] 3, .cells #[.int .i64 4, .int .i64 0, .int .i64 0, .int .i64 1, .int .i64 0, .int .i64 2, .int .i64 0, .int .i64 1, .int .i64 0, .int .i64 0] 30, .cells #[.int .i64 4, .int .i64 0, .int .i64 1, .int .i64 1, .int .i64 0, .int .i64 2, .int .i64 0, .int .i64 0, .int .i64 0, .int .i64 0] 30, .cells #[.slice (some ⟨w.heap.size + 1 + 1, 0, none⟩) 2 2, .slice (some ⟨w.heap.size + 1 + 1 + 1, 0, none⟩) 2 2] 28] : List Obj)[j]? = some (.cells cs T) → cs[i]? = some v → ((World.alloc (World.alloc (World.alloc (World.alloc (World.alloc w (.cells #[.slice (some ⟨w.heap.size + 1, 0, none⟩) 2 2, .slice (some ⟨w.heap.size + 1 + 1 + 1 + 1, 0, none⟩) 2 2] 25)) (.cells #[.int .i64 0, .int .i64 0] 3)) (.cells #[.int .i64 4, .int .i64 0, .int .i64 0, .int .i64 1, .int .i64 0, .int .i64 2, .int .i64 0, .int .i64 1, .int .i64 0, .int .i64 0] 30)) (.cells #[.int .i64 4, .int .i64 0, .int .i64 1, .int .i64 1, .int .i64 0, .int .i64 2, .int .i64 0, .int .i64 0, .int .i64 0, .int .i64 0] 30)) (.cells #[.slice (some ⟨w.heap.size + 1 + 1, 0, none⟩) 2 2, .slice (some ⟨w.heap.size + 1 + 1 + 1, 0, none⟩) 2 2] 28))).cell? ⟨w.heap.size + j, i, none⟩ = some v := fun j i cs T v h1 h2 => (allocs_cell [.cells #[.slice (some ⟨w.heap.size + 1, 0, none⟩) 2 2, .slice (some ⟨w.heap.size + 1 + 1 + 1 + 1, 0, none⟩) 2 2] 25, .cells #[.int .i64 0, .int .i64 0] 3, .cells #[.int .i64 4, .int .i64 0, .int .i64 0, .int .i64 1, .int .i64 0, .int .i64 2, .int .i64 0, .int .i64 1, .int .i64 0, .int .i64 0] 30, .cells #[.int .i64 4, .int .i64 0, .int .i64 1, .int .i64 1, .int .i64 0, .int .i64 2, .int .i64 0, .int .i64 0, .int .i64 0, .int .i64 0] 30, .cells #[.slice (some ⟨w.heap.size + 1 + 1, 0, none⟩) 2 2, .slice (some ⟨w.heap.size + 1 + 1 + 1, 0, none⟩) 2 2] 28] w j cs T i v h1 h2).1
  obtain ⟨W, hW⟩ : ∃ W, W = (World.alloc (World.alloc (World.alloc (World.alloc (World.alloc w (.cells #[.slice (some ⟨w.heap.size + 1, 0, none⟩) 2 2, .slice (some ⟨w.heap.size + 1 + 1 + 1 + 1, 0, none⟩) 2 2] 25)) (.cells #[.int .i64 0, .int .i64 0] 3)) (.cells #[.int .i64 4, .int .i64 0, .int .i64 0, .int .i64 1, .int .i64 0, .int .i64 2, .int .i64 0, .int .i64 1, .int .i64 0, .int .i64 0] 30)) (.cells #[.int .i64 4, .int .i64 0, .int .i64 1, .int .i64 1, .int .i64 0, .int .i64 2, .int .i64 0, .int .i64 0, .int .i64 0, .int .i64 0] 30)) (.cells #[.slice (some ⟨w.heap.size + 1 + 1, 0, none⟩) 2 2, .slice (some ⟨w.heap.size + 1 + 1 + 1, 0, none⟩) 2 2] 28)) := ⟨_, rfl⟩
  rw [← hW] at hB HC ⊢
  have hsz : W.heap.size = w.heap.size + 5 := by rw [hW]; simp only [heap_alloc]
  clear hW
  have c0 : W.cell? ⟨w.heap.size, 0, none⟩ = some (.slice (some ⟨w.heap.size + 1, 0, none⟩) 2 2) := HC 0 0 _ _ _ rfl rfl
  have c1 : W.cell? ⟨w.heap.size, 1, none⟩ = some (.slice (some ⟨w.heap.size + 1 + 1 + 1 + 1, 0, none⟩) 2 2) := HC 0 1 _ _ _ rfl rfl
  refine bodyPost_ret (v := .agg #[.slice (some ⟨w.heap.size + 1, 0, none⟩) 2 2, .slice (some ⟨w.heap.size + 1 + 1 + 1 + 1, 0, none⟩) 2 2]) (by simp [results, Tryz.results10, go_sem, c0, c1, hz]) rfl ⟨_, _, rfl, ⟨?_, ?_⟩, hB⟩
  · refine ints_lit (ns := [0, 0]) (by omega) (by decide) (fun j hj => ?_)
    match j, hj with
    | 0, _ => exact HC 1 0 _ _ _ rfl rfl
    | 1, _ => exact HC 1 1 _ _ _ rfl rfl
  · refine sss_lit (ts := bufP.ths) (by omega) (by decide) (fun j hj => ?_)
    match j, hj with
    | 0, _ =>
      refine ⟨_, HC 4 0 _ _ _ rfl rfl, sts_lit (ss := [⟨4, 0, 0, 1, 0⟩, ⟨2, 0, 1, 0, 0⟩]) (by omega) (by decide) (fun j hj => ?_)⟩
      match j, hj with
      | 0, _ => exact ⟨HC 2 0 _ _ _ rfl rfl, HC 2 1 _ _ _ rfl rfl, HC 2 2 _ _ _ rfl rfl, HC 2 3 _ _ _ rfl rfl, HC 2 4 _ _ _ rfl rfl⟩
      | 1, _ => exact ⟨HC 2 5 _ _ _ rfl rfl, HC 2 6 _ _ _ rfl rfl, HC 2 7 _ _ _ rfl rfl, HC 2 8 _ _ _ rfl rfl, HC 2 9 _ _ _ rfl rfl⟩
    | 1, _ =>
      refine ⟨_, HC 4 1 _ _ _ rfl rfl, sts_lit (ss := [⟨4, 0, 1, 1, 0⟩, ⟨2, 0, 0, 0, 0⟩]) (by omega) (by decide) (fun j hj => ?_)⟩
      match j, hj with
      | 0, _ => exact ⟨HC 3 0 _ _ _ rfl rfl, HC 3 1 _ _ _ rfl rfl, HC 3 2 _ _ _ rfl rfl, HC 3 3 _ _ _ rfl rfl, HC 3 4 _ _ _ rfl rfl⟩
      | 1, _ => exact ⟨HC 3 5 _ _ _ rfl rfl, HC 3 6 _ _ _ rfl rfl, HC 3 7 _ _ _ rfl rfl, HC 3 8 _ _ _ rfl rfl, HC 3 9 _ _ _ rfl rfl⟩
end Go.Proofs.YtaelfjphgdlbcaaGreatDoor
namespace Go.Proofs.YtaelfjphgdlbcaaGreatDoor
open Go.RowKit
set_option linter.unusedVariables false
set_option linter.unusedSimpArgs false
open WordM (L)
open VM
open CodM (St Pg codP codE atI lineI rightP)

theorem lns_lit {B b : Nat} {W : World} {ls : List OpsM.Ln} (hb : b < B) (hn : ls.length ≤ 1000) (h : ∀ j (hj : j < ls.length), LnAt W b (j * 5) ls[j]) : Lns B W (.slice (some ⟨b, 0, none⟩) ls.length ls.length) ls :=
  ⟨_, ls.length, rfl, Nat.le_refl _, by unfold maxLen; omega, fun _ => ⟨b, 0, rfl, hb, fun j hj => by rw [Nat.zero_add]; exact h j hj⟩⟩
theorem ths_lit {B b : Nat} {W : World} {ts : List (List OpsM.Ln)} (hb : b < B) (hn : ts.length ≤ 1000) (h : ∀ j (hj : j < ts.length), ThAt B W b j ts[j]) : Ths B W (.slice (some ⟨b, 0, none⟩) ts.length ts.length) ts :=
  ⟨_, ts.length, rfl, Nat.le_refl _, by unfold maxLen; omega, fun _ => ⟨b, 0, rfl, hb, fun j hj => by rw [Nat.zero_add]; exact h j hj⟩⟩
theorem cls_nil (B : Nat) (W : World) : Cls B W (.slice none 0 0) [] := ⟨none, 0, rfl, Nat.le_refl _, by decide, fun h => absurd h (by decide)⟩
theorem ams_nil (B : Nat) (W : World) : Ams B W (.slice none 0 0) [] := ⟨none, 0, rfl, Nat.le_refl _, by decide, fun h => absurd h (by decide)⟩
set_option maxHeartbeats 8000000 in
set_option maxRecDepth 100000 in
theorem chead_any (w : World) (hr : Regs w) (hg : EA.ErrG w) (hp : PartsG w) : Calls Tryz.prog 4 #[] w fun e w' => e = .returned (.bool true) ∧ Below w.heap.size w w' := by
  have HR := Lib.hid hr
  have HG := Lib.hid hg
  have HP := Lib.hid hp
  have HBU := Lib.hid (fun W => buffering_any W)
  have HB7 := Lib.hid (fun W => buf7_any W)
  have HCC := Lib.hid (fun (W : World) (v : Value) (F : Fl) (hW : Below w.heap.size w W) (hv : FlV W.heap.size W v F) (ok : FlOk F) => ccode_any W (HR.out.below hW) (HG.out.below hW) hv (Nat.le_refl _) ok)
  clear hr hg hp
  go_enter Tryz.func4, Tryz.ntmps4
  go_wp2_with fail
  refine (HBU.out _).mono ?_
  rintro e w1 ⟨rfl, hM1, hB1⟩
  have HC1 := Lib.hid (HCC.out _ _ _ hB1 hM1.fl bufF_ok)
  rw [buf_cod, buf_codE] at HC1
  clear hM1
  go_wp2_with fail
  refine HC1.out.mono ?_
  rintro e w2 ⟨vi1, vt1, rfl, hP1, hb⟩
  have hB2 := chain hB1 hb
  obtain ⟨⟨Ai1, ni1, rfl, -⟩, ⟨At1, nt1, rfl, -⟩⟩ := id hP1
  have hP1' := Lib.hid hP1
  clear HC1 hB1 hb HBU hP1
  go_wp2_with fail
  have HC : ∀ (j i : Nat) (cs : Array Value) (T : TypeId) (v : Value), ([.cells #[.slice Ai1 bufP.init.length ni1, .slice At1 bufP.ths.length nt1] 25, .cells #[.int .i64 9, .string ⟨#[]⟩, .string ⟨#[]⟩, .string ⟨#[108]⟩, .int .i64 0, .int .i64 6, .string ⟨#[]⟩, .string ⟨#[]⟩, .string ⟨#[]⟩, .int .i64 0, .int .i64 11, .string ⟨#[]⟩, .string ⟨#[]⟩, .string ⟨#[108]⟩, .int .i64 0, .int .i64 7, .string ⟨#[101, 100, 120]⟩, .string ⟨#[]⟩, .string ⟨#[]⟩, .int .i64 7] 42, .cells #[.slice (some ⟨w2.heap.size + 1, 0, none⟩) 4 4] 45, .cells #[.string ⟨#[97]⟩, .slice none 0 0, .slice (some ⟨w2.heap.size + 1 + 1, 0, none⟩) 1 1, .bool false, .slice none 0 0] 39] : List Obj)[j]? = some (.cells cs T) → cs[i]? = some v → (((((w2.alloc (.cells #[.slice Ai1 bufP.init.length ni1, .slice At1 bufP.ths.length nt1] 25)).alloc (.cells #[.int .i64 9, .string ⟨#[]⟩, .string ⟨#[]⟩, .string ⟨#[108]⟩, .int .i64 0, .int .i64 6, .string ⟨#[]⟩, .string ⟨#[]⟩, .string ⟨#[]⟩, .int .i64 0, .int .i64 11, .string ⟨#[]⟩, .string ⟨#[]⟩, .string ⟨#[108]⟩, .int .i64 0, .int .i64 7, .string ⟨#[101, 100, 120]⟩, .string ⟨#[]⟩, .string ⟨#[]⟩, .int .i64 7] 42)).alloc (.cells #[.slice (some ⟨w2.heap.size + 1, 0, none⟩) 4 4] 45)).alloc (.cells #[.string ⟨#[97]⟩, .slice none 0 0, .slice (some ⟨w2.heap.size + 1 + 1, 0, none⟩) 1 1, .bool false, .slice none 0 0] 39))).cell? ⟨w2.heap.size + j, i, none⟩ = some v := fun j i cs T v h1 h2 => (allocs_cell [.cells #[.slice Ai1 bufP.init.length ni1, .slice At1 bufP.ths.length nt1] 25, .cells #[.int .i64 9, .string ⟨#[]⟩, .string ⟨#[]⟩, .string ⟨#[108]⟩, .int .i64 0, .int .i64 6, .string ⟨#[]⟩, .string ⟨#[]⟩, .string ⟨#[]⟩, .int .i64 0, .int .i64 11, .string ⟨#[]⟩, .string ⟨#[]⟩, .string ⟨#[108]⟩, .int .i64 0, .int .i64 7, .string ⟨#[101, 100, 120]⟩, .string ⟨#[]⟩, .string ⟨#[]⟩, .int .i64 7] 42, .cells #[.slice (some ⟨w2.heap.size + 1, 0, none⟩) 4 4] 45, .cells #[.string ⟨#[97]⟩, .slice none 0 0, .slice (some ⟨w2.heap.size + 1 + 1, 0, none⟩) 1 1, .bool false, .slice none 0 0] 39] w2 j cs T i v h1 h2).1
  have hb3 : Below w2.heap.size w2 ((((w2.alloc (.cells #[.slice Ai1 bufP.init.length ni1, .slice At1 bufP.ths.length nt1] 25)).alloc (.cells #[.int .i64 9, .string ⟨#[]⟩, .string ⟨#[]⟩, .string ⟨#[108]⟩, .int .i64 0, .int .i64 6, .string ⟨#[]⟩, .string ⟨#[]⟩, .string ⟨#[]⟩, .int .i64 0, .int .i64 11, .string ⟨#[]⟩, .string ⟨#[]⟩, .string ⟨#[108]⟩, .int .i64 0, .int .i64 7, .string ⟨#[101, 100, 120]⟩, .string ⟨#[]⟩, .string ⟨#[]⟩, .int .i64 7] 42)).alloc (.cells #[.slice (some ⟨w2.heap.size + 1, 0, none⟩) 4 4] 45)).alloc (.cells #[.string ⟨#[97]⟩, .slice none 0 0, .slice (some ⟨w2.heap.size + 1 + 1, 0, none⟩) 1 1, .bool false, .slice none 0 0] 39)) := below_al (below_al (below_al (below_al (Below.refl _ _) _) _) _) _
  have hsz : (((((w2.alloc (.cells #[.slice Ai1 bufP.init.length ni1, .slice At1 bufP.ths.length nt1] 25)).alloc (.cells #[.int .i64 9, .string ⟨#[]⟩, .string ⟨#[]⟩, .string ⟨#[108]⟩, .int .i64 0, .int .i64 6, .string ⟨#[]⟩, .string ⟨#[]⟩, .string ⟨#[]⟩, .int .i64 0, .int .i64 11, .string ⟨#[]⟩, .string ⟨#[]⟩, .string ⟨#[108]⟩, .int .i64 0, .int .i64 7, .string ⟨#[101, 100, 120]⟩, .string ⟨#[]⟩, .string ⟨#[]⟩, .int .i64 7] 42)).alloc (.cells #[.slice (some ⟨w2.heap.size + 1, 0, none⟩) 4 4] 45)).alloc (.cells #[.string ⟨#[97]⟩, .slice none 0 0, .slice (some ⟨w2.heap.size + 1 + 1, 0, none⟩) 1 1, .bool false, .slice none 0 0] 39))).heap.size = w2.heap.size + 4 := by simp only [heap_alloc]
  generalize ((((w2.alloc (.cells #[.slice Ai1 bufP.init.length ni1, .slice At1 bufP.ths.length nt1] 25)).alloc (.cells #[.int .i64 9, .string ⟨#[]⟩, .string ⟨#[]⟩, .string ⟨#[108]⟩, .int .i64 0, .int .i64 6, .string ⟨#[]⟩, .string ⟨#[]⟩, .string ⟨#[]⟩, .int .i64 0, .int .i64 11, .string ⟨#[]⟩, .string ⟨#[]⟩, .string ⟨#[108]⟩, .int .i64 0, .int .i64 7, .string ⟨#[101, 100, 120]⟩, .string ⟨#[]⟩, .string ⟨#[]⟩, .int .i64 7] 42)).alloc (.cells #[.slice (some ⟨w2.heap.size + 1, 0, none⟩) 4 4] 45)).alloc (.cells #[.string ⟨#[97]⟩, .slice none 0 0, .slice (some ⟨w2.heap.size + 1 + 1, 0, none⟩) 1 1, .bool false, .slice none 0 0] 39)) = W3 at *
  have HX1 := Lib.hid (show PgBox W3 w2.heap.size (.slice Ai1 bufP.init.length ni1) (.slice At1 bufP.ths.length nt1) from ⟨HC 0 0 _ _ _ rfl rfl, HC 0 1 _ _ _ rfl rfl⟩)
  have HP1 := Lib.hid ((hP1'.out.below hb3).more hb3.size)
  have HF3 := Lib.hid (show FlBox W3 (w2.heap.size + 1 + 1 + 1) ⟨#[97]⟩ (.slice none 0 0) (.slice (some ⟨w2.heap.size + 1 + 1, 0, none⟩) 1 1) (.slice none 0 0) false from ⟨HC 3 0 _ _ _ rfl rfl, HC 3 1 _ _ _ rfl rfl, HC 3 2 _ _ _ rfl rfl, HC 3 3 _ _ _ rfl rfl, HC 3 4 _ _ _ rfl rfl⟩)
  have HL3 := Lib.hid (lns_lit (W := W3) (B := W3.heap.size) (b := w2.heap.size + 1) (ls := [⟨9, [], [], [108], 0⟩, ⟨6, [], [], [], 0⟩, ⟨11, [], [], [108], 0⟩, ⟨7, [101, 100, 120], [], [], 7⟩]) (by omega) (by decide) (fun j hj => by
    match j, hj with
    | 0, _ => exact ⟨HC 1 0 _ _ _ rfl rfl, HC 1 1 _ _ _ rfl rfl, HC 1 2 _ _ _ rfl rfl, HC 1 3 _ _ _ rfl rfl, HC 1 4 _ _ _ rfl rfl⟩
    | 1, _ => exact ⟨HC 1 5 _ _ _ rfl rfl, HC 1 6 _ _ _ rfl rfl, HC 1 7 _ _ _ rfl rfl, HC 1 8 _ _ _ rfl rfl, HC 1 9 _ _ _ rfl rfl⟩
    | 2, _ => exact ⟨HC 1 10 _ _ _ rfl rfl, HC 1 11 _ _ _ rfl rfl, HC 1 12 _ _ _ rfl rfl, HC 1 13 _ _ _ rfl rfl, HC 1 14 _ _ _ rfl rfl⟩
    | 3, _ => exact ⟨HC 1 15 _ _ _ rfl rfl, HC 1 16 _ _ _ rfl rfl, HC 1 17 _ _ _ rfl rfl, HC 1 18 _ _ _ rfl rfl, HC 1 19 _ _ _ rfl rfl⟩))
  have HFL := Lib.hid (show FlV W3.heap.size W3 (.agg #[.string ⟨#[97]⟩, .slice none 0 0, .slice (some ⟨w2.heap.size + 1 + 1, 0, none⟩) 1 1, .bool false, .slice none 0 0]) jmpF from
    ⟨_, _, _, rfl, cls_nil _ _, ths_lit (ts := jmpF.ths) (by omega) (by decide) (fun j hj => by
      match j, hj with
      | 0, _ => exact ⟨_, HC 2 0 _ _ _ rfl rfl, HL3.out⟩), ams_nil _ _⟩)
  have hB3 := chain hB2 hb3
  have hgs : w2.heap.size + 1 + 1 + 1 < W3.heap.size := by omega
  obtain ⟨g1, hg1⟩ : ∃ g, g = w2.heap.size := ⟨_, rfl⟩
  rw [← hg1] at HX1 HF3 HFL hgs ⊢
  have hg1w : w.heap.size ≤ g1 := by rw [hg1]; exact hB2.size
  clear HC hb3 hsz HL3 hP1' hg1 hB2
  have HC3 := Lib.hid (HCC.out _ _ _ hB3 HFL.out jmpF_ok)
  rw [jmp_cod, jmp_codE] at HC3
  refine HC3.out.mono ?_
  rintro e w4 ⟨vi2, vt2, rfl, hP2, hb⟩
  obtain ⟨⟨Ai2, ni2, rfl, -⟩, ⟨At2, nt2, rfl, -⟩⟩ := id hP2
  have hB4 := chain hB3 hb
  have hbA := below_al (Below.refl w4.heap.size w4) (.cells #[.slice Ai2 jmpP.init.length ni2, .slice At2 jmpP.ths.length nt2] 25)
  replace HX1 := Lib.hid ((HX1.out.below hb).below hbA)
  replace HP1 := Lib.hid ((((HP1.out.below hb).more hb.size).below hbA).more hbA.size)
  replace HF3 := Lib.hid ((HF3.out.below hb).below hbA)
  replace HFL := Lib.hid ((((HFL.out.below hb).more hb.size).below hbA).more hbA.size)
  have HX2 := Lib.hid (PgBox.at (w := w4) rfl (.slice Ai2 jmpP.init.length ni2) (.slice At2 jmpP.ths.length nt2) 25)
  have HP2 := Lib.hid ((hP2.below hbA).more hbA.size)
  have hB5 := chain hB4 hbA
  clear HC3 hB3 hB4 hP2 hb
  go_wp2_with fail
  have HC5 := Lib.hid (HCC.out _ _ _ hB5 (zero_fl _ _) zeroF_ok)
  rw [zero_codE, show codP zeroF = zeroP by kernel_rfl] at HC5
  refine HC5.out.mono ?_
  rintro e w6 ⟨vi3, vt3, rfl, hP3, hb⟩
  obtain ⟨⟨Ai3, ni3, rfl, -⟩, ⟨At3, nt3, rfl, -⟩⟩ := id hP3
  replace HX1 := Lib.hid (HX1.out.below hb)
  replace HP1 := Lib.hid ((HP1.out.below hb).more hb.size)
  replace HF3 := Lib.hid (HF3.out.below hb)
  replace HFL := Lib.hid ((HFL.out.below hb).more hb.size)
  replace HX2 := Lib.hid (HX2.out.below hb)
  replace HP2 := Lib.hid ((HP2.out.below hb).more hb.size)
  have hB6 := chain hB5 hb
  obtain ⟨g4, hg4⟩ : ∃ g, g = w4.heap.size := ⟨_, rfl⟩
  rw [← hg4] at HX2 ⊢
  clear HC5 hB5 hP3 hb hbA HCC hg4
  unfold zeroP
  simp only [List.length_nil]
  go_wp2_with fail
  have HC : ∀ (j i : Nat) (cs : Array Value) (T : TypeId) (v : Value), ([.cells #[.slice Ai3 0 ni3, .slice At3 0 nt3] 25, .cells #[.int .i64 9, .int .i64 0, .int .i64 0, .int .i64 0, .int .i64 2, .int .i64 6, .int .i64 0, .int .i64 0, .int .i64 0, .int .i64 0, .int .i64 7, .int .i64 3, .int .i64 0, .int .i64 7, .int .i64 0] 30, .cells #[.slice (some ⟨w6.heap.size + 1, 0, none⟩) 3 3] 28, .cells #[.slice none 0 0, .slice (some ⟨w6.heap.size + 1 + 1, 0, none⟩) 1 1] 25] : List Obj)[j]? = some (.cells cs T) → cs[i]? = some v → (((((w6.alloc (.cells #[.slice Ai3 0 ni3, .slice At3 0 nt3] 25)).alloc (.cells #[.int .i64 9, .int .i64 0, .int .i64 0, .int .i64 0, .int .i64 2, .int .i64 6, .int .i64 0, .int .i64 0, .int .i64 0, .int .i64 0, .int .i64 7, .int .i64 3, .int .i64 0, .int .i64 7, .int .i64 0] 30)).alloc (.cells #[.slice (some ⟨w6.heap.size + 1, 0, none⟩) 3 3] 28)).alloc (.cells #[.slice none 0 0, .slice (some ⟨w6.heap.size + 1 + 1, 0, none⟩) 1 1] 25))).cell? ⟨w6.heap.size + j, i, none⟩ = some v := fun j i cs T v h1 h2 => (allocs_cell [.cells #[.slice Ai3 0 ni3, .slice At3 0 nt3] 25, .cells #[.int .i64 9, .int .i64 0, .int .i64 0, .int .i64 0, .int .i64 2, .int .i64 6, .int .i64 0, .int .i64 0, .int .i64 0, .int .i64 0, .int .i64 7, .int .i64 3, .int .i64 0, .int .i64 7, .int .i64 0] 30, .cells #[.slice (some ⟨w6.heap.size + 1, 0, none⟩) 3 3] 28, .cells #[.slice none 0 0, .slice (some ⟨w6.heap.size + 1 + 1, 0, none⟩) 1 1] 25] w6 j cs T i v h1 h2).1
  have hb9 : Below w6.heap.size w6 ((((w6.alloc (.cells #[.slice Ai3 0 ni3, .slice At3 0 nt3] 25)).alloc (.cells #[.int .i64 9, .int .i64 0, .int .i64 0, .int .i64 0, .int .i64 2, .int .i64 6, .int .i64 0, .int .i64 0, .int .i64 0, .int .i64 0, .int .i64 7, .int .i64 3, .int .i64 0, .int .i64 7, .int .i64 0] 30)).alloc (.cells #[.slice (some ⟨w6.heap.size + 1, 0, none⟩) 3 3] 28)).alloc (.cells #[.slice none 0 0, .slice (some ⟨w6.heap.size + 1 + 1, 0, none⟩) 1 1] 25)) := below_al (below_al (below_al (below_al (Below.refl _ _) _) _) _) _
  have hsz : (((((w6.alloc (.cells #[.slice Ai3 0 ni3, .slice At3 0 nt3] 25)).alloc (.cells #[.int .i64 9, .int .i64 0, .int .i64 0, .int .i64 0, .int .i64 2, .int .i64 6, .int .i64 0, .int .i64 0, .int .i64 0, .int .i64 0, .int .i64 7, .int .i64 3, .int .i64 0, .int .i64 7, .int .i64 0] 30)).alloc (.cells #[.slice (some ⟨w6.heap.size + 1, 0, none⟩) 3 3] 28)).alloc (.cells #[.slice none 0 0, .slice (some ⟨w6.heap.size + 1 + 1, 0, none⟩) 1 1] 25))).heap.size = w6.heap.size + 4 := by simp only [heap_alloc]
  generalize ((((w6.alloc (.cells #[.slice Ai3 0 ni3, .slice At3 0 nt3] 25)).alloc (.cells #[.int .i64 9, .int .i64 0, .int .i64 0, .int .i64 0, .int .i64 2, .int .i64 6, .int .i64 0, .int .i64 0, .int .i64 0, .int .i64 0, .int .i64 7, .int .i64 3, .int .i64 0, .int .i64 7, .int .i64 0] 30)).alloc (.cells #[.slice (some ⟨w6.heap.size + 1, 0, none⟩) 3 3] 28)).alloc (.cells #[.slice none 0 0, .slice (some ⟨w6.heap.size + 1 + 1, 0, none⟩) 1 1] 25)) = W9 at *
  replace HX1 := Lib.hid (HX1.out.below hb9)
  replace HP1 := Lib.hid ((HP1.out.below hb9).more hb9.size)
  replace HF3 := Lib.hid (HF3.out.below hb9)
  replace HFL := Lib.hid ((HFL.out.below hb9).more hb9.size)
  replace HX2 := Lib.hid (HX2.out.below hb9)
  replace HP2 := Lib.hid ((HP2.out.below hb9).more hb9.size)
  have HX4 := Lib.hid (show PgBox W9 (w6.heap.size + 1 + 1 + 1) (.slice none 0 0) (.slice (some ⟨w6.heap.size + 1 + 1, 0, none⟩) 1 1) from ⟨HC 3 0 _ _ _ rfl rfl, HC 3 1 _ _ _ rfl rfl⟩)
  have HP4 := Lib.hid (show PgM W9.heap.size W9 (.slice none 0 0) (.slice (some ⟨w6.heap.size + 1 + 1, 0, none⟩) 1 1) jmpP from
    ⟨ints_nil _ _, sss_lit (ts := jmpP.ths) (by omega) (by decide) (fun j hj => by
      match j, hj with
      | 0, _ =>
        refine ⟨_, HC 2 0 _ _ _ rfl rfl, sts_lit (ss := [⟨9, 0, 0, 0, 2⟩, ⟨6, 0, 0, 0, 0⟩, ⟨7, 3, 0, 7, 0⟩]) (by omega) (by decide) (fun j hj => ?_)⟩
        match j, hj with
        | 0, _ => exact ⟨HC 1 0 _ _ _ rfl rfl, HC 1 1 _ _ _ rfl rfl, HC 1 2 _ _ _ rfl rfl, HC 1 3 _ _ _ rfl rfl, HC 1 4 _ _ _ rfl rfl⟩
        | 1, _ => exact ⟨HC 1 5 _ _ _ rfl rfl, HC 1 6 _ _ _ rfl rfl, HC 1 7 _ _ _ rfl rfl, HC 1 8 _ _ _ rfl rfl, HC 1 9 _ _ _ rfl rfl⟩
        | 2, _ => exact ⟨HC 1 10 _ _ _ rfl rfl, HC 1 11 _ _ _ rfl rfl, HC 1 12 _ _ _ rfl rfl, HC 1 13 _ _ _ rfl rfl, HC 1 14 _ _ _ rfl rfl⟩)⟩)
  have hB9 := chain hB6 hb9
  obtain ⟨g8, hg8⟩ : ∃ g, g = w6.heap.size := ⟨_, rfl⟩
  rw [← hg8] at HX4 HP4 ⊢
  clear HC hb9 hsz hg8 hB6
  have hm4 : ∀ ls ∈ jmpF.ths, ls.length ≤ 1000000 := by decide
  have hl4 : jmpF.ths.length ≤ 1000000 := by decide
  have hin : ∀ n : Nat, n ≤ 10 → NumM.inR n := fun n hn => by unfold NumM.inR; omega
  have HA3 := Lib.hid (fun W (hW : Below W9.heap.size W9 W) => jmp_at3 ▸ cat_any (F := jmpF) 0 3 W ((HFL.out.below hW).more hW.size) (Nat.le_refl _) hl4 hm4)
  have HA4 := Lib.hid (fun W (hW : Below W9.heap.size W9 W) => jmp_at4 ▸ cat_any (F := jmpF) 0 4 W ((HFL.out.below hW).more hW.size) (Nat.le_refl _) hl4 hm4)
  have HA5 := Lib.hid (fun W (hW : Below W9.heap.size W9 W) => jmp_at5 ▸ cat_any (F := jmpF) 0 5 W ((HFL.out.below hW).more hW.size) (Nat.le_refl _) hl4 hm4)
  have HL2 := Lib.hid (fun W (hW : Below W9.heap.size W9 W) => jmp_ln2 ▸ cline_any (F := jmpF) 0 2 W ((HFL.out.below hW).more hW.size) (Nat.le_refl _) hl4 hm4 (hin 2 (by omega)))
  have HL3 := Lib.hid (fun W (hW : Below W9.heap.size W9 W) => jmp_ln3 ▸ cline_any (F := jmpF) 0 3 W ((HFL.out.below hW).more hW.size) (Nat.le_refl _) hl4 hm4 (hin 3 (by omega)))
  have HR1 := Lib.hid (fun W (hW : Below W9.heap.size W9 W) => buf_rp ▸ cright_any (P := bufP) W ((HP.out.below hB9).below hW) ⟨_, _, rfl, (HP1.out.below hW).more hW.size⟩ (Nat.le_refl _) (by decide) (by decide))
  have HR2 := Lib.hid (fun W (hW : Below W9.heap.size W9 W) => zero_rp ▸ cright_any (P := zeroP) W ((HP.out.below hB9).below hW) (zero_pg _ _) (Nat.le_refl _) (by decide) (by decide))
  clear hm4 hl4 hin HR HG
  refine wp_region_held_drew (S := (fun w' => (w'.cell? ⟨g1, 0, none⟩ = some (.slice Ai1 bufP.init.length ni1) ∧ w'.cell? ⟨g1, 1, none⟩ = some (.slice At1 bufP.ths.length nt1) ∧ w'.cell? ⟨g4, 0, none⟩ = some (.slice Ai2 jmpP.init.length ni2) ∧ w'.cell? ⟨g4, 1, none⟩ = some (.slice At2 jmpP.ths.length nt2) ∧ w'.cell? ⟨g8 + 1 + 1 + 1, 0, none⟩ = some (.slice none 0 0) ∧ w'.cell? ⟨g8 + 1 + 1 + 1, 1, none⟩ = some (.slice (some ⟨g8 + 1 + 1, 0, none⟩) 1 1) ∧ w'.cell? ⟨g1 + 1 + 1 + 1, 0, none⟩ = some (.string ⟨#[97]⟩) ∧ w'.cell? ⟨g1 + 1 + 1 + 1, 1, none⟩ = some (.slice none 0 0) ∧ w'.cell? ⟨g1 + 1 + 1 + 1, 2, none⟩ = some (.slice (some ⟨g1 + 1 + 1, 0, none⟩) 1 1) ∧ w'.cell? ⟨g1 + 1 + 1 + 1, 3, none⟩ = some (.bool false) ∧ w'.cell? ⟨g1 + 1 + 1 + 1, 4, none⟩ = some (.slice none 0 0)) ∧ Below W9.heap.size W9 w')) (by kernel_rfl) ⟨⟨HX1.out.1, HX1.out.2, HX2.out.1, HX2.out.2, HX4.out.1, HX4.out.2, HF3.out.1, HF3.out.2.1, HF3.out.2.2.1, HF3.out.2.2.2.1, HF3.out.2.2.2.2⟩, below_drewN (Below.refl _ _) 1⟩ (fun hHeld => ?_)
  refine wpAnyH_take (i := 0) (v := ?_) rfl (by kernel_rfl) (by kernel_rfl) (by kernel_rfl) (fun _ _ _ h => h) (Or.inl ⟨by rfl, ?_⟩) (by assumption) ?_
  rotate_left
  · intro w hSw; (try dsimp only at hSw); go_simp; (try with_reducible rfl)
  (try simp only [Act.put, List.getElem_toArray, List.getElem_cons_zero, List.getElem_cons_succ, Array.getInternal_eq_getElem, List.setIfInBounds_toArray, List.set_cons_zero, List.set_cons_succ])
  refine wpAnyH_ready (rs := [1]) (by kernel_rfl) (by simp) ?_
  refine AllReadyH.cons rfl (fun K hK => ?_) AllReadyH.nil
  go_simp
  refine (HB7.out _).mono ?_
  rintro e wa ⟨vi5, vt5, rfl, hP5, hba⟩
  have HP5 := Lib.hid hP5
  have hBa := Lib.hid (chain hHeld.2 hba)
  obtain ⟨⟨Ai5, ni5, rfl, -⟩, ⟨At5, nt5, rfl, -⟩⟩ := hP5
  obtain ⟨q0, q1, q2, q3, q4, q5, q6, q7, q8, q9, q10⟩ := hHeld.1
  refine hK.out _ _ ⟨⟨kc hba q0, kc hba q1, kc hba q2, kc hba q3, kc hba q4, kc hba q5, kc hba q6, kc hba q7, kc hba q8, kc hba q9, kc hba q10⟩, chain hHeld.2 hba⟩ (fun hHeld => ?_)
  clear hba q0 q1 q2 q3 q4 q5 q6 q7 q8 q9 q10
  clear hK K
  (try simp only [Act.put, List.getElem_toArray, List.getElem_cons_zero, List.getElem_cons_succ, Array.getInternal_eq_getElem, List.setIfInBounds_toArray, List.set_cons_zero, List.set_cons_succ])
  refine wpAnyH_ready (rs := [2]) (by kernel_rfl) (by simp) ?_
  refine AllReadyH.cons rfl (fun K hK => ?_) AllReadyH.nil
  go_simp
  refine (rsame_any (P := bufP) _ ⟨_, _, rfl, (HP1.out.below hHeld.2).more hHeld.2.size⟩ ⟨_, _, rfl, HP5.out⟩ (Nat.le_refl _)).mono ?_
  rintro e wb ⟨rfl, hba⟩
  obtain ⟨q0, q1, q2, q3, q4, q5, q6, q7, q8, q9, q10⟩ := hHeld.1
  refine hK.out _ _ ⟨⟨kc hba q0, kc hba q1, kc hba q2, kc hba q3, kc hba q4, kc hba q5, kc hba q6, kc hba q7, kc hba q8, kc hba q9, kc hba q10⟩, chain hHeld.2 hba⟩ (fun hHeld => ?_)
  clear hba q0 q1 q2 q3 q4 q5 q6 q7 q8 q9 q10
  clear hK K
  (try simp only [Act.put, List.getElem_toArray, List.getElem_cons_zero, List.getElem_cons_succ, Array.getInternal_eq_getElem, List.setIfInBounds_toArray, List.set_cons_zero, List.set_cons_succ])
  refine wpAnyH_take (i := 3) (v := ?_) rfl (by kernel_rfl) (by kernel_rfl) (by kernel_rfl) (fun _ _ _ h => h) (Or.inl ⟨by rfl, ?_⟩) (by assumption) ?_
  rotate_left
  · intro w hSw; (try dsimp only at hSw); go_simp; (try with_reducible rfl)
  (try simp only [Act.put, List.getElem_toArray, List.getElem_cons_zero, List.getElem_cons_succ, Array.getInternal_eq_getElem, List.setIfInBounds_toArray, List.set_cons_zero, List.set_cons_succ])
  refine wpAnyH_take (i := 4) (v := ?_) rfl (by kernel_rfl) (by kernel_rfl) (by kernel_rfl) (fun _ _ _ h => h) (Or.inl ⟨by rfl, ?_⟩) (by assumption) ?_
  rotate_left
  · intro w hSw; (try dsimp only at hSw); go_simp; (try with_reducible rfl)
  (try simp only [Act.put, List.getElem_toArray, List.getElem_cons_zero, List.getElem_cons_succ, Array.getInternal_eq_getElem, List.setIfInBounds_toArray, List.set_cons_zero, List.set_cons_succ])
  refine wpAnyH_take (i := 5) (v := ?_) rfl (by kernel_rfl) (by kernel_rfl) (by kernel_rfl) (fun _ _ _ h => h) (Or.inl ⟨by rfl, ?_⟩) (by assumption) ?_
  rotate_left
  · intro w hSw; (try dsimp only at hSw); go_simp; (try with_reducible rfl)
  (try simp only [Act.put, List.getElem_toArray, List.getElem_cons_zero, List.getElem_cons_succ, Array.getInternal_eq_getElem, List.setIfInBounds_toArray, List.set_cons_zero, List.set_cons_succ])
  refine wpAnyH_take (i := 6) (v := ?_) rfl (by kernel_rfl) (by kernel_rfl) (by kernel_rfl) (fun _ _ _ h => h) (Or.inl ⟨by rfl, ?_⟩) (by assumption) ?_
  rotate_left
  · intro w hSw; (try dsimp only at hSw); go_simp; (try with_reducible rfl)
  (try simp only [Act.put, List.getElem_toArray, List.getElem_cons_zero, List.getElem_cons_succ, Array.getInternal_eq_getElem, List.setIfInBounds_toArray, List.set_cons_zero, List.set_cons_succ])
  refine wpAnyH_take (i := 7) (v := ?_) rfl (by kernel_rfl) (by kernel_rfl) (by kernel_rfl) (fun _ _ _ h => h) (Or.inl ⟨by rfl, ?_⟩) (by assumption) ?_
  rotate_left
  · intro w hSw; (try dsimp only at hSw); go_simp; (try with_reducible rfl)
  (try simp only [Act.put, List.getElem_toArray, List.getElem_cons_zero, List.getElem_cons_succ, Array.getInternal_eq_getElem, List.setIfInBounds_toArray, List.set_cons_zero, List.set_cons_succ])
  refine wpAnyH_take (i := 8) (v := ?_) rfl (by kernel_rfl) (by kernel_rfl) (by kernel_rfl) (fun _ _ _ h => h) (Or.inl ⟨by rfl, ?_⟩) (by assumption) ?_
  rotate_left
  · intro w hSw; (try dsimp only at hSw); go_simp; (try with_reducible rfl)
  (try simp only [Act.put, List.getElem_toArray, List.getElem_cons_zero, List.getElem_cons_succ, Array.getInternal_eq_getElem, List.setIfInBounds_toArray, List.set_cons_zero, List.set_cons_succ])
  refine wpAnyH_take (i := 9) (v := ?_) rfl (by kernel_rfl) (by kernel_rfl) (by kernel_rfl) (fun _ _ _ h => h) (Or.inl ⟨by rfl, ?_⟩) (by assumption) ?_
  rotate_left
  · intro w hSw; (try dsimp only at hSw); go_simp; (try with_reducible rfl)
  (try simp only [Act.put, List.getElem_toArray, List.getElem_cons_zero, List.getElem_cons_succ, Array.getInternal_eq_getElem, List.setIfInBounds_toArray, List.set_cons_zero, List.set_cons_succ])
  refine wpAnyH_ready (rs := [10]) (by kernel_rfl) (by simp) ?_
  refine AllReadyH.cons rfl (fun K hK => ?_) AllReadyH.nil
  go_simp
  refine (rsame_any (P := jmpP) _ ⟨_, _, rfl, (HP2.out.below hHeld.2).more hHeld.2.size⟩ ⟨_, _, rfl, (HP4.out.below hHeld.2).more hHeld.2.size⟩ (Nat.le_refl _)).mono ?_
  rintro e wc ⟨rfl, hba⟩
  obtain ⟨q0, q1, q2, q3, q4, q5, q6, q7, q8, q9, q10⟩ := hHeld.1
  refine hK.out _ _ ⟨⟨kc hba q0, kc hba q1, kc hba q2, kc hba q3, kc hba q4, kc hba q5, kc hba q6, kc hba q7, kc hba q8, kc hba q9, kc hba q10⟩, chain hHeld.2 hba⟩ (fun hHeld => ?_)
  clear hba q0 q1 q2 q3 q4 q5 q6 q7 q8 q9 q10
  clear hK K
  (try simp only [Act.put, List.getElem_toArray, List.getElem_cons_zero, List.getElem_cons_succ, Array.getInternal_eq_getElem, List.setIfInBounds_toArray, List.set_cons_zero, List.set_cons_succ])
  refine wpAnyH_take (i := 11) (v := ?_) rfl (by kernel_rfl) (by kernel_rfl) (by kernel_rfl) (fun _ _ _ h => h) (Or.inl ⟨by rfl, ?_⟩) (by assumption) ?_
  rotate_left
  · intro w hSw; (try dsimp only at hSw); go_simp; (try with_reducible rfl)
  (try simp only [Act.put, List.getElem_toArray, List.getElem_cons_zero, List.getElem_cons_succ, Array.getInternal_eq_getElem, List.setIfInBounds_toArray, List.set_cons_zero, List.set_cons_succ])
  refine wpAnyH_take (i := 12) (v := ?_) rfl (by kernel_rfl) (by kernel_rfl) (by kernel_rfl) (fun _ _ _ h => h) (Or.inl ⟨by rfl, ?_⟩) (by assumption) ?_
  rotate_left
  · intro w hSw; (try dsimp only at hSw); go_simp; (try with_reducible rfl)
  (try simp only [Act.put, List.getElem_toArray, List.getElem_cons_zero, List.getElem_cons_succ, Array.getInternal_eq_getElem, List.setIfInBounds_toArray, List.set_cons_zero, List.set_cons_succ])
  refine wpAnyH_take (i := 13) (v := ?_) rfl (by kernel_rfl) (by kernel_rfl) (by kernel_rfl) (fun _ _ _ h => h) (Or.inl ⟨by rfl, ?_⟩) (by assumption) ?_
  rotate_left
  · intro w hSw; (try dsimp only at hSw); go_simp; (try with_reducible rfl)
  (try simp only [Act.put, List.getElem_toArray, List.getElem_cons_zero, List.getElem_cons_succ, Array.getInternal_eq_getElem, List.setIfInBounds_toArray, List.set_cons_zero, List.set_cons_succ])
  refine wpAnyH_take (i := 14) (v := ?_) rfl (by kernel_rfl) (by kernel_rfl) (by kernel_rfl) (fun _ _ _ h => h) (Or.inl ⟨by rfl, ?_⟩) (by assumption) ?_
  rotate_left
  · intro w hSw; (try dsimp only at hSw); go_simp; (try with_reducible rfl)
  (try simp only [Act.put, List.getElem_toArray, List.getElem_cons_zero, List.getElem_cons_succ, Array.getInternal_eq_getElem, List.setIfInBounds_toArray, List.set_cons_zero, List.set_cons_succ])
  refine wpAnyH_take (i := 15) (v := ?_) rfl (by kernel_rfl) (by kernel_rfl) (by kernel_rfl) (fun _ _ _ h => h) (Or.inl ⟨by rfl, ?_⟩) (by assumption) ?_
  rotate_left
  · intro w hSw; (try dsimp only at hSw); go_simp; (try with_reducible rfl)
  (try simp only [Act.put, List.getElem_toArray, List.getElem_cons_zero, List.getElem_cons_succ, Array.getInternal_eq_getElem, List.setIfInBounds_toArray, List.set_cons_zero, List.set_cons_succ])
  refine wpAnyH_take (i := 16) (v := ?_) rfl (by kernel_rfl) (by kernel_rfl) (by kernel_rfl) (fun _ _ _ h => h) (Or.inl ⟨by rfl, ?_⟩) (by assumption) ?_
  rotate_left
  · intro w hSw; (try dsimp only at hSw); go_simp; (try with_reducible rfl)
  (try simp only [Act.put, List.getElem_toArray, List.getElem_cons_zero, List.getElem_cons_succ, Array.getInternal_eq_getElem, List.setIfInBounds_toArray, List.set_cons_zero, List.set_cons_succ])
  refine wpAnyH_take (i := 17) (v := ?_) rfl (by kernel_rfl) (by kernel_rfl) (by kernel_rfl) (fun _ _ _ h => h) (Or.inl ⟨by rfl, ?_⟩) (by assumption) ?_
  rotate_left
  · intro w hSw; (try dsimp only at hSw); go_simp; (try with_reducible rfl)
  (try simp only [Act.put, List.getElem_toArray, List.getElem_cons_zero, List.getElem_cons_succ, Array.getInternal_eq_getElem, List.setIfInBounds_toArray, List.set_cons_zero, List.set_cons_succ])
  refine wpAnyH_take (i := 18) (v := ?_) rfl (by kernel_rfl) (by kernel_rfl) (by kernel_rfl) (fun _ _ _ h => h) (Or.inl ⟨by rfl, ?_⟩) (by assumption) ?_
  rotate_left
  · intro w hSw; (try dsimp only at hSw); go_simp; (try with_reducible rfl)
  (try simp only [Act.put, List.getElem_toArray, List.getElem_cons_zero, List.getElem_cons_succ, Array.getInternal_eq_getElem, List.setIfInBounds_toArray, List.set_cons_zero, List.set_cons_succ])
  refine wpAnyH_take (i := 19) (v := ?_) rfl (by kernel_rfl) (by kernel_rfl) (by kernel_rfl) (fun _ _ _ h => h) (Or.inl ⟨by rfl, ?_⟩) (by assumption) ?_
  rotate_left
  · intro w hSw; (try dsimp only at hSw); go_simp; (try with_reducible rfl)
  (try simp only [Act.put, List.getElem_toArray, List.getElem_cons_zero, List.getElem_cons_succ, Array.getInternal_eq_getElem, List.setIfInBounds_toArray, List.set_cons_zero, List.set_cons_succ])
  refine wpAnyH_take (i := 20) (v := ?_) rfl (by kernel_rfl) (by kernel_rfl) (by kernel_rfl) (fun _ _ _ h => h) (Or.inl ⟨by rfl, ?_⟩) (by assumption) ?_
  rotate_left
  · intro w hSw; (try dsimp only at hSw); go_simp; (try with_reducible rfl)
  (try simp only [Act.put, List.getElem_toArray, List.getElem_cons_zero, List.getElem_cons_succ, Array.getInternal_eq_getElem, List.setIfInBounds_toArray, List.set_cons_zero, List.set_cons_succ])
  refine wpAnyH_take (i := 21) (v := ?_) rfl (by kernel_rfl) (by kernel_rfl) (by kernel_rfl) (fun _ _ _ h => h) (Or.inl ⟨by rfl, ?_⟩) (by assumption) ?_
  rotate_left
  · intro w hSw; (try dsimp only at hSw); go_simp; (try with_reducible rfl)
  (try simp only [Act.put, List.getElem_toArray, List.getElem_cons_zero, List.getElem_cons_succ, Array.getInternal_eq_getElem, List.setIfInBounds_toArray, List.set_cons_zero, List.set_cons_succ])
  refine wpAnyH_ready (rs := [22]) (by kernel_rfl) (by simp) ?_
  refine AllReadyH.cons rfl (fun K hK => ?_) AllReadyH.nil
  go_simp
  refine (HA3.out _ hHeld.2).mono ?_
  rintro e wa3 ⟨rfl, hba⟩
  obtain ⟨q0, q1, q2, q3, q4, q5, q6, q7, q8, q9, q10⟩ := hHeld.1
  refine hK.out _ _ ⟨⟨kc hba q0, kc hba q1, kc hba q2, kc hba q3, kc hba q4, kc hba q5, kc hba q6, kc hba q7, kc hba q8, kc hba q9, kc hba q10⟩, chain hHeld.2 hba⟩ (fun hHeld => ?_)
  clear hba q0 q1 q2 q3 q4 q5 q6 q7 q8 q9 q10
  clear hK K
  (try simp only [Act.put, List.getElem_toArray, List.getElem_cons_zero, List.getElem_cons_succ, Array.getInternal_eq_getElem, List.setIfInBounds_toArray, List.set_cons_zero, List.set_cons_succ])
  refine wpAnyH_take (i := 23) (v := ?_) rfl (by kernel_rfl) (by kernel_rfl) (by kernel_rfl) (fun _ _ _ h => h) (Or.inl ⟨by rfl, ?_⟩) (by assumption) ?_
  rotate_left
  · intro w hSw; (try dsimp only at hSw); go_simp; (try with_reducible rfl)
  (try simp only [Act.put, List.getElem_toArray, List.getElem_cons_zero, List.getElem_cons_succ, Array.getInternal_eq_getElem, List.setIfInBounds_toArray, List.set_cons_zero, List.set_cons_succ])
  refine wpAnyH_take (i := 24) (v := ?_) rfl (by kernel_rfl) (by kernel_rfl) (by kernel_rfl) (fun _ _ _ h => h) (Or.inl ⟨by rfl, ?_⟩) (by assumption) ?_
  rotate_left
  · intro w hSw; (try dsimp only at hSw); go_simp; (try with_reducible rfl)
  (try simp only [Act.put, List.getElem_toArray, List.getElem_cons_zero, List.getElem_cons_succ, Array.getInternal_eq_getElem, List.setIfInBounds_toArray, List.set_cons_zero, List.set_cons_succ])
  refine wpAnyH_take (i := 25) (v := ?_) rfl (by kernel_rfl) (by kernel_rfl) (by kernel_rfl) (fun _ _ _ h => h) (Or.inl ⟨by rfl, ?_⟩) (by assumption) ?_
  rotate_left
  · intro w hSw; (try dsimp only at hSw); go_simp; (try with_reducible rfl)
  (try simp only [Act.put, List.getElem_toArray, List.getElem_cons_zero, List.getElem_cons_succ, Array.getInternal_eq_getElem, List.setIfInBounds_toArray, List.set_cons_zero, List.set_cons_succ])
  refine wpAnyH_take (i := 26) (v := ?_) rfl (by kernel_rfl) (by kernel_rfl) (by kernel_rfl) (fun _ _ _ h => h) (Or.inl ⟨by rfl, ?_⟩) (by assumption) ?_
  rotate_left
  · intro w hSw; (try dsimp only at hSw); go_simp; (try with_reducible rfl)
  (try simp only [Act.put, List.getElem_toArray, List.getElem_cons_zero, List.getElem_cons_succ, Array.getInternal_eq_getElem, List.setIfInBounds_toArray, List.set_cons_zero, List.set_cons_succ])
  refine wpAnyH_ready (rs := [27]) (by kernel_rfl) (by simp) ?_
  refine AllReadyH.cons rfl (fun K hK => ?_) AllReadyH.nil
  go_simp
  refine (HA4.out _ hHeld.2).mono ?_
  rintro e wa4 ⟨rfl, hba⟩
  obtain ⟨q0, q1, q2, q3, q4, q5, q6, q7, q8, q9, q10⟩ := hHeld.1
  refine hK.out _ _ ⟨⟨kc hba q0, kc hba q1, kc hba q2, kc hba q3, kc hba q4, kc hba q5, kc hba q6, kc hba q7, kc hba q8, kc hba q9, kc hba q10⟩, chain hHeld.2 hba⟩ (fun hHeld => ?_)
  clear hba q0 q1 q2 q3 q4 q5 q6 q7 q8 q9 q10
  clear hK K
  (try simp only [Act.put, List.getElem_toArray, List.getElem_cons_zero, List.getElem_cons_succ, Array.getInternal_eq_getElem, List.setIfInBounds_toArray, List.set_cons_zero, List.set_cons_succ])
  refine wpAnyH_take (i := 28) (v := ?_) rfl (by kernel_rfl) (by kernel_rfl) (by kernel_rfl) (fun _ _ _ h => h) (Or.inl ⟨by rfl, ?_⟩) (by assumption) ?_
  rotate_left
  · intro w hSw; (try dsimp only at hSw); go_simp; (try with_reducible rfl)
  (try simp only [Act.put, List.getElem_toArray, List.getElem_cons_zero, List.getElem_cons_succ, Array.getInternal_eq_getElem, List.setIfInBounds_toArray, List.set_cons_zero, List.set_cons_succ])
  refine wpAnyH_take (i := 29) (v := ?_) rfl (by kernel_rfl) (by kernel_rfl) (by kernel_rfl) (fun _ _ _ h => h) (Or.inl ⟨by rfl, ?_⟩) (by assumption) ?_
  rotate_left
  · intro w hSw; (try dsimp only at hSw); go_simp; (try with_reducible rfl)
  (try simp only [Act.put, List.getElem_toArray, List.getElem_cons_zero, List.getElem_cons_succ, Array.getInternal_eq_getElem, List.setIfInBounds_toArray, List.set_cons_zero, List.set_cons_succ])
  refine wpAnyH_take (i := 30) (v := ?_) rfl (by kernel_rfl) (by kernel_rfl) (by kernel_rfl) (fun _ _ _ h => h) (Or.inl ⟨by rfl, ?_⟩) (by assumption) ?_
  rotate_left
  · intro w hSw; (try dsimp only at hSw); go_simp; (try with_reducible rfl)
  (try simp only [Act.put, List.getElem_toArray, List.getElem_cons_zero, List.getElem_cons_succ, Array.getInternal_eq_getElem, List.setIfInBounds_toArray, List.set_cons_zero, List.set_cons_succ])
  refine wpAnyH_take (i := 31) (v := ?_) rfl (by kernel_rfl) (by kernel_rfl) (by kernel_rfl) (fun _ _ _ h => h) (Or.inl ⟨by rfl, ?_⟩) (by assumption) ?_
  rotate_left
  · intro w hSw; (try dsimp only at hSw); go_simp; (try with_reducible rfl)
  (try simp only [Act.put, List.getElem_toArray, List.getElem_cons_zero, List.getElem_cons_succ, Array.getInternal_eq_getElem, List.setIfInBounds_toArray, List.set_cons_zero, List.set_cons_succ])
  refine wpAnyH_ready (rs := [32]) (by kernel_rfl) (by simp) ?_
  refine AllReadyH.cons rfl (fun K hK => ?_) AllReadyH.nil
  go_simp
  refine (HA5.out _ hHeld.2).mono ?_
  rintro e wa5 ⟨rfl, hba⟩
  obtain ⟨q0, q1, q2, q3, q4, q5, q6, q7, q8, q9, q10⟩ := hHeld.1
  refine hK.out _ _ ⟨⟨kc hba q0, kc hba q1, kc hba q2, kc hba q3, kc hba q4, kc hba q5, kc hba q6, kc hba q7, kc hba q8, kc hba q9, kc hba q10⟩, chain hHeld.2 hba⟩ (fun hHeld => ?_)
  clear hba q0 q1 q2 q3 q4 q5 q6 q7 q8 q9 q10
  clear hK K
  (try simp only [Act.put, List.getElem_toArray, List.getElem_cons_zero, List.getElem_cons_succ, Array.getInternal_eq_getElem, List.setIfInBounds_toArray, List.set_cons_zero, List.set_cons_succ])
  refine wpAnyH_take (i := 33) (v := ?_) rfl (by kernel_rfl) (by kernel_rfl) (by kernel_rfl) (fun _ _ _ h => h) (Or.inl ⟨by rfl, ?_⟩) (by assumption) ?_
  rotate_left
  · intro w hSw; (try dsimp only at hSw); go_simp; (try with_reducible rfl)
  (try simp only [Act.put, List.getElem_toArray, List.getElem_cons_zero, List.getElem_cons_succ, Array.getInternal_eq_getElem, List.setIfInBounds_toArray, List.set_cons_zero, List.set_cons_succ])
  refine wpAnyH_take (i := 34) (v := ?_) rfl (by kernel_rfl) (by kernel_rfl) (by kernel_rfl) (fun _ _ _ h => h) (Or.inl ⟨by rfl, ?_⟩) (by assumption) ?_
  rotate_left
  · intro w hSw; (try dsimp only at hSw); go_simp; (try with_reducible rfl)
  (try simp only [Act.put, List.getElem_toArray, List.getElem_cons_zero, List.getElem_cons_succ, Array.getInternal_eq_getElem, List.setIfInBounds_toArray, List.set_cons_zero, List.set_cons_succ])
  refine wpAnyH_take (i := 35) (v := ?_) rfl (by kernel_rfl) (by kernel_rfl) (by kernel_rfl) (fun _ _ _ h => h) (Or.inl ⟨by rfl, ?_⟩) (by assumption) ?_
  rotate_left
  · intro w hSw; (try dsimp only at hSw); go_simp; (try with_reducible rfl)
  (try simp only [Act.put, List.getElem_toArray, List.getElem_cons_zero, List.getElem_cons_succ, Array.getInternal_eq_getElem, List.setIfInBounds_toArray, List.set_cons_zero, List.set_cons_succ])
  refine wpAnyH_take (i := 36) (v := ?_) rfl (by kernel_rfl) (by kernel_rfl) (by kernel_rfl) (fun _ _ _ h => h) (Or.inl ⟨by rfl, ?_⟩) (by assumption) ?_
  rotate_left
  · intro w hSw; (try dsimp only at hSw); go_simp; (try with_reducible rfl)
  (try simp only [Act.put, List.getElem_toArray, List.getElem_cons_zero, List.getElem_cons_succ, Array.getInternal_eq_getElem, List.setIfInBounds_toArray, List.set_cons_zero, List.set_cons_succ])
  refine wpAnyH_ready (rs := [37]) (by kernel_rfl) (by simp) ?_
  refine AllReadyH.cons rfl (fun K hK => ?_) AllReadyH.nil
  go_simp
  refine (HL2.out _ hHeld.2).mono ?_
  rintro e wl2 ⟨rfl, hba⟩
  obtain ⟨q0, q1, q2, q3, q4, q5, q6, q7, q8, q9, q10⟩ := hHeld.1
  refine hK.out _ _ ⟨⟨kc hba q0, kc hba q1, kc hba q2, kc hba q3, kc hba q4, kc hba q5, kc hba q6, kc hba q7, kc hba q8, kc hba q9, kc hba q10⟩, chain hHeld.2 hba⟩ (fun hHeld => ?_)
  clear hba q0 q1 q2 q3 q4 q5 q6 q7 q8 q9 q10
  clear hK K
  (try simp only [Act.put, List.getElem_toArray, List.getElem_cons_zero, List.getElem_cons_succ, Array.getInternal_eq_getElem, List.setIfInBounds_toArray, List.set_cons_zero, List.set_cons_succ])
  refine wpAnyH_take (i := 38) (v := ?_) rfl (by kernel_rfl) (by kernel_rfl) (by kernel_rfl) (fun _ _ _ h => h) (Or.inl ⟨by rfl, ?_⟩) (by assumption) ?_
  rotate_left
  · intro w hSw; (try dsimp only at hSw); go_simp; (try with_reducible rfl)
  (try simp only [Act.put, List.getElem_toArray, List.getElem_cons_zero, List.getElem_cons_succ, Array.getInternal_eq_getElem, List.setIfInBounds_toArray, List.set_cons_zero, List.set_cons_succ])
  refine wpAnyH_take (i := 39) (v := ?_) rfl (by kernel_rfl) (by kernel_rfl) (by kernel_rfl) (fun _ _ _ h => h) (Or.inl ⟨by rfl, ?_⟩) (by assumption) ?_
  rotate_left
  · intro w hSw; (try dsimp only at hSw); go_simp; (try with_reducible rfl)
  (try simp only [Act.put, List.getElem_toArray, List.getElem_cons_zero, List.getElem_cons_succ, Array.getInternal_eq_getElem, List.setIfInBounds_toArray, List.set_cons_zero, List.set_cons_succ])
  refine wpAnyH_take (i := 40) (v := ?_) rfl (by kernel_rfl) (by kernel_rfl) (by kernel_rfl) (fun _ _ _ h => h) (Or.inl ⟨by rfl, ?_⟩) (by assumption) ?_
  rotate_left
  · intro w hSw; (try dsimp only at hSw); go_simp; (try with_reducible rfl)
  (try simp only [Act.put, List.getElem_toArray, List.getElem_cons_zero, List.getElem_cons_succ, Array.getInternal_eq_getElem, List.setIfInBounds_toArray, List.set_cons_zero, List.set_cons_succ])
  refine wpAnyH_take (i := 41) (v := ?_) rfl (by kernel_rfl) (by kernel_rfl) (by kernel_rfl) (fun _ _ _ h => h) (Or.inl ⟨by rfl, ?_⟩) (by assumption) ?_
  rotate_left
  · intro w hSw; (try dsimp only at hSw); go_simp; (try with_reducible rfl)
  (try simp only [Act.put, List.getElem_toArray, List.getElem_cons_zero, List.getElem_cons_succ, Array.getInternal_eq_getElem, List.setIfInBounds_toArray, List.set_cons_zero, List.set_cons_succ])
  refine wpAnyH_ready (rs := [42]) (by kernel_rfl) (by simp) ?_
  refine AllReadyH.cons rfl (fun K hK => ?_) AllReadyH.nil
  go_simp
  refine (HL3.out _ hHeld.2).mono ?_
  rintro e wl3 ⟨rfl, hba⟩
  obtain ⟨q0, q1, q2, q3, q4, q5, q6, q7, q8, q9, q10⟩ := hHeld.1
  refine hK.out _ _ ⟨⟨kc hba q0, kc hba q1, kc hba q2, kc hba q3, kc hba q4, kc hba q5, kc hba q6, kc hba q7, kc hba q8, kc hba q9, kc hba q10⟩, chain hHeld.2 hba⟩ (fun hHeld => ?_)
  clear hba q0 q1 q2 q3 q4 q5 q6 q7 q8 q9 q10
  clear hK K
  (try simp only [Act.put, List.getElem_toArray, List.getElem_cons_zero, List.getElem_cons_succ, Array.getInternal_eq_getElem, List.setIfInBounds_toArray, List.set_cons_zero, List.set_cons_succ])
  refine wpAnyH_take (i := 43) (v := ?_) rfl (by kernel_rfl) (by kernel_rfl) (by kernel_rfl) (fun _ _ _ h => h) (Or.inl ⟨by rfl, ?_⟩) (by assumption) ?_
  rotate_left
  · intro w hSw; (try dsimp only at hSw); go_simp; (try with_reducible rfl)
  (try simp only [Act.put, List.getElem_toArray, List.getElem_cons_zero, List.getElem_cons_succ, Array.getInternal_eq_getElem, List.setIfInBounds_toArray, List.set_cons_zero, List.set_cons_succ])
  refine wpAnyH_take (i := 44) (v := ?_) rfl (by kernel_rfl) (by kernel_rfl) (by kernel_rfl) (fun _ _ _ h => h) (Or.inl ⟨by rfl, ?_⟩) (by assumption) ?_
  rotate_left
  · intro w hSw; (try dsimp only at hSw); go_simp; (try with_reducible rfl)
  (try simp only [Act.put, List.getElem_toArray, List.getElem_cons_zero, List.getElem_cons_succ, Array.getInternal_eq_getElem, List.setIfInBounds_toArray, List.set_cons_zero, List.set_cons_succ])
  refine wpAnyH_take (i := 45) (v := ?_) rfl (by kernel_rfl) (by kernel_rfl) (by kernel_rfl) (fun _ _ _ h => h) (Or.inl ⟨by rfl, ?_⟩) (by assumption) ?_
  rotate_left
  · intro w hSw; (try dsimp only at hSw); go_simp; (try with_reducible rfl)
  (try simp only [Act.put, List.getElem_toArray, List.getElem_cons_zero, List.getElem_cons_succ, Array.getInternal_eq_getElem, List.setIfInBounds_toArray, List.set_cons_zero, List.set_cons_succ])
  refine wpAnyH_take (i := 46) (v := ?_) rfl (by kernel_rfl) (by kernel_rfl) (by kernel_rfl) (fun _ _ _ h => h) (Or.inl ⟨by rfl, ?_⟩) (by assumption) ?_
  rotate_left
  · intro w hSw; (try dsimp only at hSw); go_simp; (try with_reducible rfl)
  (try simp only [Act.put, List.getElem_toArray, List.getElem_cons_zero, List.getElem_cons_succ, Array.getInternal_eq_getElem, List.setIfInBounds_toArray, List.set_cons_zero, List.set_cons_succ])
  refine wpAnyH_ready (rs := [47]) (by kernel_rfl) (by simp) ?_
  refine AllReadyH.cons rfl (fun K hK => ?_) AllReadyH.nil
  go_simp
  refine (HR1.out _ hHeld.2).mono ?_
  rintro e wr1 ⟨rfl, hba⟩
  obtain ⟨q0, q1, q2, q3, q4, q5, q6, q7, q8, q9, q10⟩ := hHeld.1
  refine hK.out _ _ ⟨⟨kc hba q0, kc hba q1, kc hba q2, kc hba q3, kc hba q4, kc hba q5, kc hba q6, kc hba q7, kc hba q8, kc hba q9, kc hba q10⟩, chain hHeld.2 hba⟩ (fun hHeld => ?_)
  clear hba q0 q1 q2 q3 q4 q5 q6 q7 q8 q9 q10
  clear hK K
  (try simp only [Act.put, List.getElem_toArray, List.getElem_cons_zero, List.getElem_cons_succ, Array.getInternal_eq_getElem, List.setIfInBounds_toArray, List.set_cons_zero, List.set_cons_succ])
  refine wpAnyH_take (i := 48) (v := ?_) rfl (by kernel_rfl) (by kernel_rfl) (by kernel_rfl) (fun _ _ _ h => h) (Or.inl ⟨by rfl, ?_⟩) (by assumption) ?_
  rotate_left
  · intro w hSw; (try dsimp only at hSw); go_simp; (try with_reducible rfl)
  (try simp only [Act.put, List.getElem_toArray, List.getElem_cons_zero, List.getElem_cons_succ, Array.getInternal_eq_getElem, List.setIfInBounds_toArray, List.set_cons_zero, List.set_cons_succ])
  refine wpAnyH_take (i := 49) (v := ?_) rfl (by kernel_rfl) (by kernel_rfl) (by kernel_rfl) (fun _ _ _ h => h) (Or.inl ⟨by rfl, ?_⟩) (by assumption) ?_
  rotate_left
  · intro w hSw; (try dsimp only at hSw); go_simp; (try with_reducible rfl)
  (try simp only [Act.put, List.getElem_toArray, List.getElem_cons_zero, List.getElem_cons_succ, Array.getInternal_eq_getElem, List.setIfInBounds_toArray, List.set_cons_zero, List.set_cons_succ])
  refine wpAnyH_take (i := 50) (v := ?_) rfl (by kernel_rfl) (by kernel_rfl) (by kernel_rfl) (fun _ _ _ h => h) (Or.inl ⟨by rfl, ?_⟩) (by assumption) ?_
  rotate_left
  · intro w hSw; (try dsimp only at hSw); go_simp; (try with_reducible rfl)
  (try simp only [Act.put, List.getElem_toArray, List.getElem_cons_zero, List.getElem_cons_succ, Array.getInternal_eq_getElem, List.setIfInBounds_toArray, List.set_cons_zero, List.set_cons_succ])
  refine wpAnyH_ready (rs := [51]) (by kernel_rfl) (by simp) ?_
  refine AllReadyH.cons rfl (fun K hK => ?_) AllReadyH.nil
  go_simp
  refine (HR2.out _ hHeld.2).mono ?_
  rintro e wr2 ⟨rfl, hba⟩
  obtain ⟨q0, q1, q2, q3, q4, q5, q6, q7, q8, q9, q10⟩ := hHeld.1
  refine hK.out _ _ ⟨⟨kc hba q0, kc hba q1, kc hba q2, kc hba q3, kc hba q4, kc hba q5, kc hba q6, kc hba q7, kc hba q8, kc hba q9, kc hba q10⟩, chain hHeld.2 hba⟩ (fun hHeld => ?_)
  clear hba q0 q1 q2 q3 q4 q5 q6 q7 q8 q9 q10
  clear hK K
  (try simp only [Act.put, List.getElem_toArray, List.getElem_cons_zero, List.getElem_cons_succ, Array.getInternal_eq_getElem, List.setIfInBounds_toArray, List.set_cons_zero, List.set_cons_succ])
  refine wpAnyH_take (i := 52) (v := ?_) rfl (by kernel_rfl) (by kernel_rfl) (by kernel_rfl) (fun _ _ _ h => h) (Or.inl ⟨by rfl, ?_⟩) (by assumption) ?_
  rotate_left
  · intro w hSw; (try dsimp only at hSw); go_simp; (try with_reducible rfl)
  (try simp only [Act.put, List.getElem_toArray, List.getElem_cons_zero, List.getElem_cons_succ, Array.getInternal_eq_getElem, List.setIfInBounds_toArray, List.set_cons_zero, List.set_cons_succ])
  refine wpAnyH_take (i := 53) (v := ?_) rfl (by kernel_rfl) (by kernel_rfl) (by kernel_rfl) (fun _ _ _ h => h) (Or.inl ⟨by rfl, ?_⟩) (by assumption) ?_
  rotate_left
  · intro w hSw; (try dsimp only at hSw); go_simp; (try with_reducible rfl)
  (try simp only [Act.put, List.getElem_toArray, List.getElem_cons_zero, List.getElem_cons_succ, Array.getInternal_eq_getElem, List.setIfInBounds_toArray, List.set_cons_zero, List.set_cons_succ])
  refine wpAnyH_ready (rs := [54]) (by kernel_rfl) (by simp) ?_
  refine AllReadyH.cons rfl (fun K hK => ?_) AllReadyH.nil
  go_simp
  refine hK.out _ _ hHeld (fun hHeld => ?_)
  clear hK K
  (try simp only [Act.put, List.getElem_toArray, List.getElem_cons_zero, List.getElem_cons_succ, Array.getInternal_eq_getElem, List.setIfInBounds_toArray, List.set_cons_zero, List.set_cons_succ])
  refine wpAnyH_done (by kernel_rfl) ?_ _
  go_wp2
  go_ret
  exact ⟨rfl, chain hB9 hHeld.2⟩
end Go.Proofs.YtaelfjphgdlbcaaGreatDoor
