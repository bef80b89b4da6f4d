/-
  THE LIVE QUESTION OF LAYER 3 (head), over any world that holds the registers.
-/
import Derived.Test.YtlfngcekbffngaaDoorLawK
import Derived.OpenShut
namespace Go.Proofs.YtlfngcekbffngaaDoor
open Go.RowKit
set_option linter.unusedVariables false
set_option linter.unusedSimpArgs false
open WordM (L)

theorem get_lit (w : World) (hr : Regs w) (ls : List L) (T : TypeId) {g : Nat} (hg : g = w.heap.size) (hl : ls.length ≤ 9) (hs : ∀ l ∈ ls, l.length ≤ 1000) {n : Nat} (hn : n = ls.length) {cs : Array Value} (hcs : cs = (svs ls).toArray) :
    Calls Tryd.prog 12 #[.slice (some ⟨g, 0, none⟩) n n] (w.alloc (.cells cs T)) fun e w' => e = .returned (.tuple #[lnw (OpsM.get ls).1, .bool (OpsM.get ls).2]) ∧ Below w.heap.size w w' := by
  subst hg; subst hn; subst hcs
  exact (opget_any _ (hr.below ((Below.refl _ _).alloc (Nat.le_refl _) _)) (strs_lit w ls T (by unfold maxLen; omega)) (by simp) (fun l h => Nat.le_trans (hs l h) (by omega))).mono fun e w' ⟨h1, h2⟩ => ⟨h1, box_below h2⟩
def boxO1 : Obj := .cells #[.int .i64 4, .string ⟨#[]⟩, .string ⟨#[120]⟩, .string ⟨#[]⟩, .int .i64 5] 23
theorem ga1 : lnw (OpsM.get [[109, 111, 118], [91, 120, 93], [53]]).1 = .agg #[.int .i64 4, .string ⟨#[]⟩, .string ⟨#[120]⟩, .string ⟨#[]⟩, .int .i64 5] := by kernel_rfl
theorem gb1 : (OpsM.get [[109, 111, 118], [91, 120, 93], [53]]).2 = true := by kernel_rfl
def boxO2 : Obj := .cells #[.int .i64 2, .string ⟨#[101, 98, 120]⟩, .string ⟨#[121]⟩, .string ⟨#[]⟩, .int .i64 0] 23
theorem ga2 : lnw (OpsM.get [[109, 111, 118], [101, 98, 120], [91, 121, 93]]).1 = .agg #[.int .i64 2, .string ⟨#[101, 98, 120]⟩, .string ⟨#[121]⟩, .string ⟨#[]⟩, .int .i64 0] := by kernel_rfl
theorem gb2 : (OpsM.get [[109, 111, 118], [101, 98, 120], [91, 121, 93]]).2 = true := by kernel_rfl
def boxO3 : Obj := .cells #[.int .i64 11, .string ⟨#[]⟩, .string ⟨#[]⟩, .string ⟨#[108]⟩, .int .i64 0] 23
theorem ga3 : lnw (OpsM.get [[108, 58]]).1 = .agg #[.int .i64 11, .string ⟨#[]⟩, .string ⟨#[]⟩, .string ⟨#[108]⟩, .int .i64 0] := by kernel_rfl
theorem gb3 : (OpsM.get [[108, 58]]).2 = true := by kernel_rfl
def boxO4 : Obj := .cells #[.int .i64 0, .string ⟨#[]⟩, .string ⟨#[]⟩, .string ⟨#[]⟩, .int .i64 0] 23
theorem ga4 : lnw (OpsM.get [[109, 111, 118], [91, 120, 93], [91, 121, 93]]).1 = .agg #[.int .i64 0, .string ⟨#[]⟩, .string ⟨#[]⟩, .string ⟨#[]⟩, .int .i64 0] := by kernel_rfl
theorem gb4 : (OpsM.get [[109, 111, 118], [91, 120, 93], [91, 121, 93]]).2 = false := by kernel_rfl
theorem ga5 : atw (AtomM.atom (⟨#[49, 58, 101, 99, 120, 61, 45, 51]⟩ : ByteArray).data.toList).1 = .agg #[.int .i64 (1), .string ⟨#[101, 99, 120]⟩, .int .i64 (-3)] := by kernel_rfl
theorem gb5 : (AtomM.atom (⟨#[49, 58, 101, 99, 120, 61, 45, 51]⟩ : ByteArray).data.toList).2 = true := by kernel_rfl
def boxO5 : Obj := .cells #[.int .i64 (1), .string ⟨#[101, 99, 120]⟩, .int .i64 (-3)] 26
theorem ga6 : atw (AtomM.atom (⟨#[49, 58, 120, 61, 51]⟩ : ByteArray).data.toList).1 = .agg #[.int .i64 (0), .string ⟨#[]⟩, .int .i64 (0)] := by kernel_rfl
theorem gb6 : (AtomM.atom (⟨#[49, 58, 120, 61, 51]⟩ : ByteArray).data.toList).2 = false := by kernel_rfl
def boxO6 : Obj := .cells #[.int .i64 (0), .string ⟨#[]⟩, .int .i64 (0)] 26
theorem hw1 : OpsM.words 5 (⟨#[101, 100, 120]⟩ : ByteArray).data.toList (⟨#[120]⟩ : ByteArray).data.toList (⟨#[]⟩ : ByteArray).data.toList 0 = [[120, 99, 104, 103], [91, 120, 93], [101, 100, 120]] := by decide +kernel
theorem hw2 : OpsM.words 0 (⟨#[]⟩ : ByteArray).data.toList (⟨#[]⟩ : ByteArray).data.toList (⟨#[]⟩ : ByteArray).data.toList 0 = [] := by decide +kernel
theorem hw3 : OpsM.right 4 (⟨#[]⟩ : ByteArray).data.toList (⟨#[120]⟩ : ByteArray).data.toList (⟨#[]⟩ : ByteArray).data.toList 5 = true := by decide +kernel
theorem hw4 : OpsM.right 6 (⟨#[]⟩ : ByteArray).data.toList (⟨#[]⟩ : ByteArray).data.toList (⟨#[]⟩ : ByteArray).data.toList 1 = false := by decide +kernel
theorem hw5 : AtomM.word 1 (⟨#[101, 99, 120]⟩ : ByteArray).data.toList (-3) = [49, 58, 101, 99, 120, 61, 45, 51] := by decide +kernel
theorem hw6 : AtomM.word 3 (⟨#[101, 97, 120]⟩ : ByteArray).data.toList 0 = [] := by decide +kernel
theorem hw7 : AtomM.asked 1 (⟨#[101, 99, 120]⟩ : ByteArray).data.toList = true := by decide +kernel
theorem hw8 : AtomM.asked 0 (⟨#[]⟩ : ByteArray).data.toList = false := by decide +kernel

set_option maxHeartbeats 8000000 in
set_option maxRecDepth 100000 in
theorem head_any (w : World) (hr : Regs w) :
    Calls Tryd.prog 9 #[] w fun e w' => e = .returned (.bool true) ∧ Below w.heap.size w w' := by
  have HR := Lib.hid hr
  clear hr
  have hB := Below.refl w.heap.size w
  go_enter Tryd.func9, Tryd.ntmps9
  go_wp2_with fail
  refine (get_lit _ (HR.out.below hB) [[109, 111, 118], [91, 120, 93], [53]] _ (by simp) (by decide) (by decide) rfl rfl).mono ?_
  rw [ga1, gb1]
  rintro e w1 ⟨rfl, h1⟩
  replace hB := chain hB h1
  clear h1
  replace hB := hB.alloc hB.size (boxO1)
  have ba := LnBox.new w1 4 5 ⟨#[]⟩ ⟨#[120]⟩ ⟨#[]⟩ 23
  go_wp2_with fail
  refine (get_lit _ (HR.out.below hB) [[109, 111, 118], [101, 98, 120], [91, 121, 93]] _ (by simp) (by decide) (by decide) rfl rfl).mono ?_
  rw [ga2, gb2]
  rintro e w2 ⟨rfl, h2⟩
  replace ba := ba.below h2
  replace hB := chain hB h2
  clear h2
  replace ba := ba.alloc (boxO2)
  replace hB := hB.alloc hB.size (boxO2)
  have bb := LnBox.new w2 2 0 ⟨#[101, 98, 120]⟩ ⟨#[121]⟩ ⟨#[]⟩ 23
  go_wp2_with fail
  refine (get_lit _ (HR.out.below hB) [[108, 58]] _ (by simp) (by decide) (by decide) rfl rfl).mono ?_
  rw [ga3, gb3]
  rintro e w3 ⟨rfl, h3⟩
  replace ba := ba.below h3
  replace bb := bb.below h3
  replace hB := chain hB h3
  clear h3
  replace ba := ba.alloc (boxO3)
  replace bb := bb.alloc (boxO3)
  replace hB := hB.alloc hB.size (boxO3)
  have bc := LnBox.new w3 11 0 ⟨#[]⟩ ⟨#[]⟩ ⟨#[108]⟩ 23
  go_wp2_with fail
  refine (get_lit _ (HR.out.below hB) [[109, 111, 118], [91, 120, 93], [91, 121, 93]] _ (by simp) (by decide) (by decide) rfl rfl).mono ?_
  rw [ga4, gb4]
  rintro e w4 ⟨rfl, h4⟩
  replace ba := ba.below h4
  replace bb := bb.below h4
  replace bc := bc.below h4
  replace hB := chain hB h4
  clear h4
  replace ba := ba.alloc (boxO4)
  replace bb := bb.alloc (boxO4)
  replace bc := bc.alloc (boxO4)
  replace hB := hB.alloc hB.size (boxO4)
  go_wp2_with fail
  refine (atom_any _ _ (HR.out.below hB) (by decide)).mono ?_
  rw [ga5, gb5]
  rintro e w5 ⟨rfl, h5⟩
  replace ba := ba.below h5
  replace bb := bb.below h5
  replace bc := bc.below h5
  replace hB := chain hB h5
  clear h5
  replace ba := ba.alloc (boxO5)
  replace bb := bb.alloc (boxO5)
  replace bc := bc.alloc (boxO5)
  replace hB := hB.alloc hB.size (boxO5)
  have bd := AtBox.new w5 (1) (-3) ⟨#[101, 99, 120]⟩ 26
  go_wp2_with fail
  refine (atom_any _ _ (HR.out.below hB) (by decide)).mono ?_
  rw [ga6, gb6]
  rintro e w6 ⟨rfl, h6⟩
  replace ba := ba.below h6
  replace bb := bb.below h6
  replace bc := bc.below h6
  replace bd := bd.below h6
  replace hB := chain hB h6
  clear h6
  change LnBox _ _ _ _ _ _ _ at ba
  change LnBox _ _ _ _ _ _ _ at bb
  change LnBox _ _ _ _ _ _ _ at bc
  change AtBox _ _ _ _ _ at bd
  have Hba := Lib.hid ba
  clear ba
  have Hbb := Lib.hid bb
  clear bb
  have Hbc := Lib.hid bc
  clear bc
  have Hbd := Lib.hid bd
  clear bd
  obtain ⟨ba0, ba1, ba2, ba3, ba4⟩ := Hba.out
  have zba := lt_of_cell ba0
  obtain ⟨bb0, bb1, bb2, bb3, bb4⟩ := Hbb.out
  have zbb := lt_of_cell bb0
  obtain ⟨bc0, bc1, bc2, bc3, bc4⟩ := Hbc.out
  have zbc := lt_of_cell bc0
  obtain ⟨bd0, bd1, bd2⟩ := Hbd.out
  have zbd := lt_of_cell bd0
  go_wp2_with fail
  refine (lwords_any 5 0 ⟨#[101, 100, 120]⟩ ⟨#[120]⟩ ⟨#[]⟩ _ (HR.out.below (hB.alloc hB.size boxO6)) NumM.inR_zero (by decide) (by decide)).mono ?_
  rw [hw1]
  rintro e w10 ⟨u10, rfl, ho, hb⟩
  clear ba0 ba1 ba2 ba3 ba4
  clear bb0 bb1 bb2 bb3 bb4
  clear bc0 bc1 bc2 bc3 bc4
  clear bd0 bd1 bd2
  clear zba zbb zbc zbd
  replace Hba := Lib.hid ((Hba.out.alloc boxO6).below hb)
  replace Hbb := Lib.hid ((Hbb.out.alloc boxO6).below hb)
  replace Hbc := Lib.hid ((Hbc.out.alloc boxO6).below hb)
  replace Hbd := Lib.hid ((Hbd.out.alloc boxO6).below hb)
  replace hB := chain (hB.alloc hB.size boxO6) hb
  clear hb
  obtain ⟨ba0, ba1, ba2, ba3, ba4⟩ := Hba.out
  obtain ⟨bb0, bb1, bb2, bb3, bb4⟩ := Hbb.out
  obtain ⟨bc0, bc1, bc2, bc3, bc4⟩ := Hbc.out
  obtain ⟨bd0, bd1, bd2⟩ := Hbd.out
  go_wp2_with fail
  refine (same_lit ho).mono ?_
  rintro e w11 ⟨rfl, hb⟩
  clear ba0 ba1 ba2 ba3 ba4
  clear bb0 bb1 bb2 bb3 bb4
  clear bc0 bc1 bc2 bc3 bc4
  clear bd0 bd1 bd2
  replace Hba := Lib.hid (Hba.out.below hb)
  replace Hbb := Lib.hid (Hbb.out.below hb)
  replace Hbc := Lib.hid (Hbc.out.below hb)
  replace Hbd := Lib.hid (Hbd.out.below hb)
  replace hB := chain hB hb
  clear hb
  obtain ⟨ba0, ba1, ba2, ba3, ba4⟩ := Hba.out
  obtain ⟨bb0, bb1, bb2, bb3, bb4⟩ := Hbb.out
  obtain ⟨bc0, bc1, bc2, bc3, bc4⟩ := Hbc.out
  obtain ⟨bd0, bd1, bd2⟩ := Hbd.out
  clear ho
  go_wp2_with fail
  refine (lwords_any 0 0 ⟨#[]⟩ ⟨#[]⟩ ⟨#[]⟩ _ (HR.out.below hB) NumM.inR_zero (by decide) (by decide)).mono ?_
  rw [hw2]
  rintro e w12 ⟨u12, rfl, ho, hb⟩
  obtain ⟨A12, c12, rfl, _, _, _⟩ := strs_own ho
  clear ho
  clear ba0 ba1 ba2 ba3 ba4
  clear bb0 bb1 bb2 bb3 bb4
  clear bc0 bc1 bc2 bc3 bc4
  clear bd0 bd1 bd2
  replace Hba := Lib.hid (Hba.out.below hb)
  replace Hbb := Lib.hid (Hbb.out.below hb)
  replace Hbc := Lib.hid (Hbc.out.below hb)
  replace Hbd := Lib.hid (Hbd.out.below hb)
  replace hB := chain hB hb
  clear hb
  obtain ⟨ba0, ba1, ba2, ba3, ba4⟩ := Hba.out
  obtain ⟨bb0, bb1, bb2, bb3, bb4⟩ := Hbb.out
  obtain ⟨bc0, bc1, bc2, bc3, bc4⟩ := Hbc.out
  obtain ⟨bd0, bd1, bd2⟩ := Hbd.out
  go_wp2_with fail
  refine (right_any 4 5 ⟨#[]⟩ ⟨#[120]⟩ ⟨#[]⟩ _ (HR.out.below hB)).mono ?_
  rw [hw3]
  rintro e w13 ⟨rfl, hb⟩
  clear ba0 ba1 ba2 ba3 ba4
  clear bb0 bb1 bb2 bb3 bb4
  clear bc0 bc1 bc2 bc3 bc4
  clear bd0 bd1 bd2
  replace Hba := Lib.hid (Hba.out.below hb)
  replace Hbb := Lib.hid (Hbb.out.below hb)
  replace Hbc := Lib.hid (Hbc.out.below hb)
  replace Hbd := Lib.hid (Hbd.out.below hb)
  replace hB := chain hB hb
  clear hb
  obtain ⟨ba0, ba1, ba2, ba3, ba4⟩ := Hba.out
  obtain ⟨bb0, bb1, bb2, bb3, bb4⟩ := Hbb.out
  obtain ⟨bc0, bc1, bc2, bc3, bc4⟩ := Hbc.out
  obtain ⟨bd0, bd1, bd2⟩ := Hbd.out
  go_wp2_with fail
  refine (right_any 6 1 ⟨#[]⟩ ⟨#[]⟩ ⟨#[]⟩ _ (HR.out.below hB)).mono ?_
  rw [hw4]
  rintro e w14 ⟨rfl, hb⟩
  clear ba0 ba1 ba2 ba3 ba4
  clear bb0 bb1 bb2 bb3 bb4
  clear bc0 bc1 bc2 bc3 bc4
  clear bd0 bd1 bd2
  replace Hba := Lib.hid (Hba.out.below hb)
  replace Hbb := Lib.hid (Hbb.out.below hb)
  replace Hbc := Lib.hid (Hbc.out.below hb)
  replace Hbd := Lib.hid (Hbd.out.below hb)
  replace hB := chain hB hb
  clear hb
  obtain ⟨ba0, ba1, ba2, ba3, ba4⟩ := Hba.out
  obtain ⟨bb0, bb1, bb2, bb3, bb4⟩ := Hbb.out
  obtain ⟨bc0, bc1, bc2, bc3, bc4⟩ := Hbc.out
  obtain ⟨bd0, bd1, bd2⟩ := Hbd.out
  go_wp2_with fail
  refine (aword_any 1 (-3) ⟨#[101, 99, 120]⟩ _ (HR.out.below hB) (by unfold NumM.inR; decide) (by decide)).mono ?_
  rw [hw5]
  rintro e w15 ⟨rfl, hb⟩
  clear ba0 ba1 ba2 ba3 ba4
  clear bb0 bb1 bb2 bb3 bb4
  clear bc0 bc1 bc2 bc3 bc4
  clear bd0 bd1 bd2
  replace Hba := Lib.hid (Hba.out.below hb)
  replace Hbb := Lib.hid (Hbb.out.below hb)
  replace Hbc := Lib.hid (Hbc.out.below hb)
  replace Hbd := Lib.hid (Hbd.out.below hb)
  replace hB := chain hB hb
  clear hb
  obtain ⟨ba0, ba1, ba2, ba3, ba4⟩ := Hba.out
  obtain ⟨bb0, bb1, bb2, bb3, bb4⟩ := Hbb.out
  obtain ⟨bc0, bc1, bc2, bc3, bc4⟩ := Hbc.out
  obtain ⟨bd0, bd1, bd2⟩ := Hbd.out
  go_wp2_with fail
  refine (aword_any 3 0 ⟨#[101, 97, 120]⟩ _ (HR.out.below hB) NumM.inR_zero (by decide)).mono ?_
  rw [hw6]
  rintro e w16 ⟨rfl, hb⟩
  clear ba0 ba1 ba2 ba3 ba4
  clear bb0 bb1 bb2 bb3 bb4
  clear bc0 bc1 bc2 bc3 bc4
  clear bd0 bd1 bd2
  replace Hba := Lib.hid (Hba.out.below hb)
  replace Hbb := Lib.hid (Hbb.out.below hb)
  replace Hbc := Lib.hid (Hbc.out.below hb)
  replace Hbd := Lib.hid (Hbd.out.below hb)
  replace hB := chain hB hb
  clear hb
  obtain ⟨ba0, ba1, ba2, ba3, ba4⟩ := Hba.out
  obtain ⟨bb0, bb1, bb2, bb3, bb4⟩ := Hbb.out
  obtain ⟨bc0, bc1, bc2, bc3, bc4⟩ := Hbc.out
  obtain ⟨bd0, bd1, bd2⟩ := Hbd.out
  go_wp2_with fail
  refine (asked_any 1 (-3) ⟨#[101, 99, 120]⟩ _ (HR.out.below hB)).mono ?_
  rw [hw7]
  rintro e w17 ⟨rfl, hb⟩
  clear ba0 ba1 ba2 ba3 ba4
  clear bb0 bb1 bb2 bb3 bb4
  clear bc0 bc1 bc2 bc3 bc4
  clear bd0 bd1 bd2
  replace Hba := Lib.hid (Hba.out.below hb)
  replace Hbb := Lib.hid (Hbb.out.below hb)
  replace Hbc := Lib.hid (Hbc.out.below hb)
  replace Hbd := Lib.hid (Hbd.out.below hb)
  replace hB := chain hB hb
  clear hb
  obtain ⟨ba0, ba1, ba2, ba3, ba4⟩ := Hba.out
  obtain ⟨bb0, bb1, bb2, bb3, bb4⟩ := Hbb.out
  obtain ⟨bc0, bc1, bc2, bc3, bc4⟩ := Hbc.out
  obtain ⟨bd0, bd1, bd2⟩ := Hbd.out
  go_wp2_with fail
  refine (asked_any 0 0 ⟨#[]⟩ _ (HR.out.below hB)).mono ?_
  rw [hw8]
  rintro e w18 ⟨rfl, hb⟩
  clear ba0 ba1 ba2 ba3 ba4
  clear bb0 bb1 bb2 bb3 bb4
  clear bc0 bc1 bc2 bc3 bc4
  clear bd0 bd1 bd2
  replace Hba := Lib.hid (Hba.out.below hb)
  replace Hbb := Lib.hid (Hbb.out.below hb)
  replace Hbc := Lib.hid (Hbc.out.below hb)
  replace Hbd := Lib.hid (Hbd.out.below hb)
  replace hB := chain hB hb
  clear hb
  obtain ⟨ba0, ba1, ba2, ba3, ba4⟩ := Hba.out
  obtain ⟨bb0, bb1, bb2, bb3, bb4⟩ := Hbb.out
  obtain ⟨bc0, bc1, bc2, bc3, bc4⟩ := Hbc.out
  obtain ⟨bd0, bd1, bd2⟩ := Hbd.out
  go_wp2
  go_ret
  exact ⟨rfl, hB⟩
end Go.Proofs.YtlfngcekbffngaaDoor
