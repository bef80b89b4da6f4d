/-
  PLAIN MATHEMATICS OF LAYER 6: a program's text.
  APPEND AS ONE STEP OF A DRAWN REGION: a source that may be nil, onto a row of the call's own. Of no program.
  show.initWords: the words of a program's init.
  show.endWords: the words of a program's end.
  (*show.text).thread: a thread's lines are put to a text.
  show.Print: a right program's text; an empty one of another.
  show.Line: a line's words, with blanks between.
-/
import Derived.Test.YtkkjodjachbifaaGreatDoorTxt
import Derived.Test.YtkkjodjachbifaaGreatDoorLms
import Derived.Test.YtkkjodjachbifaaGreatDoorOpsA
import Derived.Test.YtkkjodjachbifaaGreatDoorAtW
import Derived.Test.YtkkjodjachbifaaGreatDoorOpsN
import Derived.Test.YtkkjodjachbifaaGreatDoorCheck
import Derived.Laws.AppendOwnNone
import Derived.Laws.OwnMore
import Derived.Deep.AppendLies
import Derived.WalkKit
import Derived.Deep.RegionHeld3
import Derived.Test.YtkkjodjachbifaaGreatDoorVMm
namespace Go.Proofs.YtkkjodjachbifaaGreatDoor
open Go.RowKit
set_option linter.unusedVariables false
set_option linter.unusedSimpArgs false
open WordM (L)
open VM

def kinit : L := [105, 110, 105, 116]
def kx86 : L := [120, 56, 54]
def kthread : L := [116, 104, 114, 101, 97, 100]
def kexists : L := [101, 120, 105, 115, 116, 115]
def kforall : L := [102, 111, 114, 97, 108, 108]
def initW (cs : List (L × Int)) : List L := kinit :: (cs.map (fun c => [c.1, NumM.text c.2])).flatten
def endW (al : Bool) (am : List AtomM.At) : List L := (if al then kforall else kexists) :: am.map AtomM.wordA
def lnsTx (ls : List OpsM.Ln) : L := (ls.map (fun x => lineTx (OpsM.wordsL x))).flatten
def thrTx (ls : List OpsM.Ln) : L := lineTx [kthread] ++ lnsTx ls
def thsTx (ts : List (List OpsM.Ln)) : L := (ts.map thrTx).flatten
def printR (F : Fl) : L := lineTx [kx86, F.name] ++ lineTx (initW F.init) ++ thsTx F.ths ++ lineTx (endW F.all F.cond)
def printL (F : Fl) : L := if VM.right F then printR F else []
def lineS (x : OpsM.Ln) : L := joinL (OpsM.wordsL x)
/-- The numbers of a program are numbers. -/
structure Nums (F : Fl) : Prop where
  init : ∀ c ∈ F.init, NumM.inR c.2
  ths : ∀ ls ∈ F.ths, ∀ l ∈ ls, NumM.inR l.n
  cond : ∀ a ∈ F.cond, NumM.inR a.t ∧ NumM.inR a.n
theorem initW_take (cs : List (L × Int)) (k : Nat) (h : k < cs.length) : initW (cs.take (k + 1)) = initW (cs.take k) ++ [cs[k].1, NumM.text cs[k].2] := by
  unfold initW
  rw [List.take_succ_eq_append_getElem h, List.map_append, List.flatten_append]; simp
theorem initW_len (cs : List (L × Int)) : (initW cs).length = 1 + cs.length * 2 := by
  unfold initW
  rw [List.length_cons]
  have : ∀ cs : List (L × Int), ((cs.map (fun c => [c.1, NumM.text c.2])).flatten).length = cs.length * 2 := by
    intro cs
    induction cs with
    | nil => rfl
    | cons x r ih => simp only [List.map_cons, List.flatten_cons, List.length_append, ih, List.length_cons, List.length_nil]; omega
  rw [this]; omega
theorem initW_words {cs : List (L × Int)} (h1 : ∀ c ∈ cs, c.1.length ≤ 100000) (h2 : ∀ c ∈ cs, NumM.inR c.2) : ∀ x ∈ initW cs, x.length ≤ 100000 := by
  intro x hx
  rcases List.mem_cons.1 hx with h | h
  · subst h; decide
  · obtain ⟨l, hl, hxl⟩ := List.mem_flatten.1 h
    obtain ⟨c, hc, rfl⟩ := List.mem_map.1 hl
    simp only [List.mem_cons, List.not_mem_nil, or_false] at hxl
    rcases hxl with rfl | rfl
    · exact h1 c hc
    · have := NumM.text_len c.2 (h2 c hc); omega
theorem endW_take (al : Bool) (am : List AtomM.At) (k : Nat) (h : k < am.length) : endW al (am.take (k + 1)) = endW al (am.take k) ++ [AtomM.wordA am[k]] := by
  unfold endW
  rw [List.take_succ_eq_append_getElem h, List.map_append]; simp
theorem endW_len (al : Bool) (am : List AtomM.At) : (endW al am).length = 1 + am.length := by
  unfold endW; rw [List.length_cons, List.length_map]; omega
theorem wordA_len {a : AtomM.At} (h1 : a.nm.length ≤ 99000) (h2 : NumM.inR a.t) (h3 : NumM.inR a.n) : (AtomM.wordA a).length ≤ 100000 := by
  have t1 := NumM.text_len a.t h2
  have t2 := NumM.text_len a.n h3
  unfold AtomM.wordA AtomM.word AtomM.wordR
  by_cases c : AtomM.asked a.t a.nm = true
  · rw [if_pos c]
    by_cases e : a.t = -1
    · rw [if_pos e, List.length_append, List.length_cons]; omega
    · rw [if_neg e, List.length_append, List.length_cons, List.length_append, List.length_cons]; omega
  · rw [if_neg c]; simp
theorem endW_words {al : Bool} {am : List AtomM.At} (h1 : ∀ a ∈ am, a.nm.length ≤ 99000) (h2 : ∀ a ∈ am, NumM.inR a.t ∧ NumM.inR a.n) : ∀ x ∈ endW al am, x.length ≤ 100000 := by
  intro x hx
  rcases List.mem_cons.1 hx with h | h
  · subst h; cases al <;> decide
  · obtain ⟨a, ha, rfl⟩ := List.mem_map.1 h
    exact wordA_len (h1 a ha) (h2 a ha).1 (h2 a ha).2
theorem wordsL_words {x : OpsM.Ln} (h1 : x.reg.length ≤ 99000) (h2 : x.loc.length ≤ 99000) (h3 : x.label.length ≤ 99000) (h4 : NumM.inR x.n) : ∀ s ∈ OpsM.wordsL x, s.length ≤ 100000 := by
  have t := NumM.text_len x.n h4
  intro s hs
  unfold OpsM.wordsL OpsM.words at hs
  by_cases c : OpsM.right x.op x.reg x.loc x.label x.n = true
  · rw [if_pos c] at hs
    refine (OpsM.wordsR_all (fun l => l.length ≤ 100000) x.op x.reg x.loc x.label x.n (by decide) (by decide) (by decide) (by decide) (by decide) (by decide) (by decide) (by omega) ?_ (by omega) (by omega) ?_).1 s hs
    · unfold OpsM.brk; simp only [List.length_append, List.length_cons, List.length_nil]; omega
    · unfold OpsM.col; simp only [List.length_append, List.length_cons, List.length_nil]; omega
  · rw [if_neg c] at hs; cases hs
theorem wordsL_len (x : OpsM.Ln) : (OpsM.wordsL x).length ≤ 3 := OpsM.words_len_any _ _ _ _ _
theorem lnsTx_take (ls : List OpsM.Ln) (k : Nat) (h : k < ls.length) : lnsTx (ls.take (k + 1)) = lnsTx (ls.take k) ++ lineTx (OpsM.wordsL ls[k]) := by
  unfold lnsTx
  rw [List.take_succ_eq_append_getElem h, List.map_append, List.flatten_append]; simp
theorem thsTx_take (ts : List (List OpsM.Ln)) (k : Nat) (h : k < ts.length) : thsTx (ts.take (k + 1)) = thsTx (ts.take k) ++ thrTx ts[k] := by
  unfold thsTx
  rw [List.take_succ_eq_append_getElem h, List.map_append, List.flatten_append]; simp
/-- What a line must be, so that its text is not too long. -/
def LnSm (x : OpsM.Ln) : Prop := (x.reg.length ≤ 99000 ∧ x.loc.length ≤ 99000 ∧ x.label.length ≤ 99000) ∧ NumM.inR x.n
theorem line_len {x : OpsM.Ln} (h : LnSm x) : (lineTx (OpsM.wordsL x)).length ≤ 400000 := by
  have h1 := lineTx_len (wordsL_words h.1.1 h.1.2.1 h.1.2.2 h.2)
  have h2 := wordsL_len x
  have : (OpsM.wordsL x).length * (100000 + 1) ≤ 3 * (100000 + 1) := Nat.mul_le_mul_right _ h2
  omega
theorem lnsTx_len : ∀ {ls : List OpsM.Ln}, (∀ x ∈ ls, LnSm x) → (lnsTx ls).length ≤ ls.length * 400000
  | [], _ => by simp [lnsTx]
  | x :: r, h => by
    have h1 := line_len (h x (by simp))
    have h2 := lnsTx_len (ls := r) (fun y hy => h y (by simp [hy]))
    unfold lnsTx at h2 ⊢
    simp only [List.map_cons, List.flatten_cons, List.length_append, List.length_cons, Nat.succ_mul]
    omega
theorem thrTx_len {ls : List OpsM.Ln} (h : ∀ x ∈ ls, LnSm x) : (thrTx ls).length ≤ (ls.length + 1) * 400000 := by
  unfold thrTx
  have h1 := lnsTx_len h
  have h2 : (lineTx [kthread]).length ≤ 400000 := by decide
  rw [List.length_append, Nat.succ_mul]; omega
theorem thsTx_len : ∀ {ts : List (List OpsM.Ln)} {M : Nat}, (∀ ls ∈ ts, ls.length ≤ M ∧ ∀ x ∈ ls, LnSm x) → (thsTx ts).length ≤ ts.length * ((M + 1) * 400000)
  | [], _, _ => by simp [thsTx]
  | x :: r, M, h => by
    have h1 := thrTx_len (h x (by simp)).2
    have h0 := (h x (by simp)).1
    have h2 := thsTx_len (ts := r) (M := M) (fun y hy => h y (by simp [hy]))
    have h3 : (x.length + 1) * 400000 ≤ (M + 1) * 400000 := Nat.mul_le_mul_right _ (by omega)
    unfold thsTx at h2 ⊢
    simp only [List.map_cons, List.flatten_cons, List.length_append, List.length_cons, Nat.succ_mul] at h2 h3 ⊢
    omega
end Go.Proofs.YtkkjodjachbifaaGreatDoor
namespace Go.Proofs.YtkkjodjachbifaaGreatDoor
open Go.RowKit
set_option linter.unusedVariables false
theorem step_append_src {P : Program} {w : World} {ops : Array Oper} {o : Oper} {a : Act} {K : Act → World → Prop} {Q : Exit → Act → World → Prop} {E : Prop} (hgd : o.guard = none) (s x : Operand) (t : TypeId)
    (ho : o.op = .call { callee := .builtin .append, args := #[s, x], argTypes := #[t, t] })
    (base : Nat) (e : TypeId) (i : TypeInfo) (z : Value) (size bytes : Nat) (ht : P.underlying t = some (.slice e)) (hi : P.info? e = some i) (hz : i.zero = some z)
    (hsize : i.size = size) (hby : i.bytes = bytes) (hzs : z.cells.size = size) (hsz : 0 < size)
    (v : Value) (n : Nat) (xs : List Value) (hs : a.eval s = v) (hown : w.ownsRow base e size v n xs)
    (A : Option Addr) (m c : Nat) (news : List Value) (hx : a.eval x = .slice A m c) (hl : news.length = m * size) (hnil : A = none → m = 0 ∧ c = 0) (hnews : ∀ ad, A = some ad → ∀ j u, news[j]? = some u → w.cell? (ad.add j) = some u) (h1 : ∀ u ∈ news, u.oneCell' = true)
    (h63 : n + m ≤ maxLen) (hbytes : (n + m) * bytes ≤ 140737488355328) (hbase : base ≤ w.heap.size)
    (h : ∀ v' w', w'.ownsRow base e size v' (n + m) (xs ++ news) → w.grownBy w' v.ownBlock → K (a.put o.dst v') w') :
    if Region.wanted o (yielded ops a.tmps) = true then Oper.wp P o a w K Q else E := by
  have hw : Region.wanted o (yielded ops a.tmps) = true := by simp [Region.wanted, hgd]
  rw [if_pos hw]
  cases A with
  | some ad => exact wp_append_own w s x t ho base e i z size bytes ht hi hz hsize hby hzs hsz v n xs hs hown ad m c news hx hl (hnews ad rfl) h1 h63 hbytes hbase (fun v' w' a b _ => h v' w' a b)
  | none =>
    obtain ⟨rfl, rfl⟩ := hnil rfl
    have : news = [] := List.eq_nil_of_length_eq_zero (by rw [hl]; simp)
    subst this
    have hr := run_append_owned_none (P := P) (w := w) base t o.type e i size ht hi v n xs hown
    unfold Oper.wp execOp
    simp only [ho, resolve, invoke, builtin, Sem.run_bind, Sem.run_pure, Result.andThen_ok, List.map_toArray, List.map_cons, List.map_nil, hs, hx, hr]
    exact h v w (by simpa using hown) ⟨rfl, rfl, rfl, Nat.le_refl _, fun _ _ _ => rfl⟩
theorem own_slice {w : World} {base : Nat} {e : TypeId} {size n : Nat} {v : Value} {xs : List Value} (h : w.ownsRow base e size v n xs) : ∃ A c, v = .slice A n c := by
  rcases h.2 with ⟨rfl, rfl⟩ | ⟨g, cap, cur, rfl, _⟩
  · exact ⟨_, _, rfl⟩
  · exact ⟨_, _, rfl⟩
end Go.Proofs.YtkkjodjachbifaaGreatDoor
namespace Go.Proofs.YtkkjodjachbifaaGreatDoor
open Go.RowKit
set_option linter.unusedVariables false
set_option linter.unusedSimpArgs false
open WordM (L)
open VM

def IwRel (cs : List (L × Int)) (w : World) (v i : Value) (wr : World) : Prop :=
  ∃ k N : Nat, k ≤ cs.length ∧ i = .int .i64 k ∧ N = 1 + k * 2 ∧ wr.ownsRow w.heap.size 9 1 v N (svs (initW (cs.take k))) ∧ Below w.heap.size w wr
set_option maxHeartbeats 4000000 in
set_option maxRecDepth 100000 in
theorem initw_any {B : Nat} {v : Value} {cs : List (L × Int)} (w : World) (h : Cls B w v cs) (hBB : B ≤ w.heap.size) (hn : cs.length ≤ 100000) (hx : ∀ c ∈ cs, NumM.inR c.2) :
    Calls Tryz.prog 27 #[v] w (RetStrs (initW cs) w) := by
  obtain ⟨i0, hi0, hz0, hz1, hz2⟩ := info_parts info_string
  obtain ⟨A1, c1, rfl, h1, h2, h3⟩ := h
  unfold maxLen at h2
  have HX := Lib.hid hx
  clear hx
  have HO0 := Lib.hid (show (w.alloc (.cells #[.string ⟨kinit.toArray⟩] 9)).ownsRow w.heap.size 9 1 (.slice (some ⟨w.heap.size, 0, none⟩) 1 1) 1 (svs (initW (cs.take 0))) from World.ownsRow_lit (base := w.heap.size) (e := 9) (size := 1) w #[.string ⟨kinit.toArray⟩] 1 (Nat.le_refl _) (by decide) rfl)
  go_enter Tryz.func27, Tryz.ntmps27
  go_wp2
  go_loopw [3, 9] (fun v i wr => IwRel cs w v i wr) (fun _ i _ => cs.length - (intOf i).toNat)
  case atStart => exact ⟨0, 1, Nat.zero_le _, rfl, rfl, HO0.out, below_al (Below.refl _ _) _⟩
  case round =>
    obtain ⟨k, N, hk, rfl, hN, hown, hB⟩ := hrel
    have HN0 := Lib.hid hN
    have hNb : N ≤ 300000 := by omega
    clear hN
    have HO := Lib.hid hown
    obtain ⟨Av, cv, rfl⟩ := own_slice hown
    clear hown HO0
    by_cases hlt : k < cs.length
    · obtain ⟨b1, f1, rfl, hb1, hcl⟩ := h3 (by omega)
      obtain ⟨d0, d1⟩ := (hcl k hlt).below (hB.mono hBB) hb1
      have hxr := HX.out cs[k] (List.getElem_mem hlt)
      have hts := initW_take cs k hlt
      obtain ⟨x, hx⟩ : ∃ x, x = cs[k] := ⟨_, rfl⟩
      rw [← hx] at d0 d1 hxr hts
      have HTS := Lib.hid hts
      clear hx hcl h3 hts
      obtain ⟨g, hg⟩ : ∃ g, g = wr.heap.size := ⟨_, rfl⟩
      have hL0 : Below wr.heap.size wr ((wr.alloc (.cells #[.string ⟨x.1.toArray⟩, .int .i64 x.2] 52)).drew) := below_drewN (below_al (Below.refl _ _) _) 1
      have hws := hB.size
      have e0 : (wr.alloc (.cells #[.string ⟨x.1.toArray⟩, .int .i64 x.2] 52)).cell? ⟨wr.heap.size, 0, none⟩ = some (.string ⟨x.1.toArray⟩) := (box_1 wr #[.string ⟨x.1.toArray⟩, .int .i64 x.2] 52 0 rfl).1
      have e1 : (wr.alloc (.cells #[.string ⟨x.1.toArray⟩, .int .i64 x.2] 52)).cell? ⟨wr.heap.size, 1, none⟩ = some (.int .i64 x.2) := (box_1 wr #[.string ⟨x.1.toArray⟩, .int .i64 x.2] 52 1 rfl).1
      go_wp2
      rw [← hg] at e0 e1 ⊢
      have HG := Lib.hid hg
      clear d0 d1 hg
      refine wp_region_held_drew (S := (fun w' => (w'.cell? ⟨g, 0, none⟩ = some (.string ⟨x.1.toArray⟩) ∧ w'.cell? ⟨g, 1, none⟩ = some (.int .i64 x.2)) ∧ Below w.heap.size w w')) (by kernel_rfl) ⟨⟨e0, e1⟩, below_drewN (below_al hB _) 1⟩ (fun hHeld => ?_)
      refine wpAnyH_take (i := 0) (v := ?_) rfl (by kernel_rfl) (by kernel_rfl) (by kernel_rfl) (fun _ _ _ h => h) (Or.inl ⟨by rfl, ?_⟩) (by assumption) ?_
      rotate_left
      · intro w hSw; (try dsimp only at hSw); go_simp; (try with_reducible rfl)
      (try simp only [Act.put, List.getElem_toArray, List.getElem_cons_zero, List.getElem_cons_succ, Array.getInternal_eq_getElem, List.setIfInBounds_toArray, List.set_cons_zero, List.set_cons_succ])
      refine wpAnyH_take (i := 1) (v := ?_) rfl (by kernel_rfl) (by kernel_rfl) (by kernel_rfl) (fun _ _ _ h => h) (Or.inl ⟨by rfl, ?_⟩) (by assumption) ?_
      rotate_left
      · intro w hSw; (try dsimp only at hSw); go_simp; (try with_reducible rfl)
      (try simp only [Act.put, List.getElem_toArray, List.getElem_cons_zero, List.getElem_cons_succ, Array.getInternal_eq_getElem, List.setIfInBounds_toArray, List.set_cons_zero, List.set_cons_succ])
      refine wpAnyH_take (i := 2) (v := ?_) rfl (by kernel_rfl) (by kernel_rfl) (by kernel_rfl) (fun _ _ _ h => h) (Or.inl ⟨by rfl, ?_⟩) (by assumption) ?_
      rotate_left
      · intro w hSw; (try dsimp only at hSw); go_simp; (try with_reducible rfl)
      (try simp only [Act.put, List.getElem_toArray, List.getElem_cons_zero, List.getElem_cons_succ, Array.getInternal_eq_getElem, List.setIfInBounds_toArray, List.set_cons_zero, List.set_cons_succ])
      refine wpAnyH_take (i := 3) (v := ?_) rfl (by kernel_rfl) (by kernel_rfl) (by kernel_rfl) (fun _ _ _ h => h) (Or.inl ⟨by rfl, ?_⟩) (by assumption) ?_
      rotate_left
      · intro w hSw; (try dsimp only at hSw); go_simp; (try with_reducible rfl)
      (try simp only [Act.put, List.getElem_toArray, List.getElem_cons_zero, List.getElem_cons_succ, Array.getInternal_eq_getElem, List.setIfInBounds_toArray, List.set_cons_zero, List.set_cons_succ])
      refine wpAnyH_take (i := 4) (v := ?_) rfl (by kernel_rfl) (by kernel_rfl) (by kernel_rfl) (fun _ _ _ h => h) (Or.inl ⟨by rfl, ?_⟩) (by assumption) ?_
      rotate_left
      · intro w hSw; (try dsimp only at hSw); go_simp; (try with_reducible rfl)
      (try simp only [Act.put, List.getElem_toArray, List.getElem_cons_zero, List.getElem_cons_succ, Array.getInternal_eq_getElem, List.setIfInBounds_toArray, List.set_cons_zero, List.set_cons_succ])
      refine wpAnyH_ready (rs := [5]) (by kernel_rfl) (by simp) ?_
      refine AllReadyH.cons rfl (fun K hK => ?_) AllReadyH.nil
      go_simp
      go_at_call 47
      refine (text_any x.2 _ hxr).mono ?_
      rintro e wa ⟨rfl, hba⟩
      have HOa := Lib.hid (own_below HO.out (show Below wr.heap.size wr wa from hL0.trans (hba.mono hL0.size)))
      have hgs : g < wa.heap.size := lt_of_cell (kc hba hHeld.1.1)
      refine hK.out _ _ ⟨⟨kc hba hHeld.1.1, kc hba hHeld.1.2⟩, chain hHeld.2 hba⟩ (fun hHeld => ?_)
      clear hK K
      (try simp only [Act.put, List.getElem_toArray, List.getElem_cons_zero, List.getElem_cons_succ, Array.getInternal_eq_getElem, List.setIfInBounds_toArray, List.set_cons_zero, List.set_cons_succ])
      refine wpAnyH_ready (rs := [6]) (by kernel_rfl) (by simp) ?_
      refine AllReadyH.cons rfl (fun K hK => ?_) AllReadyH.nil
      go_simp
      have hbb := below_al (Below.refl wa.heap.size wa) (.cells #[.string ⟨x.1.toArray⟩, .string ⟨(NumM.text x.2).toArray⟩] 9)
      have HOb := Lib.hid (own_below HOa.out hbb)
      have HN := Lib.hid (World.news_of_block (heap_alloc_new wa (.cells #[.string ⟨x.1.toArray⟩, .string ⟨(NumM.text x.2).toArray⟩] 9)))
      have hsb := hbb.size
      refine hK.out _ _ ⟨⟨kc hbb hHeld.1.1, kc hbb hHeld.1.2⟩, chain hHeld.2 hbb⟩ (fun hHeld => ?_)
      clear hK K
      (try simp only [Act.put, List.getElem_toArray, List.getElem_cons_zero, List.getElem_cons_succ, Array.getInternal_eq_getElem, List.setIfInBounds_toArray, List.set_cons_zero, List.set_cons_succ])
      refine wpAnyH_ready (rs := [7]) (by kernel_rfl) (by simp) ?_
      refine AllReadyH.cons rfl (fun K hK => ?_) AllReadyH.nil
      refine step_append_src (by rfl) _ _ _ (by rfl) w.heap.size 9 i0 (.string ⟨#[]⟩) 1 16 Tryz.underlying40 hi0 hz0 hz1 hz2 (by rfl) (by decide) _ N (svs (initW (cs.take k))) (by rfl) HOb.out (some ⟨wa.heap.size, 0, none⟩) 2 2 [.string ⟨x.1.toArray⟩, .string ⟨(NumM.text x.2).toArray⟩] (by rfl) (by rfl) (fun c => (by cases c)) (fun ad e j u h => by injection e with e; rw [← e]; exact HN.out j u h) (by simp [Value.oneCell']) (by unfold maxLen; omega) (by omega) hHeld.2.size (fun v1 w7 hown7 hg7 => ?_)
      have HB7 := Lib.hid (below_append hHeld.2 HOb.out (Nat.le_refl _) hHeld.2.size hg7)
      have HO7 := Lib.hid hown7
      refine hK.out _ _ ⟨⟨(hg7.cell hHeld.1.1 (fun c => by have := (HO.out.lt g c.symm).2; have h2 := HG.out; omega)), (hg7.cell hHeld.1.2 (fun c => by have := (HO.out.lt g c.symm).2; have h2 := HG.out; omega))⟩, HB7.out⟩ (fun hHeld => ?_)
      clear hK K
      (try simp only [Act.put, List.getElem_toArray, List.getElem_cons_zero, List.getElem_cons_succ, Array.getInternal_eq_getElem, List.setIfInBounds_toArray, List.set_cons_zero, List.set_cons_succ])
      refine wpAnyH_ready (rs := [8]) (by kernel_rfl) (by simp) ?_
      refine AllReadyH.cons rfl (fun K hK => ?_) AllReadyH.nil
      go_simp
      refine hK.out _ _ hHeld (fun hHeld => ?_)
      clear hK K
      (try simp only [Act.put, List.getElem_toArray, List.getElem_cons_zero, List.getElem_cons_succ, Array.getInternal_eq_getElem, List.setIfInBounds_toArray, List.set_cons_zero, List.set_cons_succ])
      refine wpAnyH_done (by kernel_rfl) ?_ _
      go_wp2
      go_roundw
      case rel => exact ⟨k + 1, N + 2, by omega, by go_num, by have := HN0.out; omega, by rw [HTS.out, svs_app]; exact HO7.out, HB7.out⟩
      case measure => simp [intOf]; omega
    · obtain rfl : cs.length = k := by omega
      have e : N = (initW cs).length := by rw [initW_len, HN0.out]
      rw [List.take_length] at HO
      subst e
      go_wp2
      go_ret
      exact ⟨_, rfl, HO.out, hB⟩
end Go.Proofs.YtkkjodjachbifaaGreatDoor
namespace Go.Proofs.YtkkjodjachbifaaGreatDoor
open Go.RowKit
set_option linter.unusedVariables false
set_option linter.unusedSimpArgs false
open WordM (L)
open VM

def EwRel (al : Bool) (am : List AtomM.At) (w : World) (v i : Value) (wr : World) : Prop :=
  ∃ k N : Nat, k ≤ am.length ∧ i = .int .i64 k ∧ N = 1 + k ∧ wr.ownsRow w.heap.size 9 1 v N (svs (endW al (am.take k))) ∧ Below w.heap.size w wr
set_option maxHeartbeats 4000000 in
set_option maxRecDepth 100000 in
theorem endw_any {B : Nat} {v : Value} {am : List AtomM.At} (al : Bool) (w : World) (hr : Regs w) (h : Ams B w v am) (hBB : B ≤ w.heap.size) (hn : am.length ≤ 100000) (hx : ∀ a ∈ am, a.nm.length ≤ 99000 ∧ NumM.inR a.n) :
    Calls Tryz.prog 29 #[.bool al, v] w (RetStrs (endW al am) w) := by
  obtain ⟨i0, hi0, hz0, hz1, hz2⟩ := info_parts info_string
  obtain ⟨A1, c1, rfl, h1, h2, h3⟩ := h
  unfold maxLen at h2
  have HX := Lib.hid hx
  have HR := Lib.hid hr
  clear hx hr
  have e0 := (box_1 w #[.string ⟨kexists.toArray⟩] 9 0 rfl).1
  have f0 := (box_1 w #[.string ⟨kexists.toArray⟩] 9 0 rfl).2
  have HO0 := Lib.hid (show (w.alloc (.cells #[.string ⟨kexists.toArray⟩] 9)).ownsRow w.heap.size 9 1 (.slice (some ⟨w.heap.size, 0, none⟩) 1 1) 1 (svs (endW false (am.take 0))) from World.ownsRow_lit (base := w.heap.size) (e := 9) (size := 1) w #[.string ⟨kexists.toArray⟩] 1 (Nat.le_refl _) (by decide) rfl)
  have HO1 := Lib.hid (show (w.alloc (.cells #[.string ⟨kforall.toArray⟩] 9)).ownsRow w.heap.size 9 1 (.slice (some ⟨w.heap.size, 0, none⟩) 1 1) 1 (svs (endW true (am.take 0))) from World.ownsRow_lit (base := w.heap.size) (e := 9) (size := 1) w #[.string ⟨kforall.toArray⟩] 1 (Nat.le_refl _) (by decide) rfl)
  have HO2 := Lib.hid (show ((w.alloc (.cells #[.string ⟨kexists.toArray⟩] 9)).setCell ⟨w.heap.size, 0, none⟩ (.string ⟨kforall.toArray⟩)).ownsRow w.heap.size 9 1 (.slice (some ⟨w.heap.size, 0, none⟩) 1 1) 1 (svs (endW true (am.take 0))) from (HO0.out.stored 0 (.string ⟨kforall.toArray⟩)).1)
  go_enter Tryz.func29, Tryz.ntmps29
  cases al
  · go_wp2
    go_loopw [5, 14] (fun v i wr => EwRel false am w v i wr) (fun _ i _ => am.length - (intOf i).toNat)
    case atStart => first | exact ⟨0, 1, Nat.zero_le _, rfl, rfl, HO0.out, below_al (Below.refl _ _) _⟩ | exact ⟨0, 1, Nat.zero_le _, rfl, rfl, HO1.out, below_al (Below.refl _ _) _⟩ | exact ⟨0, 1, Nat.zero_le _, rfl, rfl, HO2.out, (below_al (Below.refl _ _) _).setCell (p := ⟨w.heap.size, 0, none⟩) (Nat.le_refl _) _⟩
    case round =>
      obtain ⟨k, N, hk, rfl, hN, hown, hB⟩ := hrel
      have HN0 := Lib.hid hN
      have hNb : N ≤ 300000 := by omega
      have HO := Lib.hid hown
      obtain ⟨Av, cv, rfl⟩ := own_slice hown
      clear hown HO0 HO1 HO2 hN e0 f0
      by_cases hlt : k < am.length
      · obtain ⟨b1, f1, rfl, hb1, hcl⟩ := h3 (by omega)
        obtain ⟨d0, d1, d2⟩ := (hcl k hlt).below (hB.mono hBB) hb1
        have hxr := HX.out am[k] (List.getElem_mem hlt)
        have hts := endW_take false am k hlt
        obtain ⟨x, hx⟩ : ∃ x, x = am[k] := ⟨_, rfl⟩
        rw [← hx] at d0 d1 d2 hxr hts
        have HTS := Lib.hid hts
        clear hx hcl h3 hts
        have hB1 := below_al hB (.cells #[.int .i64 x.t, .string ⟨x.nm.toArray⟩, .int .i64 x.n] 54)
        have hL1 : Below wr.heap.size wr (wr.alloc (.cells #[.int .i64 x.t, .string ⟨x.nm.toArray⟩, .int .i64 x.n] 54)) := below_al (Below.refl _ _) _
        have HW := Lib.hid (awordw_any x _ (HR.out.below hB1) hxr.2 (by have := hxr.1; omega))
        go_wp2_with fail
        refine HW.out.mono ?_
        rintro e wa ⟨rfl, hba⟩
        have hBa := chain hB1 hba
        have HOa := Lib.hid (own_below HO.out (chain hL1 hba))
        have hsa := hBa.size
        clear d0 d1 d2 HW hL1 hB1 hba
        go_wp2_with (at_builtin; refine wpList_append_own _ rfl _ _ 40 rfl w.heap.size 9 i0 (.string ⟨#[]⟩) 1 16 Tryz.underlying40 hi0 hz0 hz1 hz2 rfl (by decide) _ _ _ rfl (HOa.out.alloc _) ⟨wa.heap.size, 0, none⟩ 1 1 [.string ⟨(AtomM.wordA x).toArray⟩] rfl rfl (cell_one_new _ _ _) (by simp [Value.oneCell']) (by unfold maxLen; omega) (by omega) (by simp; omega) ?_; intro v1 w1 hown1 hg1 _)
        have hB2 := below_append (hBa.alloc hsa (.cells #[.string ⟨(AtomM.wordA x).toArray⟩] 9)) (HOa.out.alloc _) (Nat.le_refl _) (by simp; omega) hg1
        go_roundw
        case rel => exact ⟨k + 1, N + 1, by omega, by go_num, by have := HN0.out; omega, by rw [HTS.out, svs_app]; exact hown1, hB2⟩
        case measure => simp [intOf]; omega
      · obtain rfl : am.length = k := by omega
        have e : N = (endW false am).length := by rw [endW_len, HN0.out]
        rw [List.take_length] at HO
        subst e
        go_wp2
        go_ret
        exact ⟨_, rfl, HO.out, hB⟩
  · go_wp2
    go_loopw [5, 14] (fun v i wr => EwRel true am w v i wr) (fun _ i _ => am.length - (intOf i).toNat)
    case atStart => first | exact ⟨0, 1, Nat.zero_le _, rfl, rfl, HO0.out, below_al (Below.refl _ _) _⟩ | exact ⟨0, 1, Nat.zero_le _, rfl, rfl, HO1.out, below_al (Below.refl _ _) _⟩ | exact ⟨0, 1, Nat.zero_le _, rfl, rfl, HO2.out, (below_al (Below.refl _ _) _).setCell (p := ⟨w.heap.size, 0, none⟩) (Nat.le_refl _) _⟩
    case round =>
      obtain ⟨k, N, hk, rfl, hN, hown, hB⟩ := hrel
      have HN0 := Lib.hid hN
      have hNb : N ≤ 300000 := by omega
      have HO := Lib.hid hown
      obtain ⟨Av, cv, rfl⟩ := own_slice hown
      clear hown HO0 HO1 HO2 hN e0 f0
      by_cases hlt : k < am.length
      · obtain ⟨b1, f1, rfl, hb1, hcl⟩ := h3 (by omega)
        obtain ⟨d0, d1, d2⟩ := (hcl k hlt).below (hB.mono hBB) hb1
        have hxr := HX.out am[k] (List.getElem_mem hlt)
        have hts := endW_take true am k hlt
        obtain ⟨x, hx⟩ : ∃ x, x = am[k] := ⟨_, rfl⟩
        rw [← hx] at d0 d1 d2 hxr hts
        have HTS := Lib.hid hts
        clear hx hcl h3 hts
        have hB1 := below_al hB (.cells #[.int .i64 x.t, .string ⟨x.nm.toArray⟩, .int .i64 x.n] 54)
        have hL1 : Below wr.heap.size wr (wr.alloc (.cells #[.int .i64 x.t, .string ⟨x.nm.toArray⟩, .int .i64 x.n] 54)) := below_al (Below.refl _ _) _
        have HW := Lib.hid (awordw_any x _ (HR.out.below hB1) hxr.2 (by have := hxr.1; omega))
        go_wp2_with fail
        refine HW.out.mono ?_
        rintro e wa ⟨rfl, hba⟩
        have hBa := chain hB1 hba
        have HOa := Lib.hid (own_below HO.out (chain hL1 hba))
        have hsa := hBa.size
        clear d0 d1 d2 HW hL1 hB1 hba
        go_wp2_with (at_builtin; refine wpList_append_own _ rfl _ _ 40 rfl w.heap.size 9 i0 (.string ⟨#[]⟩) 1 16 Tryz.underlying40 hi0 hz0 hz1 hz2 rfl (by decide) _ _ _ rfl (HOa.out.alloc _) ⟨wa.heap.size, 0, none⟩ 1 1 [.string ⟨(AtomM.wordA x).toArray⟩] rfl rfl (cell_one_new _ _ _) (by simp [Value.oneCell']) (by unfold maxLen; omega) (by omega) (by simp; omega) ?_; intro v1 w1 hown1 hg1 _)
        have hB2 := below_append (hBa.alloc hsa (.cells #[.string ⟨(AtomM.wordA x).toArray⟩] 9)) (HOa.out.alloc _) (Nat.le_refl _) (by simp; omega) hg1
        go_roundw
        case rel => exact ⟨k + 1, N + 1, by omega, by go_num, by have := HN0.out; omega, by rw [HTS.out, svs_app]; exact hown1, hB2⟩
        case measure => simp [intOf]; omega
      · obtain rfl : am.length = k := by omega
        have e : N = (endW true am).length := by rw [endW_len, HN0.out]
        rw [List.take_length] at HO
        subst e
        go_wp2
        go_ret
        exact ⟨_, rfl, HO.out, hB⟩
end Go.Proofs.YtkkjodjachbifaaGreatDoor
namespace Go.Proofs.YtkkjodjachbifaaGreatDoor
open Go.RowKit
set_option linter.unusedVariables false
set_option linter.unusedSimpArgs false
open WordM (L)
open VM

theorem cell_blk {w : World} {g i : Nat} {cs : Array Value} {T : TypeId} {fr : Nat × Nat} (h : w.heap[g]? = some (.cells cs T fr)) {v : Value} (hv : cs[i]? = some v) : w.cell? ⟨g, i, none⟩ = some v := by
  simp [World.cell?, h, hv]
def ThwRel (B b g : Nat) (l : L) (ls : List OpsM.Ln) (v : Value) (w : World) (i : Value) (wr : World) : Prop :=
  ∃ k : Nat, k ≤ ls.length ∧ i = .int .i64 k ∧ IsTx B b (Lib.byteCells (l ++ (lineTx [kthread] ++ lnsTx (ls.take k)))) wr ∧ Below B w wr ∧ KeptT b w wr
set_option maxHeartbeats 4000000 in
set_option maxRecDepth 100000 in
theorem tthread_any (B b : Nat) (l : L) {v : Value} {ls : List OpsM.Ln} (w : World) (ht : IsTx B b (Lib.byteCells l) w) (hs : Lns B w v ls) (hBw : B ≤ w.heap.size) (hR : ∀ W, Below B w W → Regs W) (hn : ls.length ≤ 100000) (hx : ∀ x ∈ ls, LnSm x) (hl : l.length ≤ 1000000000000) :
    Calls Tryz.prog 28 #[.pointer (some ⟨b, 0, none⟩), .agg #[v]] w fun e w' => e = .returned (.tuple #[]) ∧ IsTx B b (Lib.byteCells (l ++ thrTx ls)) w' ∧ Below B w w' ∧ KeptT b w w' := by
  obtain ⟨A1, c1, rfl, h1, h2, h3⟩ := hs
  unfold maxLen at h2
  have HX := Lib.hid hx
  have HR := Lib.hid hR
  have hb0 : Below w.heap.size w (w.alloc (.cells #[.slice A1 ls.length c1] 46)) := below_al (Below.refl _ _) _
  have hb00 : Below w.heap.size w ((w.alloc (.cells #[.slice A1 ls.length c1] 46)).alloc (.cells #[.string ⟨kthread.toArray⟩] 9)) := below_al hb0 _
  have hg0 : ((w.alloc (.cells #[.slice A1 ls.length c1] 46)).alloc (.cells #[.string ⟨kthread.toArray⟩] 9)).heap[w.heap.size]? = some (.cells #[.slice A1 ls.length c1] 46 (0, 0)) :=
    ((below_al (Below.refl (w.alloc (.cells #[.slice A1 ls.length c1] 46)).heap.size _) _).block w.heap.size (by simp)).trans (heap_alloc_new w _)
  have HT0 := Lib.hid (ht.below hb00)
  have HS0 := Lib.hid (strs_own (w := (w.alloc (.cells #[.slice A1 ls.length c1] 46)).alloc (.cells #[.string ⟨kthread.toArray⟩] 9)) (ls := [kthread]) (World.ownsRow_lit (base := w.heap.size) (e := 9) (size := 1) (w.alloc (.cells #[.slice A1 ls.length c1] 46)) #[.string ⟨kthread.toArray⟩] 1 (by simp) (by decide) rfl))
  have hsz : (w.alloc (.cells #[.slice A1 ls.length c1] 46)).heap.size = w.heap.size + 1 := by simp
  rw [hsz] at HS0
  have hB0 : Below B w ((w.alloc (.cells #[.slice A1 ls.length c1] 46)).alloc (.cells #[.string ⟨kthread.toArray⟩] 9)) := hb00.mono hBw
  have hK0 : KeptT b w ((w.alloc (.cells #[.slice A1 ls.length c1] 46)).alloc (.cells #[.string ⟨kthread.toArray⟩] 9)) := KeptT.of hb00
  have hblt := ht.lt.2
  have HTL := Lib.hid (tline_any B b l (ls := [kthread]) _ HT0.out HS0.out (Nat.le_trans hBw hb00.size) (by decide) (by decide) (by omega))
  clear hx hR ht hb0 hb00 HT0 HS0 hsz
  go_enter Tryz.func28, Tryz.ntmps28
  go_wp2_with fail
  refine HTL.out.mono ?_
  rintro e w1 ⟨rfl, htx, hb1, hk1⟩
  have hB1 := hB0.trans hb1
  have hK1 := hK0.trans hk1
  have d0 := cell_blk (i := 0) (hk1.cell hg0 (by decide) (by omega)) rfl
  clear hB0 hK0 hb1 hk1 HTL hg0
  go_wp2
  go_loopw [12] (fun i wr => ThwRel B b 0 l ls (.slice A1 ls.length c1) w i wr) (fun i _ => ls.length - (intOf i).toNat)
  case atStart => exact ⟨0, Nat.zero_le _, rfl, by rw [List.take_zero]; unfold lnsTx; simp only [List.map_nil, List.flatten_nil, List.append_nil]; exact htx, hB1, hK1⟩
  case round =>
    clear htx hB1 hK1 d0
    obtain ⟨k, hk, rfl, htx, hB, hK⟩ := hrel
    have HTX := Lib.hid htx
    clear htx
    by_cases hlt : k < ls.length
    · obtain ⟨b3, f3, rfl, hb3, hc3⟩ := h3 (by omega)
      obtain ⟨z0, z1, z2, z3, z4⟩ := (hc3 k hlt).below hB hb3
      have hsm := HX.out _ (List.getElem_mem hlt)
      have hts := lnsTx_take ls k hlt
      have hlen := lnsTx_len (ls := ls.take k) (fun y hy => HX.out y (List.mem_of_mem_take hy))
      rw [List.length_take, Nat.min_eq_left (by omega)] at hlen
      obtain ⟨x, hx⟩ : ∃ x, x = ls[k] := ⟨_, rfl⟩
      rw [← hx] at z0 z1 z2 z3 z4 hsm hts
      have HTS := Lib.hid hts
      clear hx hc3 h3 hts
      obtain ⟨⟨s1, s2, s3⟩, s4⟩ := hsm
      have hbA : Below wr.heap.size wr (wr.alloc (.cells #[.int .i64 x.op, .string ⟨x.reg.toArray⟩, .string ⟨x.loc.toArray⟩, .string ⟨x.label.toArray⟩, .int .i64 x.n] 28)) := below_al (Below.refl _ _) _
      have hszw := hB.size
      have hBA := hB.trans (hbA.mono (Nat.le_trans hBw hszw))
      have HW := Lib.hid (wordsw_any x _ (HR.out _ hBA) s4 (by omega) (by omega))
      unfold lnw lnv at HW
      go_wp2_with fail
      refine HW.out.mono ?_
      rintro e wa ⟨va, rfl, howna, hba⟩
      have hB2 := hBA.trans (hba.mono (Nat.le_trans (Nat.le_trans hBw hszw) hbA.size))
      have hK2 := (hK.trans (KeptT.of hbA)).trans (KeptT.of hba)
      have HT2 := Lib.hid ((HTX.out.below hbA).below hba)
      have hl1 : (lineTx [kthread]).length ≤ 400000 := by decide
      have HTL := Lib.hid (tline_any B b (l ++ (lineTx [kthread] ++ lnsTx (ls.take k))) _ HT2.out (strs_own howna) (Nat.le_trans hBw hB2.size) (by have := wordsL_len x; omega) (wordsL_words s1 s2 s3 s4) (by rw [List.length_append, List.length_append]; omega))
      obtain ⟨Aa, ca, rfl⟩ := own_slice howna
      clear z0 z1 z2 z3 z4 HW HTX hB hK hBA hbA hba HT2 howna hlen hl1
      go_wp2_with fail
      refine HTL.out.mono ?_
      rintro e wb ⟨rfl, htb, hbb, hkb⟩
      have HTB := Lib.hid htb
      have hB3 := hB2.trans hbb
      have hK3 := hK2.trans hkb
      clear htb hbb hkb hB2 hK2 HTL
      go_wp2
      go_roundw
      case rel => exact ⟨k + 1, by omega, by go_num, by rw [HTS.out, ← List.append_assoc, ← List.append_assoc]; have := HTB.out; rw [← List.append_assoc] at this; exact this, hB3, hK3⟩
      case measure => simp [intOf]; omega
    · obtain rfl : ls.length = k := by omega
      rw [List.take_length] at HTX
      clear h3
      go_wp2
      go_end0
      exact ⟨rfl, HTX.out, hB, hK⟩
end Go.Proofs.YtkkjodjachbifaaGreatDoor
namespace Go.Proofs.YtkkjodjachbifaaGreatDoor
open Go.RowKit
set_option linter.unusedVariables false
set_option linter.unusedSimpArgs false
open WordM (L)
open VM

/-- What a program must be, so that it can be printed. -/
structure FlP (F : Fl) : Prop where
  ok : FlOk F
  init : ∀ c ∈ F.init, NumM.inR c.2
  ths : ∀ ls ∈ F.ths, ∀ x ∈ ls, LnSm x
  cond : ∀ a ∈ F.cond, a.nm.length ≤ 99000 ∧ NumM.inR a.n
theorem box_of_blk {w : World} {g : Nat} {nm : ByteArray} {vi vt vc : Value} {al : Bool} {T : TypeId} {fr : Nat × Nat} (h : w.heap[g]? = some (.cells #[.string nm, vi, vt, .bool al, vc] T fr)) : FlBox w g nm vi vt vc al :=
  ⟨cell_blk h rfl, cell_blk h rfl, cell_blk h rfl, cell_blk h rfl, cell_blk h rfl⟩
theorem tx_fresh {B : Nat} (w : World) (h : B ≤ w.heap.size) : IsTx B w.heap.size (Lib.byteCells []) (w.alloc (.cells #[.pointer none, .slice none 0 0] 60)) :=
  Or.inl ⟨h, _, heap_alloc_new w _, World.ownsRowF_of (World.ownsRow_nil _ _ _ _), by simp [Value.ownBlock]⟩
def PrRel (F : Fl) (vi vt vc : Value) (b : Nat) (s : L) (w : World) (i : Value) (wr : World) : Prop :=
  ∃ k : Nat, k ≤ F.ths.length ∧ i = .int .i64 k ∧ IsTx w.heap.size b (Lib.byteCells (s ++ thsTx (F.ths.take k))) wr ∧ Below w.heap.size w wr ∧ wr.heap[w.heap.size]? = some (.cells #[.string ⟨F.name.toArray⟩, vi, vt, .bool F.all, vc] 26 (0, 0))
set_option maxHeartbeats 8000000 in
set_option maxRecDepth 100000 in
theorem print_any {B : Nat} {v : Value} {F : Fl} (w : World) (hr : Regs w) (hg : EA.ErrG w) (hv : FlV B w v F) (hBB : B ≤ w.heap.size) (hp : FlP F) :
    Calls Tryz.prog 12 #[v] w fun e w' => e = .returned (.string ⟨(printL F).toArray⟩) ∧ Below w.heap.size w w' := by
  have HVR := Lib.hid (fun W (hW : Below w.heap.size w W) => vright_any W (hr.below hW) (hg.below hW) (hv.below (hW.mono hBB)) (Nat.le_trans hBB hW.size) hp.ok)
  obtain ⟨vi, vt, vc, rfl, hm⟩ := hv
  have HM := Lib.hid hm
  have HR := Lib.hid hr
  have HP := Lib.hid hp
  obtain ⟨⟨A0, c0, rfl, -⟩, ⟨A2, c2, rfl, hb1, hb2, hb3⟩, ⟨A1, c1, rfl, -⟩⟩ := hm
  unfold maxLen at hb2
  unfold flv at *
  clear hr hg hp
  have hB0 := below_al (Below.refl w.heap.size w) (.cells #[.string ⟨F.name.toArray⟩, .slice A0 F.init.length c0, .slice A2 F.ths.length c2, .bool F.all, .slice A1 F.cond.length c1] 26)
  have hbk0 := heap_alloc_new w (.cells #[.string ⟨F.name.toArray⟩, .slice A0 F.init.length c0, .slice A2 F.ths.length c2, .bool F.all, .slice A1 F.cond.length c1] 26)
  go_enter Tryz.func12, Tryz.ntmps12
  go_wp2_with fail
  refine (HVR.out _ hB0).mono ?_
  rintro e w1 ⟨rfl, hbb⟩
  have hB1 := chain hB0 hbb
  have hbk1 := (hbb.block w.heap.size (by simp)).trans hbk0
  obtain ⟨t0, t1, t2, t3, t4⟩ := box_of_blk hbk1
  clear hB0 hbb HVR hbk0
  cases hrt : VM.right F
  · have E := Lib.hid (show printL F = [] from by unfold printL; rw [hrt]; rfl)
    clear hrt
    go_wp2
    go_ret
    exact ⟨by rw [E.out]; rfl, hB1⟩
  have E := Lib.hid (show printL F = printR F from by unfold printL; rw [hrt]; rfl)
  obtain ⟨h31, h33⟩ := right_three hrt
  clear hrt
  -- the text's block, and the first line
  obtain ⟨b, hb⟩ : ∃ b, b = w1.heap.size := ⟨_, rfl⟩
  have hws := hB1.size
  have hfb : w.heap.size < w1.heap.size := (Array.getElem?_eq_some_iff.1 hbk1).1
  have HT1 := Lib.hid (tx_fresh w1 hws)
  have hLt : Below w1.heap.size w1 (w1.alloc (.cells #[.pointer none, .slice none 0 0] 60)) := below_al (Below.refl _ _) _
  have hL2 : Below w1.heap.size w1 ((w1.alloc (.cells #[.pointer none, .slice none 0 0] 60)).alloc (.cells #[.string ⟨kx86.toArray⟩, .string ⟨F.name.toArray⟩] 9)) := below_al hLt _
  have hst : (w1.alloc (.cells #[.pointer none, .slice none 0 0] 60)).heap.size = w1.heap.size + 1 := by simp
  obtain ⟨u0, u1, u2, u3, u4⟩ := box_of_blk ((hLt.block w.heap.size hfb).trans hbk1)
  have HT2 := Lib.hid (HT1.out.below (below_al (Below.refl (w1.alloc (.cells #[.pointer none, .slice none 0 0] 60)).heap.size _) (.cells #[.string ⟨kx86.toArray⟩, .string ⟨F.name.toArray⟩] 9)))
  have HS2 := Lib.hid (strs_own (w := (w1.alloc (.cells #[.pointer none, .slice none 0 0] 60)).alloc (.cells #[.string ⟨kx86.toArray⟩, .string ⟨F.name.toArray⟩] 9)) (ls := [kx86, F.name]) (World.ownsRow_lit (base := w.heap.size) (e := 9) (size := 1) (w1.alloc (.cells #[.pointer none, .slice none 0 0] 60)) #[.string ⟨kx86.toArray⟩, .string ⟨F.name.toArray⟩] 2 (by omega) (by decide) rfl))
  rw [hst] at HS2
  have hnm := HP.out.ok.name
  have HTL := Lib.hid (tline_any w.heap.size w1.heap.size [] (ls := [kx86, F.name]) _ HT2.out HS2.out (Nat.le_trans hws hL2.size) (by simp) (fun x hx => by
    simp only [List.mem_cons, List.not_mem_nil, or_false] at hx
    rcases hx with rfl | rfl
    · decide
    · exact hnm) (by simp))
  have hbk2 := (hL2.block w.heap.size hfb).trans hbk1
  have hB2 := chain hB1 hL2
  clear HT2 HS2 hLt hL2 HT1 hst
  go_wp2_with fail
  refine HTL.out.mono ?_
  rintro e w3 ⟨rfl, htx, hbb, hkk⟩
  rw [List.nil_append] at htx
  have HTX := Lib.hid htx
  have hbk3 := hkk.cell hbk2 (by decide) (by omega)
  have hB3 := hB2.trans hbb
  clear t0 t1 t2 t3 t4 u0 u1 u2 u3 u4 HTL hbk2 hB2 hbb hkk htx hbk1
  obtain ⟨t0, t1, t2, t3, t4⟩ := box_of_blk hbk3
  have HIW := Lib.hid (initw_any (B := w.heap.size) w3 (((HM.out.1).more hBB).below hB3) hB3.size HP.out.ok.nums.1 HP.out.init)
  have hil := initW_len F.init
  have hin := HP.out.ok.nums.1
  have hiw := initW_words HP.out.ok.init HP.out.init
  have hl1 := lineTx_len (M := 100000) (ls := [kx86, F.name]) (fun x hx => by
    simp only [List.mem_cons, List.not_mem_nil, or_false] at hx
    rcases hx with rfl | rfl
    · decide
    · exact hnm)
  have hl2 := lineTx_len hiw
  rw [hil] at hl2
  simp only [List.length_cons, List.length_nil] at hl1
  have HIL := Lib.hid hil
  clear hil
  obtain ⟨s1, hs1⟩ : ∃ s, s = lineTx [kx86, F.name] := ⟨_, rfl⟩
  rw [← hs1] at HTX hl1
  have HS1 := Lib.hid hs1
  clear hs1
  go_wp2_with fail
  refine HIW.out.mono ?_
  rintro e w4 ⟨va, rfl, howna, hba⟩
  have hB4 := chain hB3 hba
  have HTL := Lib.hid (tline_any w.heap.size w1.heap.size s1 (ls := initW F.init) w4 (HTX.out.below hba) (strs_own howna) hB4.size (by rw [HIL.out]; omega) hiw (by omega))
  have hbk4 := (hba.block w.heap.size (Array.getElem?_eq_some_iff.1 hbk3).1).trans hbk3
  obtain ⟨Aa, ca, rfl⟩ := own_slice howna
  clear t0 t1 t2 t3 t4 HIW HTX hB3 hba howna hiw hbk3
  go_wp2_with fail
  refine HTL.out.mono ?_
  rintro e w5 ⟨rfl, htx, hbb, hkk⟩
  have hbk5 := hkk.cell hbk4 (by decide) (by omega)
  have hB5 := hB4.trans hbb
  have hl3 : (s1 ++ lineTx (initW F.init)).length ≤ 100000000000 := by rw [List.length_append]; omega
  have HTX := Lib.hid htx
  obtain ⟨s2, hs2⟩ : ∃ s, s = s1 ++ lineTx (initW F.init) := ⟨_, rfl⟩
  rw [← hs2] at HTX hl3
  have HS2 := Lib.hid hs2
  have HBK5 := Lib.hid hbk5
  clear htx hbb hkk hB4 hbk4 HTL hs2 hl1 hl2
  obtain ⟨t0, t1, t2, t3, t4⟩ := box_of_blk hbk5
  clear hbk5
  go_wp2
  go_loopw [20] (fun i wr => PrRel F (.slice A0 F.init.length c0) (.slice A2 F.ths.length c2) (.slice A1 F.cond.length c1) w1.heap.size s2 w i wr) (fun i _ => F.ths.length - (intOf i).toNat)
  case atStart => exact ⟨0, Nat.zero_le _, rfl, by rw [List.take_zero]; unfold thsTx; simp only [List.map_nil, List.flatten_nil, List.append_nil]; exact HTX.out, hB5, HBK5.out⟩
  case round =>
    clear HTX HBK5 hB5 t0 t1 t2 t3 t4
    obtain ⟨k, hk, rfl, htx, hB, hbk⟩ := hrel
    have HTX := Lib.hid htx
    have HBK := Lib.hid hbk
    clear htx hbk
    have hT3 := thsTx_len (ts := F.ths.take k) (M := 100000) (fun ls hl => ⟨(HP.out.ok.ths ls (List.mem_of_mem_take hl)).1, HP.out.ths ls (List.mem_of_mem_take hl)⟩)
    rw [List.length_take, Nat.min_eq_left (by omega)] at hT3
    have hT4 : k * ((100000 + 1) * 400000) ≤ 3 * ((100000 + 1) * 400000) := Nat.mul_le_mul_right _ (by omega)
    have hlen : (s2 ++ thsTx (F.ths.take k)).length ≤ 1000000000000 := by rw [List.length_append]; omega
    clear hT3 hT4
    by_cases hlt : k < F.ths.length
    · obtain ⟨b1, f1, rfl, hb1', hcl⟩ := hb3 (by omega)
      obtain ⟨vl, d0w, hLn⟩ := hcl k hlt
      have hts := thsTx_take F.ths k hlt
      have hlo := HP.out.ok.ths F.ths[k] (List.getElem_mem hlt)
      have hlp := HP.out.ths F.ths[k] (List.getElem_mem hlt)
      obtain ⟨ls, hx⟩ : ∃ x, x = F.ths[k] := ⟨_, rfl⟩
      rw [← hx] at hLn hts hlo hlp
      have HTS := Lib.hid hts
      have d0 := (hB.cell (p := ⟨b1, f1 + k, none⟩) (Nat.lt_of_lt_of_le hb1' hBB)).trans d0w
      have HLn := Lib.hid ((hLn.more hBB).below hB)
      obtain ⟨A3, c3, rfl, -⟩ := hLn
      have hLa : Below wr.heap.size wr (wr.alloc (.cells #[.slice A3 ls.length c3] 46)) := below_al (Below.refl _ _) _
      have hBa := chain hB hLa
      have HTT := Lib.hid (tthread_any w.heap.size w1.heap.size (s2 ++ thsTx (F.ths.take k)) _ (HTX.out.below hLa) (HLn.out.below (hLa.mono hB.size)) hBa.size (fun W hW => HR.out.below (hBa.trans hW)) hlo.1 hlp hlen)
      have hbka := (hLa.block w.heap.size (Array.getElem?_eq_some_iff.1 HBK.out).1).trans HBK.out
      clear hx hcl hb3 hts d0w HLn hLa hlo hlp hB HTX HBK hlen
      go_wp2_with fail
      refine HTT.out.mono ?_
      rintro e wa ⟨rfl, hta, hba, hka⟩
      have HTA := Lib.hid hta
      have HBKa := Lib.hid (hka.cell hbka (by decide) (by omega))
      have hB6 := hBa.trans hba
      clear hta hba hka hbka hBa HTT d0
      go_wp2
      go_roundw
      case rel => exact ⟨k + 1, by omega, by go_num, by rw [HTS.out, ← List.append_assoc]; exact HTA.out, hB6, HBKa.out⟩
      case measure => simp [intOf]; omega
    · obtain rfl : F.ths.length = k := by omega
      rw [List.take_length] at HTX hlen
      have hbkf := HBK.out
      obtain ⟨t0, t1, t2, t3, t4⟩ := box_of_blk hbkf
      have HEW := Lib.hid (endw_any (B := w.heap.size) F.all wr (HR.out.below hB) (((HM.out.2.2).more hBB).below hB) hB.size HP.out.ok.nums.2.2 HP.out.cond)
      have hew := endW_words (al := F.all) (fun a ha => (HP.out.cond a ha).1) (fun a ha => ⟨(HP.out.ok.cond a ha).2, (HP.out.cond a ha).2⟩)
      have HEL := Lib.hid (endW_len F.all F.cond)
      have hnc := HP.out.ok.nums.2.2
      clear hb3 hbkf
      go_wp2_with fail
      refine HEW.out.mono ?_
      rintro e wa ⟨va, rfl, howna, hba⟩
      have hBa := chain hB hba
      have HTL := Lib.hid (tline_any w.heap.size w1.heap.size (s2 ++ thsTx F.ths) (ls := endW F.all F.cond) wa (HTX.out.below hba) (strs_own howna) hBa.size (by rw [HEL.out]; omega) hew (by omega))
      obtain ⟨Ab, cb, rfl⟩ := own_slice howna
      clear t0 t1 t2 t3 t4 HEW HTX hB hba howna hew HBK
      go_wp2_with fail
      refine HTL.out.mono ?_
      rintro e wb ⟨rfl, htb, hbb, hkb⟩
      have hBb := hBa.trans hbb
      have HE2 := Lib.hid (show printL F = s2 ++ (thsTx F.ths ++ lineTx (endW F.all F.cond)) from by rw [E.out, HS2.out, HS1.out]; unfold printR; rw [List.append_assoc])
      have HRD := Lib.hid (bread_any w.heap.size w1.heap.size (s2 ++ thsTx F.ths ++ lineTx (endW F.all F.cond)) wb htb (by unfold lineTx; simp))
      clear htb hbb hkb HTL hBa hlen
      go_wp2_with fail
      refine HRD.out.mono ?_
      rintro e wc ⟨rfl, hbc⟩
      go_wp2
      go_ret
      exact ⟨by rw [HE2.out]; rfl, hBb.trans hbc⟩
end Go.Proofs.YtkkjodjachbifaaGreatDoor
namespace Go.Proofs.YtkkjodjachbifaaGreatDoor
open Go.RowKit
set_option linter.unusedVariables false
set_option linter.unusedSimpArgs false
open WordM (L)
open VM
set_option maxHeartbeats 2000000 in
set_option maxRecDepth 100000 in
theorem sline_any (x : OpsM.Ln) (w : World) (hr : Regs w) (hx : LnSm x) :
    Calls Tryz.prog 14 #[.agg #[.int .i64 x.op, .string ⟨x.reg.toArray⟩, .string ⟨x.loc.toArray⟩, .string ⟨x.label.toArray⟩, .int .i64 x.n]] w fun e w' => e = .returned (.string ⟨(lineS x).toArray⟩) ∧ Below w.heap.size w w' := by
  obtain ⟨⟨s1, s2, s3⟩, s4⟩ := hx
  have hB0 := below_al (Below.refl w.heap.size w) (.cells #[.int .i64 x.op, .string ⟨x.reg.toArray⟩, .string ⟨x.loc.toArray⟩, .string ⟨x.label.toArray⟩, .int .i64 x.n] 28)
  have HW := Lib.hid (wordsw_any x _ (hr.below hB0) s4 (by omega) (by omega))
  unfold lnw lnv at HW
  go_enter Tryz.func14, Tryz.ntmps14
  go_wp2_with fail
  refine HW.out.mono ?_
  rintro e wa ⟨va, rfl, howna, hba⟩
  have hBa := chain hB0 hba
  have HJ := Lib.hid (join_any wa (strs_own howna) (Nat.le_refl _) (by have := wordsL_len x; omega) (wordsL_words s1 s2 s3 s4))
  obtain ⟨Aa, ca, rfl⟩ := own_slice howna
  clear HW hB0 hba howna
  go_wp2_with fail
  refine HJ.out.mono ?_
  rintro e wb ⟨rfl, hbb⟩
  have hBb := chain hBa hbb
  go_wp2
  go_ret
  exact ⟨rfl, hBb⟩
end Go.Proofs.YtkkjodjachbifaaGreatDoor
