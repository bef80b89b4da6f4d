/-
  THE DOCUMENT's Insert of layer 8.
-/
import Derived.Test.YtlpjgaeelnlipaaGreatK02
import Derived.Test.YtlpjgaeelnlipaaGreatSlK
import Derived.Test.YtlpjgaeelnlipaaGreatK10
import Derived.Test.YtlpjgaeelnlipaaGreatK32
import Derived.Laws.OwnMore
import Derived.Laws.AppendOwnNone
import Derived.Deep.RegionHeld3
import Derived.Deep.AppendLies
import Derived.Deep.DeepCutAuto
namespace Go.Proofs.YtlpjgaeelnlipaaGreat
open Go.RowKit
set_option linter.unusedVariables false
set_option linter.unusedSimpArgs false
open WordM (L)
open CodM (St Pg hasS)
open SlM

theorem sdset_oth {w : World} {x i y j : Nat} {u v : Value} (h : x ≠ y ∨ i ≠ j) (hc : w.cell? ⟨y, j, none⟩ = some u) : (w.setCell ⟨x, i, none⟩ v).cell? ⟨y, j, none⟩ = some u :=
  (World.cell?_setCell_other _ _ _ _ (fun e => by injection e with e1 e2; exact h.elim (fun k => k e1) (fun k => k e2))).trans hc
theorem sdbox_1 (w : World) (cs : Array Value) (T : TypeId) (i : Nat) {v : Value} (h : cs[i]? = some v) :
    (w.alloc (.cells cs T)).cell? ⟨w.heap.size, i, none⟩ = some v ∧ (w.alloc (.cells cs T)).frozen? ⟨w.heap.size, i, none⟩ = false := kept_box (Below.refl _ _) i h
theorem sd_nilz {w : World} {base : Nat} {e : TypeId} {size n : Nat} {v : Value} {xs : List Value} (h : w.ownsRow base e size v n xs) : NilZ v := by
  rcases h.2 with ⟨rfl, rfl⟩ | ⟨g, cap, cur, rfl, _⟩
  · intro n c e; injection e with _ _ e; exact e.symm
  · intro n c e; injection e with e; cases e
theorem wpList_append_src {P : Program} (w : World) {ops : Array Oper} {rest : List Oper} {o : Oper} {a : Act} {Q : Exit → Act → World → Prop} (hgd : o.guard = none) (s x : Operand) (t : TypeId)
    (ho : o.op = .call { callee := .builtin .append, args := #[s, x], argTypes := #[t, t] })
    (base : Nat) (e : TypeId) (i : TypeInfo) (z : Value) (size bytes : Nat) (ht : P.underlying t = some (.slice e)) (hi : P.info? e = some i) (hz : i.zero = some z)
    (hsize : i.size = size) (hby : i.bytes = bytes) (hzs : z.cells.size = size) (hsz : 0 < size)
    (v : Value) (n : Nat) (xs : List Value) (hs : a.eval s = v) (hown : w.ownsRow base e size v n xs)
    (A : Option Addr) (m c : Nat) (news : List Value) (hx : a.eval x = .slice A m c) (hl : news.length = m * size) (hnil : A = none → m = 0 ∧ c = 0) (hnews : ∀ ad, A = some ad → ∀ j u, news[j]? = some u → w.cell? (ad.add j) = some u) (h1 : ∀ u ∈ news, u.oneCell' = true)
    (h63 : n + m ≤ maxLen) (hbytes : (n + m) * bytes ≤ 140737488355328) (hbase : base ≤ w.heap.size)
    (h : ∀ v' w', w'.ownsRow base e size v' (n + m) (xs ++ news) → w.grownBy w' v.ownBlock → wpList P ops Q rest (a.put o.dst v') w') :
    wpList P ops Q (o :: rest) a w := by
  cases A with
  | some ad => exact wpList_append_own w hgd s x t ho base e i z size bytes ht hi hz hsize hby hzs hsz v n xs hs hown ad m c news hx hl (hnews ad rfl) h1 h63 hbytes hbase (fun v' w' a b _ => h v' w' a b)
  | none =>
    obtain ⟨rfl, rfl⟩ := hnil rfl
    have : news = [] := List.eq_nil_of_length_eq_zero (by rw [hl]; simp)
    subst this
    have hr := run_append_owned_none (P := P) (w := w) base t o.type e i size ht hi v n xs hown
    refine wpList_plain hgd fun K hK => ?_
    unfold Oper.wp execOp
    simp only [ho, resolve, invoke, builtin, Sem.run_bind, Sem.run_pure, Result.andThen_ok, List.map_toArray, List.map_cons, List.map_nil, hs, hx, hr]
    exact hK _ _ (h v w (by simpa using hown) ⟨rfl, rfl, rfl, Nat.le_refl _, fun _ _ _ => rfl⟩)
theorem set_frz {w : World} {b i g j : Nat} {v : Value} : (w.setCell ⟨b, i, none⟩ v).frozen? ⟨g, j, none⟩ = w.frozen? ⟨g, j, none⟩ := by
  simp
theorem own_st {W : World} {base b i T sz n : Nat} {v : Value} {xs : List Value} (h : W.ownsRow base T sz v n xs) (hb : b < base) (x : Value) : (W.setCell ⟨b, i, none⟩ x).ownsRow base T sz v n xs :=
  ownsRow_setCell_other h (fun e => by have := (h.lt _ e).1; change base ≤ b at this; omega) x
theorem stsAll_set {W : World} {base b i : Nat} {vs : List Value} {tss : List (List St)} (h : StsAll W base vs tss) (hb : b < base) (x : Value) : StsAll (W.setCell ⟨b, i, none⟩ x) base vs tss := by
  refine ⟨h.1, fun j hj => ?_⟩
  obtain ⟨u, h1, h2⟩ := h.2 j hj
  exact ⟨u, h1, own_st h2 hb x⟩
theorem pgm_ow {W : World} {b1 b2 b3 b4 : Nat} {T1 T2 : TypeId} {va vb : Value} {ns : List Int} {vs : List Value} {tss : List (List St)} {P : Pg} (h1 : W.ownsRow b1 T1 1 va ns.length (intCs ns)) (h2 : W.ownsRow b2 T2 1 vb tss.length vs) (h3 : StsAll W b3 vs tss) (hB : W.heap.size ≤ b4) (hP : P = ⟨ns, tss⟩) : PgM b4 W va vb P := by
  subst hP
  refine ⟨ints_of_own h1 hB, sss_of_own h2 hB (fun j hj => ?_)⟩
  obtain ⟨u, e, h⟩ := h3.2 j hj
  exact ⟨u, e, sts_of_own h hB⟩
theorem SmallC.le3 {P : Pg} (h : SmallC P) : 1 ≤ P.ths.length ∧ P.ths.length ≤ 3 := by
  have := h.r
  unfold CodM.rightP at this
  simp only [Bool.and_eq_true, decide_eq_true_eq] at this
  exact this.1.2
theorem stAt_fr {W W' : World} {b f : Nat} {s : St} (hW : Below W.heap.size W W') (hb : b < W.heap.size) (h : StAt W b f s) : StAt W' b f s :=
  ⟨(hW.cell (p := ⟨b, f, none⟩) hb).trans h.1, (hW.cell (p := ⟨b, f + 1, none⟩) hb).trans h.2.1, (hW.cell (p := ⟨b, f + 2, none⟩) hb).trans h.2.2.1, (hW.cell (p := ⟨b, f + 3, none⟩) hb).trans h.2.2.2.1, (hW.cell (p := ⟨b, f + 4, none⟩) hb).trans h.2.2.2.2⟩
/-- A thread's first steps with fences, their jumps moved. -/
def tkI (c : Nat → Bool) (ss : List St) (q : Nat) : List St := (wthN c fenS ss q).map (mv c ss.length)
theorem tkI_next (c : Nat → Bool) (ss : List St) (q : Nat) (h : q < ss.length) : tkI c ss (q + 1) = tkI c ss q ++ ((if c q then [fenS] else []) ++ [mv c ss.length ss[q]]) := by
  unfold tkI
  rw [wthN_next c fenS ss q h, List.map_append, List.map_append]
  cases c q <;> rfl
theorem tkI_len (c : Nat → Bool) (ss : List St) (q : Nat) : (tkI c ss q).length ≤ q * 2 := by unfold tkI; rw [List.length_map]; exact wthN_len c fenS ss q
theorem mv_no {c : Nat → Bool} {len k : Nat} {s : St} (h : StR len k s) (h8 : ¬ 8 ≤ s.op) : mv c len s = s := by
  unfold mv; rw [h.j, decide_eq_false h8]; rfl
theorem mv_jump {c f : Nat → Bool} {len k : Nat} {s : St} (h : StR len k s) (h8 : 8 ≤ s.op) (hf : ∀ i, i < len → f i = c i) : ∃ tn : Nat, s.5 = (tn : Int) ∧ tn ≤ len ∧ mv c len s = ⟨s.op, s.reg, s.loc, s.n, (tn : Int) + (cntC f tn : Nat)⟩ := by
  have h9 := h.t h8
  refine ⟨(s.5).toNat, by omega, by omega, ?_⟩
  unfold mv land
  rw [h.j, decide_eq_true h8, if_pos rfl]
  have e1 : (min (s.5) (len : Int)).toNat = (s.5).toNat := by omega
  rw [e1, cntC_congr (s.5).toNat (fun i hi => hf i (by omega))]
  congr 1
  omega
set_option maxHeartbeats 8000000 in
set_option maxRecDepth 100000 in
theorem rinsert_any {B : Nat} {vi vt vg : Value} {P : Pg} {g : List Int} (w : World) (hm : PgM B w vi vt P) (hg : Ints B w vg g) (hBB : B ≤ w.heap.size) (hs : SmallC P) (hzi : NilZ vi) :
    Calls Tryz.prog 16 #[.agg #[vi, vt], vg] w fun e w' => ∃ u, e = .returned u ∧ PgV w'.heap.size w' u (insP P g) ∧ (∀ a b, u = .agg #[a, b] → NilZ a) ∧ Below w.heap.size w w' := by
  have HS := Lib.hid hs
  have HHs := Lib.hid (fun n W (hW : Below w.heap.size w W) => rhas_any n W (hg.below (hW.mono hBB)) (Nat.le_trans hBB hW.size))
  have HCo := Lib.hid (fun fr m' W (hW : Below w.heap.size w W) h1 h2 => rcount_any fr m' W (hg.below (hW.mono hBB)) (Nat.le_trans hBB hW.size) h1 h2)
  obtain ⟨AG, cg, rfl, -⟩ := hg
  obtain ⟨⟨A0, c0, rfl, i1, i2, i3⟩, ⟨A1, c1, rfl, j1, j2, j3⟩⟩ := hm
  unfold maxLen at i2 j2
  obtain ⟨hth1, hth3⟩ := hs.le3
  have hin : P.init.length ≤ 60 := hs.s.init
  obtain ⟨b1, f1, rfl, hb1, hcl⟩ := j3 (by omega)
  have HCL := Lib.hid hcl
  clear hcl j3 hs
  have hz : Tryz.prog.cellsOf 25 = 2 := by kernel_rfl
  have HZ := Lib.hid hz
  clear hz
  have hBB1 := Lib.hid (below_al (Below.refl w.heap.size w) (.cells #[.slice A0 P.init.length c0, .slice (some ⟨b1, f1, none⟩) P.ths.length c1] 25))
  have hBB2 := Lib.hid (below_al hBB1.out (.cells #[.slice none 0 0, .slice none 0 0] 25))
  have HP := Lib.hid ((PgBox.at (w := w) rfl (.slice A0 P.init.length c0) (.slice (some ⟨b1, f1, none⟩) P.ths.length c1) 25).below (below_al (Below.refl _ _) (.cells #[.slice none 0 0, .slice none 0 0] 25)))
  have HR0 := Lib.hid (sdbox_1 (w.alloc (.cells #[.slice A0 P.init.length c0, .slice (some ⟨b1, f1, none⟩) P.ths.length c1] 25)) #[.slice none 0 0, .slice none 0 0] 25)
  rw [show (w.alloc (.cells #[.slice A0 P.init.length c0, .slice (some ⟨b1, f1, none⟩) P.ths.length c1] 25)).heap.size = w.heap.size + 1 from by simp] at HR0
  have hsz2 : ((w.alloc (.cells #[.slice A0 P.init.length c0, .slice (some ⟨b1, f1, none⟩) P.ths.length c1] 25)).alloc (.cells #[.slice none 0 0, .slice none 0 0] 25)).heap.size = w.heap.size + 2 := by simp
  obtain ⟨ii, hii, hiz, his, hib⟩ := info_parts info_int
  go_enter Tryz.func16, Tryz.ntmps16
  go_upto_region 1 with fail
  generalize (w.alloc (.cells #[.slice A0 P.init.length c0, .slice (some ⟨b1, f1, none⟩) P.ths.length c1] 25)).alloc (.cells #[.slice none 0 0, .slice none 0 0] 25) = w2 at *
  have HSZ2 := Lib.hid hsz2
  clear hBB1 hsz2
  have HB2 := Lib.hid hBB2.out
  clear hBB2
  go_cut [5] (fun s5 wx => ∃ (gp : Nat) (AI : Option Addr) (cI : Nat), s5 = .pointer (some ⟨gp, 0, none⟩) ∧ wx.cell? ⟨gp, 0, none⟩ = some (.slice AI P.init.length cI) ∧ (wx.cell? ⟨gp, 1, none⟩ = some (.slice none 0 0) ∧ wx.frozen? ⟨gp, 1, none⟩ = false) ∧ wx.ownsRow w2.heap.size 3 1 (.slice AI P.init.length cI) P.init.length (intCs P.init) ∧ Below w2.heap.size w2 wx ∧ w2.heap.size ≤ gp ∧ gp < wx.heap.size ∧ (Value.slice AI P.init.length cI).ownBlock ≠ some gp)
  case first =>
    obtain ⟨x0, x1⟩ := HP.out
    have l0 := lt_of_cell x0
    have hBe := Lib.hid (below_al (Below.refl w2.heap.size w2) (.cells #[] 3))
    have HO := Lib.hid (show (w2.alloc (.cells #[] 3)).ownsRow w2.heap.size 3 1 (.slice (some ⟨w2.heap.size, 0, none⟩) 0 0) 0 [] from by
      have := World.ownsRow_lit (base := w2.heap.size) (e := 3) (size := 1) w2 #[] 0 (Nat.le_refl _) (by decide) rfl
      simpa using this)
    have HC := Lib.hid (show ∀ ad, A0 = some ad → ∀ (q : Nat) (u : Value), (intCs P.init)[q]? = some u → (w2.alloc (.cells #[] 3)).cell? (ad.add q) = some u from fun ad had q u hu => by
      have hq : q < P.init.length := by have := (List.getElem?_eq_some_iff.1 hu).1; rwa [intCs_len] at this
      obtain ⟨b', f', e, hb, hc⟩ := i3 (by omega)
      rw [e] at had
      injection had with had
      subst had
      rw [Addr.add_lit]
      have hc2 := hc q hq
      unfold IntAt at hc2
      have hu2 : u = .int .i64 P.init[q] := by
        unfold intCs at hu
        rw [List.getElem?_map, List.getElem?_eq_getElem hq] at hu
        exact (Option.some.inj hu).symm
      rw [hu2]
      exact ((chain HB2.out hBe.out).cell (p := ⟨b', f' + q, none⟩) (Nat.lt_of_lt_of_le hb hBB)).trans hc2)
    have HNI := Lib.hid (show A0 = none → P.init.length = 0 ∧ c0 = 0 from fun e => by
      subst e
      refine ⟨?_, hzi _ _ rfl⟩
      rcases Nat.eq_zero_or_pos P.init.length with h | h
      · exact h
      · obtain ⟨_, _, e, _⟩ := i3 h; cases e)
    have HL := Lib.hid (show (intCs P.init).length = P.init.length * 1 from by rw [intCs_len, Nat.mul_one])
    have HON := Lib.hid (show ∀ u ∈ intCs P.init, u.oneCell' = true from fun u hu => by
      obtain ⟨x, _, hx⟩ := List.mem_map.1 hu
      subst hx; rfl)
    go_wp2_with (at_builtin; refine wpList_append_src _ rfl _ _ 22 rfl w2.heap.size 3 ii (.int .i64 0) 1 8 Tryz.underlying22 hii hiz his hib rfl (by decide) _ 0 [] rfl HO.out A0 P.init.length c0 (intCs P.init) rfl HL.out HNI.out HC.out HON.out (by unfold maxLen; omega) (by omega) (by simp) ?_; intro v1 wz hown1 hg1; rw [Nat.zero_add, List.nil_append] at hown1; obtain ⟨A8, c8, rfl⟩ := own_slice hown1)
    go_meet
    have hb1 := below_append hBe.out HO.out (Nat.le_refl _) hBe.out.size hg1
    have hb2 := below_al (Below.refl wz.heap.size wz) (.cells #[.slice A8 P.init.length c8, .slice none 0 0] 25)
    exact ⟨wz.heap.size, A8, c8, rfl, (sdbox_1 wz _ _ 0 rfl).1, sdbox_1 wz _ _ 1 rfl, own_below hown1 hb2, chain hb1 hb2, hb1.size, by simp, fun c => by have := (hown1.lt _ c).2; omega⟩
  case rest =>
    obtain ⟨gp, AI, cI, rfl, hg0, ⟨hg1, hgf⟩, hoI, hBc, hgl, hglt, hIg⟩ := hcut
    have hIgp := Lib.hid hIg
    clear hIg
    have HG0 := Lib.hid hg0
    have HG1 := Lib.hid (And.intro hg1 hgf)
    have HOI := Lib.hid hoI
    have HBC := Lib.hid hBc
    have hw2c := hBc.size
    have hw02 := HB2.out.size
    obtain ⟨i1', hi1', hz1, hz2, hz3⟩ := info_parts info_row
    obtain ⟨i2', hi2', hx1, hx2, hx3⟩ := info_parts info_stp
    have HMT := Lib.hid (fun (k : Nat) (h : k < P.ths.length) => show (insP P g).ths.take (k + 1) = (insP P g).ths.take k ++ [(insP P g).ths[k]'(by rw [insP_len]; exact h)] from
      List.take_succ_eq_append_getElem (by rw [insP_len]; exact h))
    have HTF := Lib.hid (show (insP P g).ths.take P.ths.length = (insP P g).ths from List.take_of_length_le (by rw [insP_len]; exact Nat.le_refl _))
    have HTL := Lib.hid (insP_len P g)
    have HIN := Lib.hid (show (insP P g).init = P.init from rfl)
    have HROW := Lib.hid (fun t (ht : t < P.ths.length) => insP_row (P := P) g ht)
    have HCH := Lib.hid (fun t k (ht : t < P.ths.length) (hk : k < P.ths[t].length) => ch_has g ht hk)
    have HST := Lib.hid (fun t k (ht : t < P.ths.length) (hk : k < P.ths[t].length) => HS.out.st ht hk)
    have HF40 := Lib.hid HS.out.f
    have HAH := Lib.hid (fun k (h : k < P.ths.length) => ahd_any P.ths h)
    clear hg0 hg1 hgf hoI hBc HS
    rename World => wB
    go_wp2
    go_loopw [6, 7] (fun fv i wr => (∃ (k fr : Nat) (vth : Value) (us : List Value), k ≤ P.ths.length ∧ i = .int .i64 k ∧ fv = .int .i64 fr ∧ fr = ahd anyS P.ths k ∧ fr ≤ k * 40 ∧ wr.ownsRow w2.heap.size 3 1 (.slice AI P.init.length cI) P.init.length (intCs P.init) ∧ wr.cell? ⟨gp, 0, none⟩ = some (.slice AI P.init.length cI) ∧ (wr.cell? ⟨gp, 1, none⟩ = some vth ∧ wr.frozen? ⟨gp, 1, none⟩ = false) ∧
      wr.ownsRow wB.heap.size 73 1 vth k us ∧ StsAll wr wB.heap.size us ((insP P g).ths.take k) ∧ Below w2.heap.size w2 wr ∧ wB.heap.size ≤ wr.heap.size)) (fun _ i _ => P.ths.length - (intOf i).toNat)
    case atStart => exact ⟨0, 0, .slice none 0 0, [], Nat.zero_le _, rfl, rfl, rfl, Nat.le_refl _, HOI.out, HG0.out, HG1.out, World.ownsRow_nil _ _ _ _, ⟨by simp, fun j hj => absurd hj (by simp)⟩, HBC.out, Nat.le_refl _⟩
    case round =>
      obtain ⟨k, fr, vth, us, hk, rfl, rfl, hfr, hfk, hio, y0, ⟨y1, yz⟩, hot, hst, hB6, hle⟩ := hrel
      obtain ⟨x0, x1⟩ := HP.out.below hB6
      have HFR := Lib.hid hfr
      clear hfr
      by_cases hlt : k < P.ths.length
      · obtain ⟨u, zw, hLw⟩ := HCL.out k hlt
        have z0 := ((chain HB2.out hB6).cell (p := ⟨b1, f1 + k, none⟩) (Nat.lt_of_lt_of_le hb1 hBB)).trans zw
        have hL := hLw.below ((chain HB2.out hB6).mono hBB)
        have hmt := HMT.out k hlt
        rw [HROW.out k hlt] at hmt
        have hl40 := HF40.out _ (List.getElem_mem hlt)
        have HNX := Lib.hid (show fr + P.ths[k].length = ahd anyS P.ths (k + 1) from by rw [HAH.out k hlt, ← HFR.out])
        have HCk := Lib.hid (fun q (hq : q < P.ths[k].length) => show has g ((fr : Int) + (q : Int)) = ch anyS P.ths g k q from by rw [HCH.out k q hlt hq, ← HFR.out]; rfl)
        have HSTk := Lib.hid (fun q (hq : q < P.ths[k].length) => HST.out k q hlt hq)
        obtain ⟨ss, hx⟩ : ∃ x, x = P.ths[k] := ⟨_, rfl⟩
        rw [← hx] at hL hmt hl40 HNX HCk HSTk
        generalize ch anyS P.ths g k = cf at *
        have HKE := Lib.hid (show tkI cf ss ss.length = (wthN cf fenS ss ss.length).map (mv cf ss.length) from rfl)
        rw [← HKE.out] at hmt
        have HKS := Lib.hid (fun m (h : m < ss.length) => tkI_next cf ss m h)
        have HKL := Lib.hid (fun m => tkI_len cf ss m)
        have HK0 := Lib.hid (show tkI cf ss 0 = [] from rfl)
        have HJ := Lib.hid (fun q (hq : q < ss.length) => And.intro (fun h => mv_no (c := cf) (HSTk.out q hq) h) (fun h => mv_jump (c := cf) (f := fun i => has g ((fr + i : Nat) : Int)) (HSTk.out q hq) h (fun i hi => HCk.out i hi)))
        generalize mv cf ss.length = mf at *
        generalize tkI cf ss = tk at *
        have HL := Lib.hid hL
        obtain ⟨A3, c3, rfl, e1, e2, e3⟩ := hL
        have HPZ := Lib.hid (fun W (hW : Below w2.heap.size w2 W) => And.intro (HP.out.below hW).2 (((chain HB2.out hW).cell (p := ⟨b1, f1 + k, none⟩) (Nat.lt_of_lt_of_le hb1 hBB)).trans zw))
        clear hLw zw
        unfold maxLen at e2
        have HMK2 := Lib.hid hmt
        have HIO2 := Lib.hid hio
        have HOT := Lib.hid hot
        have HST2 := Lib.hid hst
        have Y1 := Lib.hid (And.intro y1 yz)
        obtain ⟨Avt, cvt, rfl⟩ := own_slice hot
        have Y0' := Lib.hid y0
        have HW6 := Lib.hid hB6
        have hlt0 := lt_of_cell x0
        clear hx hmt hio hot hst HKE HSTk
        rename World => w6
        have HPX := Lib.hid (fun W (hW : Below w6.heap.size w6 W) => And.intro (kc hW x1) (kc hW z0))
        have hsz26 := hB6.size
        go_wp2
        clear x0 x1 z0 y0 y1 yz hB6
        go_loopw [8, 9] (fun v i wq => (∃ (q n : Nat), q ≤ ss.length ∧ i = .int .i64 q ∧ n = (tk q).length ∧ n ≤ q * 2 ∧ wq.ownsRow w6.heap.size 75 5 v n (stsCs (tk q)) ∧ Below w6.heap.size w6 wq)) (fun _ i _ => ss.length - (intOf i).toNat)
        case atStart => exact ⟨0, 0, Nat.zero_le _, rfl, by rw [HK0.out]; rfl, Nat.le_refl _, by rw [HK0.out]; exact World.ownsRow_nil _ _ _ _, Below.refl _ _⟩
        case round =>
          obtain ⟨q, n, hq, rfl, hn, hn2, how, hBQ⟩ := hrel
          have HNn := Lib.hid hn
          obtain ⟨Au, cu, rfl⟩ := own_slice how
          obtain ⟨x1, z0⟩ := HPX.out _ hBQ
          have HOW := Lib.hid how
          have HBQ := Lib.hid hBQ
          clear hn how hBQ
          by_cases hlq : q < ss.length
          · obtain ⟨b3, f3, rfl, hb3, hc3⟩ := e3 (by omega)
            have HSC := Lib.hid (fun W (hW : Below w6.heap.size w6 W) => stAt_fr hW (by omega) (hc3 q hlq))
            have hks := HKS.out q hlq
            have hj := HJ.out q hlq
            obtain ⟨s, hs⟩ : ∃ s, s = ss[q] := ⟨_, rfl⟩
            rw [← hs] at hks
            simp only [← hs] at HSC hj
            have HKq := Lib.hid hks
            have HJq := Lib.hid hj
            have HCq := Lib.hid (HCk.out q hlq)
            have hszq := HBQ.out.size
            clear hks hj hs hc3 e3
            go_wp2_with fail
            refine (HHs.out ((fr : Int) + (q : Int)) _ (chain (chain HB2.out HW6.out) HBQ.out)).mono ?_
            rintro e w7 ⟨rfl, rfl⟩
            rw [HCq.out]
            cases hcq : cf q
            case true =>
              have HE := Lib.hid (show tk (q + 1) = (tk q ++ [fenS]) ++ [mf s] from by rw [HKq.out, hcq, List.append_assoc]; rfl)
              have HVC := Lib.hid (HOW.out.alloc (.cells #[.int .i64 6, .int .i64 0, .int .i64 0, .int .i64 0, .int .i64 0] 75))
              have HNW := Lib.hid (World.news_of_block (heap_alloc_new wr (.cells #[.int .i64 6, .int .i64 0, .int .i64 0, .int .i64 0, .int .i64 0] 75)))
              clear hcq HKq HCq
              go_upto_region 12 with (at_builtin; refine wpList_append_own _ rfl _ _ 73 rfl w6.heap.size 75 i2' _ 5 40 Tryz.underlying73 hi2' hx1 hx2 hx3 rfl (by decide) (.slice Au n cu) n (stsCs (tk q)) rfl HVC.out ⟨wr.heap.size, 0, none⟩ 1 1 [.int .i64 6, .int .i64 0, .int .i64 0, .int .i64 0, .int .i64 0] rfl rfl HNW.out (by simp [Value.oneCell']) (by unfold maxLen; omega) (by omega) (by simp; omega) ?_; intro v1 wz hown1 hg1 _)
              obtain ⟨A1, c1', rfl⟩ := own_slice hown1
              have HBZ := Lib.hid (below_append (below_al HBQ.out (.cells #[.int .i64 6, .int .i64 0, .int .i64 0, .int .i64 0, .int .i64 0] 75)) HVC.out (Nat.le_refl _) (by simp; omega) hg1)
              have HO1 := Lib.hid (show wz.ownsRow w6.heap.size 75 5 (.slice A1 (n + 1) c1') (n + 1) (stsCs (tk q ++ [fenS])) from by rw [stsCs_app]; exact hown1)
              have HLN := Lib.hid (show n + 1 = (tk q ++ [fenS]).length from by rw [List.length_append, ← HNn.out]; rfl)
              clear hown1 hg1 HVC HNW HOW x1 z0
              obtain ⟨⟨x1, z0⟩, s0, s1, s2, s3, s4⟩ := And.intro (HPX.out _ HBZ.out) (HSC.out _ HBZ.out)
              have l1 := lt_of_cell x1
              have l2 := lt_of_cell z0
              have l3 := lt_of_cell s0
              by_cases h8 : 8 ≤ s.op
              · have q8 : decide (8 ≤ s.op) = true := decide_eq_true h8
                obtain ⟨tn, htn, htl, hmf⟩ := HJq.out.2 h8
                have HMF := Lib.hid (show stsCs [mf s] = [.int .i64 s.op, .int .i64 s.reg, .int .i64 s.loc, .int .i64 s.n, .int .i64 ((tn : Int) + (cntC (fun i => has g ((fr + i : Nat) : Int)) tn : Nat))] from by rw [hmf]; rfl)
                have hcl := cntC_le (fun i => has g ((fr + i : Nat) : Int)) tn
                have HCT := Lib.hid (fun W h1 => HCo.out fr tn W h1 (by omega) (by omega))
                generalize cntC (fun i => has g ((fr + i : Nat) : Int)) = cn at *
                rw [htn] at s4
                clear htn hmf HJq
                go_upto_region 14 with fail
                have HB8 := Lib.hid (below_al HBZ.out (.cells #[.int .i64 s.op, .int .i64 s.reg, .int .i64 s.loc, .int .i64 s.n, .int .i64 tn] 75))
                have HX8 := Lib.hid (fun (i : Nat) (v : Value) (h : (#[.int .i64 s.op, .int .i64 s.reg, .int .i64 s.loc, .int .i64 s.n, .int .i64 tn] : Array Value)[i]? = some v) => sdbox_1 wz _ 75 i h)
                have HO8 := Lib.hid (own_below HO1.out (below_al (Below.refl wz.heap.size wz) (.cells #[.int .i64 s.op, .int .i64 s.reg, .int .i64 s.loc, .int .i64 s.n, .int .i64 tn] 75)))
                have HZW := Lib.hid (below_al (Below.refl wz.heap.size wz) (.cells #[.int .i64 s.op, .int .i64 s.reg, .int .i64 s.loc, .int .i64 s.n, .int .i64 tn] 75))
                generalize wz.alloc (.cells #[.int .i64 s.op, .int .i64 s.reg, .int .i64 s.loc, .int .i64 s.n, .int .i64 tn] 75) = W8 at *
                obtain ⟨g8, hg8⟩ : ∃ g, g = wz.heap.size := ⟨_, rfl⟩
                rw [← hg8] at HX8 ⊢
                have HG8 := Lib.hid hg8
                clear hg8
                clear x1 z0 s0 s1 s2 s3 s4 l1 l2 l3
                have hszz := HBZ.out.size
                have hwr : IntKind.i64.wrap ((tn : Int) + ((cn tn : Nat) : Int)) = (tn : Int) + ((cn tn : Nat) : Int) := IntWalk.i64_in _ (by omega)
                go_cut [] (fun wx => wx.cell? ⟨g8, 0, none⟩ = some (.int .i64 s.op) ∧ wx.cell? ⟨g8, 1, none⟩ = some (.int .i64 s.reg) ∧ wx.cell? ⟨g8, 2, none⟩ = some (.int .i64 s.loc) ∧ wx.cell? ⟨g8, 3, none⟩ = some (.int .i64 s.n) ∧ wx.cell? ⟨g8, 4, none⟩ = some (.int .i64 ((tn : Int) + (cn tn : Nat))) ∧ wx.ownsRow w6.heap.size 75 5 (.slice A1 (n + 1) c1') (n + 1) (stsCs (tk q ++ [fenS])) ∧ Below w6.heap.size w6 wx)
                case first =>
                  have r0 := (HX8.out 0 _ rfl).1
                  have r1 := (HX8.out 1 _ rfl).1
                  have r2 := (HX8.out 2 _ rfl).1
                  have r3 := (HX8.out 3 _ rfl).1
                  have r4 := (HX8.out 4 _ rfl).1
                  have z4 := (HX8.out 4 _ rfl).2
                  have HOS := Lib.hid (own_below HO1.out (show Below wz.heap.size wz (W8.drew.setCell ⟨g8, 4, none⟩ (.int .i64 ((tn : Int) + (cn tn : Nat)))) from (below_drewN HZW.out 1).setCell (p := ⟨g8, 4, none⟩) (by show wz.heap.size ≤ g8; have := HG8.out; omega) _))
                  refine wp_region_held_drew (S := (fun w' => Below w6.heap.size w6 w')) (by kernel_rfl) (below_drewN HB8.out 1) (fun hHeld => ?_)
                  refine wtk 0 ?_ ?_ ?_
                  rotate_left
                  · intro w hSw; (try dsimp only at hSw); go_simp; (try with_reducible rfl)
                  (try simp only [Act.put, pt8])
                  refine wtk 2 ?_ ?_ ?_
                  rotate_left
                  · intro w hSw; (try dsimp only at hSw); go_simp; (try with_reducible rfl)
                  (try simp only [Act.put, pt8])
                  refine wtk 3 ?_ ?_ ?_
                  rotate_left
                  · intro w hSw; (try dsimp only at hSw); go_simp; (try with_reducible rfl)
                  (try simp only [Act.put, pt8])
                  refine wtk 4 ?_ ?_ ?_
                  rotate_left
                  · intro w hSw; (try dsimp only at hSw); go_simp; (try with_reducible rfl)
                  (try simp only [Act.put, pt8])
                  refine wpAnyH_ready (rs := [1, 5]) (by kernel_rfl) (by simp) ?_
                  refine AllReadyH.cons rfl (fun K hK => ?_) (AllReadyH.cons rfl (fun K hK => ?_) (AllReadyH.nil))
                  · -- 1 first
                    go_simp
                    refine hK.out _ _ hHeld (fun hHeld => ?_)
                    clear hK K
                    (try simp only [Act.put, pt8])
                    refine wpAnyH_ready (rs := [5]) (by kernel_rfl) (by simp) ?_
                    refine AllReadyH.cons rfl (fun K hK => ?_) AllReadyH.nil
                    go_simp
                    refine hK.out _ _ hHeld (fun hHeld => ?_)
                    clear hK K
                    (try simp only [Act.put, pt8])
                    refine wpAnyH_ready (rs := [6]) (by kernel_rfl) (by simp) ?_
                    refine AllReadyH.cons rfl (fun K hK => ?_) AllReadyH.nil
                    go_simp
                    refine (HCT.out _ (chain (chain HB2.out HW6.out) hHeld)).mono ?_
                    rintro e wc' ⟨rfl, rfl⟩
                    refine hK.out _ _ hHeld (fun hHeld => ?_)
                    clear hK K
                    (try simp only [Act.put, pt8])
                    refine wtk 7 ?_ ?_ ?_
                    rotate_left
                    · intro w hSw; (try dsimp only at hSw); go_simp; (try with_reducible rfl)
                    (try simp only [Act.put, pt8])
                    refine wtk 8 ?_ ?_ ?_
                    rotate_left
                    · intro w hSw; (try dsimp only at hSw); go_simp; (try with_reducible rfl)
                    (try simp only [Act.put, pt8])
                    refine wpAnyH_ready (rs := [9]) (by kernel_rfl) (by simp) ?_
                    refine AllReadyH.cons rfl (fun K hK => ?_) AllReadyH.nil
                    go_simp
                    refine hK.out _ _ (hHeld.setCell (p := ⟨g8, 4, none⟩) (by show w6.heap.size ≤ g8; have := HG8.out; omega) _) (fun hHeld => ?_)
                    clear hK K
                    (try simp only [Act.put, pt8])
                    refine wpAnyH_done (by kernel_rfl) ?_ _
                    go_wp2_with fail
                    go_meet
                    exact ⟨sdset_oth (.inr (by decide)) r0, sdset_oth (.inr (by decide)) r1, sdset_oth (.inr (by decide)) r2, sdset_oth (.inr (by decide)) r3, World.cell?_setCell_same _ _ _ r4, HOS.out, hHeld⟩
                  · -- 5 first
                    go_simp
                    refine hK.out _ _ hHeld (fun hHeld => ?_)
                    clear hK K
                    (try simp only [Act.put, pt8])
                    refine wpAnyH_ready (rs := [1, 6]) (by kernel_rfl) (by simp) ?_
                    refine AllReadyH.cons rfl (fun K hK => ?_) (AllReadyH.cons rfl (fun K hK => ?_) (AllReadyH.nil))
                    · -- 1 first
                      go_simp
                      refine hK.out _ _ hHeld (fun hHeld => ?_)
                      clear hK K
                      (try simp only [Act.put, pt8])
                      refine wpAnyH_ready (rs := [6]) (by kernel_rfl) (by simp) ?_
                      refine AllReadyH.cons rfl (fun K hK => ?_) AllReadyH.nil
                      go_simp
                      refine (HCT.out _ (chain (chain HB2.out HW6.out) hHeld)).mono ?_
                      rintro e wc' ⟨rfl, rfl⟩
                      refine hK.out _ _ hHeld (fun hHeld => ?_)
                      clear hK K
                      (try simp only [Act.put, pt8])
                      refine wtk 7 ?_ ?_ ?_
                      rotate_left
                      · intro w hSw; (try dsimp only at hSw); go_simp; (try with_reducible rfl)
                      (try simp only [Act.put, pt8])
                      refine wtk 8 ?_ ?_ ?_
                      rotate_left
                      · intro w hSw; (try dsimp only at hSw); go_simp; (try with_reducible rfl)
                      (try simp only [Act.put, pt8])
                      refine wpAnyH_ready (rs := [9]) (by kernel_rfl) (by simp) ?_
                      refine AllReadyH.cons rfl (fun K hK => ?_) AllReadyH.nil
                      go_simp
                      refine hK.out _ _ (hHeld.setCell (p := ⟨g8, 4, none⟩) (by show w6.heap.size ≤ g8; have := HG8.out; omega) _) (fun hHeld => ?_)
                      clear hK K
                      (try simp only [Act.put, pt8])
                      refine wpAnyH_done (by kernel_rfl) ?_ _
                      go_wp2_with fail
                      go_meet
                      exact ⟨sdset_oth (.inr (by decide)) r0, sdset_oth (.inr (by decide)) r1, sdset_oth (.inr (by decide)) r2, sdset_oth (.inr (by decide)) r3, World.cell?_setCell_same _ _ _ r4, HOS.out, hHeld⟩
                    · -- 6 first
                      go_simp
                      refine (HCT.out _ (chain (chain HB2.out HW6.out) hHeld)).mono ?_
                      rintro e wc' ⟨rfl, rfl⟩
                      refine hK.out _ _ hHeld (fun hHeld => ?_)
                      clear hK K
                      (try simp only [Act.put, pt8])
                      refine wpAnyH_ready (rs := [1]) (by kernel_rfl) (by simp) ?_
                      refine AllReadyH.cons rfl (fun K hK => ?_) AllReadyH.nil
                      go_simp
                      refine hK.out _ _ hHeld (fun hHeld => ?_)
                      clear hK K
                      (try simp only [Act.put, pt8])
                      refine wtk 7 ?_ ?_ ?_
                      rotate_left
                      · intro w hSw; (try dsimp only at hSw); go_simp; (try with_reducible rfl)
                      (try simp only [Act.put, pt8])
                      refine wtk 8 ?_ ?_ ?_
                      rotate_left
                      · intro w hSw; (try dsimp only at hSw); go_simp; (try with_reducible rfl)
                      (try simp only [Act.put, pt8])
                      refine wpAnyH_ready (rs := [9]) (by kernel_rfl) (by simp) ?_
                      refine AllReadyH.cons rfl (fun K hK => ?_) AllReadyH.nil
                      go_simp
                      refine hK.out _ _ (hHeld.setCell (p := ⟨g8, 4, none⟩) (by show w6.heap.size ≤ g8; have := HG8.out; omega) _) (fun hHeld => ?_)
                      clear hK K
                      (try simp only [Act.put, pt8])
                      refine wpAnyH_done (by kernel_rfl) ?_ _
                      go_wp2_with fail
                      go_meet
                      exact ⟨sdset_oth (.inr (by decide)) r0, sdset_oth (.inr (by decide)) r1, sdset_oth (.inr (by decide)) r2, sdset_oth (.inr (by decide)) r3, World.cell?_setCell_same _ _ _ r4, HOS.out, hHeld⟩
                case rest =>
                  obtain ⟨r0, r1, r2, r3, r4, hO, hB⟩ := hcut
                  have HO9 := Lib.hid hO
                  have HB9 := Lib.hid hB
                  clear hO hB HX8 HB8 HO8 HG8 HZW hwr
                  have HVC2 := Lib.hid (HO9.out.alloc (.cells #[.int .i64 s.op, .int .i64 s.reg, .int .i64 s.loc, .int .i64 s.n, .int .i64 ((tn : Int) + (cn tn : Nat))] 75))
                  have HNW2 := Lib.hid (World.news_of_block (heap_alloc_new wc (.cells #[.int .i64 s.op, .int .i64 s.reg, .int .i64 s.loc, .int .i64 s.n, .int .i64 ((tn : Int) + (cn tn : Nat))] 75)))
                  have hszW := HB9.out.size
                  go_wp2_with (at_builtin; refine wpList_append_own _ rfl _ _ 73 rfl w6.heap.size 75 i2' _ 5 40 Tryz.underlying73 hi2' hx1 hx2 hx3 rfl (by decide) (.slice A1 (n + 1) c1') (n + 1) (stsCs (tk q ++ [fenS])) rfl HVC2.out ⟨wc.heap.size, 0, none⟩ 1 1 [.int .i64 s.op, .int .i64 s.reg, .int .i64 s.loc, .int .i64 s.n, .int .i64 ((tn : Int) + (cn tn : Nat))] rfl rfl HNW2.out (by simp [Value.oneCell']) (by unfold maxLen; omega) (by omega) (by simp; omega) ?_; intro v2 wy hown2 hg2 _)
                  have hBy := below_append (below_al HB9.out (.cells #[.int .i64 s.op, .int .i64 s.reg, .int .i64 s.loc, .int .i64 s.n, .int .i64 ((tn : Int) + (cn tn : Nat))] 75)) HVC2.out (Nat.le_refl _) (by simp; omega) hg2
                  go_roundw
                  case rel => exact ⟨q + 1, n + 1 + 1, by omega, by go_num, by rw [HE.out, List.length_append, ← HLN.out]; rfl, by omega, by rw [HE.out, stsCs_app, HMF.out]; exact hown2, hBy⟩
                  case measure => simp [intOf]; omega
              · have q8 : decide (8 ≤ s.op) = false := decide_eq_false h8
                have HMF := Lib.hid (show stsCs [mf s] = [.int .i64 s.op, .int .i64 s.reg, .int .i64 s.loc, .int .i64 s.n, .int .i64 s.5] from by rw [HJq.out.1 (by omega)]; rfl)
                clear HJq
                go_upto_region 15 with fail
                have HB8 := Lib.hid (below_al HBZ.out (.cells #[.int .i64 s.op, .int .i64 s.reg, .int .i64 s.loc, .int .i64 s.n, .int .i64 s.5] 75))
                have HX8 := Lib.hid (fun (i : Nat) (v : Value) (h : (#[.int .i64 s.op, .int .i64 s.reg, .int .i64 s.loc, .int .i64 s.n, .int .i64 s.5] : Array Value)[i]? = some v) => sdbox_1 wz _ 75 i h)
                have HO8 := Lib.hid (own_below HO1.out (below_al (Below.refl wz.heap.size wz) (.cells #[.int .i64 s.op, .int .i64 s.reg, .int .i64 s.loc, .int .i64 s.n, .int .i64 s.5] 75)))
                have HZW := Lib.hid (below_al (Below.refl wz.heap.size wz) (.cells #[.int .i64 s.op, .int .i64 s.reg, .int .i64 s.loc, .int .i64 s.n, .int .i64 s.5] 75))
                generalize wz.alloc (.cells #[.int .i64 s.op, .int .i64 s.reg, .int .i64 s.loc, .int .i64 s.n, .int .i64 s.5] 75) = W8 at *
                obtain ⟨g8, hg8⟩ : ∃ g, g = wz.heap.size := ⟨_, rfl⟩
                rw [← hg8] at HX8 ⊢
                have HG8 := Lib.hid hg8
                clear hg8
                clear x1 z0 s0 s1 s2 s3 s4 l1 l2 l3
                have r0 := (HX8.out 0 _ rfl).1
                have r1 := (HX8.out 1 _ rfl).1
                have r2 := (HX8.out 2 _ rfl).1
                have r3 := (HX8.out 3 _ rfl).1
                have r4 := (HX8.out 4 _ rfl).1
                have HVC2 := Lib.hid (HO8.out.alloc (.cells #[.int .i64 s.op, .int .i64 s.reg, .int .i64 s.loc, .int .i64 s.n, .int .i64 (s.5)] 75))
                have HNW2 := Lib.hid (World.news_of_block (heap_alloc_new W8 (.cells #[.int .i64 s.op, .int .i64 s.reg, .int .i64 s.loc, .int .i64 s.n, .int .i64 (s.5)] 75)))
                have hszW := HB8.out.size
                go_wp2_with (at_builtin; refine wpList_append_own _ rfl _ _ 73 rfl w6.heap.size 75 i2' _ 5 40 Tryz.underlying73 hi2' hx1 hx2 hx3 rfl (by decide) (.slice A1 (n + 1) c1') (n + 1) (stsCs (tk q ++ [fenS])) rfl HVC2.out ⟨W8.heap.size, 0, none⟩ 1 1 [.int .i64 s.op, .int .i64 s.reg, .int .i64 s.loc, .int .i64 s.n, .int .i64 (s.5)] rfl rfl HNW2.out (by simp [Value.oneCell']) (by unfold maxLen; omega) (by omega) (by simp; omega) ?_; intro v2 wy hown2 hg2 _)
                have hBy := below_append (below_al HB8.out (.cells #[.int .i64 s.op, .int .i64 s.reg, .int .i64 s.loc, .int .i64 s.n, .int .i64 (s.5)] 75)) HVC2.out (Nat.le_refl _) (by simp; omega) hg2
                go_roundw
                case rel => exact ⟨q + 1, n + 1 + 1, by omega, by go_num, by rw [HE.out, List.length_append, ← HLN.out]; rfl, by omega, by rw [HE.out, stsCs_app, HMF.out]; exact hown2, hBy⟩
                case measure => simp [intOf]; omega
            case false =>
              have HE := Lib.hid (show tk (q + 1) = tk q ++ [mf s] from by rw [HKq.out, hcq]; rfl)
              have HBZ := Lib.hid HBQ.out
              have HO1 := Lib.hid HOW.out
              have HLN := Lib.hid HNn.out
              clear hcq HKq HCq HOW
              go_upto_region 12 with fail
              obtain ⟨⟨x1, z0⟩, s0, s1, s2, s3, s4⟩ := And.intro (HPX.out _ HBZ.out) (HSC.out _ HBZ.out)
              have l1 := lt_of_cell x1
              have l2 := lt_of_cell z0
              have l3 := lt_of_cell s0
              by_cases h8 : 8 ≤ s.op
              · have q8 : decide (8 ≤ s.op) = true := decide_eq_true h8
                obtain ⟨tn, htn, htl, hmf⟩ := HJq.out.2 h8
                have HMF := Lib.hid (show stsCs [mf s] = [.int .i64 s.op, .int .i64 s.reg, .int .i64 s.loc, .int .i64 s.n, .int .i64 ((tn : Int) + (cntC (fun i => has g ((fr + i : Nat) : Int)) tn : Nat))] from by rw [hmf]; rfl)
                have hcl := cntC_le (fun i => has g ((fr + i : Nat) : Int)) tn
                have HCT := Lib.hid (fun W h1 => HCo.out fr tn W h1 (by omega) (by omega))
                generalize cntC (fun i => has g ((fr + i : Nat) : Int)) = cn at *
                rw [htn] at s4
                clear htn hmf HJq
                go_upto_region 14 with fail
                have HB8 := Lib.hid (below_al HBZ.out (.cells #[.int .i64 s.op, .int .i64 s.reg, .int .i64 s.loc, .int .i64 s.n, .int .i64 tn] 75))
                have HX8 := Lib.hid (fun (i : Nat) (v : Value) (h : (#[.int .i64 s.op, .int .i64 s.reg, .int .i64 s.loc, .int .i64 s.n, .int .i64 tn] : Array Value)[i]? = some v) => sdbox_1 wr _ 75 i h)
                have HO8 := Lib.hid (own_below HO1.out (below_al (Below.refl wr.heap.size wr) (.cells #[.int .i64 s.op, .int .i64 s.reg, .int .i64 s.loc, .int .i64 s.n, .int .i64 tn] 75)))
                have HZW := Lib.hid (below_al (Below.refl wr.heap.size wr) (.cells #[.int .i64 s.op, .int .i64 s.reg, .int .i64 s.loc, .int .i64 s.n, .int .i64 tn] 75))
                generalize wr.alloc (.cells #[.int .i64 s.op, .int .i64 s.reg, .int .i64 s.loc, .int .i64 s.n, .int .i64 tn] 75) = W8 at *
                obtain ⟨g8, hg8⟩ : ∃ g, g = wr.heap.size := ⟨_, rfl⟩
                rw [← hg8] at HX8 ⊢
                have HG8 := Lib.hid hg8
                clear hg8
                clear x1 z0 s0 s1 s2 s3 s4 l1 l2 l3
                have hszz := HBZ.out.size
                have hwr : IntKind.i64.wrap ((tn : Int) + ((cn tn : Nat) : Int)) = (tn : Int) + ((cn tn : Nat) : Int) := IntWalk.i64_in _ (by omega)
                go_cut [] (fun wx => wx.cell? ⟨g8, 0, none⟩ = some (.int .i64 s.op) ∧ wx.cell? ⟨g8, 1, none⟩ = some (.int .i64 s.reg) ∧ wx.cell? ⟨g8, 2, none⟩ = some (.int .i64 s.loc) ∧ wx.cell? ⟨g8, 3, none⟩ = some (.int .i64 s.n) ∧ wx.cell? ⟨g8, 4, none⟩ = some (.int .i64 ((tn : Int) + (cn tn : Nat))) ∧ wx.ownsRow w6.heap.size 75 5 (.slice Au (n) cu) (n) (stsCs (tk q)) ∧ Below w6.heap.size w6 wx)
                case first =>
                  have r0 := (HX8.out 0 _ rfl).1
                  have r1 := (HX8.out 1 _ rfl).1
                  have r2 := (HX8.out 2 _ rfl).1
                  have r3 := (HX8.out 3 _ rfl).1
                  have r4 := (HX8.out 4 _ rfl).1
                  have z4 := (HX8.out 4 _ rfl).2
                  have HOS := Lib.hid (own_below HO1.out (show Below wr.heap.size wr (W8.drew.setCell ⟨g8, 4, none⟩ (.int .i64 ((tn : Int) + (cn tn : Nat)))) from (below_drewN HZW.out 1).setCell (p := ⟨g8, 4, none⟩) (by show wr.heap.size ≤ g8; have := HG8.out; omega) _))
                  refine wp_region_held_drew (S := (fun w' => Below w6.heap.size w6 w')) (by kernel_rfl) (below_drewN HB8.out 1) (fun hHeld => ?_)
                  refine wtk 0 ?_ ?_ ?_
                  rotate_left
                  · intro w hSw; (try dsimp only at hSw); go_simp; (try with_reducible rfl)
                  (try simp only [Act.put, pt8])
                  refine wtk 2 ?_ ?_ ?_
                  rotate_left
                  · intro w hSw; (try dsimp only at hSw); go_simp; (try with_reducible rfl)
                  (try simp only [Act.put, pt8])
                  refine wtk 3 ?_ ?_ ?_
                  rotate_left
                  · intro w hSw; (try dsimp only at hSw); go_simp; (try with_reducible rfl)
                  (try simp only [Act.put, pt8])
                  refine wtk 4 ?_ ?_ ?_
                  rotate_left
                  · intro w hSw; (try dsimp only at hSw); go_simp; (try with_reducible rfl)
                  (try simp only [Act.put, pt8])
                  refine wpAnyH_ready (rs := [1, 5]) (by kernel_rfl) (by simp) ?_
                  refine AllReadyH.cons rfl (fun K hK => ?_) (AllReadyH.cons rfl (fun K hK => ?_) (AllReadyH.nil))
                  · -- 1 first
                    go_simp
                    refine hK.out _ _ hHeld (fun hHeld => ?_)
                    clear hK K
                    (try simp only [Act.put, pt8])
                    refine wpAnyH_ready (rs := [5]) (by kernel_rfl) (by simp) ?_
                    refine AllReadyH.cons rfl (fun K hK => ?_) AllReadyH.nil
                    go_simp
                    refine hK.out _ _ hHeld (fun hHeld => ?_)
                    clear hK K
                    (try simp only [Act.put, pt8])
                    refine wpAnyH_ready (rs := [6]) (by kernel_rfl) (by simp) ?_
                    refine AllReadyH.cons rfl (fun K hK => ?_) AllReadyH.nil
                    go_simp
                    refine (HCT.out _ (chain (chain HB2.out HW6.out) hHeld)).mono ?_
                    rintro e wc' ⟨rfl, rfl⟩
                    refine hK.out _ _ hHeld (fun hHeld => ?_)
                    clear hK K
                    (try simp only [Act.put, pt8])
                    refine wtk 7 ?_ ?_ ?_
                    rotate_left
                    · intro w hSw; (try dsimp only at hSw); go_simp; (try with_reducible rfl)
                    (try simp only [Act.put, pt8])
                    refine wtk 8 ?_ ?_ ?_
                    rotate_left
                    · intro w hSw; (try dsimp only at hSw); go_simp; (try with_reducible rfl)
                    (try simp only [Act.put, pt8])
                    refine wpAnyH_ready (rs := [9]) (by kernel_rfl) (by simp) ?_
                    refine AllReadyH.cons rfl (fun K hK => ?_) AllReadyH.nil
                    go_simp
                    refine hK.out _ _ (hHeld.setCell (p := ⟨g8, 4, none⟩) (by show w6.heap.size ≤ g8; have := HG8.out; omega) _) (fun hHeld => ?_)
                    clear hK K
                    (try simp only [Act.put, pt8])
                    refine wpAnyH_done (by kernel_rfl) ?_ _
                    go_wp2_with fail
                    go_meet
                    exact ⟨sdset_oth (.inr (by decide)) r0, sdset_oth (.inr (by decide)) r1, sdset_oth (.inr (by decide)) r2, sdset_oth (.inr (by decide)) r3, World.cell?_setCell_same _ _ _ r4, HOS.out, hHeld⟩
                  · -- 5 first
                    go_simp
                    refine hK.out _ _ hHeld (fun hHeld => ?_)
                    clear hK K
                    (try simp only [Act.put, pt8])
                    refine wpAnyH_ready (rs := [1, 6]) (by kernel_rfl) (by simp) ?_
                    refine AllReadyH.cons rfl (fun K hK => ?_) (AllReadyH.cons rfl (fun K hK => ?_) (AllReadyH.nil))
                    · -- 1 first
                      go_simp
                      refine hK.out _ _ hHeld (fun hHeld => ?_)
                      clear hK K
                      (try simp only [Act.put, pt8])
                      refine wpAnyH_ready (rs := [6]) (by kernel_rfl) (by simp) ?_
                      refine AllReadyH.cons rfl (fun K hK => ?_) AllReadyH.nil
                      go_simp
                      refine (HCT.out _ (chain (chain HB2.out HW6.out) hHeld)).mono ?_
                      rintro e wc' ⟨rfl, rfl⟩
                      refine hK.out _ _ hHeld (fun hHeld => ?_)
                      clear hK K
                      (try simp only [Act.put, pt8])
                      refine wtk 7 ?_ ?_ ?_
                      rotate_left
                      · intro w hSw; (try dsimp only at hSw); go_simp; (try with_reducible rfl)
                      (try simp only [Act.put, pt8])
                      refine wtk 8 ?_ ?_ ?_
                      rotate_left
                      · intro w hSw; (try dsimp only at hSw); go_simp; (try with_reducible rfl)
                      (try simp only [Act.put, pt8])
                      refine wpAnyH_ready (rs := [9]) (by kernel_rfl) (by simp) ?_
                      refine AllReadyH.cons rfl (fun K hK => ?_) AllReadyH.nil
                      go_simp
                      refine hK.out _ _ (hHeld.setCell (p := ⟨g8, 4, none⟩) (by show w6.heap.size ≤ g8; have := HG8.out; omega) _) (fun hHeld => ?_)
                      clear hK K
                      (try simp only [Act.put, pt8])
                      refine wpAnyH_done (by kernel_rfl) ?_ _
                      go_wp2_with fail
                      go_meet
                      exact ⟨sdset_oth (.inr (by decide)) r0, sdset_oth (.inr (by decide)) r1, sdset_oth (.inr (by decide)) r2, sdset_oth (.inr (by decide)) r3, World.cell?_setCell_same _ _ _ r4, HOS.out, hHeld⟩
                    · -- 6 first
                      go_simp
                      refine (HCT.out _ (chain (chain HB2.out HW6.out) hHeld)).mono ?_
                      rintro e wc' ⟨rfl, rfl⟩
                      refine hK.out _ _ hHeld (fun hHeld => ?_)
                      clear hK K
                      (try simp only [Act.put, pt8])
                      refine wpAnyH_ready (rs := [1]) (by kernel_rfl) (by simp) ?_
                      refine AllReadyH.cons rfl (fun K hK => ?_) AllReadyH.nil
                      go_simp
                      refine hK.out _ _ hHeld (fun hHeld => ?_)
                      clear hK K
                      (try simp only [Act.put, pt8])
                      refine wtk 7 ?_ ?_ ?_
                      rotate_left
                      · intro w hSw; (try dsimp only at hSw); go_simp; (try with_reducible rfl)
                      (try simp only [Act.put, pt8])
                      refine wtk 8 ?_ ?_ ?_
                      rotate_left
                      · intro w hSw; (try dsimp only at hSw); go_simp; (try with_reducible rfl)
                      (try simp only [Act.put, pt8])
                      refine wpAnyH_ready (rs := [9]) (by kernel_rfl) (by simp) ?_
                      refine AllReadyH.cons rfl (fun K hK => ?_) AllReadyH.nil
                      go_simp
                      refine hK.out _ _ (hHeld.setCell (p := ⟨g8, 4, none⟩) (by show w6.heap.size ≤ g8; have := HG8.out; omega) _) (fun hHeld => ?_)
                      clear hK K
                      (try simp only [Act.put, pt8])
                      refine wpAnyH_done (by kernel_rfl) ?_ _
                      go_wp2_with fail
                      go_meet
                      exact ⟨sdset_oth (.inr (by decide)) r0, sdset_oth (.inr (by decide)) r1, sdset_oth (.inr (by decide)) r2, sdset_oth (.inr (by decide)) r3, World.cell?_setCell_same _ _ _ r4, HOS.out, hHeld⟩
                case rest =>
                  obtain ⟨r0, r1, r2, r3, r4, hO, hB⟩ := hcut
                  have HO9 := Lib.hid hO
                  have HB9 := Lib.hid hB
                  clear hO hB HX8 HB8 HO8 HG8 HZW hwr
                  have HVC2 := Lib.hid (HO9.out.alloc (.cells #[.int .i64 s.op, .int .i64 s.reg, .int .i64 s.loc, .int .i64 s.n, .int .i64 ((tn : Int) + (cn tn : Nat))] 75))
                  have HNW2 := Lib.hid (World.news_of_block (heap_alloc_new wc (.cells #[.int .i64 s.op, .int .i64 s.reg, .int .i64 s.loc, .int .i64 s.n, .int .i64 ((tn : Int) + (cn tn : Nat))] 75)))
                  have hszW := HB9.out.size
                  go_wp2_with (at_builtin; refine wpList_append_own _ rfl _ _ 73 rfl w6.heap.size 75 i2' _ 5 40 Tryz.underlying73 hi2' hx1 hx2 hx3 rfl (by decide) (.slice Au (n) cu) (n) (stsCs (tk q)) rfl HVC2.out ⟨wc.heap.size, 0, none⟩ 1 1 [.int .i64 s.op, .int .i64 s.reg, .int .i64 s.loc, .int .i64 s.n, .int .i64 ((tn : Int) + (cn tn : Nat))] rfl rfl HNW2.out (by simp [Value.oneCell']) (by unfold maxLen; omega) (by omega) (by simp; omega) ?_; intro v2 wy hown2 hg2 _)
                  have hBy := below_append (below_al HB9.out (.cells #[.int .i64 s.op, .int .i64 s.reg, .int .i64 s.loc, .int .i64 s.n, .int .i64 ((tn : Int) + (cn tn : Nat))] 75)) HVC2.out (Nat.le_refl _) (by simp; omega) hg2
                  go_roundw
                  case rel => exact ⟨q + 1, n + 1, by omega, by go_num, by rw [HE.out, List.length_append, ← HLN.out]; rfl, by omega, by rw [HE.out, stsCs_app, HMF.out]; exact hown2, hBy⟩
                  case measure => simp [intOf]; omega
              · have q8 : decide (8 ≤ s.op) = false := decide_eq_false h8
                have HMF := Lib.hid (show stsCs [mf s] = [.int .i64 s.op, .int .i64 s.reg, .int .i64 s.loc, .int .i64 s.n, .int .i64 s.5] from by rw [HJq.out.1 (by omega)]; rfl)
                clear HJq
                go_upto_region 15 with fail
                have HB8 := Lib.hid (below_al HBZ.out (.cells #[.int .i64 s.op, .int .i64 s.reg, .int .i64 s.loc, .int .i64 s.n, .int .i64 s.5] 75))
                have HX8 := Lib.hid (fun (i : Nat) (v : Value) (h : (#[.int .i64 s.op, .int .i64 s.reg, .int .i64 s.loc, .int .i64 s.n, .int .i64 s.5] : Array Value)[i]? = some v) => sdbox_1 wr _ 75 i h)
                have HO8 := Lib.hid (own_below HO1.out (below_al (Below.refl wr.heap.size wr) (.cells #[.int .i64 s.op, .int .i64 s.reg, .int .i64 s.loc, .int .i64 s.n, .int .i64 s.5] 75)))
                have HZW := Lib.hid (below_al (Below.refl wr.heap.size wr) (.cells #[.int .i64 s.op, .int .i64 s.reg, .int .i64 s.loc, .int .i64 s.n, .int .i64 s.5] 75))
                generalize wr.alloc (.cells #[.int .i64 s.op, .int .i64 s.reg, .int .i64 s.loc, .int .i64 s.n, .int .i64 s.5] 75) = W8 at *
                obtain ⟨g8, hg8⟩ : ∃ g, g = wr.heap.size := ⟨_, rfl⟩
                rw [← hg8] at HX8 ⊢
                have HG8 := Lib.hid hg8
                clear hg8
                clear x1 z0 s0 s1 s2 s3 s4 l1 l2 l3
                have r0 := (HX8.out 0 _ rfl).1
                have r1 := (HX8.out 1 _ rfl).1
                have r2 := (HX8.out 2 _ rfl).1
                have r3 := (HX8.out 3 _ rfl).1
                have r4 := (HX8.out 4 _ rfl).1
                have HVC2 := Lib.hid (HO8.out.alloc (.cells #[.int .i64 s.op, .int .i64 s.reg, .int .i64 s.loc, .int .i64 s.n, .int .i64 (s.5)] 75))
                have HNW2 := Lib.hid (World.news_of_block (heap_alloc_new W8 (.cells #[.int .i64 s.op, .int .i64 s.reg, .int .i64 s.loc, .int .i64 s.n, .int .i64 (s.5)] 75)))
                have hszW := HB8.out.size
                go_wp2_with (at_builtin; refine wpList_append_own _ rfl _ _ 73 rfl w6.heap.size 75 i2' _ 5 40 Tryz.underlying73 hi2' hx1 hx2 hx3 rfl (by decide) (.slice Au (n) cu) (n) (stsCs (tk q)) rfl HVC2.out ⟨W8.heap.size, 0, none⟩ 1 1 [.int .i64 s.op, .int .i64 s.reg, .int .i64 s.loc, .int .i64 s.n, .int .i64 (s.5)] rfl rfl HNW2.out (by simp [Value.oneCell']) (by unfold maxLen; omega) (by omega) (by simp; omega) ?_; intro v2 wy hown2 hg2 _)
                have hBy := below_append (below_al HB8.out (.cells #[.int .i64 s.op, .int .i64 s.reg, .int .i64 s.loc, .int .i64 s.n, .int .i64 (s.5)] 75)) HVC2.out (Nat.le_refl _) (by simp; omega) hg2
                go_roundw
                case rel => exact ⟨q + 1, n + 1, by omega, by go_num, by rw [HE.out, List.length_append, ← HLN.out]; rfl, by omega, by rw [HE.out, stsCs_app, HMF.out]; exact hown2, hBy⟩
                case measure => simp [intOf]; omega
          · obtain rfl : ss.length = q := by omega
            obtain rfl : n = (tk ss.length).length := HNn.out
            have how := HOW.out
            have hot1 := own_below HOT.out HBQ.out
            have hst1 := HST2.out.below HBQ.out
            have hio1 := own_below HIO2.out HBQ.out
            have hB7 := chain HW6.out HBQ.out
            have hb8 := below_al (Below.refl wr.heap.size wr) (.cells #[.slice Au (tk ss.length).length cu] 73)
            have p1 := kc HBQ.out Y1.out.1
            have p0 := kc HBQ.out Y0'.out
            have ff1 := (HBQ.out.frozen (p := ⟨gp, 1, none⟩) (lt_of_cell Y1.out.1)).trans Y1.out.2
            have ff2 := (hb8.frozen (p := ⟨gp, 1, none⟩) (lt_of_cell p1)).trans ff1
            have P1 := Lib.hid (kc hb8 p1)
            have P0 := Lib.hid (kc hb8 p0)
            have F2 := Lib.hid ff2
            have HO8 := Lib.hid (own_below how hb8)
            have HI8 := Lib.hid (own_below hio1 hb8)
            have HS8 := Lib.hid (hst1.below hb8)
            have HT8 := Lib.hid (own_below hot1 hb8)
            have HB8 := Lib.hid (chain hB7 hb8)
            have hle8 : wB.heap.size ≤ (wr.alloc (.cells #[.slice Au (tk ss.length).length cu] 73)).heap.size := by have := hb8.size; have := HBQ.out.size; omega
            have hle5 : w2.heap.size ≤ wB.heap.size := HBC.out.size
            have hle6 : wB.heap.size ≤ wr.heap.size := by have := HBQ.out.size; omega
            clear how hot1 hst1 hio1 hB7 hb8 p0 ff1 ff2 Y1 Y0' HST2 HIO2 HKS HKL HOW hq hn2 hlq HJ HK0 HCk e3
            go_upto_region 17 with (at_builtin; refine wpList_append_own _ rfl _ _ 23 rfl wB.heap.size 73 i1' (.slice none 0 0) 1 24 Tryz.underlying23 hi1' hz1 hz2 hz3 rfl (by decide) _ _ _ rfl HT8.out ⟨wr.heap.size, 0, none⟩ 1 1 [.slice Au (tk ss.length).length cu] rfl rfl (cell_one_new _ _ _) (by simp [Value.oneCell']) (by unfold maxLen; omega) (by omega) hle8 ?_; intro v1 wz hown1 hg1 _; obtain ⟨Av, cv, rfl⟩ := own_slice hown1; have pz1 := hg1.cell P1.out (fun c => by have := (HT8.out.lt gp c.symm).1; omega); have fz1 := (hg1.frozen_far ⟨gp, 1, none⟩ (lt_of_cell P1.out) (fun c => by have := (HT8.out.lt gp c.symm).1; omega)).trans F2.out)
            have pz0 := hg1.cell P0.out (fun c => by have := (HT8.out.lt gp c.symm).1; omega)
            have hB9 := below_append HB8.out HT8.out hle5 (Nat.le_trans hle5 hle8) hg1
            have hI9 := cdown_grown (by decide) HI8.out HT8.out hg1
            have hO9 := cdown_grown (by decide) HO8.out HT8.out hg1
            have hS9 := (HS8.out.grown (by decide) HT8.out hg1).snoc (own_base hO9 (by have := hle; omega))
            have hsz9 := hg1.size
            have hI10 := Lib.hid (ownsRow_setCell_other (a := ⟨gp, 1, none⟩) hI9 (fun e => hIgp.out e) (.slice Av (k + 1) cv))
            have hO10 := Lib.hid (own_st (b := gp) (i := 1) hown1 hglt (.slice Av (k + 1) cv))
            have hS10 := Lib.hid (stsAll_set (b := gp) (i := 1) hS9 hglt (.slice Av (k + 1) cv))
            have hB10 := Lib.hid (hB9.setCell (p := ⟨gp, 1, none⟩) (by show w2.heap.size ≤ gp; omega) (.slice Av (k + 1) cv))
            have c10 := Lib.hid (And.intro (sdset_oth (w := wz) (v := .slice Av (k + 1) cv) (x := gp) (i := 1) (.inr (by decide)) pz0) (And.intro (World.cell?_setCell_same _ _ (.slice Av (k + 1) cv) pz1) ((set_frz (w := wz) (b := gp) (i := 1) (v := .slice Av (k + 1) cv)).trans fz1)))
            have hsz10 : wB.heap.size ≤ (wz.setCell ⟨gp, 1, none⟩ (.slice Av (k + 1) cv)).heap.size := by simp [World.setCell]; omega
            clear hown1 hg1 pz1 fz1 pz0 hB9 hI9 hO9 hS9 x1 z0
            generalize wz.setCell ⟨gp, 1, none⟩ (.slice Av (k + 1) cv) = w10 at *
            obtain ⟨x1, z0⟩ := HPZ.out _ hB10.out
            go_wp2
            go_roundw
            case rel => exact ⟨k + 1, fr + ss.length, _, _, by omega, by go_num, by go_num, HNX.out, by omega, hI10.out, c10.out.1, c10.out.2, hO10.out, by rw [HMK2.out]; exact hS10.out, hB10.out, hsz10⟩
            case measure => simp [intOf]; omega
      · obtain rfl : P.ths.length = k := by omega
        rw [HTF.out] at hst
        obtain ⟨Avt, cvt, rfl⟩ := own_slice hot
        obtain ⟨q0, s0⟩ := (show wr.cell? ⟨w.heap.size + 1, 0, none⟩ = some (.slice none 0 0) ∧ wr.frozen? ⟨w.heap.size + 1, 0, none⟩ = false from by
          have h := HR0.out 0 rfl
          exact ⟨kc hB6 h.1, (hB6.frozen (p := ⟨w.heap.size + 1, 0, none⟩) (lt_of_cell h.1)).trans h.2⟩)
        obtain ⟨q1, s1⟩ := (show wr.cell? ⟨w.heap.size + 1, 1, none⟩ = some (.slice none 0 0) ∧ wr.frozen? ⟨w.heap.size + 1, 1, none⟩ = false from by
          have h := HR0.out 1 rfl
          exact ⟨kc hB6 h.1, (hB6.frozen (p := ⟨w.heap.size + 1, 1, none⟩) (lt_of_cell h.1)).trans h.2⟩)
        have hBw := chain HB2.out hB6
        have hgr : w.heap.size + 1 ≠ gp := by have := HSZ2.out; omega
        have HBX2 := Lib.hid ((hBw.setCell (p := ⟨w.heap.size + 1, 0, none⟩) (by show w.heap.size ≤ w.heap.size + 1; omega) (.slice AI P.init.length cI)).setCell (p := ⟨w.heap.size + 1, 1, none⟩) (by show w.heap.size ≤ w.heap.size + 1; omega) (.slice Avt P.ths.length cvt))
        have r0 := sdset_oth (w := wr.setCell ⟨w.heap.size + 1, 0, none⟩ (.slice AI P.init.length cI)) (v := .slice Avt P.ths.length cvt) (x := w.heap.size + 1) (i := 1) (.inr (by decide)) (World.cell?_setCell_same _ _ (.slice AI P.init.length cI) q0)
        have r1 := World.cell?_setCell_same _ _ (.slice Avt P.ths.length cvt) (sdset_oth (v := .slice AI P.init.length cI) (x := w.heap.size + 1) (i := 0) (.inr (by decide)) q1)
        have hlts : w.heap.size + 1 < w2.heap.size := by have := HSZ2.out; omega
        have hltB : w.heap.size + 1 < wB.heap.size := by have := HBC.out.size; omega
        have HPG := Lib.hid (pgm_ow (b4 := ((wr.setCell ⟨w.heap.size + 1, 0, none⟩ (.slice AI P.init.length cI)).setCell ⟨w.heap.size + 1, 1, none⟩ (.slice Avt P.ths.length cvt)).heap.size) (P := insP P g) (ns := P.init) (tss := (insP P g).ths) (own_st (b := w.heap.size + 1) (i := 1) (own_st (b := w.heap.size + 1) (i := 0) hio hlts _) hlts _)
          (own_st (b := w.heap.size + 1) (i := 1) (own_st (b := w.heap.size + 1) (i := 0) (by rw [HTL.out]; exact hot) hltB _) hltB _) (stsAll_set (b := w.heap.size + 1) (i := 1) (stsAll_set (b := w.heap.size + 1) (i := 0) hst hltB _) hltB _) (Nat.le_refl _) rfl)
        have hz := HZ.out
        have HNZ := Lib.hid (sd_nilz hio)
        clear hio hot hst hBw x0
        go_wp2
        refine bodyPost_ret (v := .agg #[.slice AI P.init.length cI, .slice Avt P.ths.length cvt]) (by simp [results, Tryz.results16, go_sem, r0, r1, hz]) rfl ⟨_, rfl, ⟨_, _, rfl, HPG.out⟩, (fun a b e => by injection e with e; injection e with e; injection e with e1 e2; exact e1 ▸ HNZ.out), HBX2.out⟩
end Go.Proofs.YtlpjgaeelnlipaaGreat
