/-
  Joined: KG, KY.
-/
import Derived.Test.YtjlmkcamefaodaaJ27
import Derived.Test.YtjlmkcamefaodaaJ30
/-! KG: A function's ways as flow takes them. -/

namespace Go.Proofs.Ytjlmkcamefaodaa
open Go Go.RowKit Go.Sort Cd Fl

namespace Cd
def waysF (f : FunP) : List (List Int) := f.blocks.map waysB
theorem waysB_len (b : BlockP) : (waysB b).length ≤ 2 := by
  unfold waysB
  split
  · simp
  · split <;> simp
theorem waysF_tame {f : FunP} (h : f.blocks.length ≤ 150) : TameZ (waysF f) := ⟨by unfold waysF; rw [List.length_map]; exact h, fun i hi => by
  have hb : i < f.blocks.length := by simpa [waysF] using hi
  have e : (waysF f)[i] = waysB f.blocks[i] := by simp [waysF]
  rw [e]
  have := waysB_len f.blocks[i]
  omega⟩
theorem waysF_len (f : FunP) : (waysF f).length = f.blocks.length := by simp [waysF]
/-- Ways that end where they may are in range. -/
theorem waysF_ok {f : FunP} (h60 : f.blocks.length ≤ 60000) (h : EndsOk f) : errF (waysF f) = 0 := by
  refine errF_ok (by rw [waysF_len]; omega) (fun i hi j hj => ?_)
  have hib : i < f.blocks.length := by rw [waysF_len] at hi; exact hi
  have he := h i hib
  have e : (waysF f)[i] = waysB f.blocks[i] := by simp [waysF]
  have hm : (waysF f)[i][j] ∈ waysB f.blocks[i] := by rw [← e]; exact List.getElem_mem hj
  unfold inB
  rw [decide_eq_true_eq, waysF_len]
  generalize (waysF f)[i][j] = t at hm
  unfold waysB at hm
  unfold EndOk at he
  split at hm
  · rename_i h1
    have : t = f.blocks[i].to := by simpa using hm
    omega
  · split at hm
    · have : t = f.blocks[i].to ∨ t = f.blocks[i].els := by simpa using hm
      omega
    · simp at hm
theorem full_order {o : List Nat} {n : Nat} (hd : o.Nodup) (hl : ∀ x ∈ o, x < n) : o.length < n ↔ ¬ ∀ i, i < n → i ∈ o := by
  constructor
  · intro h hall
    have h1 : (List.range n).length ≤ o.length := List.nodup_range.length_le_of_subset (fun x hx => hall x (List.mem_range.1 hx))
    rw [List.length_range] at h1
    omega
  · intro h
    by_cases e : o.length < n
    · exact e
    · exfalso
      apply h
      intro i hi
      by_cases hm : i ∈ o
      · exact hm
      · have h1 := nodup_lt (l := i :: o) (N := n) (List.nodup_cons.2 ⟨hm, hd⟩) (fun x hx => by
          rcases List.mem_cons.1 hx with h2 | h2
          · rw [h2]; exact hi
          · exact hl x h2)
        simp at h1
        omega
end Cd
theorem grZ_of {W : World} {g c : Nat} {l : List (List Int)} (h : SlS (LtW W) 1 RowV W (.slice (some ⟨g, 0, none⟩) l.length c) l) (h0 : l ≠ []) : GrZ W g l := by
  refine ⟨?_, fun i hi => ?_⟩
  · obtain ⟨b, _, e, lt, _⟩ := h.at 0 (List.length_pos_iff.2 h0)
    cases e
    exact lt
  · obtain ⟨b, _, e, lt, cw, sv, rfl, hs, hz⟩ := h.at i hi
    cases e
    have c0 := cw.f0
    rw [add_own, Nat.mul_one] at c0
    refine ⟨sv, c0, ?_⟩
    rcases hz with ⟨rfl, hl⟩ | ⟨_, g2, c2, rfl⟩
    · exact ⟨none, 0, by rw [hl]; rfl, fun j hj => by rw [hl] at hj; exact absurd hj (by simp)⟩
    · refine ⟨some ⟨g2, 0, none⟩, c2, rfl, fun j hj => ?_⟩
      obtain ⟨b2, _, e2, lt2, cw2, rfl⟩ := hs.at j hj
      cases e2
      have c3 := cw2.f0
      rw [add_own, Nat.mul_one] at c3
      exact ⟨g2, rfl, lt2, c3⟩
theorem grB_of' {W : World} {g c : Nat} {l : List (List Int)} (h : SlS (LtW W) 1 RowV W (.slice (some ⟨g, 0, none⟩) l.length c) l) (h0 : l ≠ []) (he : errF l = 0) : GrB W.heap.size W g (natG l) := by
  have hz := grZ_of h h0
  refine ⟨hz.lt, Nat.le_refl _, fun i hi => ?_⟩
  rw [natG_len] at hi
  obtain ⟨b, _, e, lt, cw, sv, rfl, hs, hz'⟩ := h.at i hi
  cases e
  have c0 := cw.f0
  rw [add_own, Nat.mul_one] at c0
  refine ⟨sv, c0, ?_⟩
  rcases hz' with ⟨rfl, hl⟩ | ⟨hne, g2, c2, rfl⟩
  · exact Or.inl ⟨rfl, by rw [natG_row _ hi, hl]; rfl⟩
  · right
    have hl0 : 0 < l[i].length := List.length_pos_iff.2 hne
    obtain ⟨b2, _, e2, lt2, _⟩ := hs.at 0 hl0
    cases e2
    refine ⟨g2, c2, by rw [natG_row _ hi, List.length_map], lt2, fun j hj => ?_⟩
    have hj' : j < l[i].length := by rw [natG_row _ hi, List.length_map] at hj; exact hj
    obtain ⟨b3, _, e3, lt3, cw3, rfl⟩ := hs.at j hj'
    cases e3
    have c3 := cw3.f0
    rw [add_own, Nat.mul_one] at c3
    have hin := errF_in he hi hj'
    have e4 : ((row (natG l) i)[j] : Int) = l[i][j] := by
      have e5 : (row (natG l) i)[j]? = (l[i].map Int.toNat)[j]? := by rw [natG_row _ hi]
      rw [List.getElem?_eq_getElem hj, List.getElem?_map, List.getElem?_eq_getElem hj'] at e5
      have e6 : (row (natG l) i)[j] = l[i][j].toNat := by simpa using e5
      rw [e6]
      omega
    rw [e4]
    exact c3
theorem ord_ok_facts {G : List (List Nat)} (hG : GOk G) (h0 : G.length ≠ 0) : OrdOk G.length (abF (abvL G)) (orderL G) ∧ ∀ x ∈ orderL G, 0 ≤ abF (abvL G) x → (abF (abvL G) x).toNat < G.length ∧ (abF (abvL G) x).toNat ≠ x := by
  obtain ⟨hab, hord, _⟩ := abv_facts hG h0
  obtain ⟨_, ⟨P, hP⟩, hok, hc⟩ := wlk_inv hG (Nat.pos_of_ne_zero h0)
  exact ⟨hord, fun x hx hpos => abv_up hP hc hab (hord.lt x hx) hpos⟩
/-- A checker whose ways are noted. -/
structure WayK (B bk bm bl p z : Nat) (bv fv sv : Value) (c : CodeP) (f : FunP) (P : List Int) (S : List Nat) (w : World) : Prop where
  ck : CkZ B bk bm bv fv sv (.slice (some ⟨bl, 0, none⟩) f.blocks.length f.blocks.length) (.slice (some ⟨p, 0, none⟩) f.blocks.length f.blocks.length) (.slice (some ⟨z, 0, none⟩) f.blocks.length f.blocks.length) c f w
  it : IntoK bm bl f w
  fo : ForK p z f P S w
  pm : p ≠ bm ∧ z ≠ bm
def WayT (B bk bm : Nat) (bv fv sv : Value) (c : CodeP) (f : FunP) (w : World) (e : Ending) (w' : World) : Prop :=
  ∃ v, e = .returned (.bool v) ∧ (v = true ↔ WaysOk f) ∧ (v = true → ∃ bl p z P S, WayK B bk bm bl p z bv fv sv c f P S w') ∧ w.grownBy w' (some bk)
def WR (w : World) (f : FunP) (iv : Value) (W : World) : Prop := ∃ i : Nat, i ≤ f.blocks.length ∧ iv = I (i : Int) ∧ (∀ j (h : j < f.blocks.length), j < i → EndOk f.blocks.length f.blocks[j]) ∧ Below w.heap.size w W
theorem intoK_of {bm bl base : Nat} {f : FunP} {W : World} (h : IntoW base bl (waysF f).length (fun t => rowSt (natG (waysF f)) (waysF f).length 0 t) W) (hbm : bm < base) : IntoK bm bl f W := by
  obtain ⟨h0, vs, h1, h2, h3, _, _⟩ := h
  have hlt := h2.lt
  refine ⟨by omega, hlt, fun i hi => ?_⟩
  have hi' : i < vs.length := by rw [h1, waysF_len]; exact hi
  have c0 := h2.get i vs[i] (by simp [hi'])
  have hn : Nums W base vs[i] (rowSt (natG (waysF f)) (waysF f).length 0 i) := h3 i hi'
  have e : intoN f i = rowSt (natG (waysF f)) (waysF f).length 0 i := by
    unfold intoN
    rw [gN_len, waysF_len]
    rfl
  rw [e]
  generalize rowSt (natG (waysF f)) (waysF f).length 0 i = l at hn
  rcases own_slice hn with ⟨e1, e2⟩ | ⟨g, c, e1⟩
  · have : l = [] := List.length_eq_zero_iff.1 e2
    subst this
    exact ⟨none, 0, by rw [e1] at c0; exact c0, fun j hj => absurd hj (by simp)⟩
  · rw [e1] at c0 hn
    have hl := hn.lt g rfl
    refine ⟨some ⟨g, 0, none⟩, c, c0, fun j hj => ⟨g, rfl, by omega, hl.2, ?_⟩⟩
    rw [nums_get hn rfl j hj, getD_of l j 0 hj]
end Go.Proofs.Ytjlmkcamefaodaa

/-! KY: Do the blocks go on as they may, and are all reached: the walk. -/

namespace Go.Proofs.Ytjlmkcamefaodaa
open Go Go.RowKit Go.Maps Go.Sort Cd Fl

theorem grown_bk {w w' w2 : World} {m : Nat} (h : w.grownBy w' (some m)) (h2 : Below w'.heap.size w' w2) : w.grownBy w2 (some m) := grownTr h (grownOf h2 m)

theorem CkZ.s7 {B bk bm : Nat} {bv fv sv c7 c8 c9 : Value} {c : CodeP} {f : FunP} {w : World} (h : CkZ B bk bm bv fv sv c7 c8 c9 c f w) (v : Value) : CkZ B bk bm bv fv sv v c8 c9 c f (w.setCell ⟨bk, 7, none⟩ v) := by
  have he : ∀ k, k < B → (w.setCell ⟨bk, 7, none⟩ v).heap[k]? = w.heap[k]? := fun k hk => Below.heap_setCell _ _ _ _ (by have := h.lo.1; show k ≠ bk; omega)
  have hk := h.ck.set 7 v
  exact ⟨by simpa using hk, h.fb.keep blockV_stays he (fun _ h => h), h.ff.keep funV_stays he (fun _ h => h), h.fs.keep stopV_stays he (fun _ h => h), h.lo, by have := h.hB; simpa [World.setCell] using this⟩
theorem CkZ.g7 {B bk bm : Nat} {bv fv sv c7 c8 c9 : Value} {c : CodeP} {f : FunP} {w : World} (_h : CkZ B bk bm bv fv sv c7 c8 c9 c f w) (v : Value) : w.grownBy (w.setCell ⟨bk, 7, none⟩ v) (some bk) := ⟨rfl, rfl, rfl, by simp [World.setCell], fun k _ hne => Below.heap_setCell _ _ _ _ (fun e => hne (by rw [e]))⟩
theorem CkZ.s8 {B bk bm : Nat} {bv fv sv c7 c8 c9 : Value} {c : CodeP} {f : FunP} {w : World} (h : CkZ B bk bm bv fv sv c7 c8 c9 c f w) (v : Value) : CkZ B bk bm bv fv sv c7 v c9 c f (w.setCell ⟨bk, 8, none⟩ v) := by
  have he : ∀ k, k < B → (w.setCell ⟨bk, 8, none⟩ v).heap[k]? = w.heap[k]? := fun k hk => Below.heap_setCell _ _ _ _ (by have := h.lo.1; show k ≠ bk; omega)
  have hk := h.ck.set 8 v
  exact ⟨by simpa using hk, h.fb.keep blockV_stays he (fun _ h => h), h.ff.keep funV_stays he (fun _ h => h), h.fs.keep stopV_stays he (fun _ h => h), h.lo, by have := h.hB; simpa [World.setCell] using this⟩
theorem CkZ.g8 {B bk bm : Nat} {bv fv sv c7 c8 c9 : Value} {c : CodeP} {f : FunP} {w : World} (_h : CkZ B bk bm bv fv sv c7 c8 c9 c f w) (v : Value) : w.grownBy (w.setCell ⟨bk, 8, none⟩ v) (some bk) := ⟨rfl, rfl, rfl, by simp [World.setCell], fun k _ hne => Below.heap_setCell _ _ _ _ (fun e => hne (by rw [e]))⟩
theorem CkZ.s9 {B bk bm : Nat} {bv fv sv c7 c8 c9 : Value} {c : CodeP} {f : FunP} {w : World} (h : CkZ B bk bm bv fv sv c7 c8 c9 c f w) (v : Value) : CkZ B bk bm bv fv sv c7 c8 v c f (w.setCell ⟨bk, 9, none⟩ v) := by
  have he : ∀ k, k < B → (w.setCell ⟨bk, 9, none⟩ v).heap[k]? = w.heap[k]? := fun k hk => Below.heap_setCell _ _ _ _ (by have := h.lo.1; show k ≠ bk; omega)
  have hk := h.ck.set 9 v
  exact ⟨by simpa using hk, h.fb.keep blockV_stays he (fun _ h => h), h.ff.keep funV_stays he (fun _ h => h), h.fs.keep stopV_stays he (fun _ h => h), h.lo, by have := h.hB; simpa [World.setCell] using this⟩
theorem CkZ.g9 {B bk bm : Nat} {bv fv sv c7 c8 c9 : Value} {c : CodeP} {f : FunP} {w : World} (_h : CkZ B bk bm bv fv sv c7 c8 c9 c f w) (v : Value) : w.grownBy (w.setCell ⟨bk, 9, none⟩ v) (some bk) := ⟨rfl, rfl, rfl, by simp [World.setCell], fun k _ hne => Below.heap_setCell _ _ _ _ (fun e => hne (by rw [e]))⟩
theorem IntoK.other {bm bl m : Nat} {f : FunP} {w w' : World} (h : IntoK bm bl f w) (hg : w.grownBy w' (some m)) (hb : m ≠ bl) (hr : ∀ i, i < f.blocks.length → ∀ a c, w.cell? ⟨bl, i, none⟩ = some (.slice a (intoN f i).length c) → ∀ g, a = some ⟨g, 0, none⟩ → g ≠ m) : IntoK bm bl f w' :=
  ⟨h.ne, Nat.lt_of_lt_of_le h.lt hg.size, fun i hi => by
    obtain ⟨a, c, h1, h2⟩ := h.row i hi
    refine ⟨a, c, cell_grown hg (Ne.symm hb) h.lt h1, fun j hj => ?_⟩
    obtain ⟨g, e, g1, g2, g3⟩ := h2 j hj
    exact ⟨g, e, g1, Nat.lt_of_lt_of_le g2 hg.size, cell_grown hg (hr i hi a c h1 g e) g2 g3⟩⟩

set_option maxRecDepth 100000 in
set_option maxHeartbeats 3200000 in
theorem hasWays_any (B bk bm : Nat) (bv fv sv c7 c8 c9 : Value) (c : CodeP) (f : FunP) (h150 : f.blocks.length ≤ 150) (h1 : 1 ≤ f.blocks.length) (w : World) (h : CkZ B bk bm bv fv sv c7 c8 c9 c f w) (hbm : bm < w.heap.size) :
    Calls Try.prog 26 #[.pointer (some ⟨bk, 0, none⟩)] w fun e w' => WayT B bk bm bv fv sv c f w e w' := by
  obtain ⟨ba, bc, rfl⟩ := h.fb.size
  obtain ⟨n, hn⟩ : ∃ n, n = f.blocks.length := ⟨_, rfl⟩
  have c3 := h.ck.get 3 (.slice ba f.blocks.length bc) rfl
  rw [← hn] at c3
  have hnb : (n : Int) ≤ 150 := by omega
  have HST := Lib.hid (show WR w f (I 0) w from ⟨0, Nat.zero_le _, rfl, fun j _ h => absurd h (by omega), Below.refl _ _⟩)
  have HH := Lib.hid (And.intro h (And.intro hn (And.intro h150 (And.intro h1 hbm))))
  clear h hn h150 h1 hbm
  go_enter Try.func26, Try.ntmps26
  go_wp2_with fail
  clear c3
  go_loopw [16] (fun iv W => WR w f iv W) (fun iv _ => n - (intOf iv).toNat)
  case atStart => exact HST.out
  case round =>
    obtain ⟨i, hi, rfl, hes, hb0⟩ := hrel
    clear HST
    by_cases hin : i < n
    · have il : i < f.blocks.length := by have := HH.out.2.1; omega
      have hck := HH.out.1.below hb0
      obtain ⟨g1, _, e1, gl, cw, pv, iv, rfl, hpz, hiz⟩ := hck.fb.at i il
      subst e1
      obtain ⟨pa, pc, hpv⟩ := hpz.size
      obtain ⟨ia, ic, hiv⟩ := hiz.size
      obtain ⟨x, hx⟩ : ∃ x, x = f.blocks[i] := ⟨_, rfl⟩
      rw [← hx] at cw hpz hiz hpv hiv
      obtain ⟨PL, hP⟩ : ∃ P, P = x.phis.length := ⟨_, rfl⟩
      obtain ⟨J, hJ⟩ : ∃ J, J = x.insts.length := ⟨_, rfl⟩
      subst hpv hiv
      obtain ⟨fin, arg, tt, els, hyy⟩ : ∃ fin arg tt els, x.fin = fin ∧ x.arg = arg ∧ x.to = tt ∧ x.els = els := ⟨_, _, _, _, rfl, rfl, rfl, rfl⟩
      rw [hyy.1, hyy.2.1, hyy.2.2.1, hyy.2.2.2, ← hP, ← hJ] at cw
      have x0 := cw.f0
      have x1 := cw.f1
      have x2 := cw.f2
      have x3 := cw.f3
      have x4 := cw.f4
      have x5 := cw.f5
      obtain ⟨W4, hW4⟩ : ∃ W, W = wr.alloc (.cells #[.slice pa PL pc, .slice ia J ic, U8 fin, I arg, I tt, I els] 40) := ⟨_, rfl⟩
      obtain ⟨b4, hb4⟩ : ∃ b, b = wr.heap.size := ⟨_, rfl⟩
      have hB4 : Below wr.heap.size wr W4 := by rw [hW4]; exact (Below.refl _ _).alloc (Nat.le_refl _) _
      have k4 : Blk b4 #[.slice pa PL pc, .slice ia J ic, U8 fin, I arg, I tt, I els] 40 W4 := by rw [hW4, hb4]; exact Blk.new _ _ _
      have z0 := k4.get 0 (.slice pa PL pc) rfl
      have z1 := k4.get 1 (.slice ia J ic) rfl
      have z2 := k4.get 2 (U8 fin) rfl
      have z3 := k4.get 3 (I arg) rfl
      have z4 := k4.get 4 (I tt) rfl
      have z5 := k4.get 5 (I els) rfl
      have hck4 := hck.below hB4
      have HC := Lib.hid (isEnd_at bk n (by omega) (some g1) bc (.slice pa PL pc) (.slice ia J ic) fin arg tt els W4 (by have h9 := hck4.ck.get 3 (.slice (some g1) f.blocks.length bc) rfl; rw [HH.out.2.1]; exact h9) hck4.ck.lt)
      have hE : Hid (EndOk f.blocks.length f.blocks[i] ↔ ((fin = 1 ∧ 1 ≤ tt ∧ tt ≤ (n : Int) - 1) ∨ (fin = 2 ∧ (1 ≤ tt ∧ tt ≤ (n : Int) - 1) ∧ (1 ≤ els ∧ els ≤ (n : Int) - 1) ∧ tt ≠ els) ∨ fin = 3 ∨ fin = 4)) := by
        unfold Hid EndOk
        rw [← hx, hyy.1, hyy.2.2.1, hyy.2.2.2, HH.out.2.1]
      have HNO := Lib.hid (show ¬ EndOk f.blocks.length f.blocks[i] → ∀ W', Below W4.heap.size W4 W' → WayT B bk bm (.slice (some g1) f.blocks.length bc) fv sv c f w (.returned (.bool false)) W' from fun hno W' hW' => ⟨false, rfl, by simp only [Bool.false_eq_true, false_iff]; exact fun h => hno (h.1 i il), fun h => absurd h (by decide), grownOf (below_tr (below_tr hb0 hB4) hW') bk⟩)
      have HNX := Lib.hid (show EndOk f.blocks.length f.blocks[i] → ∀ W', Below W4.heap.size W4 W' → WR w f (I ((i : Int) + 1)) W' from fun hy W' hW' => ⟨i + 1, il, rfl, fun j hj hji => by
        rcases Nat.lt_or_ge j i with h | h
        · exact hes j hj h
        · obtain rfl : j = i := by omega
          exact hy, below_tr (below_tr hb0 hB4) hW'⟩)
      have HI := Lib.hid hin
      have HW4 := Lib.hid (And.intro hW4 hb4)
      have d0 : decide (i < n) = true := by simpa using hin
      have d1 : (0 : Int) ≤ (i : Int) := by omega
      have d2 : (i : Int) < (n : Int) := by omega
      clear hes hb0 gl cw hpz hiz hx hP hJ hyy hW4 hb4 hB4 k4 hck hck4 hin hi
      go_upto_region 4 with (fail)
      rw [← HW4.out.2]
      change Code.wp _ _ _ _ (wr.alloc (.cells #[.slice pa PL pc, .slice ia J ic, U8 fin, I arg, I tt, I els] 40))
      rw [← HW4.out.1]
      clear x0 x1 x2 x3 x4 x5
      go_wp2_with fail
      refine HC.out.mono ?_
      rintro e w2 ⟨r, rfl, hr, hb2⟩
      rw [← hE.out] at hr
      cases r
      · have HF := Lib.hid (HNO.out (fun h => absurd (hr.2 h) (by decide)) w2 hb2)
        clear hr hb2 z0 z1 z2 z3 z4 z5
        go_wp2_with fail
        go_ret
        exact HF.out
      · have HF := Lib.hid (HNX.out (hr.1 rfl) w2 hb2)
        clear hr hb2 z0 z1 z2 z3 z4 z5
        go_wp2_with fail
        exact ⟨HF.out, by have := HI.out; simp [intOf]; omega⟩
    · have d0 : decide (i < n) = false := by simpa using hin
      have hE : EndsOk f := fun j hj => hes j hj (by have := HH.out.2.1; omega)
      have hck := HH.out.1.below hb0
      have x0 := hck.ck.get 0 (I f.params) rfl
      have x1 := hck.ck.get 1 (I f.vars) rfl
      have x2 := hck.ck.get 2 (I f.vals) rfl
      have x3 := hck.ck.get 3 (.slice ba f.blocks.length bc) rfl
      have herr := waysF_ok (by have := HH.out.2.2.1; omega) hE
      have hz0 : waysF f ≠ [] := fun e => by have := waysF_len f; rw [e] at this; have := HH.out.2.2.2.1; simp at *; omega
      have HG := Lib.hid (graph_any f (by unfold SmallL; have := HH.out.2.2.1; omega) ba n bc wr (by have h9 := hck.fb.keep (S' := LtW wr) blockV_stays (fun _ _ => rfl) (fun k hk => Nat.lt_of_lt_of_le hk hck.hB); rw [HH.out.2.1]; exact h9))
      have H0 := Lib.hid (And.intro hck (And.intro hb0 (And.intro hE (And.intro herr hz0))))
      rw [← HH.out.2.1] at x3
      clear hes hb0 hE hck herr hz0 hin hi
      go_wp2_with fail
      refine HG.out.mono ?_
      rintro e w1 ⟨u, rfl, hu, hb1, hat⟩
      obtain ⟨g, gc, rfl⟩ := hat (fun e => by have := HH.out.2.2.2.1; rw [e] at this; simp at this)
      have hu' : SlS (LtW w1) 1 RowV w1 (.slice (some ⟨g, 0, none⟩) (waysF f).length gc) (waysF f) := by rw [waysF_len]; exact hu
      have hgz := grZ_of hu' H0.out.2.2.2.2
      have HO := Lib.hid (Order_any g gc (waysF f) (waysF_tame HH.out.2.2.1) H0.out.2.2.2.2 w1 hgz)
      rw [waysF_len, ← HH.out.2.1] at HO
      rw [← HH.out.2.1]
      have H1 := Lib.hid (And.intro hgz hb1)
      clear x0 x1 x2 x3 hu hu' hat hgz hb1
      go_wp2_with fail
      refine HO.out.mono ?_
      rintro e w2 ⟨ov, rfl, hov, hb2⟩
      rw [if_pos H0.out.2.2.2.1] at hov
      rw [H0.out.2.2.2.1]
      obtain ⟨mo, hmo⟩ : ∃ mo, mo = (orderL (natG (waysF f))).length := ⟨_, rfl⟩
      obtain ⟨oa, oc, rfl⟩ : ∃ a c, ov = .slice a mo c := by
        rcases own_slice hov with ⟨e, e2⟩ | ⟨g, c, e⟩
        · exact ⟨none, 0, by rw [e, hmo, e2]⟩
        · exact ⟨_, c, by rw [e, hmo]⟩
      have hck2 := (H0.out.1.below H1.out.2).below hb2
      have y3 := hck2.ck.get 3 (.slice ba f.blocks.length bc) rfl
      rw [← HH.out.2.1] at y3
      have hG : GOk (natG (waysF f)) := natG_ok H0.out.2.2.2.1
      have hG0 : (natG (waysF f)).length ≠ 0 := by rw [natG_len, waysF_len]; have := HH.out.2.2.2.1; omega
      have hom := order_mem hG hG0
      have hfull := full_order hom.1 hom.2.2
      rw [natG_len, waysF_len, ← hmo, ← HH.out.2.1] at hfull
      have hmob : (mo : Int) ≤ 150 := by
        have h9 := nodup_lt hom.1 hom.2.2
        rw [natG_len, waysF_len, ← hmo] at h9
        have := HH.out.2.2.1
        omega
      have H2 := Lib.hid (And.intro hov (And.intro hb2 (And.intro hmo (And.intro hck2 (And.intro hG (And.intro hG0 hom))))))
      have H2F := Lib.hid hfull
      clear hov hb2 hmo hck2 hG hG0 hom hfull
      by_cases hlt : mo < n
      · have g0 : decide (mo < n) = true := decide_eq_true hlt
        have hno := H2F.out.1 hlt
        have HF := Lib.hid (show WayT B bk bm (.slice ba f.blocks.length bc) fv sv c f w (.returned (.bool false)) w2 from ⟨false, rfl, by
          simp only [Bool.false_eq_true, false_iff]
          exact fun h => hno (fun i hi => (H2.out.2.2.2.2.2.2.2.1 i).2 (h.2 i (by have := HH.out.2.1; omega))), fun h => absurd h (by decide), grownOf (below_tr (below_tr H0.out.2.1 H1.out.2) H2.out.2.1) bk⟩)
        clear hno hlt
        go_wp2_with fail
        go_ret
        exact HF.out
      · have g0 : decide (mo < n) = false := decide_eq_false hlt
        have hall : ∀ i, i < n → Rch (gN f) i := fun i hi => (H2.out.2.2.2.2.2.2.2.1 i).1 (Classical.byContradiction fun hc => hlt (H2F.out.2 (fun h => hc (h i hi))))
        have hmn : mo = n := by
          have h9 := nodup_lt H2.out.2.2.2.2.2.2.1 H2.out.2.2.2.2.2.2.2.2
          rw [natG_len, waysF_len, ← H2.out.2.2.1, ← HH.out.2.1] at h9
          omega
        have HA := Lib.hid (Above_any g gc (waysF f) (waysF_tame HH.out.2.2.1) H0.out.2.2.2.2 w2 (H1.out.1.below H2.out.2.1))
        rw [waysF_len, ← HH.out.2.1] at HA
        have HAL := Lib.hid (And.intro hall hmn)
        clear hall hmn hlt
        go_wp2_with fail
        refine HA.out.mono ?_
        rintro e w3 ⟨av, rfl, hav, _, hb3⟩
        obtain ⟨bA, rfl, kA, lA, loA⟩ := hav H0.out.2.2.2.1
        rw [H0.out.2.2.2.1, waysF_len, ← HH.out.2.1]
        have HI := Lib.hid (Into_any g gc (waysF f) (waysF_tame HH.out.2.2.1) w3 ((H1.out.1.below H2.out.2.1).below hb3))
        rw [waysF_len, ← HH.out.2.1] at HI
        have H3 := Lib.hid (And.intro kA (And.intro lA (And.intro loA hb3)))
        clear hav kA lA loA hb3
        go_wp2_with fail
        refine HI.out.mono ?_
        rintro e w4 ⟨iv, rfl, hiv, _, hb4⟩
        obtain ⟨bl, rfl, hiw⟩ := hiv H0.out.2.2.2.1
        rw [H0.out.2.2.2.1, waysF_len, ← HH.out.2.1]
        have hck4 := ((H2.out.2.2.2.1).below H3.out.2.2.2).below hb4
        have hbm3 : bm < w3.heap.size := by have h9 := HH.out.2.2.2.2; have q0 := H0.out.2.1.size; have q1 := H1.out.2.size; have q2 := H2.out.2.1.size; have q3 := H3.out.2.2.2.size; omega
        have hbk3 : bk < w3.heap.size := Nat.lt_of_lt_of_le H2.out.2.2.2.1.ck.lt H3.out.2.2.2.size
        have hbl3 : w3.heap.size ≤ bl := hiw.1
        have x7 := hck4.ck.get 7 c7 rfl
        have f7 := hck4.ck.free 7
        obtain ⟨W5, hW5⟩ : ∃ W, W = w4.setCell ⟨bk, 7, none⟩ (.slice (some ⟨bl, 0, none⟩) n n) := ⟨_, rfl⟩
        have hck5 : CkZ B bk bm (.slice ba f.blocks.length bc) fv sv (.slice (some ⟨bl, 0, none⟩) n n) c8 c9 c f W5 := by rw [hW5]; exact hck4.s7 _
        have hg45 : w4.grownBy W5 (some bk) := by rw [hW5]; exact hck4.g7 _
        -- who goes on to whom lies above: it stays where the checker is written
        have hik5 : ∀ W', w4.grownBy W' (some bk) → IntoK bm bl f W' := fun W' hW' => by
          refine intoK_of (base := w3.heap.size) ?_ hbm3
          obtain ⟨q0, vs, q1, q2, q3, q4, q5⟩ := hiw
          refine ⟨q0, vs, q1, q2.other hW' (by simp; omega), fun t ht => World.ownsRow.kept (q3 t ht) hW' ?_, q4, q5⟩
          cases e : vs[t].ownBlock with
          | none => exact Or.inl rfl
          | some g' => exact Or.inr (fun e2 => by have h9 := ((q3 t ht).lt g' e).1; simp at e2; omega)
        have hoa : ∃ og, oa = some ⟨og, 0, none⟩ := by
          rcases own_slice H2.out.1 with ⟨e, e2⟩ | ⟨g', c', e⟩
          · rw [← H2.out.2.2.1] at e2
            have h9 := HAL.out.2
            have h8 := HH.out.2.2.2.1
            have h7 := HH.out.2.1
            omega
          · injection e with e1 _ _
            exact ⟨g', e1⟩
        obtain ⟨og, rfl⟩ := hoa
        have hov : w2.ownsRow w1.heap.size 3 1 (.slice (some ⟨og, 0, none⟩) mo oc) mo (ints (orderL (natG (waysF f)))) := by
          have h9 : w2.ownsRow w1.heap.size 3 1 (.slice (some ⟨og, 0, none⟩) mo oc) (orderL (natG (waysF f))).length (ints (orderL (natG (waysF f)))) := H2.out.1
          rw [← H2.out.2.2.1] at h9
          exact h9
        have hog := hov.lt og rfl
        have hw12 : w.heap.size ≤ w1.heap.size := Nat.le_trans H0.out.2.1.size H1.out.2.size
        have hw23 : w1.heap.size ≤ w2.heap.size := H2.out.2.1.size
        have hw34 : w2.heap.size ≤ w3.heap.size := H3.out.2.2.2.size
        have hbkw : bk < w.heap.size := HH.out.1.ck.lt
        have hor := ord_ok_facts H2.out.2.2.2.2.1 H2.out.2.2.2.2.2.1
        have hnw : NewW W5 og bA n mo (abvL (natG (waysF f))) (orderL (natG (waysF f))) := by
          refine ⟨(H3.out.1.below hb4 H3.out.1.lt).other hg45 (by have := H3.out.2.2.1; simp; omega), fun i hi => ?_, ?_, H2.out.2.2.1.symm, by rw [H3.out.2.1, waysF_len, HH.out.2.1], fun x hx => ?_, fun x hx h0 => ?_, ?_⟩
          · have h9 := nums_get hov H2.out.2.2.1.symm i hi
            have h8 := cellA_below hb4 (a := ⟨og, i, none⟩) (Nat.lt_of_lt_of_le hog.2 H3.out.2.2.2.size) (cellA_below H3.out.2.2.2 (a := ⟨og, i, none⟩) hog.2 h9)
            exact cell_grown hg45 (by omega) (Nat.lt_of_lt_of_le hog.2 (Nat.le_trans hw34 hb4.size)) h8
          · exact Nat.lt_of_lt_of_le hog.2 (Nat.le_trans hw34 (Nat.le_trans hb4.size hg45.size))
          · have h9 := H2.out.2.2.2.2.2.2.2.2 x hx
            rw [natG_len, waysF_len, ← HH.out.2.1] at h9
            exact h9
          · have h9 := hor.2 x hx h0
            rw [natG_len, waysF_len, ← HH.out.2.1] at h9
            exact h9
          · have h9 := hor.1
            rw [natG_len, waysF_len, ← HH.out.2.1] at h9
            exact h9
        have HN := Lib.hid (New_any og bA n mo oc (abvL (natG (waysF f))) (orderL (natG (waysF f))) (by have := HH.out.2.2.1; have := HH.out.2.1; omega) W5 hnw)
        have HB5 := Lib.hid (show w.grownBy W5 (some bk) from grownTr (grownOf (below_tr (below_tr (below_tr (below_tr H0.out.2.1 H1.out.2) H2.out.2.1) H3.out.2.2.2) hb4) bk) hg45)
        have H5 := Lib.hid (And.intro hck5 (And.intro hik5 (And.intro hg45 hor.1)))
        have HW5 := Lib.hid hW5
        clear hiv hiw hb4 hck4 hbm3 hbk3 hbl3 hck5 hg45 hik5 hov hog hw12 hw23 hw34 hbkw hor hnw hW5
        go_wp2_with fail
        rw [← HW5.out]
        refine HN.out.mono ?_
        rintro e w6 ⟨p, z, rfl, kp, kz, lp, lz, hpz, hb6⟩
        have hck6 := H5.out.1.below hb6
        have hbk5 : bk < W5.heap.size := H5.out.1.ck.lt
        have x8 := hck6.ck.get 8 c8 rfl
        have x9 := hck6.ck.get 9 c9 rfl
        have f8 := hck6.ck.free 8
        have f9 := hck6.ck.free 9
        have hg1 := hck6.g8 (.slice (some ⟨p, 0, none⟩) n n)
        have hck7 := hck6.s8 (.slice (some ⟨p, 0, none⟩) n n)
        have hg2 := hck7.g9 (.slice (some ⟨z, 0, none⟩) n n)
        have hck8 := hck7.s9 (.slice (some ⟨z, 0, none⟩) n n)
        have hg12 := grownTr hg1 hg2
        have hfo : ForK p z f (forP (abF (abvL (natG (waysF f)))) n (orderL (natG (waysF f)))) (forS (abF (abvL (natG (waysF f)))) n (orderL (natG (waysF f)))) ((w6.setCell ⟨bk, 8, none⟩ (.slice (some ⟨p, 0, none⟩) n n)).setCell ⟨bk, 9, none⟩ (.slice (some ⟨z, 0, none⟩) n n)) := by
          have hord := H5.out.2.2.2
          have hlen := forest_over hord
          have hGn : (natG (waysF f)).length = n := by rw [natG_len, waysF_len, HH.out.2.1]
          rw [hGn] at hord hlen
          have hn6 : n ≤ 60000 := by have := HH.out.2.2.1; have := HH.out.2.1; omega
          refine ⟨kp.other hg12 (by simp; omega), kz.other hg12 (by simp; omega), ⟨by rw [hlen.1, HH.out.2.1], by rw [hlen.2.1, HH.out.2.1]⟩, fun x _ => forP_bound hord hn6 x, fun x _ => by have := forS_bound hord hn6 x; omega, fun a b ha hb => ?_⟩
          have h9 := over_dom (G := natG (waysF f)) H2.out.2.2.2.2.1 H2.out.2.2.2.2.2.1 (a := a) (b := b) (by rw [hGn, HH.out.2.1]; exact ha) (HAL.out.1 b (by rw [HH.out.2.1]; exact hb)) (by rw [hGn, HH.out.2.1]; exact hb)
          rw [hGn] at h9
          exact h9
        have FIN := Lib.hid (show WayT B bk bm (.slice ba f.blocks.length bc) fv sv c f w (.returned (.bool true)) ((w6.setCell ⟨bk, 8, none⟩ (.slice (some ⟨p, 0, none⟩) n n)).setCell ⟨bk, 9, none⟩ (.slice (some ⟨z, 0, none⟩) n n)) from
          ⟨true, rfl, by simp only [true_iff]; exact ⟨H0.out.2.2.1, fun i hi => HAL.out.1 i (by rw [HH.out.2.1]; exact hi)⟩, fun _ => ⟨bl, p, z, _, _, by rw [← HH.out.2.1]; have h8 := hck8; rw [← HH.out.2.1] at h8; exact h8, H5.out.2.1 _ (grownTr H5.out.2.2.1 (grownTr (grownOf hb6 bk) hg12)), hfo, by have h9 := HH.out.2.2.2.2; have h8 := HB5.out.size; omega⟩, grownTr HB5.out (grownTr (grownOf hb6 bk) hg12)⟩)
        clear kp kz lp lz hpz hb6 hck6 hck7 hck8 hg1 hg2 hg12 hfo
        go_wp2_with fail
        go_ret
        exact FIN.out
end Go.Proofs.Ytjlmkcamefaodaa
