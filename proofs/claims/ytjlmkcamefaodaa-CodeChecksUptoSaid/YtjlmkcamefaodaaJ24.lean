/-
  Joined: FGr, FForN, FOvers.
-/
import Derived.Test.YtjlmkcamefaodaaJ06
import Derived.Test.YtjlmkcamefaodaaJ23
import Derived.Test.YtjlmkcamefaodaaJ08
import Derived.Test.YtjlmkcamefaodaaJ09
import Derived.Deep.QuietTactic
import Derived.BigQuiet
/-! FGr: Graphs that lie below, in memory. -/

namespace Go.Proofs.Ytjlmkcamefaodaa
open Go Go.RowKit Fl

namespace Fl
theorem nodup_lt {l : List Nat} {N : Nat} (h : l.Nodup) (hb : ∀ x ∈ l, x < N) : l.length ≤ N := by
  have h1 := h.length_le_of_subset (l₂ := List.range N) (fun x hx => List.mem_range.2 (hb x hx))
  simpa using h1
end Fl
theorem below_of {w wo W : World} (h : Below w.heap.size w wo) (hb : Below wo.heap.size wo W) : Below w.heap.size w W :=
  ⟨hb.os.trans h.os, hb.tape.trans h.tape, hb.output.trans h.output, Nat.le_trans h.size hb.size, fun k hk => (hb.block k (Nat.lt_of_lt_of_le hk h.size)).trans (h.block k hk)⟩
/-- A graph that lies below. -/
def RowB (base : Nat) (w : World) (v : Value) (l : List Nat) : Prop := (v = .slice none 0 0 ∧ l = []) ∨ ∃ g c, v = .slice (some ⟨g, 0, none⟩) l.length c ∧ g < base ∧ ∀ j (h : j < l.length), w.cell? ⟨g, j, none⟩ = some (I (l[j] : Int))
structure GrB (base : Nat) (w : World) (bl : Nat) (F : List (List Nat)) : Prop where
  lt : bl < base
  le : base ≤ w.heap.size
  row : ∀ i, i < F.length → ∃ v, w.cell? ⟨bl, i, none⟩ = some v ∧ RowB base w v (row F i)
theorem cell_belowB {B : Nat} {w w' : World} (h : Below B w w') {g i : Nat} (hg : g < B) {v : Value} (hc : w.cell? ⟨g, i, none⟩ = some v) : w'.cell? ⟨g, i, none⟩ = some v := by
  unfold World.cell? at hc ⊢
  rw [h.block g hg]
  exact hc
theorem RowB.below {base : Nat} {w w' : World} {v : Value} {l : List Nat} (h : RowB base w v l) (hb : Below base w w') : RowB base w' v l := by
  rcases h with h | ⟨g, c, e, hg, h⟩
  · exact Or.inl h
  · exact Or.inr ⟨g, c, e, hg, fun j hj => cell_belowB hb hg (h j hj)⟩
theorem GrB.below {base : Nat} {w w' : World} {bl : Nat} {F : List (List Nat)} (h : GrB base w bl F) (hb : Below base w w') : GrB base w' bl F :=
  ⟨h.lt, Nat.le_trans h.le hb.size, fun i hi => by
    obtain ⟨v, h1, h2⟩ := h.row i hi
    exact ⟨v, cell_belowB hb h.lt h1, h2.below hb⟩⟩

theorem GrB.up {base base' : Nat} {w : World} {bl : Nat} {F : List (List Nat)} (h : GrB base w bl F) (hb : base ≤ base') (hw : base' ≤ w.heap.size) : GrB base' w bl F :=
  ⟨Nat.lt_of_lt_of_le h.lt hb, hw, fun i hi => by
    obtain ⟨v, h1, h2⟩ := h.row i hi
    refine ⟨v, h1, ?_⟩
    rcases h2 with h2 | ⟨g, c, e, hg, h2⟩
    · exact Or.inl h2
    · exact Or.inr ⟨g, c, e, Nat.lt_of_lt_of_le hg hb, h2⟩⟩

end Go.Proofs.Ytjlmkcamefaodaa

/-! FForN: A forest, of any order: the walk of New. -/

namespace Go.Proofs.Ytjlmkcamefaodaa
open Go Go.RowKit Fl

namespace Fl
/-- One size more. -/
def sizeS (ab : Nat → Int) (sz : List Nat) (n : Nat) : List Nat := if 0 ≤ ab n then (sz.set n (sz.getD n 0 + 1)).set (ab n).toNat ((sz.set n (sz.getD n 0 + 1)).getD (ab n).toNat 0 + (sz.set n (sz.getD n 0 + 1)).getD n 0) else sz.set n (sz.getD n 0 + 1)
theorem sizeF_cons (ab : Nat → Int) (n : Nat) (r sz : List Nat) : sizeF ab (n :: r) sz = sizeF ab r (sizeS ab sz n) := rfl
theorem getD_set_le (sz : List Nat) (n v x : Nat) : (sz.set n v).getD x 0 ≤ v ∨ (sz.set n v).getD x 0 = sz.getD x 0 := by
  rw [List.getD_eq_getElem?_getD, List.getElem?_set]
  by_cases e : n = x
  · rw [if_pos e]
    split
    · left; simp
    · left; simp
  · rw [if_neg e, ← List.getD_eq_getElem?_getD]
    exact Or.inr rfl
/-- The sizes of some nodes together. -/
def szSum (l sz : List Nat) : Nat := (l.map fun x => sz.getD x 0).sum
theorem szSum_out {l sz : List Nat} {n v : Nat} (h : n ∉ l) : szSum l (sz.set n v) = szSum l sz := by
  unfold szSum
  congr 1
  apply List.map_congr_left
  intro x hx
  have e : ¬ n = x := fun e => h (by rw [e]; exact hx)
  rw [List.getD_eq_getElem?_getD, List.getElem?_set, if_neg e, ← List.getD_eq_getElem?_getD]
theorem szSum_in {l sz : List Nat} {n v : Nat} (hd : l.Nodup) (h : n ∈ l) (hn : n < sz.length) : szSum l (sz.set n v) + sz.getD n 0 = szSum l sz + v := by
  induction l with
  | nil => simp at h
  | cons y l ih =>
    rw [List.nodup_cons] at hd
    have e1 : szSum (y :: l) (sz.set n v) = (sz.set n v).getD y 0 + szSum l (sz.set n v) := by simp [szSum]
    have e2 : szSum (y :: l) sz = sz.getD y 0 + szSum l sz := by simp [szSum]
    rw [e1, e2]
    by_cases e : n = y
    · subst e
      rw [szSum_out hd.1, Fl.getD_set' _ _ _ _ hn, if_pos rfl]
      omega
    · have h2 : n ∈ l := by
        rcases List.mem_cons.1 h with h | h
        · exact absurd h e
        · exact h
      have := ih hd.2 h2
      rw [Fl.getD_set' _ _ _ _ hn, if_neg (Ne.symm e)]
      omega
theorem szSum_mem {l sz : List Nat} {n : Nat} (h : n ∈ l) : sz.getD n 0 ≤ szSum l sz := by
  induction l with
  | nil => simp at h
  | cons y l ih =>
    have e2 : szSum (y :: l) sz = sz.getD y 0 + szSum l sz := by simp [szSum]
    rw [e2]
    rcases List.mem_cons.1 h with h | h
    · subst h; omega
    · have := ih h; omega
/-- Where k nodes of the order are left, sizes are no more than nodes are done. -/
def SzOk (o : List Nat) (k : Nat) (sz : List Nat) : Prop := (∀ x, sz.getD x 0 ≤ o.length - k) ∧ szSum (o.take k) sz ≤ o.length - k
theorem sz_start (o : List Nat) (n : Nat) : SzOk o o.length (List.replicate n 0) := by
  have h : ∀ x, (List.replicate n 0).getD x 0 = 0 := fun x => by
    rw [List.getD_eq_getElem?_getD, List.getElem?_replicate]
    split <;> rfl
  refine ⟨fun x => by rw [h]; omega, ?_⟩
  have hz : ∀ l : List Nat, szSum l (List.replicate n 0) = 0 := fun l => by
    induction l with
    | nil => rfl
    | cons y l ih =>
      have e2 : szSum (y :: l) (List.replicate n 0) = (List.replicate n 0).getD y 0 + szSum l (List.replicate n 0) := by simp [szSum]
      rw [e2, h, ih]
  rw [hz]
  omega
theorem SzOk.step {n q x : Nat} {ab : Nat → Int} {o sz : List Nat} (ho : OrdOk n ab o) (hq : q < o.length) (hx : x = o.getD q 0) (hl : sz.length = n) (h : SzOk o (q + 1) sz) : SzOk o q (sizeS ab sz x) := by
  have hsp : o = o.take q ++ x :: o.drop (q + 1) := by
    rw [hx, getD_of o q 0 hq, List.getElem_cons_drop]
    exact (List.take_append_drop q o).symm
  have hnd := ho.nd
  rw [hsp, List.nodup_append] at hnd
  obtain ⟨hn1, _, hn3⟩ := hnd
  have hxA : x ∉ o.take q := fun e => hn3 x e x (by simp) rfl
  have hxn : x < sz.length := by rw [hl]; exact ho.lt x (by rw [hsp]; simp)
  have hs1 : szSum (o.take (q + 1)) sz = szSum (o.take q) sz + sz.getD x 0 := by
    have e : o.take (q + 1) = o.take q ++ [x] := by rw [List.take_succ_eq_append_getElem hq, hx, getD_of o q 0 hq]
    rw [e]
    unfold szSum
    rw [List.map_append, List.sum_append]
    simp
  have h1 := h.1
  have h2 := h.2
  rw [hs1] at h2
  have g1 : ∀ y, (sz.set x (sz.getD x 0 + 1)).getD y 0 ≤ o.length - q := fun y => by
    have := h1 y
    have := h1 x
    rcases getD_set_le sz x (sz.getD x 0 + 1) y with e | e <;> omega
  have g2 := szSum_out (sz := sz) (v := sz.getD x 0 + 1) hxA
  rcases ho.up _ _ _ hsp with hr | ⟨a, ha, haA⟩
  · unfold sizeS
    rw [if_neg (show ¬ (0 : Int) ≤ ab x by omega)]
    exact ⟨g1, by rw [g2]; omega⟩
  · have hax : a ≠ x := fun e => hxA (by rw [← e]; exact haA)
    have han : a < (sz.set x (sz.getD x 0 + 1)).length := by rw [List.length_set, hl]; exact ho.lt a (by rw [hsp]; simp [haA])
    unfold sizeS
    rw [if_pos (show (0 : Int) ≤ ab x by omega), show (ab x).toNat = a by omega]
    have e1 : (sz.set x (sz.getD x 0 + 1)).getD a 0 = sz.getD a 0 := by rw [Fl.getD_set' _ _ _ _ hxn, if_neg hax]
    have e2 : (sz.set x (sz.getD x 0 + 1)).getD x 0 = sz.getD x 0 + 1 := by rw [Fl.getD_set' _ _ _ _ hxn, if_pos rfl]
    have hm := szSum_mem (sz := sz) haA
    have hi := szSum_in (v := sz.getD a 0 + (sz.getD x 0 + 1)) hn1 haA han
    rw [e1, g2] at hi
    rw [e1, e2]
    refine ⟨fun y => ?_, by omega⟩
    have := g1 y
    rcases getD_set_le (sz.set x (sz.getD x 0 + 1)) a (sz.getD a 0 + (sz.getD x 0 + 1)) y with e | e <;> omega
theorem sz_mul {mo : Nat} (h : mo ≤ 60000) : (mo + 1) * (60000 + 1) ≤ 1000000000000 :=
  Nat.le_trans (Nat.mul_le_mul_right _ (by omega : mo + 1 ≤ 60001)) (by decide)
theorem take_rev {o : List Nat} {k : Nat} (hk : k < o.length) : (o.take (k + 1)).reverse = o.getD k 0 :: (o.take k).reverse := by
  rw [List.take_add_one, List.getElem?_eq_getElem hk, getD_of o k 0 hk]
  simp
end Fl

/-- What New is handed. -/
structure NewW (w : World) (og ba N mo : Nat) (L : List Int) (o : List Nat) : Prop where
  ka : Blk ba (arrZ L) 3 w
  co : ∀ i, i < mo → w.cell? ⟨og, i, none⟩ = some (I ((o.getD i 0 : Nat) : Int))
  lo : og < w.heap.size
  om : o.length = mo
  lL : L.length = N
  lt : ∀ x ∈ o, x < N
  up : ∀ x ∈ o, 0 ≤ abF L x → (abF L x).toNat < N ∧ (abF L x).toNat ≠ x
  oo : OrdOk N (abF L) o

/-- A forest being made. -/
structure ForG (w : World) (r f p z N : Nat) (pl : List Int) (sz : List Nat) (W : World) : Prop where
  kf : Blk f #[.slice (some ⟨p, 0, none⟩) N N, .slice (some ⟨z, 0, none⟩) N N] 64 W
  kr : Blk r #[.slice none 0 0, .slice none 0 0] 64 W
  kp : Blk p (arrZ pl) 3 W
  kz : Blk z (arrN sz) 3 W
  lo : w.heap.size ≤ r ∧ w.heap.size ≤ f ∧ w.heap.size ≤ p ∧ w.heap.size ≤ z
  n1 : p ≠ z ∧ f ≠ p ∧ f ≠ z
  n2 : r ≠ p ∧ r ≠ z ∧ r ≠ f
  bel : Below w.heap.size w W
  len : pl.length = N ∧ sz.length = N
section
variable {w W : World} {r f p z N : Nat} {pl : List Int} {sz : List Nat}
theorem ForG.setP (h : ForG w r f p z N pl sz W) (j : Nat) (x : Int) : ForG w r f p z N (pl.set j x) sz (W.setCell ⟨p, j, none⟩ (I x)) :=
  ⟨h.kf.setOther h.n1.2.1 _ _, h.kr.setOther h.n2.1 _ _, by have := h.kp.set j (I x); rw [arrZ_set] at this; exact this, h.kz.setOther (Ne.symm h.n1.1) _ _, h.lo, h.n1, h.n2, h.bel.setCell (p := ⟨p, j, none⟩) h.lo.2.2.1 _, by rw [List.length_set]; exact h.len⟩
theorem ForG.setZ (h : ForG w r f p z N pl sz W) (j x : Nat) : ForG w r f p z N pl (sz.set j x) (W.setCell ⟨z, j, none⟩ (I (x : Int))) :=
  ⟨h.kf.setOther h.n1.2.2 _ _, h.kr.setOther h.n2.2.1 _ _, h.kp.setOther h.n1.1 _ _, by have := h.kz.set j (I (x : Int)); rw [arrN_set] at this; exact this, h.lo, h.n1, h.n2, h.bel.setCell (p := ⟨z, j, none⟩) h.lo.2.2.2 _, by rw [List.length_set]; exact h.len⟩
theorem ForG.drew (h : ForG w r f p z N pl sz W) : ForG w r f p z N pl sz W.drew := ⟨h.kf, h.kr, h.kp, h.kz, h.lo, h.n1, h.n2, h.bel.drew, h.len⟩
end
def ForB (w : World) (N : Nat) (q : Value) (W : World) : Prop := ∃ f p z, q = .pointer (some ⟨f, 0, none⟩) ∧ ForG w w.heap.size f p z N (List.replicate N 0) (List.replicate N 0) W
theorem forB_four (w : World) (N : Nat) (o2 o3 o4 : Obj) (i j k : Nat) (f p z : Nat) (hf : f = w.heap.size + i) (hp : p = w.heap.size + j) (hz : z = w.heap.size + k) (h0 : 0 < i ∧ 0 < j ∧ 0 < k ∧ i ≠ j ∧ i ≠ k ∧ j ≠ k)
    (hi : [.cells #[.slice none 0 0, .slice none 0 0] 64, o2, o3, o4][i]? = some (.cells #[.slice (some ⟨p, 0, none⟩) N N, .slice (some ⟨z, 0, none⟩) N N] 64))
    (hj : [.cells #[.slice none 0 0, .slice none 0 0] 64, o2, o3, o4][j]? = some (.cells (arrZ (List.replicate N 0)) 3)) (hk : [.cells #[.slice none 0 0, .slice none 0 0] 64, o2, o3, o4][k]? = some (.cells (arrZ (List.replicate N 0)) 3)) :
    ForB w N (.pointer (some ⟨f, 0, none⟩)) (((((w.alloc (.cells #[.slice none 0 0, .slice none 0 0] 64)).alloc o2).alloc o3).alloc o4).drew) := by
  subst hf hp hz
  have e : arrN (List.replicate N 0) = arrZ (List.replicate N 0) := by simp
  exact ⟨_, _, _, rfl, ⟨four_get w _ o2 o3 o4 i _ hi, four_get w _ o2 o3 o4 0 _ rfl, four_get w _ o2 o3 o4 j _ hj, by rw [e]; exact four_get w _ o2 o3 o4 k _ hk, by omega, by omega, by omega, (((((Below.refl _ _).alloc (Nat.le_refl _) _).alloc (by simp) _).alloc (by simp; omega) _).alloc (by simp; omega) _).drew, by simp⟩⟩
def ForT (w : World) (N : Nat) (P : List Int) (S : List Nat) (W : World) (e : Ending) : Prop :=
  ∃ p z, e = .returned (forestN p z N) ∧ Blk p (arrZ P) 3 W ∧ Blk z (arrN S) 3 W ∧ w.heap.size ≤ p ∧ w.heap.size ≤ z ∧ p ≠ z ∧ Below w.heap.size w W
def NRel1 (w : World) (r f p z N : Nat) (iv : Value) (W : World) : Prop := ∃ j : Nat, j ≤ N ∧ iv = I (j : Int) ∧ ForG w r f p z N (minusL N j) (List.replicate N 0) W
def NRel2 (w : World) (r f p z N mo : Nat) (L : List Int) (o : List Nat) (Z : List Nat) (iv : Value) (W : World) : Prop :=
  ∃ (k : Nat) (sz : List Nat), k ≤ mo ∧ iv = I ((k : Int) - 1) ∧ ForG w r f p z N (List.replicate N (-1)) sz W ∧ SzOk o k sz ∧ sizeF (abF L) (o.take k).reverse sz = Z

set_option maxRecDepth 100000 in
set_option maxHeartbeats 8000000 in
theorem New_any (og ba N mo ocap : Nat) (L : List Int) (o : List Nat) (hN : N ≤ 60000) (w : World) (h : NewW w og ba N mo L o) :
    Calls Try.prog 46 #[.slice (some ⟨og, 0, none⟩) mo ocap, .slice (some ⟨ba, 0, none⟩) N N] w fun e w' => ForT w N (forP (abF L) N o) (forS (abF L) N o) w' e := by
  have hmo : mo ≤ 60000 := by rw [← h.om]; exact Nat.le_trans (nodup_lt h.oo.nd h.lt) hN
  have hmk := mkIn N (by omega)
  have HF := Lib.hid (forB_four w N)
  have H := Lib.hid (And.intro h (And.intro hN hmo))
  clear h hN hmo
  go_enter Try.func46, Try.ntmps46
  go_upto_region 1 with (fail)
  go_cut [5] from 9 to 15 (fun q W => ForB w N q W)
  case first =>
    go_region
    all_goals (go_wp2_with fail; go_meet; case rel => first | exact HF.out _ _ _ 1 2 3 _ _ _ rfl rfl rfl (by decide) rfl rfl rfl | exact HF.out _ _ _ 1 3 2 _ _ _ rfl rfl rfl (by decide) rfl rfl rfl | exact HF.out _ _ _ 2 1 3 _ _ _ rfl rfl rfl (by decide) rfl rfl rfl | exact HF.out _ _ _ 2 3 1 _ _ _ rfl rfl rfl (by decide) rfl rfl rfl | exact HF.out _ _ _ 3 1 2 _ _ _ rfl rfl rfl (by decide) rfl rfl rfl | exact HF.out _ _ _ 3 2 1 _ _ _ rfl rfl rfl (by decide) rfl rfl rfl)
  case rest =>
    obtain ⟨f, p, z, rfl, hG⟩ := hcut
    obtain ⟨W, rfl⟩ : ∃ W, W = wc := ⟨_, rfl⟩
    obtain ⟨r, hr⟩ : ∃ r, r = w.heap.size := ⟨_, rfl⟩
    rw [← hr] at hG
    have x0 := hG.kf.get 0 (.slice (some ⟨p, 0, none⟩) N N) rfl
    have HS := Lib.hid (show NRel1 w r f p z N (I 0) W from ⟨0, Nat.zero_le _, rfl, by rw [minusL_zero]; exact hG⟩)
    have HR := Lib.hid hr
    clear hG hr hmk HF
    go_wp2_with fail
    go_loopw [19] (fun iv wr => NRel1 w r f p z N iv wr) (fun iv _ => (N - intOf iv).toNat)
    case atStart => exact HS.out
    case round =>
      clear HS x0
      obtain ⟨j, hj, rfl, hG⟩ := hrel
      obtain ⟨wo, rfl⟩ : ∃ wo : World, wo = wr := ⟨_, rfl⟩
      by_cases hlt : j < N
      · have d0 : decide (j < N) = true := by simpa using hlt
        have d1 : (0 : Int) ≤ (j : Int) := by omega
        have d2 : (j : Int) < (N : Int) := by omega
        have d3 : (j : Int) + 1 ≤ 60000 := by have := H.out.2.1; omega
        have x0 := hG.kf.get 0 (.slice (some ⟨p, 0, none⟩) N N) rfl
        have y := hG.kp.get j (I ((minusL N j).getD j 0)) (arrZ_getD _ _ _ (by rw [hG.len.1]; exact hlt))
        have g := hG.kp.free j
        have FIN := Lib.hid (show NRel1 w r f p z N (I ((j : Int) + 1)) (wo.setCell ⟨p, j, none⟩ (I (-1))) from ⟨j + 1, hlt, rfl, by rw [← minusL_set hlt]; exact hG.setP j (-1)⟩)
        clear hG hlt hj
        go_wp2_with fail
        exact ⟨FIN.out, by simp [intOf]; omega⟩
      · have d0 : decide (j < N) = false := by simpa using hlt
        obtain rfl : j = N := by omega
        rw [minusL_all] at hG
        obtain ⟨Z, hZ⟩ : ∃ Z, Z = forS (abF L) j o := ⟨_, rfl⟩
        have i2 : (0 : Int) ≤ (mo : Int) := by omega
        have i3 : (mo : Int) ≤ 60000 := by have := H.out.2.2; omega
        have HS := Lib.hid (show NRel2 w r f p z j mo L o Z (I ((mo : Int) - 1)) wo from ⟨mo, _, Nat.le_refl _, rfl, hG, by rw [← H.out.1.om]; exact sz_start o j, by rw [hZ, ← H.out.1.om, List.take_length]; rfl⟩)
        have HZ := Lib.hid hZ
        clear hG hlt hj hZ
        as_aux_lemma =>
        go_wp2_with fail
        go_loopw [7] (fun iv wr => NRel2 w r f p z j mo L o Z iv wr) (fun iv _ => (intOf iv + 1).toNat)
        case atStart => exact HS.out
        case round =>
          clear HS i2 i3
          obtain ⟨k, sz, hk, rfl, hG, hS, hZ⟩ := hrel
          obtain ⟨w2, rfl⟩ : ∃ w2 : World, w2 = wr := ⟨_, rfl⟩
          by_cases hk0 : 0 < k
          · obtain ⟨q, rfl⟩ : ∃ q, k = q + 1 := ⟨k - 1, by omega⟩
            have hkI : ((q + 1 : Nat) : Int) - 1 = (q : Int) := by omega
            have hqo : q < o.length := by rw [H.out.1.om]; omega
            obtain ⟨x, hx⟩ : ∃ x, x = o.getD q 0 := ⟨_, rfl⟩
            have hxm : x ∈ o := by rw [hx]; exact getD_mem hqo
            have hxN : x < j := H.out.1.lt x hxm
            have hxL : x < L.length := by rw [H.out.1.lL]; exact hxN
            have hlo := H.out.1.lo
            have hla := H.out.1.ka.lt
            have y0 := cell_below hG.bel hlo (H.out.1.co q (by omega))
            rw [← hx] at y0
            obtain ⟨ax, hax⟩ : ∃ ax, ax = abF L x := ⟨_, rfl⟩
            have y1 : w2.cell? ⟨ba, x, none⟩ = some (I ax) := cell_below hG.bel hla (by rw [hax, abF_eq hxL]; exact H.out.1.ka.get x _ (arrZ_getD _ _ _ hxL))
            obtain ⟨u, hu⟩ : ∃ u, u = sz.getD x 0 := ⟨_, rfl⟩
            have y2 := hG.kz.get x (I (u : Int)) (by rw [hu]; exact arrN_getD _ _ _ (by rw [hG.len.2]; exact hxN))
            have g2 := hG.kz.free x
            have x1 := hG.kf.get 1 (.slice (some ⟨z, 0, none⟩) j j) rfl
            have hub := hS.1 x
            rw [← hu, H.out.1.om] at hub
            have hb := H.out.2.2
            have d1 : (0 : Int) ≤ (q : Int) := by omega
            have d2 : (q : Int) < (mo : Int) := by omega
            have d3 : (q : Int) ≤ 60000 := by have := H.out.2.2; omega
            have d4 : (0 : Int) ≤ (x : Int) := by omega
            have d5 : (x : Int) < (j : Int) := by omega
            have d6 : (u : Int) + 1 ≤ 33554432 := by omega
            have n1 := hG.n1.2.2
            have n2 := Ne.symm n1
            have n3 : z ≠ og := by have := hG.lo.2.2.2; omega
            have n4 : z ≠ ba := by have := hG.lo.2.2.2; omega
            have hup := H.out.1.up x hxm
            rw [← hax] at hup
            rw [take_rev hqo, ← hx, sizeF_cons] at hZ
            have hst := hS.step H.out.1.oo hqo hx hG.len.2
            rw [hkI]
            by_cases hpos : 0 ≤ ax
            · have d7 : decide (0 ≤ ax) = true := by simpa using hpos
              obtain ⟨a, ha⟩ : ∃ a : Nat, ax = (a : Int) := ⟨ax.toNat, by omega⟩
              subst ha
              obtain ⟨ha1, ha2⟩ := hup hpos
              rw [Int.toNat_natCast] at ha1 ha2
              obtain ⟨v, hv⟩ : ∃ v, v = sz.getD a 0 := ⟨_, rfl⟩
              have y3 := hG.kz.get a (I (v : Int)) (by rw [hv]; exact arrN_getD _ _ _ (by rw [hG.len.2]; exact ha1))
              have g3 := hG.kz.free a
              have hvb := hS.1 a
              rw [← hv, H.out.1.om] at hvb
              have d8 : (0 : Int) ≤ (a : Int) := by omega
              have d9 : (a : Int) < (j : Int) := by omega
              have e1 : (v : Int) + ((u : Int) + 1) ≤ 67108864 := by omega
              have n9 : a ≠ x := ha2
              have n10 : x ≠ a := Ne.symm ha2
              have hss : sizeS (abF L) sz x = (sz.set x (u + 1)).set a (v + (u + 1)) := by
                unfold sizeS
                rw [← hax, if_pos hpos, Int.toNat_natCast, ← hu]
                rw [show (sz.set x (u + 1)).getD a 0 = v by rw [Fl.getD_set' _ _ _ _ (by rw [hG.len.2]; exact hxN), if_neg ha2, ← hv]]
                rw [show (sz.set x (u + 1)).getD x 0 = u + 1 by rw [Fl.getD_set' _ _ _ _ (by rw [hG.len.2]; exact hxN), if_pos rfl]]
              have FIN := Lib.hid (show NRel2 w r f p z j mo L o Z (I ((q : Int) - 1)) ((w2.setCell ⟨z, x, none⟩ (I ((u : Int) + 1))).setCell ⟨z, a, none⟩ (I ((v : Int) + ((u : Int) + 1)))).drew from
                ⟨q, (sz.set x (u + 1)).set a (v + (u + 1)), by omega, rfl, ((hG.setZ x (u + 1)).setZ a (v + (u + 1))).drew, by rw [← hss]; exact hst, by rw [← hss]; exact hZ⟩)
              clear hk hk0 hkI hqo hx hxm hxN hxL hlo hla hax hu hb hub hup hZ hst hpos ha1 ha2 hv hvb hss hG hS
              as_aux_lemma =>
              go_upto_region 13 with (fail)
              go_region
              go_wp2_with fail
              exact ⟨FIN.out, by simp [intOf] <;> omega⟩
            · have d7 : decide (0 ≤ ax) = false := by simpa using hpos
              have hss : sizeS (abF L) sz x = sz.set x (u + 1) := by
                unfold sizeS
                rw [← hax, if_neg hpos, ← hu]
              have FIN := Lib.hid (show NRel2 w r f p z j mo L o Z (I ((q : Int) - 1)) (w2.setCell ⟨z, x, none⟩ (I ((u : Int) + 1))) from
                ⟨q, sz.set x (u + 1), by omega, rfl, hG.setZ x (u + 1), by rw [← hss]; exact hst, by rw [← hss]; exact hZ⟩)
              clear hk hk0 hkI hqo hx hxm hxN hxL hlo hla hax hu hb hub hup hZ hst hpos hss hG hS
              as_aux_lemma =>
              go_wp2_with fail
              exact ⟨FIN.out, by simp [intOf] <;> omega⟩
          · obtain rfl : k = 0 := by omega
            have hZ0 : sz = Z := by rw [← hZ]; rfl
            have hkI : ((0 : Nat) : Int) - 1 = -1 := rfl
            have hszM : ∀ x, sz.getD x 0 ≤ 60000 := fun x => by have := hS.1 x; rw [H.out.1.om] at this; have := H.out.2.2; omega
            have hLW : LayW 60000 w2 p z og ba j mo L o sz :=
              ⟨hG.kp, hG.kz, H.out.1.ka.below hG.bel H.out.1.ka.lt, fun i hi => cell_below hG.bel H.out.1.lo (H.out.1.co i hi), Nat.lt_of_lt_of_le H.out.1.lo hG.bel.size, ⟨Ne.symm hG.n1.1, by have := hG.lo.2.2.1; have := H.out.1.ka.lt; omega, by have := hG.lo.2.2.1; have := H.out.1.lo; omega⟩, H.out.1.om, H.out.1.lL, hG.len.2, H.out.1.lt, H.out.1.up, hszM⟩
            have HL := Lib.hid (lay_any 60000 p z og ba j mo ocap L o sz H.out.2.1 (by have := H.out.2.2; omega) (sz_mul H.out.2.2) w2 hLW)
            have c0 := hG.kf.get 0 (.slice (some ⟨p, 0, none⟩) j j) rfl
            have c1 := hG.kf.get 1 (.slice (some ⟨z, 0, none⟩) j j) rfl
            have HG := Lib.hid (And.intro hG (And.intro hZ0 (HZ.out)))
            clear hk hk0 hG hS hZ hZ0 hszM hLW
            rw [hkI]
            clear hkI
            as_aux_lemma =>
            go_upto_region 14 with (fail)
            go_wp2_with fail
            refine HL.out.mono ?_
            rintro e w3 ⟨rfl, hp3, hg3⟩
            have hG := HG.out.1
            have k1 : Blk f #[.slice (some ⟨p, 0, none⟩) j j, .slice (some ⟨z, 0, none⟩) j j] 64 w3 := hG.kf.other hg3 (by simp [hG.n1.2.1])
            have k2 : Blk r #[.slice none 0 0, .slice none 0 0] 64 w3 := hG.kr.other hg3 (by simp [hG.n2.1])
            have k3 : Blk z (arrN sz) 3 w3 := hG.kz.other hg3 (by simp [Ne.symm hG.n1.1])
            have k5 : Below w.heap.size w w3 := hG.bel.trans ⟨hg3.os, hg3.tape, hg3.output, hg3.size, fun k hk => hg3.block k (by have := hG.bel.size; omega) (by have := hG.lo.2.2.1; simp; omega)⟩
            have c0 := k1.get 0 (.slice (some ⟨p, 0, none⟩) j j) rfl
            have c1 := k1.get 1 (.slice (some ⟨z, 0, none⟩) j j) rfl
            have d0 := k2.get 0 (.slice none 0 0) rfl
            have d1 := k2.get 1 (.slice none 0 0) rfl
            have f0 := k2.free 0
            have f1 := k2.free 1
            obtain ⟨W3, hW3⟩ : ∃ W3, W3 = (w3.setCell ⟨r, 0, none⟩ (.slice (some ⟨p, 0, none⟩) j j)).setCell ⟨r, 1, none⟩ (.slice (some ⟨z, 0, none⟩) j j) := ⟨_, rfl⟩
            have k6 : Blk r #[.slice (some ⟨p, 0, none⟩) j j, .slice (some ⟨z, 0, none⟩) j j] 64 W3 := by rw [hW3]; exact (k2.set 0 _).set 1 _
            have FIN := Lib.hid (show ForT w j (forP (abF L) j o) (forS (abF L) j o) W3 (.returned (forestN p z j)) from
              ⟨p, z, rfl, by
                rw [hW3]
                have e1 : forP (abF L) j o = layF (abF L) sz o (List.replicate j (-1)) (List.replicate j 0) 0 := by
                  unfold forP
                  rw [show sizeF (abF L) o.reverse (List.replicate j 0) = sz from by rw [HG.out.2.1, HG.out.2.2]; rfl]
                rw [e1]
                exact (hp3.setOther (Ne.symm hG.n2.1) _ _).setOther (Ne.symm hG.n2.1) _ _, by
                rw [hW3, ← HG.out.2.2, ← HG.out.2.1]
                exact (k3.setOther (Ne.symm hG.n2.2.1) _ _).setOther (Ne.symm hG.n2.2.1) _ _, hG.lo.2.2.1, hG.lo.2.2.2, hG.n1.1, by
                rw [hW3]
                exact (k5.setCell (p := ⟨r, 0, none⟩) hG.lo.1 _).setCell (p := ⟨r, 1, none⟩) hG.lo.1 _⟩)
            have HW3 := Lib.hid hW3
            have HRR := Lib.hid (And.intro (k6.get 0 (.slice (some ⟨p, 0, none⟩) j j) rfl) (k6.get 1 (.slice (some ⟨z, 0, none⟩) j j) rfl))
            clear hG hp3 hg3 k1 k2 k3 k5 k6 hW3
            rw [← HR.out]
            go_wp2_with fail
            rw [← HW3.out]
            have g0 := HRR.out.1
            have g1 := HRR.out.2
            exact bodyPost_ret (v := forestN p z j) (by simp [results, Try.results46, go_sem, g0, g1]) rfl FIN.out
end Go.Proofs.Ytjlmkcamefaodaa

/-! FOvers: Joined: FOver, FGlue. -/

namespace Go.Proofs.Ytjlmkcamefaodaa
open Go Go.RowKit Fl

def overB (P : List Int) (S : List Nat) (a b : Nat) : Bool := decide (P.getD a 0 ≤ P.getD b 0 ∧ P.getD b 0 < P.getD a 0 + ((S.getD a 0 : Nat) : Int))
def OverT (w : World) (v : Bool) (e : Ending) (w' : World) : Prop := e = .returned (.bool v) ∧ Below w.heap.size w w'

set_option maxRecDepth 100000 in
set_option maxHeartbeats 2000000 in
theorem Over_any (p z N a b : Nat) (P : List Int) (S : List Nat) (ha : a < N) (hb : b < N) (hP : ∀ x, x < N → -1 ≤ P.getD x 0 ∧ P.getD x 0 ≤ 1000000000000) (hS : ∀ x, x < N → ((S.getD x 0 : Nat) : Int) ≤ 1000000000000) (w : World) (kp : Blk p (arrZ P) 3 w) (kz : Blk z (arrN S) 3 w) (hl : P.length = N ∧ S.length = N) :
    Calls Try.prog 60 #[forestN p z N, I (a : Int), I (b : Int)] w (OverT w (overB P S a b)) := by
  obtain ⟨W, hW⟩ : ∃ W, W = w.alloc (.cells #[.slice (some ⟨p, 0, none⟩) N N, .slice (some ⟨z, 0, none⟩) N N] 64) := ⟨_, rfl⟩
  obtain ⟨q, hq⟩ : ∃ q, q = w.heap.size := ⟨_, rfl⟩
  have kq : Blk q #[.slice (some ⟨p, 0, none⟩) N N, .slice (some ⟨z, 0, none⟩) N N] 64 W := by rw [hq, hW]; exact Blk.new _ _ _
  have hbel : Below w.heap.size w W := by rw [hW]; exact (Below.refl _ _).alloc (Nat.le_refl _) _
  have kp' := kp.below hbel kp.lt
  have kz' := kz.below hbel kz.lt
  obtain ⟨pa, hpa⟩ : ∃ x, x = P.getD a 0 := ⟨_, rfl⟩
  obtain ⟨pb, hpb⟩ : ∃ x, x = P.getD b 0 := ⟨_, rfl⟩
  obtain ⟨sa, hsa⟩ : ∃ x, x = S.getD a 0 := ⟨_, rfl⟩
  have y0 := kp'.get a (I pa) (by rw [hpa]; exact arrZ_getD _ _ _ (by rw [hl.1]; exact ha))
  have y1 := kp'.get b (I pb) (by rw [hpb]; exact arrZ_getD _ _ _ (by rw [hl.1]; exact hb))
  have y2 := kz'.get a (I (sa : Int)) (by rw [hsa]; exact arrN_getD _ _ _ (by rw [hl.2]; exact ha))
  have x0 := kq.get 0 (.slice (some ⟨p, 0, none⟩) N N) rfl
  have x1 := kq.get 1 (.slice (some ⟨z, 0, none⟩) N N) rfl
  have d0 : (0 : Int) ≤ (a : Int) := by omega
  have d1 : (a : Int) < (N : Int) := by omega
  have d2 : (0 : Int) ≤ (b : Int) := by omega
  have d3 : (b : Int) < (N : Int) := by omega
  have hA := hP a ha
  rw [← hpa] at hA
  have hSa := hS a ha
  rw [← hsa] at hSa
  obtain ⟨e1, e2⟩ := hA
  have e3 : IntKind.i64.wrap (pa + (sa : Int)) = pa + (sa : Int) := IntWalk.i64_in _ (by omega)
  have hO : overB P S a b = (decide (pa ≤ pb) && decide (pb < pa + (sa : Int))) := by
    unfold overB
    rw [← hpa, ← hpb, ← hsa]
    simp
  rw [hO]
  have HW := Lib.hid (And.intro hW (And.intro hq hbel))
  clear kp kz kp' kz' kq hbel hW hq hpa hpb hsa hO hP hS hSa ha hb hl
  by_cases h1 : pa ≤ pb
  · have g1 : decide (pa ≤ pb) = true := by simpa using h1
    by_cases h2 : pb < pa + (sa : Int)
    · have g2 : decide (pb < pa + (sa : Int)) = true := by simpa using h2
      rw [g1, g2]
      go_enter Try.func60, Try.ntmps60
      go_upto_region 1 with (fail)
      rw [← HW.out.2.1]
      change Code.wp _ _ _ _ (w.alloc (.cells #[.slice (some ⟨p, 0, none⟩) N N, .slice (some ⟨z, 0, none⟩) N N] 64))
      rw [← HW.out.1]
      go_quiet (fail)
      go_wp2_with fail
      go_ret
      exact ⟨rfl, HW.out.2.2.os, HW.out.2.2.tape, HW.out.2.2.output, HW.out.2.2.size, HW.out.2.2.block⟩
    · have g2 : decide (pb < pa + (sa : Int)) = false := by simpa using h2
      rw [g1, g2]
      go_enter Try.func60, Try.ntmps60
      go_upto_region 1 with (fail)
      rw [← HW.out.2.1]
      change Code.wp _ _ _ _ (w.alloc (.cells #[.slice (some ⟨p, 0, none⟩) N N, .slice (some ⟨z, 0, none⟩) N N] 64))
      rw [← HW.out.1]
      go_quiet (fail)
      go_wp2_with fail
      go_ret
      exact ⟨rfl, HW.out.2.2.os, HW.out.2.2.tape, HW.out.2.2.output, HW.out.2.2.size, HW.out.2.2.block⟩
  · have g1 : decide (pa ≤ pb) = false := by simpa using h1
    rw [g1]
    go_enter Try.func60, Try.ntmps60
    go_upto_region 1 with (fail)
    rw [← HW.out.2.1]
    change Code.wp _ _ _ _ (w.alloc (.cells #[.slice (some ⟨p, 0, none⟩) N N, .slice (some ⟨z, 0, none⟩) N N] 64))
    rw [← HW.out.1]
    go_quiet (fail)
    go_wp2_with fail
    go_ret
    exact ⟨rfl, HW.out.2.2.os, HW.out.2.2.tape, HW.out.2.2.output, HW.out.2.2.size, HW.out.2.2.block⟩
end Go.Proofs.Ytjlmkcamefaodaa

/-! A walk and the ways into nodes, as above reads them. -/

namespace Go.Proofs.Ytjlmkcamefaodaa
open Go Go.RowKit Fl

theorem abvR_of {base base' bw bf br bn bl g cap : Nat} {G : List (List Nat)} {s : Ws} {v1 : Value} {W : World} (h : WalkS base bw bf br bn G s (.slice (some ⟨g, 0, none⟩) s.ent.length cap) v1 W) (hi : IntoW base' bl G.length (fun t => Fl.rowSt G G.length 0 t) W) :
    AbvR W bw g s.ent.length cap bf br G.length bl G s :=
  ⟨h.wk.blk.get 0 _ rfl, h.wk.blk.get 2 _ rfl, h.wk.blk.get 3 _ rfl, fun i hi => nums_get h.en rfl i hi,
    fun a ha => h.wk.frm.get a _ (arrZ_getD _ _ _ (by rw [h.wk.fl]; exact ha)), fun a ha => h.wk.rch.get a _ (arrB_getD _ _ _ (by rw [h.wk.rl]; exact ha)),
    into_gr hi, h.wk.blk.lt, h.wk.frm.lt, h.wk.rch.lt, (h.en.lt g rfl).2, rfl, rfl⟩
end Go.Proofs.Ytjlmkcamefaodaa
