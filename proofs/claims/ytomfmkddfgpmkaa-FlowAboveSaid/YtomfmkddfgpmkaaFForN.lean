/-
  A forest, of any order: the walk of New.
-/
import Derived.Test.YtomfmkddfgpmkaaFLays
import Derived.Test.YtomfmkddfgpmkaaFOne5
namespace Go.Proofs.Ytomfmkddfgpmkaa
open Go Go.RowKit Fl

namespace Fl
/-- Sizes behind j nodes are small. -/
def bnd (j : Nat) : Nat := 2 ^ (j + 1)
theorem bnd_succ (j : Nat) : bnd (j + 1) = 2 * bnd j := by unfold bnd; rw [Nat.pow_succ]; omega
theorem bnd_two (j : Nat) : 2 ≤ bnd j := by
  induction j with
  | zero => decide
  | succ j ih => rw [bnd_succ]; omega
theorem bnd_mono {i j : Nat} (h : i ≤ j) : bnd i ≤ bnd j := Nat.pow_le_pow_right (by decide) (by omega)
theorem bnd_int {j : Nat} (h : j ≤ 24) : ((bnd j : Nat) : Int) ≤ 33554432 := by
  have h1 : ((bnd 24 : Nat) : Int) = 33554432 := by decide
  have h2 := bnd_mono h
  omega
theorem bnd_mul {mo : Nat} (h : mo ≤ 24) : (mo + 1) * (bnd 24 + 1) ≤ 1000000000000 :=
  Nat.le_trans (Nat.mul_le_mul_right _ (by omega : mo + 1 ≤ 25)) (by decide)
/-- One size more. -/
def sizeS (ab : Nat → Int) (sz : List Nat) (n : Nat) : List Nat := if 0 ≤ ab n then (sz.set n (sz.getD n 0 + 1)).set (ab n).toNat ((sz.set n (sz.getD n 0 + 1)).getD (ab n).toNat 0 + (sz.set n (sz.getD n 0 + 1)).getD n 0) else sz.set n (sz.getD n 0 + 1)
theorem sizeF_cons (ab : Nat → Int) (n : Nat) (r sz : List Nat) : sizeF ab (n :: r) sz = sizeF ab r (sizeS ab sz n) := rfl
def SzOk (j : Nat) (sz : List Nat) : Prop := ∀ x, sz.getD x 0 + 2 ≤ bnd j
theorem sz_start (n : Nat) : SzOk 0 (List.replicate n 0) := fun x => by
  rw [List.getD_eq_getElem?_getD, List.getElem?_replicate]
  have := bnd_two 0
  split <;> simp <;> omega
theorem sz_set {j : Nat} {sz : List Nat} (h : SzOk j sz) (n v : Nat) (hv : v + 2 ≤ bnd j) : SzOk j (sz.set n v) := by
  intro x
  have h2 := bnd_two j
  rw [List.getD_eq_getElem?_getD, List.getElem?_set]
  by_cases e : n = x
  · rw [if_pos e]
    split
    · simpa using hv
    · simpa using h2
  · rw [if_neg e, ← List.getD_eq_getElem?_getD]
    exact h x
theorem SzOk.mono {i j : Nat} {sz : List Nat} (h : SzOk i sz) (hij : i ≤ j) : SzOk j sz := fun x => Nat.le_trans (h x) (bnd_mono hij)
theorem getD_set_le (sz : List Nat) (n v x : Nat) : (sz.set n v).getD x 0 ≤ v ∨ (sz.set n v).getD x 0 = sz.getD x 0 := by
  rw [List.getD_eq_getElem?_getD, List.getElem?_set]
  by_cases e : n = x
  · rw [if_pos e]
    split
    · left; simp
    · left; simp
  · rw [if_neg e, ← List.getD_eq_getElem?_getD]
    exact Or.inr rfl
theorem sz_one {j : Nat} {sz : List Nat} (h : SzOk j sz) (n x : Nat) : (sz.set n (sz.getD n 0 + 1)).getD x 0 + 1 ≤ bnd j := by
  have h1 := h n
  have h2 := h x
  rcases getD_set_le sz n (sz.getD n 0 + 1) x with e | e <;> omega
theorem SzOk.step {j : Nat} {sz : List Nat} (h : SzOk j sz) (ab : Nat → Int) (n : Nat) : SzOk (j + 1) (sizeS ab sz n) := by
  have h1 : SzOk (j + 1) (sz.set n (sz.getD n 0 + 1)) := sz_set (h.mono (by omega)) _ _ (by have := h n; rw [bnd_succ]; have := bnd_two j; omega)
  unfold sizeS
  split
  · refine sz_set h1 _ _ ?_
    have a := sz_one h n (ab n).toNat
    have b := sz_one h n n
    rw [bnd_succ]
    omega
  · exact h1
theorem take_rev {o : List Nat} {k : Nat} (hk : k < o.length) : (o.take (k + 1)).reverse = o.getD k 0 :: (o.take k).reverse := by
  rw [List.take_add_one, List.getElem?_eq_getElem hk, getD_of o k 0 hk]
  simp
end Fl

/-- What New is handed. -/
structure NewW (w : World) (og ba N mo : Nat) (L : List Int) (o : List Nat) : Prop where
  ka : Blk ba (arrZ L) 3 w
  co : ∀ i, i < mo → w.cell? ⟨og, i, none⟩ = some (I ((o.getD i 0 : Nat) : Int))
  lo : og < w.heap.size
  om : o.length = mo
  lL : L.length = N
  lt : ∀ x ∈ o, x < N
  up : ∀ x ∈ o, 0 ≤ abF L x → (abF L x).toNat < N ∧ (abF L x).toNat ≠ x

/-- A forest being made. -/
structure ForG (w : World) (r f p z N : Nat) (pl : List Int) (sz : List Nat) (W : World) : Prop where
  kf : Blk f #[.slice (some ⟨p, 0, none⟩) N N, .slice (some ⟨z, 0, none⟩) N N] 58 W
  kr : Blk r #[.slice none 0 0, .slice none 0 0] 58 W
  kp : Blk p (arrZ pl) 3 W
  kz : Blk z (arrN sz) 3 W
  lo : w.heap.size ≤ r ∧ w.heap.size ≤ f ∧ w.heap.size ≤ p ∧ w.heap.size ≤ z
  n1 : p ≠ z ∧ f ≠ p ∧ f ≠ z
  n2 : r ≠ p ∧ r ≠ z ∧ r ≠ f
  bel : Below w.heap.size w W
  len : pl.length = N ∧ sz.length = N
section
variable {w W : World} {r f p z N : Nat} {pl : List Int} {sz : List Nat}
theorem ForG.setP (h : ForG w r f p z N pl sz W) (j : Nat) (x : Int) : ForG w r f p z N (pl.set j x) sz (W.setCell ⟨p, j, none⟩ (I x)) :=
  ⟨h.kf.setOther h.n1.2.1 _ _, h.kr.setOther h.n2.1 _ _, by have := h.kp.set j (I x); rw [arrZ_set] at this; exact this, h.kz.setOther (Ne.symm h.n1.1) _ _, h.lo, h.n1, h.n2, h.bel.setCell (p := ⟨p, j, none⟩) h.lo.2.2.1 _, by rw [List.length_set]; exact h.len⟩
theorem ForG.setZ (h : ForG w r f p z N pl sz W) (j x : Nat) : ForG w r f p z N pl (sz.set j x) (W.setCell ⟨z, j, none⟩ (I (x : Int))) :=
  ⟨h.kf.setOther h.n1.2.2 _ _, h.kr.setOther h.n2.2.1 _ _, h.kp.setOther h.n1.1 _ _, by have := h.kz.set j (I (x : Int)); rw [arrN_set] at this; exact this, h.lo, h.n1, h.n2, h.bel.setCell (p := ⟨z, j, none⟩) h.lo.2.2.2 _, by rw [List.length_set]; exact h.len⟩
theorem ForG.drew (h : ForG w r f p z N pl sz W) : ForG w r f p z N pl sz W.drew := ⟨h.kf, h.kr, h.kp, h.kz, h.lo, h.n1, h.n2, h.bel.drew, h.len⟩
end
def ForB (w : World) (N : Nat) (q : Value) (W : World) : Prop := ∃ f p z, q = .pointer (some ⟨f, 0, none⟩) ∧ ForG w w.heap.size f p z N (List.replicate N 0) (List.replicate N 0) W
theorem forB_four (w : World) (N : Nat) (o2 o3 o4 : Obj) (i j k : Nat) (f p z : Nat) (hf : f = w.heap.size + i) (hp : p = w.heap.size + j) (hz : z = w.heap.size + k) (h0 : 0 < i ∧ 0 < j ∧ 0 < k ∧ i ≠ j ∧ i ≠ k ∧ j ≠ k)
    (hi : [.cells #[.slice none 0 0, .slice none 0 0] 58, o2, o3, o4][i]? = some (.cells #[.slice (some ⟨p, 0, none⟩) N N, .slice (some ⟨z, 0, none⟩) N N] 58))
    (hj : [.cells #[.slice none 0 0, .slice none 0 0] 58, o2, o3, o4][j]? = some (.cells (arrZ (List.replicate N 0)) 3)) (hk : [.cells #[.slice none 0 0, .slice none 0 0] 58, o2, o3, o4][k]? = some (.cells (arrZ (List.replicate N 0)) 3)) :
    ForB w N (.pointer (some ⟨f, 0, none⟩)) (((((w.alloc (.cells #[.slice none 0 0, .slice none 0 0] 58)).alloc o2).alloc o3).alloc o4).drew) := by
  subst hf hp hz
  have e : arrN (List.replicate N 0) = arrZ (List.replicate N 0) := by simp
  exact ⟨_, _, _, rfl, ⟨four_get w _ o2 o3 o4 i _ hi, four_get w _ o2 o3 o4 0 _ rfl, four_get w _ o2 o3 o4 j _ hj, by rw [e]; exact four_get w _ o2 o3 o4 k _ hk, by omega, by omega, by omega, (((((Below.refl _ _).alloc (Nat.le_refl _) _).alloc (by simp) _).alloc (by simp; omega) _).alloc (by simp; omega) _).drew, by simp⟩⟩
def ForT (w : World) (N : Nat) (P : List Int) (S : List Nat) (W : World) (e : Ending) : Prop :=
  ∃ p z, e = .returned (forestN p z N) ∧ Blk p (arrZ P) 3 W ∧ Blk z (arrN S) 3 W ∧ w.heap.size ≤ p ∧ w.heap.size ≤ z ∧ p ≠ z ∧ Below w.heap.size w W
def NRel1 (w : World) (r f p z N : Nat) (iv : Value) (W : World) : Prop := ∃ j : Nat, j ≤ N ∧ iv = I (j : Int) ∧ ForG w r f p z N (minusL N j) (List.replicate N 0) W
def NRel2 (w : World) (r f p z N mo : Nat) (L : List Int) (o : List Nat) (Z : List Nat) (iv : Value) (W : World) : Prop :=
  ∃ (k : Nat) (sz : List Nat), k ≤ mo ∧ iv = I ((k : Int) - 1) ∧ ForG w r f p z N (List.replicate N (-1)) sz W ∧ SzOk (mo - k) sz ∧ sizeF (abF L) (o.take k).reverse sz = Z

set_option maxRecDepth 100000 in
set_option maxHeartbeats 8000000 in
theorem New_any (og ba N mo ocap : Nat) (L : List Int) (o : List Nat) (hN : N ≤ 60000) (hmo : mo ≤ 24) (w : World) (h : NewW w og ba N mo L o) :
    Calls Try.prog 35 #[.slice (some ⟨og, 0, none⟩) mo ocap, .slice (some ⟨ba, 0, none⟩) N N] w fun e w' => ForT w N (forP (abF L) N o) (forS (abF L) N o) w' e := by
  have hmk := mkIn N (by omega)
  have HF := Lib.hid (forB_four w N)
  have H := Lib.hid (And.intro h (And.intro hN hmo))
  clear h hN hmo
  go_enter Try.func35, Try.ntmps35
  go_upto_region 1 with (fail)
  go_cut [5] from 9 to 15 (fun q W => ForB w N q W)
  case first =>
    go_region
    all_goals (go_wp2_with fail; go_meet; case rel => first | exact HF.out _ _ _ 1 2 3 _ _ _ rfl rfl rfl (by decide) rfl rfl rfl | exact HF.out _ _ _ 1 3 2 _ _ _ rfl rfl rfl (by decide) rfl rfl rfl | exact HF.out _ _ _ 2 1 3 _ _ _ rfl rfl rfl (by decide) rfl rfl rfl | exact HF.out _ _ _ 2 3 1 _ _ _ rfl rfl rfl (by decide) rfl rfl rfl | exact HF.out _ _ _ 3 1 2 _ _ _ rfl rfl rfl (by decide) rfl rfl rfl | exact HF.out _ _ _ 3 2 1 _ _ _ rfl rfl rfl (by decide) rfl rfl rfl)
  case rest =>
    obtain ⟨f, p, z, rfl, hG⟩ := hcut
    obtain ⟨W, rfl⟩ : ∃ W, W = wc := ⟨_, rfl⟩
    obtain ⟨r, hr⟩ : ∃ r, r = w.heap.size := ⟨_, rfl⟩
    rw [← hr] at hG
    have x0 := hG.kf.get 0 (.slice (some ⟨p, 0, none⟩) N N) rfl
    have HS := Lib.hid (show NRel1 w r f p z N (I 0) W from ⟨0, Nat.zero_le _, rfl, by rw [minusL_zero]; exact hG⟩)
    have HR := Lib.hid hr
    clear hG hr hmk HF
    go_wp2_with fail
    go_loopw [19] (fun iv wr => NRel1 w r f p z N iv wr) (fun iv _ => (N - intOf iv).toNat)
    case atStart => exact HS.out
    case round =>
      clear HS x0
      obtain ⟨j, hj, rfl, hG⟩ := hrel
      obtain ⟨wo, rfl⟩ : ∃ wo : World, wo = wr := ⟨_, rfl⟩
      by_cases hlt : j < N
      · have d0 : decide (j < N) = true := by simpa using hlt
        have d1 : (0 : Int) ≤ (j : Int) := by omega
        have d2 : (j : Int) < (N : Int) := by omega
        have d3 : (j : Int) + 1 ≤ 60000 := by have := H.out.2.1; omega
        have x0 := hG.kf.get 0 (.slice (some ⟨p, 0, none⟩) N N) rfl
        have y := hG.kp.get j (I ((minusL N j).getD j 0)) (arrZ_getD _ _ _ (by rw [hG.len.1]; exact hlt))
        have g := hG.kp.free j
        have FIN := Lib.hid (show NRel1 w r f p z N (I ((j : Int) + 1)) (wo.setCell ⟨p, j, none⟩ (I (-1))) from ⟨j + 1, hlt, rfl, by rw [← minusL_set hlt]; exact hG.setP j (-1)⟩)
        clear hG hlt hj
        go_wp2_with fail
        exact ⟨FIN.out, by simp [intOf]; omega⟩
      · have d0 : decide (j < N) = false := by simpa using hlt
        obtain rfl : j = N := by omega
        rw [minusL_all] at hG
        obtain ⟨Z, hZ⟩ : ∃ Z, Z = forS (abF L) j o := ⟨_, rfl⟩
        have i2 : (0 : Int) ≤ (mo : Int) := by omega
        have i3 : (mo : Int) ≤ 60000 := by have := H.out.2.2; omega
        have HS := Lib.hid (show NRel2 w r f p z j mo L o Z (I ((mo : Int) - 1)) wo from ⟨mo, _, Nat.le_refl _, rfl, hG, by rw [Nat.sub_self]; exact sz_start j, by rw [hZ, ← H.out.1.om, List.take_length]; rfl⟩)
        have HZ := Lib.hid hZ
        clear hG hlt hj hZ
        as_aux_lemma =>
        go_wp2_with fail
        go_loopw [7] (fun iv wr => NRel2 w r f p z j mo L o Z iv wr) (fun iv _ => (intOf iv + 1).toNat)
        case atStart => exact HS.out
        case round =>
          clear HS i2 i3
          obtain ⟨k, sz, hk, rfl, hG, hS, hZ⟩ := hrel
          obtain ⟨w2, rfl⟩ : ∃ w2 : World, w2 = wr := ⟨_, rfl⟩
          by_cases hk0 : 0 < k
          · obtain ⟨q, rfl⟩ : ∃ q, k = q + 1 := ⟨k - 1, by omega⟩
            have hkI : ((q + 1 : Nat) : Int) - 1 = (q : Int) := by omega
            have hqo : q < o.length := by rw [H.out.1.om]; omega
            obtain ⟨x, hx⟩ : ∃ x, x = o.getD q 0 := ⟨_, rfl⟩
            have hxm : x ∈ o := by rw [hx]; exact getD_mem hqo
            have hxN : x < j := H.out.1.lt x hxm
            have hxL : x < L.length := by rw [H.out.1.lL]; exact hxN
            have hlo := H.out.1.lo
            have hla := H.out.1.ka.lt
            have y0 := cell_below hG.bel hlo (H.out.1.co q (by omega))
            rw [← hx] at y0
            obtain ⟨ax, hax⟩ : ∃ ax, ax = abF L x := ⟨_, rfl⟩
            have y1 : w2.cell? ⟨ba, x, none⟩ = some (I ax) := cell_below hG.bel hla (by rw [hax, abF_eq hxL]; exact H.out.1.ka.get x _ (arrZ_getD _ _ _ hxL))
            obtain ⟨u, hu⟩ : ∃ u, u = sz.getD x 0 := ⟨_, rfl⟩
            have y2 := hG.kz.get x (I (u : Int)) (by rw [hu]; exact arrN_getD _ _ _ (by rw [hG.len.2]; exact hxN))
            have g2 := hG.kz.free x
            have x1 := hG.kf.get 1 (.slice (some ⟨z, 0, none⟩) j j) rfl
            have hb := bnd_int (j := mo - (q + 1)) (by have := H.out.2.2; omega)
            have hub := hS x
            rw [← hu] at hub
            have d1 : (0 : Int) ≤ (q : Int) := by omega
            have d2 : (q : Int) < (mo : Int) := by omega
            have d3 : (q : Int) ≤ 60000 := by have := H.out.2.2; omega
            have d4 : (0 : Int) ≤ (x : Int) := by omega
            have d5 : (x : Int) < (j : Int) := by omega
            have d6 : (u : Int) + 1 ≤ 33554432 := by omega
            have n1 := hG.n1.2.2
            have n2 := Ne.symm n1
            have n3 : z ≠ og := by have := hG.lo.2.2.2; omega
            have n4 : z ≠ ba := by have := hG.lo.2.2.2; omega
            have hup := H.out.1.up x hxm
            rw [← hax] at hup
            rw [take_rev hqo, ← hx, sizeF_cons] at hZ
            have hmq : mo - q = mo - (q + 1) + 1 := by omega
            have hst := hS.step (abF L) x
            rw [← hmq] at hst
            rw [hkI]
            by_cases hpos : 0 ≤ ax
            · have d7 : decide (0 ≤ ax) = true := by simpa using hpos
              obtain ⟨a, ha⟩ : ∃ a : Nat, ax = (a : Int) := ⟨ax.toNat, by omega⟩
              subst ha
              obtain ⟨ha1, ha2⟩ := hup hpos
              rw [Int.toNat_natCast] at ha1 ha2
              obtain ⟨v, hv⟩ : ∃ v, v = sz.getD a 0 := ⟨_, rfl⟩
              have y3 := hG.kz.get a (I (v : Int)) (by rw [hv]; exact arrN_getD _ _ _ (by rw [hG.len.2]; exact ha1))
              have g3 := hG.kz.free a
              have hvb := hS a
              rw [← hv] at hvb
              have d8 : (0 : Int) ≤ (a : Int) := by omega
              have d9 : (a : Int) < (j : Int) := by omega
              have e1 : (v : Int) + ((u : Int) + 1) ≤ 67108864 := by omega
              have n9 : a ≠ x := ha2
              have n10 : x ≠ a := Ne.symm ha2
              have hss : sizeS (abF L) sz x = (sz.set x (u + 1)).set a (v + (u + 1)) := by
                unfold sizeS
                rw [← hax, if_pos hpos, Int.toNat_natCast, ← hu]
                rw [show (sz.set x (u + 1)).getD a 0 = v by rw [Fl.getD_set' _ _ _ _ (by rw [hG.len.2]; exact hxN), if_neg ha2, ← hv]]
                rw [show (sz.set x (u + 1)).getD x 0 = u + 1 by rw [Fl.getD_set' _ _ _ _ (by rw [hG.len.2]; exact hxN), if_pos rfl]]
              have FIN := Lib.hid (show NRel2 w r f p z j mo L o Z (I ((q : Int) - 1)) ((w2.setCell ⟨z, x, none⟩ (I ((u : Int) + 1))).setCell ⟨z, a, none⟩ (I ((v : Int) + ((u : Int) + 1)))).drew from
                ⟨q, (sz.set x (u + 1)).set a (v + (u + 1)), by omega, rfl, ((hG.setZ x (u + 1)).setZ a (v + (u + 1))).drew, by rw [← hss]; exact hst, by rw [← hss]; exact hZ⟩)
              clear hk hk0 hkI hqo hx hxm hxN hxL hlo hla hax hu hb hub hup hZ hmq hst hpos ha1 ha2 hv hvb hss hG hS
              as_aux_lemma =>
              go_upto_region 13 with (fail)
              go_region
              go_wp2_with fail
              exact ⟨FIN.out, by simp [intOf] <;> omega⟩
            · have d7 : decide (0 ≤ ax) = false := by simpa using hpos
              have hss : sizeS (abF L) sz x = sz.set x (u + 1) := by
                unfold sizeS
                rw [← hax, if_neg hpos, ← hu]
              have FIN := Lib.hid (show NRel2 w r f p z j mo L o Z (I ((q : Int) - 1)) (w2.setCell ⟨z, x, none⟩ (I ((u : Int) + 1))) from
                ⟨q, sz.set x (u + 1), by omega, rfl, hG.setZ x (u + 1), by rw [← hss]; exact hst, by rw [← hss]; exact hZ⟩)
              clear hk hk0 hkI hqo hx hxm hxN hxL hlo hla hax hu hb hub hup hZ hmq hst hpos hss hG hS
              as_aux_lemma =>
              go_wp2_with fail
              exact ⟨FIN.out, by simp [intOf] <;> omega⟩
          · obtain rfl : k = 0 := by omega
            have hZ0 : sz = Z := by rw [← hZ]; rfl
            have hkI : ((0 : Nat) : Int) - 1 = -1 := rfl
            have hszM : ∀ x, sz.getD x 0 ≤ bnd 24 := fun x => by have := hS x; have := bnd_mono (i := mo - 0) (j := 24) (by have := H.out.2.2; omega); omega
            have hLW : LayW (bnd 24) w2 p z og ba j mo L o sz :=
              ⟨hG.kp, hG.kz, H.out.1.ka.below hG.bel H.out.1.ka.lt, fun i hi => cell_below hG.bel H.out.1.lo (H.out.1.co i hi), Nat.lt_of_lt_of_le H.out.1.lo hG.bel.size, ⟨Ne.symm hG.n1.1, by have := hG.lo.2.2.1; have := H.out.1.ka.lt; omega, by have := hG.lo.2.2.1; have := H.out.1.lo; omega⟩, H.out.1.om, H.out.1.lL, hG.len.2, H.out.1.lt, H.out.1.up, hszM⟩
            have HL := Lib.hid (lay_any (bnd 24) p z og ba j mo ocap L o sz H.out.2.1 (by have := H.out.2.2; omega) (bnd_mul H.out.2.2) w2 hLW)
            have c0 := hG.kf.get 0 (.slice (some ⟨p, 0, none⟩) j j) rfl
            have c1 := hG.kf.get 1 (.slice (some ⟨z, 0, none⟩) j j) rfl
            have HG := Lib.hid (And.intro hG (And.intro hZ0 (HZ.out)))
            clear hk hk0 hG hS hZ hZ0 hszM hLW
            rw [hkI]
            clear hkI
            as_aux_lemma =>
            go_upto_region 14 with (fail)
            go_wp2_with fail
            refine HL.out.mono ?_
            rintro e w3 ⟨rfl, hp3, hg3⟩
            have hG := HG.out.1
            have k1 : Blk f #[.slice (some ⟨p, 0, none⟩) j j, .slice (some ⟨z, 0, none⟩) j j] 58 w3 := hG.kf.other hg3 (by simp [hG.n1.2.1])
            have k2 : Blk r #[.slice none 0 0, .slice none 0 0] 58 w3 := hG.kr.other hg3 (by simp [hG.n2.1])
            have k3 : Blk z (arrN sz) 3 w3 := hG.kz.other hg3 (by simp [Ne.symm hG.n1.1])
            have k5 : Below w.heap.size w w3 := hG.bel.trans ⟨hg3.os, hg3.tape, hg3.output, hg3.size, fun k hk => hg3.block k (by have := hG.bel.size; omega) (by have := hG.lo.2.2.1; simp; omega)⟩
            have c0 := k1.get 0 (.slice (some ⟨p, 0, none⟩) j j) rfl
            have c1 := k1.get 1 (.slice (some ⟨z, 0, none⟩) j j) rfl
            have d0 := k2.get 0 (.slice none 0 0) rfl
            have d1 := k2.get 1 (.slice none 0 0) rfl
            have f0 := k2.free 0
            have f1 := k2.free 1
            obtain ⟨W3, hW3⟩ : ∃ W3, W3 = (w3.setCell ⟨r, 0, none⟩ (.slice (some ⟨p, 0, none⟩) j j)).setCell ⟨r, 1, none⟩ (.slice (some ⟨z, 0, none⟩) j j) := ⟨_, rfl⟩
            have k6 : Blk r #[.slice (some ⟨p, 0, none⟩) j j, .slice (some ⟨z, 0, none⟩) j j] 58 W3 := by rw [hW3]; exact (k2.set 0 _).set 1 _
            have FIN := Lib.hid (show ForT w j (forP (abF L) j o) (forS (abF L) j o) W3 (.returned (forestN p z j)) from
              ⟨p, z, rfl, by
                rw [hW3]
                have e1 : forP (abF L) j o = layF (abF L) sz o (List.replicate j (-1)) (List.replicate j 0) 0 := by
                  unfold forP
                  rw [show sizeF (abF L) o.reverse (List.replicate j 0) = sz from by rw [HG.out.2.1, HG.out.2.2]; rfl]
                rw [e1]
                exact (hp3.setOther (Ne.symm hG.n2.1) _ _).setOther (Ne.symm hG.n2.1) _ _, by
                rw [hW3, ← HG.out.2.2, ← HG.out.2.1]
                exact (k3.setOther (Ne.symm hG.n2.2.1) _ _).setOther (Ne.symm hG.n2.2.1) _ _, hG.lo.2.2.1, hG.lo.2.2.2, hG.n1.1, by
                rw [hW3]
                exact (k5.setCell (p := ⟨r, 0, none⟩) hG.lo.1 _).setCell (p := ⟨r, 1, none⟩) hG.lo.1 _⟩)
            have HW3 := Lib.hid hW3
            have HRR := Lib.hid (And.intro (k6.get 0 (.slice (some ⟨p, 0, none⟩) j j) rfl) (k6.get 1 (.slice (some ⟨z, 0, none⟩) j j) rfl))
            clear hG hp3 hg3 k1 k2 k3 k5 k6 hW3
            rw [← HR.out]
            go_wp2_with fail
            rw [← HW3.out]
            have g0 := HRR.out.1
            have g1 := HRR.out.2
            exact bodyPost_ret (v := forestN p z j) (by simp [results, Try.results35, go_sem, g0, g1]) rfl FIN.out
end Go.Proofs.Ytomfmkddfgpmkaa
