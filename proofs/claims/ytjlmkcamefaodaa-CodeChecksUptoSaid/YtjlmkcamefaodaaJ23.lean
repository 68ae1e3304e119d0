/-
  Joined: FLays, FOne5.
-/
import Derived.Test.YtjlmkcamefaodaaJ21
import Derived.Test.YtjlmkcamefaodaaJ22
import Derived.Test.YtjlmkcamefaodaaJ10
/-! FLays: Joined: FLay, FLay2. -/

namespace Go.Proofs.Ytjlmkcamefaodaa
open Go Go.RowKit Fl

/-- A forest of n nodes. -/
abbrev forestN (p z n : Nat) : Value := .agg #[.slice (some ⟨p, 0, none⟩) n n, .slice (some ⟨z, 0, none⟩) n n]

namespace Fl
/-- Room behind k nodes is small. -/
structure RoomOk (M k : Nat) (fr : List Nat) (roots : Nat) : Prop where
  f : ∀ x, fr.getD x 0 ≤ k * (M + 1)
  r : roots ≤ k * (M + 1)
theorem room_start (M n : Nat) : RoomOk M 0 (List.replicate n 0) 0 := ⟨fun x => by
  rw [List.getD_eq_getElem?_getD, List.getElem?_replicate]
  split <;> simp, by omega⟩
theorem room_set {k : Nat} {fr : List Nat} (h : ∀ x, fr.getD x 0 ≤ k) (n v : Nat) (hv : v ≤ k) : ∀ x, (fr.set n v).getD x 0 ≤ k := by
  intro x
  rw [List.getD_eq_getElem?_getD, List.getElem?_set]
  by_cases e : n = x
  · rw [if_pos e]
    split
    · simpa using hv
    · simp
  · rw [if_neg e, ← List.getD_eq_getElem?_getD]
    exact h x
theorem room_more (M k : Nat) : (k + 1) * (M + 1) = k * (M + 1) + M + 1 := by rw [Nat.add_mul]; omega
theorem RoomOk.below {M k : Nat} {fr : List Nat} {roots n a s : Nat} (h : RoomOk M k fr roots) (hs : s ≤ M) : RoomOk M (k + 1) ((fr.set n (fr.getD a 0 + 1)).set a (fr.getD a 0 + s)) roots :=
  ⟨by rw [room_more]; exact room_set (room_set (fun x => by have := h.f x; omega) n _ (by have := h.f a; omega)) a _ (by have := h.f a; omega), by rw [room_more]; have := h.r; omega⟩
theorem RoomOk.root {M k : Nat} {fr : List Nat} {roots n s : Nat} (h : RoomOk M k fr roots) (hs : s ≤ M) : RoomOk M (k + 1) (fr.set n (roots + 1)) (roots + s) :=
  ⟨by rw [room_more]; exact room_set (fun x => by have := h.f x; omega) n _ (by have := h.r; omega), by rw [room_more]; have := h.r; omega⟩
end Fl

/-- What lay has in memory. -/
structure LayG (w : World) (fb rb ff p z N : Nat) (pl : List Int) (fr : List Nat) (roots : Nat) (W : World) : Prop where
  kp : Blk p (arrZ pl) 3 W
  kf : Blk ff (arrN fr) 3 W
  kr : Blk rb #[I (roots : Int)] 3 W
  kb : Blk fb #[.slice (some ⟨p, 0, none⟩) N N, .slice (some ⟨z, 0, none⟩) N N] 64 W
  gr : w.grownBy W (some p)
  lf : w.heap.size ≤ ff ∧ w.heap.size ≤ rb ∧ w.heap.size ≤ fb
  nf : ff ≠ rb ∧ ff ≠ fb ∧ rb ≠ fb
  pl' : p < w.heap.size
  len : pl.length = N ∧ fr.length = N
section
variable {w W : World} {fb rb ff p z N : Nat} {pl : List Int} {fr : List Nat} {roots : Nat}
theorem grown_setP {w W : World} {p : Nat} (h : w.grownBy W (some p)) (b j : Nat) (hb : b = p ∨ w.heap.size ≤ b) (u : Value) : w.grownBy (W.setCell ⟨b, j, none⟩ u) (some p) :=
  ⟨h.os, h.tape, h.output, by have := h.size; simpa using this, fun k hk hne => by
    refine (Below.heap_setCell _ _ _ _ ?_).trans (h.block k hk hne)
    show k ≠ b
    rcases hb with e | e
    · rw [e]; exact fun q => hne (by rw [q])
    · omega⟩
theorem LayG.setP (h : LayG w fb rb ff p z N pl fr roots W) (j : Nat) (x : Int) : LayG w fb rb ff p z N (pl.set j x) fr roots (W.setCell ⟨p, j, none⟩ (I x)) := by
  have h1 := h.pl'
  obtain ⟨l1, l2, l3⟩ := h.lf
  exact ⟨by have := h.kp.set j (I x); rw [arrZ_set] at this; exact this, h.kf.setOther (by omega) _ _, h.kr.setOther (by omega) _ _, h.kb.setOther (by omega) _ _, grown_setP h.gr _ _ (Or.inl rfl) _, h.lf, h.nf, h.pl', by rw [List.length_set]; exact h.len⟩
theorem LayG.setF (h : LayG w fb rb ff p z N pl fr roots W) (j x : Nat) : LayG w fb rb ff p z N pl (fr.set j x) roots (W.setCell ⟨ff, j, none⟩ (I (x : Int))) := by
  have h1 := h.pl'
  obtain ⟨l1, l2, l3⟩ := h.lf
  exact ⟨h.kp.setOther (by omega) _ _, by have := h.kf.set j (I (x : Int)); rw [arrN_set] at this; exact this, h.kr.setOther (Ne.symm h.nf.1) _ _, h.kb.setOther (Ne.symm h.nf.2.1) _ _, grown_setP h.gr _ _ (Or.inr l1) _, h.lf, h.nf, h.pl', by rw [List.length_set]; exact h.len⟩
theorem LayG.setR (h : LayG w fb rb ff p z N pl fr roots W) (x : Nat) : LayG w fb rb ff p z N pl fr x (W.setCell ⟨rb, 0, none⟩ (I (x : Int))) := by
  have h1 := h.pl'
  obtain ⟨l1, l2, l3⟩ := h.lf
  exact ⟨h.kp.setOther (by omega) _ _, h.kf.setOther h.nf.1 _ _, by have := h.kr.set 0 (I (x : Int)); exact this, h.kb.setOther (Ne.symm h.nf.2.2) _ _, grown_setP h.gr _ _ (Or.inr l2) _, h.lf, h.nf, h.pl', h.len⟩
theorem LayG.heap (h : LayG w fb rb ff p z N pl fr roots W) {W' : World} (e : W'.heap = W.heap) (e2 : W'.os = W.os ∧ W'.tape = W.tape ∧ W'.output = W.output) : LayG w fb rb ff p z N pl fr roots W' := by
  have e' : ∀ k : Nat, W'.heap[k]? = W.heap[k]? := fun k => by rw [e]
  exact ⟨(e' _).trans h.kp, (e' _).trans h.kf, (e' _).trans h.kr, (e' _).trans h.kb, ⟨e2.1.trans h.gr.os, e2.2.1.trans h.gr.tape, e2.2.2.trans h.gr.output, by rw [e]; exact h.gr.size, fun k hk hn => (e' k).trans (h.gr.block k hk hn)⟩, h.lf, h.nf, h.pl', h.len⟩
theorem LayG.drew (h : LayG w fb rb ff p z N pl fr roots W) : LayG w fb rb ff p z N pl fr roots W.drew := h.heap rfl ⟨rfl, rfl, rfl⟩
end

/-- What lay is handed: an order, and who stands above whom. -/
structure LayW (M : Nat) (w : World) (p z og ba N mo : Nat) (L : List Int) (o S : List Nat) : Prop where
  kp : Blk p (arrZ (List.replicate N (-1))) 3 w
  kz : Blk z (arrN S) 3 w
  ka : Blk ba (arrZ L) 3 w
  co : ∀ i, i < mo → w.cell? ⟨og, i, none⟩ = some (I ((o.getD i 0 : Nat) : Int))
  lo : og < w.heap.size
  np : z ≠ p ∧ ba ≠ p ∧ og ≠ p
  om : o.length = mo
  lL : L.length = N
  lS : S.length = N
  lt : ∀ x ∈ o, x < N
  up : ∀ x ∈ o, 0 ≤ abF L x → (abF L x).toNat < N ∧ (abF L x).toNat ≠ x
  sz : ∀ x, S.getD x 0 ≤ M

def LRel (M : Nat) (w : World) (fb rb ff p z N mo : Nat) (L : List Int) (o S : List Nat) (Z : List Int) (iv : Value) (W : World) : Prop :=
  ∃ (k : Nat) (pl : List Int) (fr : List Nat) (roots : Nat), k ≤ mo ∧ iv = I (k : Int) ∧ LayG w fb rb ff p z N pl fr roots W ∧ RoomOk M k fr roots ∧ layF (abF L) S (o.drop k) pl fr roots = Z
def LayT (w : World) (p : Nat) (Z : List Int) (W : World) (e : Ending) : Prop := e = .returned (.tuple #[]) ∧ Blk p (arrZ Z) 3 W ∧ w.grownBy W (some p)

theorem layG_start (w : World) (p z N : Nat) (v : Value) (hp : Blk p (arrZ (List.replicate N (-1))) 3 w) :
    LayG w w.heap.size (w.heap.size + 1 + 1) (w.heap.size + 1) p z N (List.replicate N (-1)) (List.replicate N 0) 0
      ((((w.alloc (.cells #[.slice (some ⟨p, 0, none⟩) N N, .slice (some ⟨z, 0, none⟩) N N] 64)).alloc (.cells (arrZ (List.replicate N 0)) 3)).alloc (.cells #[I 0] 3))) := by
  have hl := hp.lt
  refine ⟨((hp.alloc _).alloc _).alloc _, ?_, Blk.new' _ _ _ (by simp), ((Blk.new _ _ _).alloc _).alloc _, ?_, ⟨by omega, by omega, by omega⟩, ⟨by omega, by omega, by omega⟩, hl, by simp⟩
  · have e : arrN (List.replicate N 0) = arrZ (List.replicate N 0) := by simp
    rw [e]
    exact (Blk.new' _ _ _ (by simp)).alloc _
  · have hb := (((Below.refl w.heap.size w).alloc (Nat.le_refl _) (.cells #[.slice (some ⟨p, 0, none⟩) N N, .slice (some ⟨z, 0, none⟩) N N] 64)).alloc (by simp) (.cells (arrZ (List.replicate N 0)) 3)).alloc (by simp; omega) (.cells #[I 0] 3)
    exact ⟨hb.os, hb.tape, hb.output, hb.size, fun k hk _ => hb.block k hk⟩
end Go.Proofs.Ytjlmkcamefaodaa

/-! A forest's places: the walk of lay. -/

namespace Go.Proofs.Ytjlmkcamefaodaa
open Go Go.RowKit Fl

set_option maxRecDepth 100000 in
set_option maxHeartbeats 8000000 in
theorem lay_any (M p z og ba N mo ocap : Nat) (L : List Int) (o S : List Nat) (hN : N ≤ 60000) (hmo : mo ≤ 60000) (hM : (mo + 1) * (M + 1) ≤ 1000000000000) (w : World) (h : LayW M w p z og ba N mo L o S) :
    Calls Try.prog 57 #[forestN p z N, .slice (some ⟨og, 0, none⟩) mo ocap, .slice (some ⟨ba, 0, none⟩) N N] w fun e w' => LayT w p (layF (abF L) S o (List.replicate N (-1)) (List.replicate N 0) 0) w' e := by
  have hmk := mkIn N (by omega)
  obtain ⟨B, hB⟩ : ∃ B : Int, B = 1000000000000 := ⟨_, rfl⟩
  have hMB : ∀ k, k ≤ mo → ((k * (M + 1) : Nat) : Int) + (M : Int) + 1 ≤ B := by
    intro k hk
    have h1 : (k + 1) * (M + 1) ≤ (mo + 1) * (M + 1) := Nat.mul_le_mul_right _ (by omega)
    have h2 := room_more M k
    rw [hB]; omega
  obtain ⟨Z, hZ⟩ : ∃ Z, Z = layF (abF L) S o (List.replicate N (-1)) (List.replicate N 0) 0 := ⟨_, rfl⟩
  rw [← hZ]
  obtain ⟨fb, hfb⟩ : ∃ b, b = w.heap.size := ⟨_, rfl⟩
  obtain ⟨rb, hrb⟩ : ∃ b, b = w.heap.size + 1 + 1 := ⟨_, rfl⟩
  obtain ⟨ff, hff⟩ : ∃ b, b = w.heap.size + 1 := ⟨_, rfl⟩
  obtain ⟨W, hW⟩ : ∃ W, W = ((w.alloc (.cells #[.slice (some ⟨p, 0, none⟩) N N, .slice (some ⟨z, 0, none⟩) N N] 64)).alloc (.cells (arrZ (List.replicate N 0)) 3)).alloc (.cells #[I 0] 3) := ⟨_, rfl⟩
  have hG : LayG w fb rb ff p z N (List.replicate N (-1)) (List.replicate N 0) 0 W := by rw [hfb, hrb, hff, hW]; exact layG_start w p z N (.slice none 0 0) h.kp
  have HS := Lib.hid (show LRel M w fb rb ff p z N mo L o S Z (I 0) W from ⟨0, _, _, _, Nat.zero_le _, rfl, hG, room_start M N, hZ.symm⟩)
  have H := Lib.hid (And.intro h (And.intro hN (And.intro hmo hMB)))
  have HW := Lib.hid (And.intro hW (And.intro hfb (And.intro hrb hff)))
  have HB := Lib.hid hB
  clear h hN hmo hM hMB hZ hfb hrb hff hW hG hB
  go_enter Try.func57, Try.ntmps57
  go_upto_region 3 with (fail)
  rw [← HW.out.2.2.1, ← HW.out.2.2.2, ← HW.out.2.1]
  change Code.wp _ _ _ _ (((w.alloc (.cells #[.slice (some ⟨p, 0, none⟩) N N, .slice (some ⟨z, 0, none⟩) N N] 64)).alloc (.cells (arrZ (List.replicate N 0)) 3)).alloc (.cells #[I 0] 3))
  rw [← HW.out.1]
  go_wp2_with fail
  go_loopw [16] (fun iv wr => LRel M w fb rb ff p z N mo L o S Z iv wr) (fun iv _ => (mo - intOf iv).toNat)
  case atStart => exact HS.out
  case round =>
    clear HS hmk
    obtain ⟨k, pl, fr, roots, hk, rfl, hG, hR, hZ⟩ := hrel
    obtain ⟨wo, rfl⟩ : ∃ wo : World, wo = wr := ⟨_, rfl⟩
    by_cases hlt : k < mo
    · have d0 : decide (k < mo) = true := by simpa using hlt
      have d1 : (0 : Int) ≤ (k : Int) := by omega
      have d2 : (k : Int) < (mo : Int) := by omega
      have d3 : (k : Int) + 1 ≤ 60000 := by have := H.out.2.2.1; omega
      obtain ⟨x, hx⟩ : ∃ x, x = o.getD k 0 := ⟨_, rfl⟩
      have hko : k < o.length := by rw [H.out.1.om]; exact hlt
      have hxm : x ∈ o := by rw [hx]; exact getD_mem hko
      have hxN : x < N := H.out.1.lt x hxm
      have hdrop : o.drop k = x :: o.drop (k + 1) := by rw [List.drop_eq_getElem_cons hko, hx, getD_of o k 0 hko]
      rw [hdrop] at hZ
      have hlo := H.out.1.lo
      have hla := H.out.1.ka.lt
      have hlz := H.out.1.kz.lt
      have old : ∀ b : Nat, b < w.heap.size → b ≠ p → ∀ j v, w.cell? ⟨b, j, none⟩ = some v → wo.cell? ⟨b, j, none⟩ = some v := fun b hb hne j v hc => by
        have := hG.gr.block b hb (by simp [hne])
        unfold World.cell? at hc ⊢
        rw [this]; exact hc
      have y0 := old og hlo H.out.1.np.2.2 k _ (H.out.1.co k hlt)
      rw [← hx] at y0
      have hxL : x < L.length := by rw [H.out.1.lL]; exact hxN
      obtain ⟨ax, hax⟩ : ∃ ax, ax = abF L x := ⟨_, rfl⟩
      have y1 := old ba hla H.out.1.np.2.1 x (I ax) (by rw [hax, abF_eq hxL]; exact H.out.1.ka.get x _ (arrZ_getD _ _ _ hxL))
      obtain ⟨sx, hsx⟩ : ∃ sx, sx = S.getD x 0 := ⟨_, rfl⟩
      have y2 := old z hlz H.out.1.np.1 x (I (sx : Int)) (by rw [hsx]; exact H.out.1.kz.get x _ (arrN_getD _ _ _ (by rw [H.out.1.lS]; exact hxN)))
      have hsM : sx ≤ M := by rw [hsx]; exact H.out.1.sz x
      have d4 : (0 : Int) ≤ (x : Int) := by omega
      have d5 : (x : Int) < (N : Int) := by omega
      have x0 := hG.kb.get 0 (.slice (some ⟨p, 0, none⟩) N N) rfl
      have x1 := hG.kb.get 1 (.slice (some ⟨z, 0, none⟩) N N) rfl
      have hb := H.out.2.2.2 k hk
      obtain ⟨K, hK⟩ : ∃ K, K = k * (M + 1) := ⟨_, rfl⟩
      rw [← hK] at hb
      have hup := H.out.1.up x hxm
      rw [← hax] at hup
      by_cases hpos : 0 ≤ ax
      · have d6 : decide (0 ≤ ax) = true := by simpa using hpos
        obtain ⟨a, ha⟩ : ∃ a : Nat, ax = (a : Int) := ⟨ax.toNat, by omega⟩
        subst ha
        obtain ⟨ha1, ha2⟩ := hup hpos
        rw [Int.toNat_natCast] at ha1 ha2
        have d7 : (0 : Int) ≤ (a : Int) := by omega
        have d8 : (a : Int) < (N : Int) := by omega
        obtain ⟨fa, hfa⟩ : ∃ fa, fa = fr.getD a 0 := ⟨_, rfl⟩
        have y3 := hG.kf.get a (I (fa : Int)) (by rw [hfa]; exact arrN_getD _ _ _ (by rw [hG.len.2]; exact ha1))
        have g3 := hG.kf.free a
        have y4 := hG.kf.get x (I ((fr.getD x 0 : Nat) : Int)) (arrN_getD _ _ _ (by rw [hG.len.2]; exact hxN))
        have g4 := hG.kf.free x
        have y5 := hG.kp.get x (I (pl.getD x 0)) (arrZ_getD _ _ _ (by rw [hG.len.1]; exact hxN))
        have g5 := hG.kp.free x
        have hfK : fa ≤ K := by rw [hfa, hK]; exact hR.f a
        have e1 : (fa : Int) + 1 ≤ 1000000000000 := by have := HB.out; omega
        have e2 : (fa : Int) + (sx : Int) ≤ 1000000000000 := by have := HB.out; omega
        have n1 : ff ≠ p := by have := hG.lf.1; have := hG.pl'; omega
        have n2 : ff ≠ fb := hG.nf.2.1
        have n3 : p ≠ fb := by have := hG.lf.2.2; have := hG.pl'; omega
        have n4 : ff ≠ og := by have := hG.lf.1; omega
        have n5 : ff ≠ z := by have := hG.lf.1; omega
        have n6 : ff ≠ ba := by have := hG.lf.1; omega
        have n7 : p ≠ z := Ne.symm H.out.1.np.1
        have n8 : p ≠ ba := Ne.symm H.out.1.np.2.1
        have n9 : a ≠ x := ha2
        have FIN := Lib.hid (show LRel M w fb rb ff p z N mo L o S Z (I ((k : Int) + 1)) (((wo.setCell ⟨p, x, none⟩ (I (fa : Int))).setCell ⟨ff, x, none⟩ (I ((fa : Int) + 1))).setCell ⟨ff, a, none⟩ (I ((fa : Int) + (sx : Int)))).drew.drew from
          ⟨k + 1, pl.set x (fa : Int), (fr.set x (fa + 1)).set a (fa + sx), roots, hlt, rfl, (((hG.setP x (fa : Int)).setF x (fa + 1)).setF a (fa + sx)).drew.drew, by rw [hfa]; exact hR.below hsM, by
            rw [← hZ]
            show _ = (if 0 ≤ abF L x then _ else _)
            rw [← hax, if_pos hpos, Int.toNat_natCast, ← hfa, ← hsx]⟩)
        clear hlt hk hG hR hZ hdrop hlo hla hlz old hax hsx hsM hb hK hup hpos ha1 ha2 hfa hfK hx hko hxm hxN hxL
        as_aux_lemma =>
        go_upto_region 9 with (fail)
        go_region
        go_upto_region 11 with (fail)
        go_region
        go_wp2_with fail
        exact ⟨FIN.out, by simp [intOf]; omega⟩
      · have d6 : decide (0 ≤ ax) = false := by simpa using hpos
        have y3 := hG.kr.get 0 (I (roots : Int)) rfl
        have g3 := hG.kr.free 0
        have y4 := hG.kf.get x (I ((fr.getD x 0 : Nat) : Int)) (arrN_getD _ _ _ (by rw [hG.len.2]; exact hxN))
        have g4 := hG.kf.free x
        have y5 := hG.kp.get x (I (pl.getD x 0)) (arrZ_getD _ _ _ (by rw [hG.len.1]; exact hxN))
        have g5 := hG.kp.free x
        have hfK : roots ≤ K := by rw [hK]; exact hR.r
        have e1 : (roots : Int) + 1 ≤ 1000000000000 := by have := HB.out; omega
        have e2 : (roots : Int) + (sx : Int) ≤ 1000000000000 := by have := HB.out; omega
        have n1 : ff ≠ p := by have := hG.lf.1; have := hG.pl'; omega
        have n2 : ff ≠ fb := hG.nf.2.1
        have n3 : p ≠ fb := by have := hG.lf.2.2; have := hG.pl'; omega
        have n4 : ff ≠ og := by have := hG.lf.1; omega
        have n5 : ff ≠ z := by have := hG.lf.1; omega
        have n6 : ff ≠ ba := by have := hG.lf.1; omega
        have n7 : p ≠ z := Ne.symm H.out.1.np.1
        have n8 : p ≠ ba := Ne.symm H.out.1.np.2.1
        have n9 : ff ≠ rb := hG.nf.1
        have n10 : p ≠ rb := by have := hG.lf.2.1; have := hG.pl'; omega
        have n11 : rb ≠ fb := hG.nf.2.2
        have FIN := Lib.hid (show LRel M w fb rb ff p z N mo L o S Z (I ((k : Int) + 1)) (((wo.setCell ⟨p, x, none⟩ (I (roots : Int))).setCell ⟨ff, x, none⟩ (I ((roots : Int) + 1))).setCell ⟨rb, 0, none⟩ (I ((roots : Int) + (sx : Int)))).drew.drew from
          ⟨k + 1, pl.set x (roots : Int), fr.set x (roots + 1), roots + sx, hlt, rfl, (((hG.setP x (roots : Int)).setF x (roots + 1)).setR (roots + sx)).drew.drew, hR.root hsM, by
            rw [← hZ]
            show _ = (if 0 ≤ abF L x then _ else _)
            rw [← hax, if_neg hpos, ← hsx]⟩)
        clear hlt hk hG hR hZ hdrop hlo hla hlz old hax hsx hsM hb hK hup hpos hfK hx hko hxm hxN hxL
        as_aux_lemma =>
        go_upto_region 9 with (fail)
        go_region
        go_upto_region 11 with (fail)
        go_region
        go_wp2_with fail
        exact ⟨FIN.out, by simp [intOf]; omega⟩
    · have d0 : decide (k < mo) = false := by simpa using hlt
      have FIN := Lib.hid (show LayT w p Z wo (.returned (.tuple #[])) from ⟨rfl, by
        have e : o.drop k = [] := List.drop_eq_nil_of_le (by rw [H.out.1.om]; omega)
        rw [e] at hZ
        have hZ' : pl = Z := hZ
        rw [← hZ']; exact hG.kp, hG.gr⟩)
      clear hlt hk hG hR hZ
      go_wp2_with fail
      go_end0
      exact FIN.out
end Go.Proofs.Ytjlmkcamefaodaa

/-! FOne5: Graphs of one node that goes on nowhere: the nearest above, told; the forest of one node. -/

namespace Go.Proofs.Ytjlmkcamefaodaa
open Go Go.RowKit

def ToldNone2 (w w' : World) (e : Ending) : Prop := ∃ b, e = .returned (.tuple #[.slice (some ⟨b, 0, none⟩) 1 1, I 0]) ∧ Blk b #[I (-1)] 3 w' ∧ Below w.heap.size w w'
set_option maxRecDepth 100000 in
set_option maxHeartbeats 800000 in
theorem Above_one (bg : Nat) (w : World) (h : One bg w) : Calls Try.prog 44 #[oneV bg] w fun e w' => ToldNone2 w w' e := by
  have H := Lib.hid h
  clear h
  go_enter Try.func44, Try.ntmps44
  go_wp2_with fail
  refine (fault_one bg w H.out).mono ?_
  rintro e w' ⟨rfl, rfl⟩
  go_wp2_with fail
  refine (newWalk_one bg w H.out).mono ?_
  rintro e w1 ⟨bw, bf, br, v0, v1, rfl, h1, h2, h3⟩
  obtain ⟨g1, cap1, rfl⟩ : ∃ g cap, v0 = .slice (some ⟨g, 0, none⟩) 1 cap := by
    rcases own_slice h2 with ⟨_, h⟩ | ⟨g, cap, h⟩
    · exact absurd h (by decide)
    · exact ⟨g, cap, h⟩
  have hg1 : One bg w1 := H.out.below h1.bel H.out.lt
  have H1 := Lib.hid (And.intro h1 (And.intro h2 hg1))
  clear h1 h2 h3 hg1
  go_wp2_with fail
  refine (into_one bg w1 H1.out.2.2).mono ?_
  rintro e w2 ⟨bi, rfl, h4, hb⟩
  have H2 := Lib.hid (And.intro (H1.out.1.below hb) (own_below H1.out.2.1 hb))
  clear h4 hb
  go_wp2_with fail
  refine (above_one w bw bf br bi v1 g1 cap1 _ w2 H2.out.1 H2.out.2).mono ?_
  rintro e w3 ⟨b, rfl, h5, _, h6⟩
  have FIN := Lib.hid (show ToldNone2 w w3 (.returned (.tuple #[.slice (some ⟨b, 0, none⟩) 1 1, I 0])) from ⟨b, rfl, h5, H2.out.1.bel.trans (h6.mono H2.out.1.bel.size)⟩)
  clear h5 h6
  go_wp2_with fail
  go_ret2
  exact FIN.out

/-- A forest of one node. -/
abbrev forestV (p z : Nat) : Value := .agg #[.slice (some ⟨p, 0, none⟩) 1 1, .slice (some ⟨z, 0, none⟩) 1 1]

set_option maxRecDepth 100000 in
set_option maxHeartbeats 800000 in
theorem lay_one (p z o a : Nat) (ocap : Nat) (w : World) (x : Int) (hp : Blk p #[I x] 3 w) (hz : Blk z #[I 1] 3 w) (ho : w.cell? ⟨o, 0, none⟩ = some (I 0)) (ha : Blk a #[I (-1)] 3 w) (hop : o ≠ p) (hap : a ≠ p) (hzp : z ≠ p) (hol : o < w.heap.size) (B : Nat) (hB : B ≤ p) :
    Calls Try.prog 57 #[forestV p z, .slice (some ⟨o, 0, none⟩) 1 ocap, .slice (some ⟨a, 0, none⟩) 1 1] w fun e w' => e = .returned (.tuple #[]) ∧ Blk p #[I 0] 3 w' ∧ Blk z #[I 1] 3 w' ∧ Below B w w' ∧ ∀ k, k < w.heap.size → k ≠ p → w'.heap[k]? = w.heap[k]? := by
  have hmk := fun w => mkI1 w
  have hpl := hp.lt
  obtain ⟨W, hW⟩ : ∃ W, W = ((w.alloc (.cells #[.slice (some ⟨p, 0, none⟩) 1 1, .slice (some ⟨z, 0, none⟩) 1 1] 64)).alloc (.cells #[I 0] 3)).alloc (.cells #[I 0] 3) := ⟨_, rfl⟩
  obtain ⟨n0, hn0⟩ : ∃ n, n = w.heap.size := ⟨_, rfl⟩
  obtain ⟨n1, hn1⟩ : ∃ n, n = w.heap.size + 1 := ⟨_, rfl⟩
  obtain ⟨n2, hn2⟩ : ∃ n, n = w.heap.size + 1 + 1 := ⟨_, rfl⟩
  have k0 : Blk n0 #[.slice (some ⟨p, 0, none⟩) 1 1, .slice (some ⟨z, 0, none⟩) 1 1] 64 W := by rw [hn0, hW]; exact ((Blk.new _ _ _).alloc _).alloc _
  have k1 : Blk n1 #[I 0] 3 W := by rw [hn1, hW]; exact (Blk.new' _ _ _ (by simp)).alloc _
  have k2 : Blk n2 #[I 0] 3 W := by rw [hn2, hW]; exact Blk.new' _ _ _ (by simp)
  have hb : Below w.heap.size w W := by rw [hW]; exact (((Below.refl _ _).alloc (Nat.le_refl _) _).alloc (by simp) _).alloc (by simp; omega) _
  have c0 := k0.get 0 (.slice (some ⟨p, 0, none⟩) 1 1) rfl
  have c1 := k0.get 1 (.slice (some ⟨z, 0, none⟩) 1 1) rfl
  have d1 := k1.get 0 (I 0) rfl
  have d2 := k2.get 0 (I 0) rfl
  have f1 := k1.free 0
  have f2 := k2.free 0
  have co : W.cell? ⟨o, 0, none⟩ = some (I 0) := cell_below hb hol ho
  have ca := (ha.below hb ha.lt).get 0 (I (-1)) rfl
  have cp := (hp.below hb hp.lt).get 0 (I x) rfl
  have fp := (hp.below hb hp.lt).free 0
  have cz := (hz.below hb hz.lt).get 0 (I 1) rfl
  have q1 : p ≠ n1 := by omega
  have q2 : p ≠ n2 := by omega
  have q3 : n1 ≠ n2 := by omega
  have q4 : p ≠ n0 := by omega
  have q5 : n0 ≠ n1 := by omega
  have q6 : n0 ≠ n2 := by omega
  have q7 : z ≠ n1 := by have := hz.lt; omega
  have q8 : z ≠ n2 := by have := hz.lt; omega
  have q9 : a ≠ n1 := by have := ha.lt; omega
  have q10 : a ≠ n2 := by have := ha.lt; omega
  have FIN := Lib.hid (show Blk p #[I 0] 3 ((((W.setCell ⟨p, 0, none⟩ (I 0)).drew.setCell ⟨n1, 0, none⟩ (I 1)).setCell ⟨n2, 0, none⟩ (I 1)).drew) ∧ Blk z #[I 1] 3 ((((W.setCell ⟨p, 0, none⟩ (I 0)).drew.setCell ⟨n1, 0, none⟩ (I 1)).setCell ⟨n2, 0, none⟩ (I 1)).drew) ∧ Below B w ((((W.setCell ⟨p, 0, none⟩ (I 0)).drew.setCell ⟨n1, 0, none⟩ (I 1)).setCell ⟨n2, 0, none⟩ (I 1)).drew) ∧ ∀ k, k < w.heap.size → k ≠ p → ((((W.setCell ⟨p, 0, none⟩ (I 0)).drew.setCell ⟨n1, 0, none⟩ (I 1)).setCell ⟨n2, 0, none⟩ (I 1)).drew).heap[k]? = w.heap[k]? from
    ⟨(((hp.below hb hp.lt).set 0 _).setOther q1 _ _).setOther q2 _ _, (((hz.below hb hz.lt).setOther hzp _ _).setOther q7 _ _).setOther q8 _ _,
      ((((hb.mono (by omega)).setCell (p := ⟨p, 0, none⟩) hB _).drew.setCell (p := ⟨n1, 0, none⟩) (by show B ≤ n1; omega) _).setCell (p := ⟨n2, 0, none⟩) (by show B ≤ n2; omega) _).drew,
      fun k hk hkp => (Below.heap_setCell _ ⟨n2, 0, none⟩ _ _ (by show k ≠ n2; omega)).trans ((Below.heap_setCell _ ⟨n1, 0, none⟩ _ _ (by show k ≠ n1; omega)).trans ((Below.heap_setCell _ ⟨p, 0, none⟩ _ _ hkp).trans (hb.block k hk)))⟩)
  have HW := Lib.hid (And.intro hW (And.intro hn0 (And.intro hn1 hn2)))
  clear hW hn0 hn1 hn2 k0 k1 k2 hb hp hz ho ha hol hB hpl
  go_enter Try.func57, Try.ntmps57
  go_upto_region 3 with (fail)
  rw [← HW.out.2.2.2, ← HW.out.2.2.1, ← HW.out.2.1]
  change Code.wp _ _ _ _ (((w.alloc (.cells #[.slice (some ⟨p, 0, none⟩) 1 1, .slice (some ⟨z, 0, none⟩) 1 1] 64)).alloc (.cells #[I 0] 3)).alloc (.cells #[I 0] 3))
  rw [← HW.out.1]
  go_wp2_with fail
  refine wp_loop_rounds 2 ?_
  rw [rounds_succ]
  go_wp2_with fail
  go_region
  go_wp2_with fail
  go_region
  go_wp2_with fail
  rw [rounds_succ]
  go_wp2_with fail
  go_end0
  exact ⟨rfl, FIN.out⟩

def ForestT (w : World) (q : Value) (W : World) : Prop := ∃ f p z, q = .pointer (some ⟨f, 0, none⟩) ∧ Blk f #[.slice (some ⟨p, 0, none⟩) 1 1, .slice (some ⟨z, 0, none⟩) 1 1] 64 W ∧ Blk p #[I 0] 3 W ∧ Blk z #[I 0] 3 W ∧ p ≠ z ∧ f ≠ p ∧ f ≠ z ∧ w.heap.size < f ∧ w.heap.size < p ∧ w.heap.size < z ∧
  Blk w.heap.size #[.slice none 0 0, .slice none 0 0] 64 W ∧ Below w.heap.size w W
theorem four_get (w : World) (o1 o2 o3 o4 : Obj) (i : Nat) (o : Obj) (hi : [o1, o2, o3, o4][i]? = some o) : (((((w.alloc o1).alloc o2).alloc o3).alloc o4).drew).heap[w.heap.size + i]? = some o := by
  have hlt : i < 4 := by
    rcases Nat.lt_or_ge i 4 with h | h
    · exact h
    · rw [List.getElem?_eq_none (by simpa using h)] at hi; cases hi
  have h5 := five_get w o1 o2 o3 o4 o4 i o (by
    match i, hlt, hi with
    | 0, _, hi => exact hi
    | 1, _, hi => exact hi
    | 2, _, hi => exact hi
    | 3, _, hi => exact hi
    | n + 4, h, _ => exact absurd h (by omega))
  have : (((((w.alloc o1).alloc o2).alloc o3).alloc o4).alloc o4).heap[w.heap.size + i]? = some o := h5
  rw [heap_alloc_old _ _ (by simp; omega)] at this
  exact this
theorem forest_four (w : World) (o2 o3 o4 : Obj) (i j k : Nat) (f p z : Nat) (hf : f = w.heap.size + i) (hp : p = w.heap.size + j) (hz : z = w.heap.size + k) (h0 : 0 < i ∧ 0 < j ∧ 0 < k ∧ i ≠ j ∧ i ≠ k ∧ j ≠ k)
    (hi : [.cells #[.slice none 0 0, .slice none 0 0] 64, o2, o3, o4][i]? = some (.cells #[.slice (some ⟨p, 0, none⟩) 1 1, .slice (some ⟨z, 0, none⟩) 1 1] 64))
    (hj : [.cells #[.slice none 0 0, .slice none 0 0] 64, o2, o3, o4][j]? = some (.cells #[I 0] 3)) (hk : [.cells #[.slice none 0 0, .slice none 0 0] 64, o2, o3, o4][k]? = some (.cells #[I 0] 3)) :
    ForestT w (.pointer (some ⟨f, 0, none⟩)) (((((w.alloc (.cells #[.slice none 0 0, .slice none 0 0] 64)).alloc o2).alloc o3).alloc o4).drew) := by
  subst hf hp hz
  exact ⟨_, _, _, rfl, four_get w _ o2 o3 o4 i _ hi, four_get w _ o2 o3 o4 j _ hj, four_get w _ o2 o3 o4 k _ hk, by omega, by omega, by omega, by omega, by omega, by omega, four_get w _ o2 o3 o4 0 _ rfl, (((((Below.refl _ _).alloc (Nat.le_refl _) _).alloc (by simp) _).alloc (by simp; omega) _).alloc (by simp; omega) _).drew⟩

set_option maxRecDepth 100000 in
set_option maxHeartbeats 1600000 in
theorem New_one (o a : Nat) (ocap : Nat) (w : World) (ho : w.cell? ⟨o, 0, none⟩ = some (I 0)) (ha : Blk a #[I (-1)] 3 w) (hol : o < w.heap.size) :
    Calls Try.prog 46 #[.slice (some ⟨o, 0, none⟩) 1 ocap, .slice (some ⟨a, 0, none⟩) 1 1] w fun e w' => ∃ p z, e = .returned (forestV p z) ∧ Blk p #[I 0] 3 w' ∧ Blk z #[I 1] 3 w' ∧ w.heap.size ≤ p ∧ w.heap.size ≤ z ∧ p ≠ z ∧ Below w.heap.size w w' := by
  have hmk := fun w => mkI1 w
  have HF := Lib.hid (forest_four w)
  have H := Lib.hid (And.intro ho (And.intro ha hol))
  clear ho ha hol
  go_enter Try.func46, Try.ntmps46
  go_upto_region 1 with (fail)
  go_cut [5] from 9 to 15 (fun q W => ForestT w q W)
  case first =>
    go_region
    all_goals (go_wp2_with fail; go_meet; case rel => first | exact HF.out _ _ _ 1 2 3 _ _ _ rfl rfl rfl (by decide) rfl rfl rfl | exact HF.out _ _ _ 1 3 2 _ _ _ rfl rfl rfl (by decide) rfl rfl rfl | exact HF.out _ _ _ 2 1 3 _ _ _ rfl rfl rfl (by decide) rfl rfl rfl | exact HF.out _ _ _ 2 3 1 _ _ _ rfl rfl rfl (by decide) rfl rfl rfl | exact HF.out _ _ _ 3 1 2 _ _ _ rfl rfl rfl (by decide) rfl rfl rfl | exact HF.out _ _ _ 3 2 1 _ _ _ rfl rfl rfl (by decide) rfl rfl rfl)
  case rest =>
    obtain ⟨f, p, z, rfl, h1, h2, h3, h4, h5, h6, h7, h8, h9, h10, h11⟩ := hcut
    obtain ⟨W, rfl⟩ : ∃ W, W = wc := ⟨_, rfl⟩
    obtain ⟨r, hr⟩ : ∃ r, r = w.heap.size := ⟨_, rfl⟩
    rw [← hr] at h10
    obtain ⟨W1, hW1⟩ : ∃ W1, W1 = (W.setCell ⟨p, 0, none⟩ (I (-1))).setCell ⟨z, 0, none⟩ (I 1) := ⟨_, rfl⟩
    have k1 : Blk f #[.slice (some ⟨p, 0, none⟩) 1 1, .slice (some ⟨z, 0, none⟩) 1 1] 64 W1 := by rw [hW1]; exact (h1.setOther h5 _ _).setOther h6 _ _
    have k2 : Blk p #[I (-1)] 3 W1 := by rw [hW1]; exact (h2.set 0 _).setOther h4 _ _
    have k3 : Blk z #[I 1] 3 W1 := by rw [hW1]; exact (h3.setOther (Ne.symm h4) _ _).set 0 _
    have k4 : Blk r #[.slice none 0 0, .slice none 0 0] 64 W1 := by rw [hW1]; exact (h10.setOther (by omega) _ _).setOther (by omega) _ _
    have k5 : Below w.heap.size w W1 := by rw [hW1]; exact (h11.setCell (p := ⟨p, 0, none⟩) (by show w.heap.size ≤ p; omega) _).setCell (p := ⟨z, 0, none⟩) (by show w.heap.size ≤ z; omega) _
    have co1 : W1.cell? ⟨o, 0, none⟩ = some (I 0) := cell_below k5 H.out.2.2 H.out.1
    have ca1 := H.out.2.1.below k5 H.out.2.1.lt
    have HL := Lib.hid (lay_one p z o a ocap W1 (-1) k2 k3 co1 ca1 (by have := H.out.2.2; omega) (by have := H.out.2.1.lt; omega) (Ne.symm h4) (Nat.lt_of_lt_of_le H.out.2.2 k5.size) (w.heap.size + 1) (by omega))
    have H1 := Lib.hid (And.intro k1 (And.intro k4 (And.intro k5 (And.intro hr (And.intro h7 (And.intro h8 (And.intro h9 (And.intro h4 (And.intro h5 h6)))))))))
    have c0 := h1.get 0 (.slice (some ⟨p, 0, none⟩) 1 1) rfl
    have c1 := h1.get 1 (.slice (some ⟨z, 0, none⟩) 1 1) rfl
    have d0 := h2.get 0 (I 0) rfl
    have d1 := h3.get 0 (I 0) rfl
    have f0 := h2.free 0
    have f1 := h3.free 0
    have co : W.cell? ⟨o, 0, none⟩ = some (I 0) := cell_below h11 H.out.2.2 H.out.1
    have ca := (H.out.2.1.below h11 H.out.2.1.lt).get 0 (I (-1)) rfl
    have q1 := h4
    have q2 := h5
    have q3 := h6
    have q4 : p ≠ o := by have := H.out.2.2; omega
    have q5 : z ≠ o := by have := H.out.2.2; omega
    have q6 : p ≠ a := by have := H.out.2.1.lt; omega
    have q7 : z ≠ a := by have := H.out.2.1.lt; omega
    have HW1 := Lib.hid hW1
    clear h1 h2 h3 h4 h5 h6 h7 h8 h9 h10 h11 hW1 k1 k2 k3 k4 k5 co1 ca1 hr
    go_wp2_with fail
    refine wp_loop_rounds 2 ?_
    rw [rounds_succ]
    go_wp2_with fail
    rw [rounds_succ]
    go_wp2_with fail
    refine wp_loop_rounds 2 ?_
    rw [rounds_succ]
    go_wp2_with fail
    rw [rounds_succ]
    go_upto_region 14 with (fail)
    change Code.wp _ _ _ _ ((W.setCell ⟨p, 0, none⟩ (I (-1))).setCell ⟨z, 0, none⟩ (I 1))
    rw [← HW1.out, ← H1.out.2.2.2.1]
    clear c0 c1 d0 d1 f0 f1 co ca HW1 q1 q2 q3 q4 q5 q6 q7
    have c0 := H1.out.1.get 0 (.slice (some ⟨p, 0, none⟩) 1 1) rfl
    have c1 := H1.out.1.get 1 (.slice (some ⟨z, 0, none⟩) 1 1) rfl
    go_wp2_with fail
    refine HL.out.mono ?_
    rintro e W2 ⟨rfl, h2, h3, hb, hk⟩
    have k1 : Blk f #[.slice (some ⟨p, 0, none⟩) 1 1, .slice (some ⟨z, 0, none⟩) 1 1] 64 W2 := (hk f H1.out.1.lt (by have := H1.out.2.2.2.2.2.2.2.2.1; omega)).trans H1.out.1
    have k2 : Blk r #[.slice none 0 0, .slice none 0 0] 64 W2 := (hk r H1.out.2.1.lt (by have := H1.out.2.2.2.1; have := H1.out.2.2.2.2.2.1; omega)).trans H1.out.2.1
    have k5 : Below w.heap.size w W2 := H1.out.2.2.1.trans (hb.mono (by omega))
    have q1 : r ≠ p := by have := H1.out.2.2.2.1; have := H1.out.2.2.2.2.2.1; omega
    have q2 : r ≠ z := by have := H1.out.2.2.2.1; have := H1.out.2.2.2.2.2.2.1; omega
    have c0 := k1.get 0 (.slice (some ⟨p, 0, none⟩) 1 1) rfl
    have c1 := k1.get 1 (.slice (some ⟨z, 0, none⟩) 1 1) rfl
    have d0 := k2.get 0 (.slice none 0 0) rfl
    have d1 := k2.get 1 (.slice none 0 0) rfl
    have f0 := k2.free 0
    have f1 := k2.free 1
    obtain ⟨W3, hW3⟩ : ∃ W3, W3 = (W2.setCell ⟨r, 0, none⟩ (.slice (some ⟨p, 0, none⟩) 1 1)).setCell ⟨r, 1, none⟩ (.slice (some ⟨z, 0, none⟩) 1 1) := ⟨_, rfl⟩
    have k3 : Blk r #[.slice (some ⟨p, 0, none⟩) 1 1, .slice (some ⟨z, 0, none⟩) 1 1] 64 W3 := by rw [hW3]; exact (k2.set 0 _).set 1 _
    have FIN := Lib.hid (show Blk p #[I 0] 3 W3 ∧ Blk z #[I 1] 3 W3 ∧ w.heap.size ≤ p ∧ w.heap.size ≤ z ∧ p ≠ z ∧ Below w.heap.size w W3 by
      rw [hW3]
      have := H1.out.2.2.2.1
      exact ⟨(h2.setOther (Ne.symm q1) _ _).setOther (Ne.symm q1) _ _, (h3.setOther (Ne.symm q2) _ _).setOther (Ne.symm q2) _ _, by have := H1.out.2.2.2.2.2.1; omega, by have := H1.out.2.2.2.2.2.2.1; omega, H1.out.2.2.2.2.2.2.2.1, (k5.setCell (p := ⟨r, 0, none⟩) (by show w.heap.size ≤ r; omega) _).setCell (p := ⟨r, 1, none⟩) (by show w.heap.size ≤ r; omega) _⟩)
    have HW3 := Lib.hid hW3
    have HR := Lib.hid (And.intro (k3.get 0 (.slice (some ⟨p, 0, none⟩) 1 1) rfl) (k3.get 1 (.slice (some ⟨z, 0, none⟩) 1 1) rfl))
    clear h2 h3 hb hk k1 k2 k5 hW3 k3
    go_wp2_with fail
    rw [← HW3.out]
    have g0 := HR.out.1
    have g1 := HR.out.2
    exact bodyPost_ret (v := forestV p z) (by simp [results, Try.results46, go_sem, g0, g1]) rfl ⟨p, z, rfl, FIN.out⟩
end Go.Proofs.Ytjlmkcamefaodaa
