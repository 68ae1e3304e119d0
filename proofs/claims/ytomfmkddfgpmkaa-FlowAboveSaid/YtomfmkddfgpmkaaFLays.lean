/-
  Joined: FLay, FLay2.
-/
import Derived.Test.YtomfmkddfgpmkaaFAbv2
import Derived.Test.YtomfmkddfgpmkaaFFact
/-! A forest's places: the walk of lay. -/

namespace Go.Proofs.Ytomfmkddfgpmkaa
open Go Go.RowKit Fl

/-- A forest of n nodes. -/
abbrev forestN (p z n : Nat) : Value := .agg #[.slice (some ⟨p, 0, none⟩) n n, .slice (some ⟨z, 0, none⟩) n n]

namespace Fl
/-- Room behind k nodes is small. -/
structure RoomOk (M k : Nat) (fr : List Nat) (roots : Nat) : Prop where
  f : ∀ x, fr.getD x 0 ≤ k * (M + 1)
  r : roots ≤ k * (M + 1)
theorem room_start (M n : Nat) : RoomOk M 0 (List.replicate n 0) 0 := ⟨fun x => by
  rw [List.getD_eq_getElem?_getD, List.getElem?_replicate]
  split <;> simp, by omega⟩
theorem room_set {k : Nat} {fr : List Nat} (h : ∀ x, fr.getD x 0 ≤ k) (n v : Nat) (hv : v ≤ k) : ∀ x, (fr.set n v).getD x 0 ≤ k := by
  intro x
  rw [List.getD_eq_getElem?_getD, List.getElem?_set]
  by_cases e : n = x
  · rw [if_pos e]
    split
    · simpa using hv
    · simp
  · rw [if_neg e, ← List.getD_eq_getElem?_getD]
    exact h x
theorem room_more (M k : Nat) : (k + 1) * (M + 1) = k * (M + 1) + M + 1 := by rw [Nat.add_mul]; omega
theorem RoomOk.below {M k : Nat} {fr : List Nat} {roots n a s : Nat} (h : RoomOk M k fr roots) (hs : s ≤ M) : RoomOk M (k + 1) ((fr.set n (fr.getD a 0 + 1)).set a (fr.getD a 0 + s)) roots :=
  ⟨by rw [room_more]; exact room_set (room_set (fun x => by have := h.f x; omega) n _ (by have := h.f a; omega)) a _ (by have := h.f a; omega), by rw [room_more]; have := h.r; omega⟩
theorem RoomOk.root {M k : Nat} {fr : List Nat} {roots n s : Nat} (h : RoomOk M k fr roots) (hs : s ≤ M) : RoomOk M (k + 1) (fr.set n (roots + 1)) (roots + s) :=
  ⟨by rw [room_more]; exact room_set (fun x => by have := h.f x; omega) n _ (by have := h.r; omega), by rw [room_more]; have := h.r; omega⟩
end Fl

/-- What lay has in memory. -/
structure LayG (w : World) (fb rb ff p z N : Nat) (pl : List Int) (fr : List Nat) (roots : Nat) (W : World) : Prop where
  kp : Blk p (arrZ pl) 3 W
  kf : Blk ff (arrN fr) 3 W
  kr : Blk rb #[I (roots : Int)] 3 W
  kb : Blk fb #[.slice (some ⟨p, 0, none⟩) N N, .slice (some ⟨z, 0, none⟩) N N] 58 W
  gr : w.grownBy W (some p)
  lf : w.heap.size ≤ ff ∧ w.heap.size ≤ rb ∧ w.heap.size ≤ fb
  nf : ff ≠ rb ∧ ff ≠ fb ∧ rb ≠ fb
  pl' : p < w.heap.size
  len : pl.length = N ∧ fr.length = N
section
variable {w W : World} {fb rb ff p z N : Nat} {pl : List Int} {fr : List Nat} {roots : Nat}
theorem grown_setP {w W : World} {p : Nat} (h : w.grownBy W (some p)) (b j : Nat) (hb : b = p ∨ w.heap.size ≤ b) (u : Value) : w.grownBy (W.setCell ⟨b, j, none⟩ u) (some p) :=
  ⟨h.os, h.tape, h.output, by have := h.size; simpa using this, fun k hk hne => by
    refine (Below.heap_setCell _ _ _ _ ?_).trans (h.block k hk hne)
    show k ≠ b
    rcases hb with e | e
    · rw [e]; exact fun q => hne (by rw [q])
    · omega⟩
theorem LayG.setP (h : LayG w fb rb ff p z N pl fr roots W) (j : Nat) (x : Int) : LayG w fb rb ff p z N (pl.set j x) fr roots (W.setCell ⟨p, j, none⟩ (I x)) := by
  have h1 := h.pl'
  obtain ⟨l1, l2, l3⟩ := h.lf
  exact ⟨by have := h.kp.set j (I x); rw [arrZ_set] at this; exact this, h.kf.setOther (by omega) _ _, h.kr.setOther (by omega) _ _, h.kb.setOther (by omega) _ _, grown_setP h.gr _ _ (Or.inl rfl) _, h.lf, h.nf, h.pl', by rw [List.length_set]; exact h.len⟩
theorem LayG.setF (h : LayG w fb rb ff p z N pl fr roots W) (j x : Nat) : LayG w fb rb ff p z N pl (fr.set j x) roots (W.setCell ⟨ff, j, none⟩ (I (x : Int))) := by
  have h1 := h.pl'
  obtain ⟨l1, l2, l3⟩ := h.lf
  exact ⟨h.kp.setOther (by omega) _ _, by have := h.kf.set j (I (x : Int)); rw [arrN_set] at this; exact this, h.kr.setOther (Ne.symm h.nf.1) _ _, h.kb.setOther (Ne.symm h.nf.2.1) _ _, grown_setP h.gr _ _ (Or.inr l1) _, h.lf, h.nf, h.pl', by rw [List.length_set]; exact h.len⟩
theorem LayG.setR (h : LayG w fb rb ff p z N pl fr roots W) (x : Nat) : LayG w fb rb ff p z N pl fr x (W.setCell ⟨rb, 0, none⟩ (I (x : Int))) := by
  have h1 := h.pl'
  obtain ⟨l1, l2, l3⟩ := h.lf
  exact ⟨h.kp.setOther (by omega) _ _, h.kf.setOther h.nf.1 _ _, by have := h.kr.set 0 (I (x : Int)); exact this, h.kb.setOther (Ne.symm h.nf.2.2) _ _, grown_setP h.gr _ _ (Or.inr l2) _, h.lf, h.nf, h.pl', h.len⟩
theorem LayG.heap (h : LayG w fb rb ff p z N pl fr roots W) {W' : World} (e : W'.heap = W.heap) (e2 : W'.os = W.os ∧ W'.tape = W.tape ∧ W'.output = W.output) : LayG w fb rb ff p z N pl fr roots W' := by
  have e' : ∀ k : Nat, W'.heap[k]? = W.heap[k]? := fun k => by rw [e]
  exact ⟨(e' _).trans h.kp, (e' _).trans h.kf, (e' _).trans h.kr, (e' _).trans h.kb, ⟨e2.1.trans h.gr.os, e2.2.1.trans h.gr.tape, e2.2.2.trans h.gr.output, by rw [e]; exact h.gr.size, fun k hk hn => (e' k).trans (h.gr.block k hk hn)⟩, h.lf, h.nf, h.pl', h.len⟩
theorem LayG.drew (h : LayG w fb rb ff p z N pl fr roots W) : LayG w fb rb ff p z N pl fr roots W.drew := h.heap rfl ⟨rfl, rfl, rfl⟩
end

/-- What lay is handed: an order, and who stands above whom. -/
structure LayW (M : Nat) (w : World) (p z og ba N mo : Nat) (L : List Int) (o S : List Nat) : Prop where
  kp : Blk p (arrZ (List.replicate N (-1))) 3 w
  kz : Blk z (arrN S) 3 w
  ka : Blk ba (arrZ L) 3 w
  co : ∀ i, i < mo → w.cell? ⟨og, i, none⟩ = some (I ((o.getD i 0 : Nat) : Int))
  lo : og < w.heap.size
  np : z ≠ p ∧ ba ≠ p ∧ og ≠ p
  om : o.length = mo
  lL : L.length = N
  lS : S.length = N
  lt : ∀ x ∈ o, x < N
  up : ∀ x ∈ o, 0 ≤ abF L x → (abF L x).toNat < N ∧ (abF L x).toNat ≠ x
  sz : ∀ x, S.getD x 0 ≤ M

def LRel (M : Nat) (w : World) (fb rb ff p z N mo : Nat) (L : List Int) (o S : List Nat) (Z : List Int) (iv : Value) (W : World) : Prop :=
  ∃ (k : Nat) (pl : List Int) (fr : List Nat) (roots : Nat), k ≤ mo ∧ iv = I (k : Int) ∧ LayG w fb rb ff p z N pl fr roots W ∧ RoomOk M k fr roots ∧ layF (abF L) S (o.drop k) pl fr roots = Z
def LayT (w : World) (p : Nat) (Z : List Int) (W : World) (e : Ending) : Prop := e = .returned (.tuple #[]) ∧ Blk p (arrZ Z) 3 W ∧ w.grownBy W (some p)

theorem layG_start (w : World) (p z N : Nat) (v : Value) (hp : Blk p (arrZ (List.replicate N (-1))) 3 w) :
    LayG w w.heap.size (w.heap.size + 1 + 1) (w.heap.size + 1) p z N (List.replicate N (-1)) (List.replicate N 0) 0
      ((((w.alloc (.cells #[.slice (some ⟨p, 0, none⟩) N N, .slice (some ⟨z, 0, none⟩) N N] 58)).alloc (.cells (arrZ (List.replicate N 0)) 3)).alloc (.cells #[I 0] 3))) := by
  have hl := hp.lt
  refine ⟨((hp.alloc _).alloc _).alloc _, ?_, Blk.new' _ _ _ (by simp), ((Blk.new _ _ _).alloc _).alloc _, ?_, ⟨by omega, by omega, by omega⟩, ⟨by omega, by omega, by omega⟩, hl, by simp⟩
  · have e : arrN (List.replicate N 0) = arrZ (List.replicate N 0) := by simp
    rw [e]
    exact (Blk.new' _ _ _ (by simp)).alloc _
  · have hb := (((Below.refl w.heap.size w).alloc (Nat.le_refl _) (.cells #[.slice (some ⟨p, 0, none⟩) N N, .slice (some ⟨z, 0, none⟩) N N] 58)).alloc (by simp) (.cells (arrZ (List.replicate N 0)) 3)).alloc (by simp; omega) (.cells #[I 0] 3)
    exact ⟨hb.os, hb.tape, hb.output, hb.size, fun k hk _ => hb.block k hk⟩
end Go.Proofs.Ytomfmkddfgpmkaa

/-! A forest's places: the walk of lay. -/

namespace Go.Proofs.Ytomfmkddfgpmkaa
open Go Go.RowKit Fl

set_option maxRecDepth 100000 in
set_option maxHeartbeats 8000000 in
theorem lay_any (M p z og ba N mo ocap : Nat) (L : List Int) (o S : List Nat) (hN : N ≤ 60000) (hmo : mo ≤ 60000) (hM : (mo + 1) * (M + 1) ≤ 1000000000000) (w : World) (h : LayW M w p z og ba N mo L o S) :
    Calls Try.prog 46 #[forestN p z N, .slice (some ⟨og, 0, none⟩) mo ocap, .slice (some ⟨ba, 0, none⟩) N N] w fun e w' => LayT w p (layF (abF L) S o (List.replicate N (-1)) (List.replicate N 0) 0) w' e := by
  have hmk := mkIn N (by omega)
  obtain ⟨B, hB⟩ : ∃ B : Int, B = 1000000000000 := ⟨_, rfl⟩
  have hMB : ∀ k, k ≤ mo → ((k * (M + 1) : Nat) : Int) + (M : Int) + 1 ≤ B := by
    intro k hk
    have h1 : (k + 1) * (M + 1) ≤ (mo + 1) * (M + 1) := Nat.mul_le_mul_right _ (by omega)
    have h2 := room_more M k
    rw [hB]; omega
  obtain ⟨Z, hZ⟩ : ∃ Z, Z = layF (abF L) S o (List.replicate N (-1)) (List.replicate N 0) 0 := ⟨_, rfl⟩
  rw [← hZ]
  obtain ⟨fb, hfb⟩ : ∃ b, b = w.heap.size := ⟨_, rfl⟩
  obtain ⟨rb, hrb⟩ : ∃ b, b = w.heap.size + 1 + 1 := ⟨_, rfl⟩
  obtain ⟨ff, hff⟩ : ∃ b, b = w.heap.size + 1 := ⟨_, rfl⟩
  obtain ⟨W, hW⟩ : ∃ W, W = ((w.alloc (.cells #[.slice (some ⟨p, 0, none⟩) N N, .slice (some ⟨z, 0, none⟩) N N] 58)).alloc (.cells (arrZ (List.replicate N 0)) 3)).alloc (.cells #[I 0] 3) := ⟨_, rfl⟩
  have hG : LayG w fb rb ff p z N (List.replicate N (-1)) (List.replicate N 0) 0 W := by rw [hfb, hrb, hff, hW]; exact layG_start w p z N (.slice none 0 0) h.kp
  have HS := Lib.hid (show LRel M w fb rb ff p z N mo L o S Z (I 0) W from ⟨0, _, _, _, Nat.zero_le _, rfl, hG, room_start M N, hZ.symm⟩)
  have H := Lib.hid (And.intro h (And.intro hN (And.intro hmo hMB)))
  have HW := Lib.hid (And.intro hW (And.intro hfb (And.intro hrb hff)))
  have HB := Lib.hid hB
  clear h hN hmo hM hMB hZ hfb hrb hff hW hG hB
  go_enter Try.func46, Try.ntmps46
  go_upto_region 3 with (fail)
  rw [← HW.out.2.2.1, ← HW.out.2.2.2, ← HW.out.2.1]
  change Code.wp _ _ _ _ (((w.alloc (.cells #[.slice (some ⟨p, 0, none⟩) N N, .slice (some ⟨z, 0, none⟩) N N] 58)).alloc (.cells (arrZ (List.replicate N 0)) 3)).alloc (.cells #[I 0] 3))
  rw [← HW.out.1]
  go_wp2_with fail
  go_loopw [16] (fun iv wr => LRel M w fb rb ff p z N mo L o S Z iv wr) (fun iv _ => (mo - intOf iv).toNat)
  case atStart => exact HS.out
  case round =>
    clear HS hmk
    obtain ⟨k, pl, fr, roots, hk, rfl, hG, hR, hZ⟩ := hrel
    obtain ⟨wo, rfl⟩ : ∃ wo : World, wo = wr := ⟨_, rfl⟩
    by_cases hlt : k < mo
    · have d0 : decide (k < mo) = true := by simpa using hlt
      have d1 : (0 : Int) ≤ (k : Int) := by omega
      have d2 : (k : Int) < (mo : Int) := by omega
      have d3 : (k : Int) + 1 ≤ 60000 := by have := H.out.2.2.1; omega
      obtain ⟨x, hx⟩ : ∃ x, x = o.getD k 0 := ⟨_, rfl⟩
      have hko : k < o.length := by rw [H.out.1.om]; exact hlt
      have hxm : x ∈ o := by rw [hx]; exact getD_mem hko
      have hxN : x < N := H.out.1.lt x hxm
      have hdrop : o.drop k = x :: o.drop (k + 1) := by rw [List.drop_eq_getElem_cons hko, hx, getD_of o k 0 hko]
      rw [hdrop] at hZ
      have hlo := H.out.1.lo
      have hla := H.out.1.ka.lt
      have hlz := H.out.1.kz.lt
      have old : ∀ b : Nat, b < w.heap.size → b ≠ p → ∀ j v, w.cell? ⟨b, j, none⟩ = some v → wo.cell? ⟨b, j, none⟩ = some v := fun b hb hne j v hc => by
        have := hG.gr.block b hb (by simp [hne])
        unfold World.cell? at hc ⊢
        rw [this]; exact hc
      have y0 := old og hlo H.out.1.np.2.2 k _ (H.out.1.co k hlt)
      rw [← hx] at y0
      have hxL : x < L.length := by rw [H.out.1.lL]; exact hxN
      obtain ⟨ax, hax⟩ : ∃ ax, ax = abF L x := ⟨_, rfl⟩
      have y1 := old ba hla H.out.1.np.2.1 x (I ax) (by rw [hax, abF_eq hxL]; exact H.out.1.ka.get x _ (arrZ_getD _ _ _ hxL))
      obtain ⟨sx, hsx⟩ : ∃ sx, sx = S.getD x 0 := ⟨_, rfl⟩
      have y2 := old z hlz H.out.1.np.1 x (I (sx : Int)) (by rw [hsx]; exact H.out.1.kz.get x _ (arrN_getD _ _ _ (by rw [H.out.1.lS]; exact hxN)))
      have hsM : sx ≤ M := by rw [hsx]; exact H.out.1.sz x
      have d4 : (0 : Int) ≤ (x : Int) := by omega
      have d5 : (x : Int) < (N : Int) := by omega
      have x0 := hG.kb.get 0 (.slice (some ⟨p, 0, none⟩) N N) rfl
      have x1 := hG.kb.get 1 (.slice (some ⟨z, 0, none⟩) N N) rfl
      have hb := H.out.2.2.2 k hk
      obtain ⟨K, hK⟩ : ∃ K, K = k * (M + 1) := ⟨_, rfl⟩
      rw [← hK] at hb
      have hup := H.out.1.up x hxm
      rw [← hax] at hup
      by_cases hpos : 0 ≤ ax
      · have d6 : decide (0 ≤ ax) = true := by simpa using hpos
        obtain ⟨a, ha⟩ : ∃ a : Nat, ax = (a : Int) := ⟨ax.toNat, by omega⟩
        subst ha
        obtain ⟨ha1, ha2⟩ := hup hpos
        rw [Int.toNat_natCast] at ha1 ha2
        have d7 : (0 : Int) ≤ (a : Int) := by omega
        have d8 : (a : Int) < (N : Int) := by omega
        obtain ⟨fa, hfa⟩ : ∃ fa, fa = fr.getD a 0 := ⟨_, rfl⟩
        have y3 := hG.kf.get a (I (fa : Int)) (by rw [hfa]; exact arrN_getD _ _ _ (by rw [hG.len.2]; exact ha1))
        have g3 := hG.kf.free a
        have y4 := hG.kf.get x (I ((fr.getD x 0 : Nat) : Int)) (arrN_getD _ _ _ (by rw [hG.len.2]; exact hxN))
        have g4 := hG.kf.free x
        have y5 := hG.kp.get x (I (pl.getD x 0)) (arrZ_getD _ _ _ (by rw [hG.len.1]; exact hxN))
        have g5 := hG.kp.free x
        have hfK : fa ≤ K := by rw [hfa, hK]; exact hR.f a
        have e1 : (fa : Int) + 1 ≤ 1000000000000 := by have := HB.out; omega
        have e2 : (fa : Int) + (sx : Int) ≤ 1000000000000 := by have := HB.out; omega
        have n1 : ff ≠ p := by have := hG.lf.1; have := hG.pl'; omega
        have n2 : ff ≠ fb := hG.nf.2.1
        have n3 : p ≠ fb := by have := hG.lf.2.2; have := hG.pl'; omega
        have n4 : ff ≠ og := by have := hG.lf.1; omega
        have n5 : ff ≠ z := by have := hG.lf.1; omega
        have n6 : ff ≠ ba := by have := hG.lf.1; omega
        have n7 : p ≠ z := Ne.symm H.out.1.np.1
        have n8 : p ≠ ba := Ne.symm H.out.1.np.2.1
        have n9 : a ≠ x := ha2
        have FIN := Lib.hid (show LRel M w fb rb ff p z N mo L o S Z (I ((k : Int) + 1)) (((wo.setCell ⟨p, x, none⟩ (I (fa : Int))).setCell ⟨ff, x, none⟩ (I ((fa : Int) + 1))).setCell ⟨ff, a, none⟩ (I ((fa : Int) + (sx : Int)))).drew.drew from
          ⟨k + 1, pl.set x (fa : Int), (fr.set x (fa + 1)).set a (fa + sx), roots, hlt, rfl, (((hG.setP x (fa : Int)).setF x (fa + 1)).setF a (fa + sx)).drew.drew, by rw [hfa]; exact hR.below hsM, by
            rw [← hZ]
            show _ = (if 0 ≤ abF L x then _ else _)
            rw [← hax, if_pos hpos, Int.toNat_natCast, ← hfa, ← hsx]⟩)
        clear hlt hk hG hR hZ hdrop hlo hla hlz old hax hsx hsM hb hK hup hpos ha1 ha2 hfa hfK hx hko hxm hxN hxL
        as_aux_lemma =>
        go_upto_region 9 with (fail)
        go_region
        go_upto_region 11 with (fail)
        go_region
        go_wp2_with fail
        exact ⟨FIN.out, by simp [intOf]; omega⟩
      · have d6 : decide (0 ≤ ax) = false := by simpa using hpos
        have y3 := hG.kr.get 0 (I (roots : Int)) rfl
        have g3 := hG.kr.free 0
        have y4 := hG.kf.get x (I ((fr.getD x 0 : Nat) : Int)) (arrN_getD _ _ _ (by rw [hG.len.2]; exact hxN))
        have g4 := hG.kf.free x
        have y5 := hG.kp.get x (I (pl.getD x 0)) (arrZ_getD _ _ _ (by rw [hG.len.1]; exact hxN))
        have g5 := hG.kp.free x
        have hfK : roots ≤ K := by rw [hK]; exact hR.r
        have e1 : (roots : Int) + 1 ≤ 1000000000000 := by have := HB.out; omega
        have e2 : (roots : Int) + (sx : Int) ≤ 1000000000000 := by have := HB.out; omega
        have n1 : ff ≠ p := by have := hG.lf.1; have := hG.pl'; omega
        have n2 : ff ≠ fb := hG.nf.2.1
        have n3 : p ≠ fb := by have := hG.lf.2.2; have := hG.pl'; omega
        have n4 : ff ≠ og := by have := hG.lf.1; omega
        have n5 : ff ≠ z := by have := hG.lf.1; omega
        have n6 : ff ≠ ba := by have := hG.lf.1; omega
        have n7 : p ≠ z := Ne.symm H.out.1.np.1
        have n8 : p ≠ ba := Ne.symm H.out.1.np.2.1
        have n9 : ff ≠ rb := hG.nf.1
        have n10 : p ≠ rb := by have := hG.lf.2.1; have := hG.pl'; omega
        have n11 : rb ≠ fb := hG.nf.2.2
        have FIN := Lib.hid (show LRel M w fb rb ff p z N mo L o S Z (I ((k : Int) + 1)) (((wo.setCell ⟨p, x, none⟩ (I (roots : Int))).setCell ⟨ff, x, none⟩ (I ((roots : Int) + 1))).setCell ⟨rb, 0, none⟩ (I ((roots : Int) + (sx : Int)))).drew.drew from
          ⟨k + 1, pl.set x (roots : Int), fr.set x (roots + 1), roots + sx, hlt, rfl, (((hG.setP x (roots : Int)).setF x (roots + 1)).setR (roots + sx)).drew.drew, hR.root hsM, by
            rw [← hZ]
            show _ = (if 0 ≤ abF L x then _ else _)
            rw [← hax, if_neg hpos, ← hsx]⟩)
        clear hlt hk hG hR hZ hdrop hlo hla hlz old hax hsx hsM hb hK hup hpos hfK hx hko hxm hxN hxL
        as_aux_lemma =>
        go_upto_region 9 with (fail)
        go_region
        go_upto_region 11 with (fail)
        go_region
        go_wp2_with fail
        exact ⟨FIN.out, by simp [intOf]; omega⟩
    · have d0 : decide (k < mo) = false := by simpa using hlt
      have FIN := Lib.hid (show LayT w p Z wo (.returned (.tuple #[])) from ⟨rfl, by
        have e : o.drop k = [] := List.drop_eq_nil_of_le (by rw [H.out.1.om]; omega)
        rw [e] at hZ
        have hZ' : pl = Z := hZ
        rw [← hZ']; exact hG.kp, hG.gr⟩)
      clear hlt hk hG hR hZ
      go_wp2_with fail
      go_end0
      exact FIN.out
end Go.Proofs.Ytomfmkddfgpmkaa
