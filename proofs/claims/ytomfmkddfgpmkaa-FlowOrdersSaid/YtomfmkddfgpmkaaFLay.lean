/-
  A forest's places: the walk of lay.
-/
import Derived.Test.YtomfmkddfgpmkaaFAbv2
import Derived.Test.YtomfmkddfgpmkaaFFacts
namespace Go.Proofs.Ytomfmkddfgpmkaa
open Go Go.RowKit Fl

/-- A forest of n nodes. -/
abbrev forestN (p z n : Nat) : Value := .agg #[.slice (some ⟨p, 0, none⟩) n n, .slice (some ⟨z, 0, none⟩) n n]

namespace Fl
/-- Room behind k nodes is small. -/
structure RoomOk (M k : Nat) (fr : List Nat) (roots : Nat) : Prop where
  f : ∀ x, fr.getD x 0 ≤ k * (M + 1)
  r : roots ≤ k * (M + 1)
theorem room_start (M n : Nat) : RoomOk M 0 (List.replicate n 0) 0 := ⟨fun x => by
  rw [List.getD_eq_getElem?_getD, List.getElem?_replicate]
  split <;> simp, by omega⟩
theorem room_set {k : Nat} {fr : List Nat} (h : ∀ x, fr.getD x 0 ≤ k) (n v : Nat) (hv : v ≤ k) : ∀ x, (fr.set n v).getD x 0 ≤ k := by
  intro x
  rw [List.getD_eq_getElem?_getD, List.getElem?_set]
  by_cases e : n = x
  · rw [if_pos e]
    split
    · simpa using hv
    · simp
  · rw [if_neg e, ← List.getD_eq_getElem?_getD]
    exact h x
theorem room_more (M k : Nat) : (k + 1) * (M + 1) = k * (M + 1) + M + 1 := by rw [Nat.add_mul]; omega
theorem RoomOk.below {M k : Nat} {fr : List Nat} {roots n a s : Nat} (h : RoomOk M k fr roots) (hs : s ≤ M) : RoomOk M (k + 1) ((fr.set n (fr.getD a 0 + 1)).set a (fr.getD a 0 + s)) roots :=
  ⟨by rw [room_more]; exact room_set (room_set (fun x => by have := h.f x; omega) n _ (by have := h.f a; omega)) a _ (by have := h.f a; omega), by rw [room_more]; have := h.r; omega⟩
theorem RoomOk.root {M k : Nat} {fr : List Nat} {roots n s : Nat} (h : RoomOk M k fr roots) (hs : s ≤ M) : RoomOk M (k + 1) (fr.set n (roots + 1)) (roots + s) :=
  ⟨by rw [room_more]; exact room_set (fun x => by have := h.f x; omega) n _ (by have := h.r; omega), by rw [room_more]; have := h.r; omega⟩
end Fl

/-- What lay has in memory. -/
structure LayG (w : World) (fb rb ff p z N : Nat) (pl : List Int) (fr : List Nat) (roots : Nat) (W : World) : Prop where
  kp : Blk p (arrZ pl) 3 W
  kf : Blk ff (arrN fr) 3 W
  kr : Blk rb #[I (roots : Int)] 3 W
  kb : Blk fb #[.slice (some ⟨p, 0, none⟩) N N, .slice (some ⟨z, 0, none⟩) N N] 58 W
  gr : w.grownBy W (some p)
  lf : w.heap.size ≤ ff ∧ w.heap.size ≤ rb ∧ w.heap.size ≤ fb
  nf : ff ≠ rb ∧ ff ≠ fb ∧ rb ≠ fb
  pl' : p < w.heap.size
  len : pl.length = N ∧ fr.length = N
section
variable {w W : World} {fb rb ff p z N : Nat} {pl : List Int} {fr : List Nat} {roots : Nat}
theorem grown_setP {w W : World} {p : Nat} (h : w.grownBy W (some p)) (b j : Nat) (hb : b = p ∨ w.heap.size ≤ b) (u : Value) : w.grownBy (W.setCell ⟨b, j, none⟩ u) (some p) :=
  ⟨h.os, h.tape, h.output, by have := h.size; simpa using this, fun k hk hne => by
    refine (Below.heap_setCell _ _ _ _ ?_).trans (h.block k hk hne)
    show k ≠ b
    rcases hb with e | e
    · rw [e]; exact fun q => hne (by rw [q])
    · omega⟩
theorem LayG.setP (h : LayG w fb rb ff p z N pl fr roots W) (j : Nat) (x : Int) : LayG w fb rb ff p z N (pl.set j x) fr roots (W.setCell ⟨p, j, none⟩ (I x)) := by
  have h1 := h.pl'
  obtain ⟨l1, l2, l3⟩ := h.lf
  exact ⟨by have := h.kp.set j (I x); rw [arrZ_set] at this; exact this, h.kf.setOther (by omega) _ _, h.kr.setOther (by omega) _ _, h.kb.setOther (by omega) _ _, grown_setP h.gr _ _ (Or.inl rfl) _, h.lf, h.nf, h.pl', by rw [List.length_set]; exact h.len⟩
theorem LayG.setF (h : LayG w fb rb ff p z N pl fr roots W) (j x : Nat) : LayG w fb rb ff p z N pl (fr.set j x) roots (W.setCell ⟨ff, j, none⟩ (I (x : Int))) := by
  have h1 := h.pl'
  obtain ⟨l1, l2, l3⟩ := h.lf
  exact ⟨h.kp.setOther (by omega) _ _, by have := h.kf.set j (I (x : Int)); rw [arrN_set] at this; exact this, h.kr.setOther (Ne.symm h.nf.1) _ _, h.kb.setOther (Ne.symm h.nf.2.1) _ _, grown_setP h.gr _ _ (Or.inr l1) _, h.lf, h.nf, h.pl', by rw [List.length_set]; exact h.len⟩
theorem LayG.setR (h : LayG w fb rb ff p z N pl fr roots W) (x : Nat) : LayG w fb rb ff p z N pl fr x (W.setCell ⟨rb, 0, none⟩ (I (x : Int))) := by
  have h1 := h.pl'
  obtain ⟨l1, l2, l3⟩ := h.lf
  exact ⟨h.kp.setOther (by omega) _ _, h.kf.setOther h.nf.1 _ _, by have := h.kr.set 0 (I (x : Int)); exact this, h.kb.setOther (Ne.symm h.nf.2.2) _ _, grown_setP h.gr _ _ (Or.inr l2) _, h.lf, h.nf, h.pl', h.len⟩
theorem LayG.heap (h : LayG w fb rb ff p z N pl fr roots W) {W' : World} (e : W'.heap = W.heap) (e2 : W'.os = W.os ∧ W'.tape = W.tape ∧ W'.output = W.output) : LayG w fb rb ff p z N pl fr roots W' := by
  have e' : ∀ k : Nat, W'.heap[k]? = W.heap[k]? := fun k => by rw [e]
  exact ⟨(e' _).trans h.kp, (e' _).trans h.kf, (e' _).trans h.kr, (e' _).trans h.kb, ⟨e2.1.trans h.gr.os, e2.2.1.trans h.gr.tape, e2.2.2.trans h.gr.output, by rw [e]; exact h.gr.size, fun k hk hn => (e' k).trans (h.gr.block k hk hn)⟩, h.lf, h.nf, h.pl', h.len⟩
theorem LayG.drew (h : LayG w fb rb ff p z N pl fr roots W) : LayG w fb rb ff p z N pl fr roots W.drew := h.heap rfl ⟨rfl, rfl, rfl⟩
end

/-- What lay is handed: an order, and who stands above whom. -/
structure LayW (M : Nat) (w : World) (p z og ba N mo : Nat) (L : List Int) (o S : List Nat) : Prop where
  kp : Blk p (arrZ (List.replicate N (-1))) 3 w
  kz : Blk z (arrN S) 3 w
  ka : Blk ba (arrZ L) 3 w
  co : ∀ i, i < mo → w.cell? ⟨og, i, none⟩ = some (I ((o.getD i 0 : Nat) : Int))
  lo : og < w.heap.size
  np : z ≠ p ∧ ba ≠ p ∧ og ≠ p
  om : o.length = mo
  lL : L.length = N
  lS : S.length = N
  lt : ∀ x ∈ o, x < N
  up : ∀ x ∈ o, 0 ≤ abF L x → (abF L x).toNat < N ∧ (abF L x).toNat ≠ x
  sz : ∀ x, S.getD x 0 ≤ M

def LRel (M : Nat) (w : World) (fb rb ff p z N mo : Nat) (L : List Int) (o S : List Nat) (Z : List Int) (iv : Value) (W : World) : Prop :=
  ∃ (k : Nat) (pl : List Int) (fr : List Nat) (roots : Nat), k ≤ mo ∧ iv = I (k : Int) ∧ LayG w fb rb ff p z N pl fr roots W ∧ RoomOk M k fr roots ∧ layF (abF L) S (o.drop k) pl fr roots = Z
def LayT (w : World) (p : Nat) (Z : List Int) (W : World) (e : Ending) : Prop := e = .returned (.tuple #[]) ∧ Blk p (arrZ Z) 3 W ∧ w.grownBy W (some p)

theorem layG_start (w : World) (p z N : Nat) (v : Value) (hp : Blk p (arrZ (List.replicate N (-1))) 3 w) :
    LayG w w.heap.size (w.heap.size + 1 + 1) (w.heap.size + 1) p z N (List.replicate N (-1)) (List.replicate N 0) 0
      ((((w.alloc (.cells #[.slice (some ⟨p, 0, none⟩) N N, .slice (some ⟨z, 0, none⟩) N N] 58)).alloc (.cells (arrZ (List.replicate N 0)) 3)).alloc (.cells #[I 0] 3))) := by
  have hl := hp.lt
  refine ⟨((hp.alloc _).alloc _).alloc _, ?_, Blk.new' _ _ _ (by simp), ((Blk.new _ _ _).alloc _).alloc _, ?_, ⟨by omega, by omega, by omega⟩, ⟨by omega, by omega, by omega⟩, hl, by simp⟩
  · have e : arrN (List.replicate N 0) = arrZ (List.replicate N 0) := by simp
    rw [e]
    exact (Blk.new' _ _ _ (by simp)).alloc _
  · have hb := (((Below.refl w.heap.size w).alloc (Nat.le_refl _) (.cells #[.slice (some ⟨p, 0, none⟩) N N, .slice (some ⟨z, 0, none⟩) N N] 58)).alloc (by simp) (.cells (arrZ (List.replicate N 0)) 3)).alloc (by simp; omega) (.cells #[I 0] 3)
    exact ⟨hb.os, hb.tape, hb.output, hb.size, fun k hk _ => hb.block k hk⟩
end Go.Proofs.Ytomfmkddfgpmkaa
