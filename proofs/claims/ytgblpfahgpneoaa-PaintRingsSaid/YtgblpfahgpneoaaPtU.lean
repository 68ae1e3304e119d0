/-
  What is so while nodes are painted, one by one.
-/
import Derived.Test.YtgblpfahgpneoaaPtW
import Derived.Test.YtgblpfahgpneoaaPtD
namespace Go.Proofs.Ytgblpfahgpneoaa
open Go Go.RowKit

/-- The nodes of out are painted. -/
structure PvI (n : Nat) (nr lk : Nat → List Nat) (k : Nat) (out : List Nat) (C Wh : Nat → Int) (T : Nat → Nat) : Prop where
  ok : PtOK n nr lk k C Wh T
  un : ∀ v, v < n → v ∉ out → C v = -1
  ta : ∀ v, v < n → ∀ c, tk T v c = true ↔ ∃ x ∈ nr v, C x = (c : Int)
  pr : ∀ v, v < n → ∀ x ∈ nr v, C v ≠ -1 → C v ≠ C x
  fu : ∀ v, v < n → v ∈ out → C v = -1 → ∀ c, c < k → ∃ x ∈ nr v, C x = (c : Int)
  li : (∀ v, v < n → nr v = []) → 0 < k → ∀ v, v < n → v ∈ out → C v = 0
theorem PvI.start {n : Nat} {nr lk : Nat → List Nat} {k : Nat} (hn : n ≤ 60000) (hk : k ≤ 16) (h1 : ∀ v, v < n → (nr v).length ≤ 60000 ∧ ∀ x ∈ nr v, x < n) (h2 : ∀ v, v < n → (lk v).length ≤ 60000 ∧ ∀ x ∈ lk v, x < n) {C Wh : Nat → Int} (hC : ∀ v, v < n → C v = -1) (hW : ∀ v, v < n → Wh v = -1) :
    PvI n nr lk k [] C Wh fun _ => 0 := by
  refine ⟨⟨hn, hk, h1, h2, fun v hv => by rw [hC v hv]; omega, fun v hv => by rw [hW v hv]; omega, fun v _ => by decide⟩, fun v hv _ => hC v hv, fun v hv c => ?_, fun v hv x _ h => absurd (hC v hv) h, fun v _ h => (by cases h), fun _ _ v _ h => (by cases h)⟩
  constructor
  · intro h; unfold tk at h; simp at h
  · rintro ⟨x, hx, h⟩
    rw [hC x ((h1 v hv).2 x hx)] at h
    omega
theorem sum_le {f g : Nat → Int} : ∀ {l : List Nat}, (∀ x ∈ l, f x ≤ g x) → (l.map f).sum ≤ (l.map g).sum
  | [], _ => Int.le_refl _
  | x :: l, h => by
    have h1 := h x (by simp)
    have h2 := sum_le (l := l) (fun y hy => h y (List.mem_cons_of_mem _ hy))
    simp only [List.map_cons, List.sum_cons]
    omega
theorem PvI.step {n : Nat} {nr lk : Nat → List Nat} {k : Nat} {out : List Nat} {C Wh : Nat → Int} {T : Nat → Nat} (hg : Po.Gr n nr) (h : PvI n nr lk k out C Wh T) {v : Nat} (hv : v < n) (ho : v ∉ out) {b : Int} (hb : BestP (fun c => !tk T v c) (fun c => slS C T k (lk v) c - wnS C Wh (nr v) c) k b) :
    PvI n nr lk k (out ++ [v]) (if b = -1 then C else up C v b) (if b = -1 then Wh else whT Wh (lk v) b) (if b = -1 then T else orT T (nr v) b.toNat) := by
  have hCv := h.un v hv ho
  by_cases hb1 : b = -1
  · rw [if_pos hb1, if_pos hb1, if_pos hb1]
    refine ⟨h.ok, fun x hx hxo => h.un x hx (fun e => hxo (List.mem_append_left _ e)), h.ta, h.pr, fun x hx hxo hc c hck => ?_, fun hnr hk0 x hx hxo => ?_⟩
    · rcases List.mem_append.1 hxo with e | e
      · exact h.fu x hx e hc c hck
      · rw [List.mem_singleton.1 e]
        have h1 := hb.no hb1 c hck
        exact (h.ta v hv c).1 (by simpa using h1)
    · exfalso
      have h1 := hb.no hb1 0 hk0
      obtain ⟨y, hy, _⟩ := (h.ta v hv 0).1 (by simpa using h1)
      rw [hnr v hv] at hy
      cases hy
  · rw [if_neg hb1, if_neg hb1, if_neg hb1]
    obtain ⟨m, rfl⟩ : ∃ m : Nat, b = (m : Int) := ⟨b.toNat, by have := hb.lo; omega⟩
    have hmk : m < k := by have := hb.hi; omega
    have hm16 : m < 16 := by have := h.ok.hk; omega
    obtain ⟨y1, y2, y3⟩ := hb.yes m rfl
    have hfree : ∀ x ∈ nr v, C x ≠ (m : Int) := fun x hx e => by
      have := (h.ta v hv m).2 ⟨x, hx, e⟩
      rw [this] at y1
      cases y1
    have hnv : v ∉ nr v := hg.ns v hv
    have up_v : ∀ x, up C v (m : Int) x = if x = v then (m : Int) else C x := fun x => rfl
    rw [Int.toNat_natCast]
    have hT : ∀ x, x < n → ∀ c, tk (orT T (nr v) m) x c = true ↔ ∃ y ∈ nr x, up C v (m : Int) y = (c : Int) := fun x hx c => by
      rw [orT_bit, Bool.or_eq_true, Bool.and_eq_true, decide_eq_true_eq, decide_eq_true_eq, h.ta x hx c]
      constructor
      · rintro (⟨y, hy, e⟩ | ⟨e1, e2⟩)
        · refine ⟨y, hy, ?_⟩
          rw [up_v, if_neg (fun e3 => by rw [e3, hCv] at e; omega)]
          exact e
        · refine ⟨v, hg.sy v hv x e1, ?_⟩
          rw [up_v, if_pos rfl, e2]
      · rintro ⟨y, hy, e⟩
        rw [up_v] at e
        by_cases e3 : y = v
        · rw [if_pos e3] at e
          rw [e3] at hy
          exact Or.inr ⟨hg.sy x hx v hy, by omega⟩
        · rw [if_neg e3] at e
          exact Or.inl ⟨y, hy, e⟩
    refine ⟨⟨h.ok.hn, h.ok.hk, h.ok.nl, h.ok.ll, fun x hx => ?_, fun x hx => ?_, fun x hx => orT_lt (h.ok.t x hx) hm16⟩, fun x hx hxo => ?_, hT, fun x hx y hy hc => ?_, fun x hx hxo hc c hck => ?_, fun hnr hk0 x hx hxo => ?_⟩
    · rw [up_v]
      split
      · omega
      · exact h.ok.c x hx
    · unfold whT
      split
      · omega
      · exact h.ok.w x hx
    · rw [up_v, if_neg (fun e => hxo (by rw [e]; simp))]
      exact h.un x hx (fun e => hxo (List.mem_append_left _ e))
    · have hxy : x ≠ y := fun e => hg.ns x hx (by rw [← e] at hy; exact hy)
      rw [up_v] at hc
      rw [up_v, up_v]
      by_cases e1 : x = v
      · rw [if_pos e1, if_neg (fun e => hxy (by rw [e1, e]))]
        rw [e1] at hy
        exact fun e => hfree y hy e.symm
      · rw [if_neg e1] at hc ⊢
        by_cases e2 : y = v
        · rw [if_pos e2]
          rw [e2] at hy
          exact hfree x (hg.sy x hx v hy)
        · rw [if_neg e2]
          exact h.pr x hx y hy hc
    · rw [up_v] at hc
      by_cases e1 : x = v
      · rw [if_pos e1] at hc; omega
      · rw [if_neg e1] at hc
        rcases List.mem_append.1 hxo with e | e
        · obtain ⟨y, hy, e2⟩ := h.fu x hx e hc c hck
          refine ⟨y, hy, ?_⟩
          rw [up_v, if_neg (fun e3 => by rw [e3, hCv] at e2; omega)]
          exact e2
        · exact absurd (List.mem_singleton.1 e) e1
    · rw [up_v]
      by_cases e1 : x = v
      · rw [if_pos e1]
        have hf0 : (fun c => !tk T v c) 0 = true := by
          show (!tk T v 0) = true
          rw [Bool.not_eq_true']
          cases hq : tk T v 0 with
          | false => rfl
          | true =>
            obtain ⟨y, hy, _⟩ := (h.ta v hv 0).1 hq
            rw [hnr v hv] at hy
            cases hy
        have hC0 : ∀ y ∈ lk v, C y = -1 ∨ C y = 0 := fun y hy => by
          have hyn := (h.ok.ll v hv).2 y hy
          by_cases e : y ∈ out
          · exact Or.inr (h.li hnr hk0 y hyn e)
          · exact Or.inl (h.un y hyn e)
        have hT0 : ∀ y ∈ lk v, ∀ c, tk T y c = false := fun y hy c => by
          have hyn := (h.ok.ll v hv).2 y hy
          cases hq : tk T y c with
          | false => rfl
          | true =>
            obtain ⟨z, hz, _⟩ := (h.ta y hyn c).1 hq
            rw [hnr y hyn] at hz
            cases hz
        have hle : slS C T k (lk v) m - wnS C Wh (nr v) m ≤ slS C T k (lk v) 0 - wnS C Wh (nr v) 0 := by
          rw [hnr v hv]
          have h1 : slS C T k (lk v) m ≤ slS C T k (lk v) 0 := by
            unfold slS
            rw [if_pos hmk, if_pos hk0]
            refine sum_le fun y hy => ?_
            unfold dS
            rcases hC0 y hy with e | e
            · rw [if_neg (show ¬ C y = (m : Int) by omega), if_neg (show ¬ C y = ((0 : Nat) : Int) by omega), if_pos ⟨e, hT0 y hy m⟩, if_pos ⟨e, hT0 y hy 0⟩]
              exact Int.le_refl _
            · rw [if_pos (show C y = ((0 : Nat) : Int) by omega)]
              split
              · exact Int.le_refl _
              · rw [if_neg (show ¬ (C y = -1 ∧ tk T y m = false) from fun e9 => by omega)]; omega
          have h2 : ∀ c, wnS C Wh [] c = 0 := fun c => rfl
          rw [h2, h2]
          omega
        by_cases hm0 : m = 0
        · omega
        · have := y3 0 (by omega) hf0
          omega
      · rw [if_neg e1]
        rcases List.mem_append.1 hxo with e | e
        · exact h.li hnr hk0 x hx e
        · exact absurd (List.mem_singleton.1 e) e1

/-- The colours are right. -/
structure Col (n k : Nat) (l : List P2) (C : Nat → Int) : Prop where
  bo : ∀ v, v < n → -1 ≤ C v ∧ C v < k
  pr : ∀ v, v < n → ∀ x, Nei l v x → C v ≠ -1 → C v ≠ C x
  fu : ∀ v, v < n → C v = -1 → ∀ c, c < k → ∃ x, Nei l v x ∧ C x = (c : Int)
  li : (∀ v x, ¬ Nei l v x) → 0 < k → ∀ v, v < n → C v = 0
theorem PvI.col {n k : Nat} {l : List P2} {lk : Nat → List Nat} {out : List Nat} {C Wh : Nat → Int} {T : Nat → Nat} (hA : AreN n l) (h : PvI n (fun t => dd (nbs l t)) lk k out C Wh T) (hall : ∀ v, v < n → v ∈ out) : Col n k l C := by
  have hm : ∀ v x, x ∈ dd (nbs l v) ↔ Nei l v x := fun v x => by rw [mem_dd, mem_nbs hA]
  refine ⟨h.ok.c, fun v hv x hx => h.pr v hv x ((hm v x).2 hx), fun v hv hc c hck => ?_, fun hn hk v hv => h.li (fun v _ => ?_) hk v hv (hall v hv)⟩
  · obtain ⟨x, hx, e⟩ := h.fu v hv (hall v hv) hc c hck
    exact ⟨x, (hm v x).1 hx, e⟩
  · apply List.eq_nil_iff_forall_not_mem.2
    intro x hx
    exact hn v x ((hm v x).1 hx)
end Go.Proofs.Ytgblpfahgpneoaa
