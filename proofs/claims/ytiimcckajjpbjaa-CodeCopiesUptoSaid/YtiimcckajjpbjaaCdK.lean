/-
  Memory that is alike but for numbers.
-/
import Derived.Test.YtiimcckajjpbjaaCdM
namespace Go.Proofs.Ytiimcckajjpbjaa
open Go Go.RowKit Cd

/-- The same, or two numbers of one kind. -/
def SimV (a b : Value) : Prop := a = b ∨ ∃ k x y, a = .int k x ∧ b = .int k y
theorem SimV.tr {a b c : Value} (h1 : SimV a b) (h2 : SimV b c) : SimV a c := by
  rcases h1 with rfl | ⟨k, x, y, rfl, rfl⟩
  · exact h2
  · rcases h2 with rfl | ⟨k', x', y', e, rfl⟩
    · exact Or.inr ⟨k, x, y, rfl, rfl⟩
    · injection e with e1 e2
      subst e1
      exact Or.inr ⟨k, x, y', rfl, rfl⟩
/-- Later memory: what was is there and can be written where it could; only numbers may be others, and none below base. -/
def SimW (base : Nat) (W W' : World) : Prop := Below base W W' ∧ (∀ n, FreeB W n → FreeB W' n) ∧ ∀ a v, W.cell? a = some v → ∃ v', W'.cell? a = some v' ∧ SimV v v'
section
variable {base : Nat} {W W' W2 : World}
theorem SimW.refl (base : Nat) (W : World) : SimW base W W := ⟨Below.refl _ _, fun _ h => h, fun _ v h => ⟨v, h, Or.inl rfl⟩⟩
theorem SimW.tr (h1 : SimW base W W') (h2 : SimW base W' W2) : SimW base W W2 :=
  ⟨h1.1.trans h2.1, fun n h => h2.2.1 n (h1.2.1 n h), fun a v h => by
    obtain ⟨v1, h3, h4⟩ := h1.2.2 a v h
    obtain ⟨v2, h5, h6⟩ := h2.2.2 a v1 h3
    exact ⟨v2, h5, h4.tr h6⟩⟩
theorem SimW.grow (hb : Below W.heap.size W W') (h : base ≤ W.heap.size) : SimW base W W' :=
  ⟨hb.mono h, fun n hn => hn.keep (hb.block n (by obtain ⟨cs, E, e⟩ := hn; exact (Array.getElem?_eq_some_iff.1 e).1)), fun a v hc => ⟨v, cellA_below hb (World.block_lt_of_cell? _ _ hc) hc, Or.inl rfl⟩⟩
theorem SimW.set {a : Addr} {k : IntKind} {x : Int} (hb : base ≤ a.block) (hc : W.cell? a = some (.int k x)) (y : Int) : SimW base W (W.setCell a (.int k y)) := by
  refine ⟨(Below.refl _ _).setCell hb _, fun n hn => ?_, fun p v hp => ?_⟩
  · obtain ⟨cs, E, e⟩ := hn
    by_cases hna : n = a.block
    · subst hna
      exact ⟨if a.spot.isSome then cs else cs.setIfInBounds a.off (.int k y), E, by simp only [World.setCell, Array.getElem?_modify, if_pos, e, Option.map_some]⟩
    · exact ⟨cs, E, (Below.heap_setCell _ _ _ _ hna).trans e⟩
  · by_cases hpa : p = a
    · subst hpa
      rw [hc] at hp
      obtain rfl := Option.some.inj hp
      exact ⟨_, World.cell?_setCell_same _ _ _ hc, Or.inr ⟨k, x, y, rfl, rfl⟩⟩
    · exact ⟨v, (World.cell?_setCell_other W a p (.int k y) (fun e => hpa e.symm)).trans hp, Or.inl rfl⟩
theorem SimW.slice (h : SimW base W W') {p : Addr} {a : Option Addr} {n c : Nat} (hc : W.cell? p = some (.slice a n c)) : W'.cell? p = some (.slice a n c) := by
  obtain ⟨v, h1, h2⟩ := h.2.2 _ _ hc
  rcases h2 with rfl | ⟨k, x, y, e, _⟩
  · exact h1
  · cases e
theorem SimW.int (h : SimW base W W') {p : Addr} {k : IntKind} {x : Int} (hc : W.cell? p = some (.int k x)) : ∃ y, W'.cell? p = some (.int k y) := by
  obtain ⟨v, h1, h2⟩ := h.2.2 _ _ hc
  rcases h2 with rfl | ⟨k', x', y, e, rfl⟩
  · exact ⟨x, h1⟩
  · injection e with e1 e2
    subst e1
    exact ⟨y, h1⟩
theorem SimW.thaw (h : SimW base W W') {p : Addr} (hf : FreeB W p.block) : W'.frozen? p = false := (h.2.1 _ hf).thaw
end
end Go.Proofs.Ytiimcckajjpbjaa
