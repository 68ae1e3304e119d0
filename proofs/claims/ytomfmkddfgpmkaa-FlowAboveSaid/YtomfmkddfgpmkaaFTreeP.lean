/-
  What is above is a tree: going up meets just those that dominate.
-/
import Derived.Test.YtomfmkddfgpmkaaFRows5
import Derived.Test.YtomfmkddfgpmkaaFOvW
namespace Go.Proofs.Ytomfmkddfgpmkaa.Fl
open Go Go.RowKit

theorem ovF_up {G : List (List Nat)} {L : List Int} {o : List Nat} (hL : L.length = G.length) (h : OrdOk G.length (abF L) o) {a : Nat} (ha : a < G.length) : ∀ (k : Nat) (A : List Nat) (x : Nat) (B : List Nat), o = A ++ x :: B → A.length < k → (ovF L G.length (a : Int) k (x : Int) = true ↔ ∃ c : Nat, abF L x = (c : Int) ∧ Up (abF L) a c)
  | 0, _, _, _, _, hk => absurd hk (by omega)
  | k + 1, A, x, B, ho, hk => by
    have hx : x < G.length := h.lt x (by rw [ho]; simp)
    have hp : plB G.length (x : Int) = true := by unfold plB; simp; exact hx
    have hab : abF L x = L.getD x 0 := abF_eq (by rw [hL]; exact hx)
    show (if plB G.length (x : Int) = true then (if (a : Int) = L.getD ((x : Int)).toNat 0 then plB G.length (a : Int) else ovF L G.length (a : Int) k (L.getD ((x : Int)).toNat 0)) else false) = true ↔ _
    rw [if_pos hp, Int.toNat_natCast, ← hab]
    rcases h.up A x B ho with e | ⟨c, e, hc⟩
    · rw [e, if_neg (by omega)]
      have e2 : ovF L G.length (a : Int) k (-1) = false := by
        cases k with
        | zero => rfl
        | succ k =>
          show (if plB G.length (-1) = true then _ else false) = false
          rw [if_neg (by unfold plB; simp)]
      rw [e2]
      simp
      try (intro c e3; omega)
    · rw [e]
      obtain ⟨A1, A2, hA⟩ := List.append_of_mem hc
      have ho2 : o = A1 ++ c :: (A2 ++ x :: B) := by rw [ho, hA]; simp
      have hk2 : A1.length < k := by rw [hA] at hk; simp at hk; omega
      by_cases hac : (a : Int) = (c : Int)
      · rw [if_pos hac]
        have e3 : a = c := by omega
        constructor
        · intro _
          exact ⟨c, rfl, by rw [e3]; exact .refl⟩
        · intro _
          unfold plB
          simp
          exact ha
      · rw [if_neg hac, ovF_up hL h ha k A1 c _ ho2 hk2]
        constructor
        · rintro ⟨d, e4, h4⟩
          exact ⟨c, rfl, .up e4 h4⟩
        · rintro ⟨c', e4, h4⟩
          obtain rfl : c = c' := by omega
          cases h4 with
          | refl => exact absurd rfl hac
          | up e5 h5 => exact ⟨_, e5, h5⟩
theorem abv_facts {G : List (List Nat)} (hG : GOk G) (h0 : G.length ≠ 0) : AboveOk G (abvL G) ∧ OrdOk G.length (abF (abvL G)) (orderL G) ∧ ∀ b, Rch G b → ∀ a, Up (abF (abvL G)) a b ↔ DomG G a b := by
  obtain ⟨_, ⟨P, hP⟩, hok, hc⟩ := wlk_inv hG (Nat.pos_of_ne_zero h0)
  have hab : AboveOk G (abvL G) := by unfold abvL; rw [if_neg h0]; exact hP.above hok hc
  have hor : orderL G = (wlk G).left.reverse := by unfold orderL; rw [if_neg h0]
  exact ⟨hab, by rw [hor]; exact ord_ok hP hok hc hab, fun b hb a => up_dom hP hok hc hab b hb a⟩
theorem ov_dom {G : List (List Nat)} (hG : GOk G) (h0 : G.length ≠ 0) {a b : Nat} (ha : Rch G a) (hb : Rch G b) : ovW (abvL G) G.length (a : Int) (b : Int) = true ↔ DomG G a b := by
  obtain ⟨hab, hord, hup⟩ := abv_facts hG h0
  obtain ⟨hnd, hmem, hlt⟩ := order_mem hG h0
  rw [← hup b hb a]
  unfold ovW
  by_cases e : (a : Int) = (b : Int)
  · rw [if_pos e]
    have : a = b := by omega
    subst this
    exact ⟨fun _ => .refl, fun _ => rfl⟩
  · rw [if_neg e]
    obtain ⟨A, B, hA⟩ := List.append_of_mem ((hmem b).2 hb)
    have hl : A.length < G.length := by
      have h1 := nodup_lt hnd hlt
      rw [hA] at h1
      simp at h1
      omega
    rw [ovF_up hab.1 hord (hlt a ((hmem a).2 ha)) G.length A b B hA hl]
    constructor
    · rintro ⟨c, e1, h1⟩
      exact .up e1 h1
    · intro h1
      cases h1 with
      | refl => exact absurd rfl e
      | up e1 h1 => exact ⟨_, e1, h1⟩
/-- What is above a node, and whether it is reached. -/
theorem abv_rch {G : List (List Nat)} (hG : GOk G) (h0 : G.length ≠ 0) {b : Nat} (hb : b < G.length) : (b = 0 ∨ 0 ≤ (abvL G).getD b 0) ↔ Rch G b := by
  obtain ⟨hab, _, _⟩ := abv_facts hG h0
  constructor
  · rintro (e | h)
    · rw [e]; exact .refl _ trivial
    · rcases hab.2 b hb with ⟨e, _⟩ | ⟨a, _, h1, _⟩
      · omega
      · exact h1.1.2.1
  · intro hr
    by_cases e : b = 0
    · exact Or.inl e
    · right
      rcases hab.2 b hb with ⟨_, h1⟩ | ⟨a, e1, _, _⟩
      · exfalso
        refine h1 0 ⟨⟨.refl _ trivial, hr, fun h => ?_⟩, fun e2 => e e2.symm⟩
        exact h.start_ok rfl
      · rw [e1]; omega
end Go.Proofs.Ytomfmkddfgpmkaa.Fl
