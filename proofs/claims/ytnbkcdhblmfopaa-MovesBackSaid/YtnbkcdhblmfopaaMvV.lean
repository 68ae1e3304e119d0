/-
  A turn of places, and the turn back: plainly.
-/
import Derived.Test.YtnbkcdhblmfopaaMvG
namespace Go.Proofs.Ytnbkcdhblmfopaa.Mv

def PermF (K : Nat) (A : Nat → Nat) : Prop := (∀ i, i < K → A i < K) ∧ ∀ i j, i < K → j < K → A i = A j → i = j
theorem permF_id (K : Nat) : PermF K fun i => i := ⟨fun _ h => h, fun _ _ _ _ h => h⟩
def swp (A : Nat → Nat) (i j : Nat) : Nat → Nat := up (up A i (A j)) j (A i)
theorem permF_swp {K : Nat} {A : Nat → Nat} (h : PermF K A) {i j : Nat} (hi : i < K) (hj : j < K) : PermF K (swp A i j) := by
  have hv : ∀ x, swp A i j x = if x = j then A i else if x = i then A j else A x := fun x => rfl
  refine ⟨fun x hx => ?_, fun x y hx hy e => ?_⟩
  · rw [hv]
    split
    · exact h.1 i hi
    · split
      · exact h.1 j hj
      · exact h.1 x hx
  · rw [hv, hv] at e
    have inj := h.2
    by_cases x1 : x = j
    · rw [if_pos x1] at e
      by_cases y1 : y = j
      · omega
      · rw [if_neg y1] at e
        by_cases y2 : y = i
        · rw [if_pos y2] at e
          have := inj i j hi hj e
          omega
        · rw [if_neg y2] at e
          have := inj i y hi hy e
          omega
    · rw [if_neg x1] at e
      by_cases x2 : x = i
      · rw [if_pos x2] at e
        by_cases y1 : y = j
        · rw [if_pos y1] at e
          have := inj j i hj hi e
          omega
        · rw [if_neg y1] at e
          by_cases y2 : y = i
          · omega
          · rw [if_neg y2] at e
            have := inj j y hj hy e
            omega
      · rw [if_neg x2] at e
        by_cases y1 : y = j
        · rw [if_pos y1] at e
          have := inj x i hx hi e
          omega
        · rw [if_neg y1] at e
          by_cases y2 : y = i
          · rw [if_pos y2] at e
            have := inj x j hx hj e
            omega
          · rw [if_neg y2] at e
            exact inj x y hx hy e
def theL (A : Nat → Nat) (k : Nat) : List M := (List.range k).map fun i : Nat => (((A i : Nat) : Int), (i : Int))
def bakL (A : Nat → Nat) (k : Nat) : List M := (List.range k).map fun i : Nat => ((i : Int), ((A i : Nat) : Int))
theorem theL_len (A : Nat → Nat) (k : Nat) : (theL A k).length = k := by simp [theL]
theorem bakL_len (A : Nat → Nat) (k : Nat) : (bakL A k).length = k := by simp [bakL]
theorem theL_succ (A : Nat → Nat) (k : Nat) : theL A (k + 1) = theL A k ++ [((A k : Int), (k : Int))] := by simp [theL, List.range_succ]
theorem bakL_succ (A : Nat → Nat) (k : Nat) : bakL A (k + 1) = bakL A k ++ [((k : Int), (A k : Int))] := by simp [bakL, List.range_succ]
theorem theL_at {A : Nat → Nat} {k i : Nat} (h : i < k) : mv (theL A k) i = ((A i : Int), (i : Int)) := by simp [mv, theL, h]
theorem bakL_at {A : Nat → Nat} {k i : Nat} (h : i < k) : mv (bakL A k) i = ((i : Int), (A i : Int)) := by simp [mv, bakL, h]
theorem theL_dis {A : Nat → Nat} {k : Nat} (h : PermF k A) : Dis (theL A k) := fun i j hi hj e => by
  rw [theL_len] at hi hj
  unfold tO at e
  rw [theL_at hi, theL_at hj] at e
  have e' : (A i : Int) = (A j : Int) := e
  exact h.2 i j hi hj (by omega)
theorem bakL_dis (A : Nat → Nat) (k : Nat) : Dis (bakL A k) := fun i j hi hj e => by
  rw [bakL_len] at hi hj
  unfold tO at e
  rw [bakL_at hi, bakL_at hj] at e
  have e' : (i : Int) = (j : Int) := e
  omega
theorem flip_tb (A : Nat → Nat) (k : Nat) : Flip (theL A k) (bakL A k) := ⟨by rw [theL_len, bakL_len], fun i hi => by
  rw [theL_len] at hi
  unfold tO fR
  rw [theL_at hi, bakL_at hi]
  exact ⟨rfl, rfl⟩⟩
/-- There and back again. -/
theorem there_back {A : Nat → Nat} {k : Nat} (h : PermF k A) {a b : List M} (ha : OrdOK (theL A k) (-1) a) (hb : OrdOK (bakL A k) (-1) b) (i : Nat) (hi : i < k) : ex (a ++ b) id (i : Int) = (i : Int) := by
  obtain ⟨_, _, ha⟩ := ha
  obtain ⟨_, _, hb⟩ := hb
  have e1 := hb.ed i (by rw [bakL_len]; exact hi)
  unfold tO fR at e1
  rw [bakL_at hi] at e1
  have e2 := ha.ed i (by rw [theL_len]; exact hi)
  unfold tO fR at e2
  rw [theL_at hi] at e2
  rw [ex_app, ex_comp]
  show ex a id (ex b id (i : Int)) = _
  rw [show ex b id (i : Int) = (A i : Int) from e1]
  exact e2
/-- Places as numbers of a row: the spare one is the last. -/
def plc (k : Nat) (x : Int) : Nat := if x < 0 then k else x.toNat
def InP (k : Nat) (x : Int) : Prop := x = -1 ∨ 0 ≤ x ∧ x < k
theorem plc_inj {k : Nat} {x y : Int} (hx : InP k x) (hy : InP k y) (e : plc k x = plc k y) : x = y := by
  unfold plc at e
  rcases hx with rfl | hx <;> rcases hy with rfl | hy
  · rfl
  · rw [if_pos (by decide), if_neg (by omega)] at e; omega
  · rw [if_neg (by omega), if_pos (by decide)] at e; omega
  · rw [if_neg (by omega), if_neg (by omega)] at e; omega
theorem plc_le {k : Nat} {x : Int} (hx : InP k x) : plc k x ≤ k := by
  unfold plc
  rcases hx with rfl | hx
  · simp
  · split <;> omega
def HasR (k : Nat) (st : Int → Int) (h : Nat → Nat) : Prop := ∀ x, InP k x → h (plc k x) = plc k (st x)
theorem hasR_start (k : Nat) {h : Nat → Nat} (hh : ∀ i, i ≤ k → h i = i) : HasR k id h := fun x hx => hh _ (plc_le hx)
theorem hasR_step {k : Nat} {st : Int → Int} {h : Nat → Nat} (hr : HasR k st h) {m : M} (h1 : InP k m.1) (h2 : InP k m.2) : HasR k (ex1 m st) (up h (plc k m.1) (h (plc k m.2))) := fun x hx => by
  unfold up ex1
  by_cases e : x = m.1
  · subst e
    rw [if_pos rfl, if_pos rfl]
    exact hr _ h2
  · rw [if_neg (fun e2 => e (plc_inj hx h1 e2)), if_neg e]
    exact hr x hx
theorem ord_inP {A : Nat → Nat} {k : Nat} (h : PermF k A) {l : List M} (hl : l = theL A k ∨ l = bakL A k) {out : List M} (ho : OrdOK l (-1) out) : ∀ m ∈ out, InP k m.1 ∧ InP k m.2 := fun m hm => by
  obtain ⟨_, _, ho⟩ := ho
  have hin : ∀ m' ∈ l, InP k m'.1 ∧ InP k m'.2 := fun m' hm' => by
    rcases hl with rfl | rfl
    · obtain ⟨i, hi, rfl⟩ := mem_mv hm'
      rw [theL_len] at hi
      rw [theL_at hi]
      have := h.1 i hi
      exact ⟨Or.inr ⟨by show (0:Int) ≤ (A i : Int); omega, by show (A i : Int) < (k : Int); omega⟩, Or.inr ⟨by show (0:Int) ≤ (i : Int); omega, by show (i : Int) < (k : Int); omega⟩⟩
    · obtain ⟨i, hi, rfl⟩ := mem_mv hm'
      rw [bakL_len] at hi
      rw [bakL_at hi]
      have := h.1 i hi
      exact ⟨Or.inr ⟨by show (0:Int) ≤ (i : Int); omega, by show (i : Int) < (k : Int); omega⟩, Or.inr ⟨by show (0:Int) ≤ (A i : Int); omega, by show (A i : Int) < (k : Int); omega⟩⟩
  obtain ⟨h1, h2⟩ := ho.pl m hm
  refine ⟨?_, ?_⟩
  · rcases h1 with e | ⟨m', h3, e⟩
    · exact Or.inl e
    · rw [← e]; exact (hin m' h3).1
  · rcases h2 with e | ⟨m', h3, e | e⟩
    · exact Or.inl e
    · rw [← e]; exact (hin m' h3).1
    · rw [← e]; exact (hin m' h3).2
end Go.Proofs.Ytnbkcdhblmfopaa.Mv
