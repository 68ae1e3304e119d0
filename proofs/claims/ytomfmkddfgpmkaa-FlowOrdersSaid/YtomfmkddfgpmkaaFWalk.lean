/-
  A walk through a graph, as a plain function.
-/
import Derived.Test.YtomfmkddfgpmkaaFGen
namespace Go.Proofs.Ytomfmkddfgpmkaa.Fl

/-- A walk's state. -/
structure Ws where
  ent : List Nat
  left : List Nat
  frm : List Int
  rch : List Bool
  nxt : List Nat
  cur : Int

def row (G : List (List Nat)) (i : Nat) : List Nat := G.getD i []
/-- One round: a node is left, or a way of it is gone. -/
def step (G : List (List Nat)) (s : Ws) : Ws :=
  let a := s.cur.toNat
  if s.nxt.getD a 0 = (row G a).length then { s with left := s.left ++ [a], cur := s.frm.getD a (-1) }
  else
    let tt := (row G a).getD (s.nxt.getD a 0) 0
    let nx := s.nxt.set a (s.nxt.getD a 0 + 1)
    if s.rch.getD tt false then { s with nxt := nx }
    else { ent := s.ent ++ [tt], left := s.left, frm := s.frm.set tt (a : Int), rch := s.rch.set tt true, nxt := nx, cur := (tt : Int) }
def go (G : List (List Nat)) : Nat → Ws → Option Ws
  | 0, _ => none
  | k + 1, s => if s.cur < 0 then some s else go G k (step G s)
def start (G : List (List Nat)) : Ws :=
  ⟨[0], [], (List.replicate G.length 0).set 0 (-1), (List.replicate G.length false).set 0 true, List.replicate G.length 0, 0⟩
def walkF (G : List (List Nat)) (k : Nat) : Option Ws := go G k (start G)

/-- No way leads where there is no node. -/
def GOk (G : List (List Nat)) : Prop := ∀ i, ∀ x ∈ row G i, x < G.length

structure WsOk (G : List (List Nat)) (s : Ws) : Prop where
  fl : s.frm.length = G.length
  rl : s.rch.length = G.length
  nl : s.nxt.length = G.length
  lo : -1 ≤ s.cur
  hi : s.cur < (G.length : Int)
  nx : ∀ i, s.nxt.getD i 0 ≤ (row G i).length
  fr : ∀ x ∈ s.frm, -1 ≤ x ∧ x < (G.length : Int)

theorem start_ok {G : List (List Nat)} (h : 0 < G.length) : WsOk G (start G) := by
  refine ⟨by simp [start], by simp [start], by simp [start], by simp [start], by simp [start]; omega, fun i => ?_, fun x hx => ?_⟩
  · show (List.replicate G.length 0).getD i 0 ≤ _
    rw [List.getD_eq_getElem?_getD, List.getElem?_replicate]
    split <;> simp
  · have hx' : x ∈ (List.replicate G.length (0 : Int)).set 0 (-1) := hx
    rcases List.mem_or_eq_of_mem_set hx' with h1 | h1
    · have := List.eq_of_mem_replicate h1; omega
    · omega

theorem row_getD {G : List (List Nat)} (hG : GOk G) {i j : Nat} (h : j < (row G i).length) : (row G i).getD j 0 < G.length := by
  rw [List.getD_eq_getElem?_getD, List.getElem?_eq_getElem h]
  exact hG i _ (List.getElem_mem h)

theorem step_ok {G : List (List Nat)} (hG : GOk G) {s : Ws} (h : WsOk G s) (hc : 0 ≤ s.cur) : WsOk G (step G s) := by
  have ha : s.cur.toNat < G.length := by have := h.hi; omega
  unfold step
  by_cases h1 : s.nxt.getD s.cur.toNat 0 = (row G s.cur.toNat).length
  · rw [if_pos h1]
    have hm : s.frm.getD s.cur.toNat (-1) ∈ s.frm := by
      rw [List.getD_eq_getElem?_getD, List.getElem?_eq_getElem (by rw [h.fl]; exact ha)]
      exact List.getElem_mem _
    have := h.fr _ hm
    exact ⟨h.fl, h.rl, h.nl, this.1, this.2, h.nx, h.fr⟩
  · rw [if_neg h1]
    have hlt : s.nxt.getD s.cur.toNat 0 < (row G s.cur.toNat).length := by have := h.nx s.cur.toNat; omega
    have hto := row_getD hG hlt
    have hnx : ∀ i, (s.nxt.set s.cur.toNat (s.nxt.getD s.cur.toNat 0 + 1)).getD i 0 ≤ (row G i).length := by
      intro i
      rw [List.getD_eq_getElem?_getD, List.getElem?_set]
      by_cases hi : s.cur.toNat = i
      · subst hi
        rw [if_pos rfl]
        split
        · exact hlt
        · exact Nat.zero_le _
      · rw [if_neg hi, ← List.getD_eq_getElem?_getD]
        exact h.nx i
    simp only
    split
    · exact ⟨h.fl, h.rl, by rw [List.length_set]; exact h.nl, h.lo, h.hi, hnx, h.fr⟩
    · refine ⟨by rw [List.length_set]; exact h.fl, by rw [List.length_set]; exact h.rl, by rw [List.length_set]; exact h.nl, ?_, ?_, hnx, fun x hx => ?_⟩
      · exact Int.le_trans (by decide) (Int.natCast_nonneg _)
      · exact Int.ofNat_lt.2 hto
      · rcases List.mem_or_eq_of_mem_set hx with h2 | h2
        · exact h.fr x h2
        · rw [h2]
          exact ⟨Int.le_trans (by decide) (Int.natCast_nonneg _), Int.ofNat_lt.2 ha⟩

theorem step_last {G : List (List Nat)} {s : Ws} {a : Nat} (ha : s.cur = (a : Int)) (h : s.nxt.getD a 0 = (row G a).length) : step G s = { s with left := s.left ++ [a], cur := s.frm.getD a (-1) } := by
  have e : s.cur.toNat = a := by omega
  unfold step
  simp only [e]
  rw [if_pos h]
theorem step_old {G : List (List Nat)} {s : Ws} {a t : Nat} (ha : s.cur = (a : Int)) (h : s.nxt.getD a 0 ≠ (row G a).length) (ht : (row G a).getD (s.nxt.getD a 0) 0 = t) (hr : s.rch.getD t false = true) : step G s = { s with nxt := s.nxt.set a (s.nxt.getD a 0 + 1) } := by
  have e : s.cur.toNat = a := by omega
  unfold step
  simp only [e]
  rw [if_neg h, ht, if_pos hr]
theorem step_new {G : List (List Nat)} {s : Ws} {a t : Nat} (ha : s.cur = (a : Int)) (h : s.nxt.getD a 0 ≠ (row G a).length) (ht : (row G a).getD (s.nxt.getD a 0) 0 = t) (hr : s.rch.getD t false = false) :
    step G s = { ent := s.ent ++ [t], left := s.left, frm := s.frm.set t (a : Int), rch := s.rch.set t true, nxt := s.nxt.set a (s.nxt.getD a 0 + 1), cur := (t : Int) } := by
  have e : s.cur.toNat = a := by omega
  unfold step
  simp only [e]
  rw [if_neg h, ht, if_neg (by rw [hr]; decide)]
theorem go_step {G : List (List Nat)} {s : Ws} {k : Nat} (h : 0 ≤ s.cur) : go G (k + 1) s = go G k (step G s) := by
  show (if s.cur < 0 then some s else go G k (step G s)) = _
  rw [if_neg (by omega)]
theorem go_end {G : List (List Nat)} {s : Ws} {k : Nat} (h : s.cur < 0) : go G (k + 1) s = some s := by
  show (if s.cur < 0 then some s else go G k (step G s)) = _
  rw [if_pos h]
end Go.Proofs.Ytomfmkddfgpmkaa.Fl
