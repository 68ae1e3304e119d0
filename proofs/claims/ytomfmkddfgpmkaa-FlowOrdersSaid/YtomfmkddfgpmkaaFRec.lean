/-
  The walk with a row of nodes to go back to is the walk that calls itself, plainly.
-/
import Derived.Test.YtomfmkddfgpmkaaFForest
namespace Go.Proofs.Ytomfmkddfgpmkaa.Fl

/-- A node's ways, one by one. -/
def wkRow (f : Nat → List Bool → List Nat → Option (List Bool × List Nat)) : List Nat → List Bool → List Nat → Option (List Bool × List Nat)
  | [], b, o => some (b, o)
  | y :: l, b, o => if b.getD y false = true then wkRow f l b o else (f y b o).bind (fun r => wkRow f l r.1 r.2)
/-- The walk that calls itself. -/
def wkF (G : List (List Nat)) : Nat → Nat → List Bool → List Nat → Option (List Bool × List Nat)
  | 0, _, _, _ => none
  | F + 1, n, b, o => (wkRow (wkF G F) (row G n) (b.set n true) o).map (fun r => (r.1, r.2 ++ [n]))

/-- What stays while nodes are come to. -/
structure Later (s s' : Ws) (a : Nat) : Prop where
  ent : ∀ x ∈ s.ent, x ∈ s'.ent
  frm : ∀ x ∈ s.ent, s'.frm.getD x (-1) = s.frm.getD x (-1)
  nxt : ∀ x ∈ s.ent, x ≠ a → s'.nxt.getD x 0 = s.nxt.getD x 0
  len : s.ent.length ≤ s'.ent.length
theorem ent_le {G : List (List Nat)} {s : Ws} {P : List Nat} (h : InvP G s P) : s.ent.length ≤ G.length := nodup_len h.nd h.lo

/-- The claim for F. -/
def Sim (G : List (List Nat)) (F : Nat) : Prop := ∀ (s : Ws) (P : List Nat) (a : Nat) (b : List Bool), InvP G s P → WsOk G s → s.cur = (a : Int) → s.nxt.getD a 0 = 0 → b.set a true = s.rch → G.length - s.ent.length < F →
  ∃ k s' P', (∀ i, go G (k + i) s = go G i s') ∧ InvP G s' P' ∧ WsOk G s' ∧ s'.cur = s.frm.getD a (-1) ∧ wkF G F a b s.left = some (s'.rch, s'.left) ∧ Later s s' a

theorem sim_row {G : List (List Nat)} (hG : GOk G) {F : Nat} (hF : Sim G F) : ∀ (l : List Nat) (s : Ws) (P : List Nat) (a : Nat), InvP G s P → WsOk G s → s.cur = (a : Int) → (row G a).drop (s.nxt.getD a 0) = l → G.length - s.ent.length ≤ F →
    ∃ k s' P', (∀ i, go G (k + i) s = go G i s') ∧ InvP G s' P' ∧ WsOk G s' ∧ s'.cur = (a : Int) ∧ s'.nxt.getD a 0 = (row G a).length ∧ wkRow (wkF G F) l s.rch s.left = some (s'.rch, s'.left) ∧ Later s s' a := by
  intro l
  induction l with
  | nil =>
    intro s P a hI hok hc hl _
    have := hok.nx a
    have h2 := congrArg List.length hl
    simp only [List.length_drop, List.length_nil] at h2
    exact ⟨0, s, P, fun i => by rw [Nat.zero_add], hI, hok, hc, by omega, rfl, fun x h => h, fun x _ => rfl, fun x _ _ => rfl, Nat.le_refl _⟩
  | cons y l ih =>
    intro s P a hI hok hc hl hF'
    have hlt : s.nxt.getD a 0 < (row G a).length := by
      have h2 := congrArg List.length hl
      simp only [List.length_drop, List.length_cons] at h2
      omega
    have hne : s.nxt.getD a 0 ≠ (row G a).length := by omega
    have hy : (row G a).getD (s.nxt.getD a 0) 0 = y := by
      rw [List.drop_eq_getElem_cons hlt] at hl
      rw [getD_of _ _ _ hlt]
      exact (List.cons.inj hl).1
    have hl' : (row G a).drop (s.nxt.getD a 0 + 1) = l := by
      rw [List.drop_eq_getElem_cons hlt] at hl
      exact (List.cons.inj hl).2
    have han : a < s.nxt.length := by rw [hok.nl]; exact row_lt (t := (row G a).getD (s.nxt.getD a 0) 0) (getD_mem hlt)
    have hN : ∀ q x, (s.nxt.set a x).getD q 0 = if q = a then x else s.nxt.getD q 0 := fun q x => nxt_set han
    cases hr : s.rch.getD y false with
    | true =>
      have hI1 := hI.old hok hc hne hy hr
      have hok1 := step_ok hG hok (by omega)
      rw [step_old hc hne hy hr] at hok1
      obtain ⟨k, s', P', h1, h2, h3, h4, h5, h6, h7⟩ := ih _ P a hI1 hok1 hc (by show (row G a).drop ((s.nxt.set a (s.nxt.getD a 0 + 1)).getD a 0) = l; rw [hN, if_pos rfl]; exact hl') hF'
      refine ⟨k + 1, s', P', fun i => ?_, h2, h3, h4, h5, ?_, h7.ent, h7.frm, fun x hx hn => ?_, h7.len⟩
      · rw [show k + 1 + i = (k + i) + 1 by omega, go_step (by omega), step_old hc hne hy hr]
        exact h1 i
      · unfold wkRow
        rw [if_pos hr]
        exact h6
      · rw [h7.nxt x hx hn]
        show (s.nxt.set a _).getD x 0 = _
        rw [hN, if_neg hn]
    | false =>
      obtain ⟨P1, hI1⟩ := hI.new hok hG hc hne hy hr
      have hok1 := step_ok hG hok (by omega)
      rw [step_new hc hne hy hr] at hok1
      have hye : y ∉ s.ent := fun q => by rw [(hI.rc y).2 q] at hr; exact absurd hr (by decide)
      have hyn : y < G.length := by rw [← hy]; exact row_getD hG hlt
      have hya : a ∈ s.ent := by
        rcases hI.cr with ⟨q, _⟩ | ⟨c, c1, q, _⟩
        · omega
        · rw [hc] at q
          rw [Int.ofNat_inj.1 q]
          exact getD_mem c1
      have hle : (s.ent ++ [y]).length ≤ G.length := ent_le hI1
      simp only [List.length_append, List.length_singleton] at hle
      have hyF : (s.frm.set y (a : Int)).getD y (-1) = (a : Int) := by
        rw [List.getD_eq_getElem?_getD, List.getElem?_set, if_pos rfl, if_pos (by rw [hok.fl]; exact hyn)]
        rfl
      have hfo : ∀ x, x ∈ s.ent → (s.frm.set y (a : Int)).getD x (-1) = s.frm.getD x (-1) := by
        intro x hx
        rw [List.getD_eq_getElem?_getD, List.getElem?_set, if_neg (fun e => hye (by rw [e]; exact hx)), ← List.getD_eq_getElem?_getD]
      obtain ⟨k1, s1, P2, g1, g2, g3, g4, g5, g6⟩ := hF _ P1 y s.rch hI1 hok1 rfl (by
        show (s.nxt.set a _).getD y 0 = 0
        rw [hN, if_neg (fun e => hye (by rw [e]; exact hya))]
        exact hI.nz y hye) rfl (by show G.length - (s.ent ++ [y]).length < F; simp only [List.length_append, List.length_singleton]; omega)
      have hcur : s1.cur = (a : Int) := g4.trans hyF
      have hnx : s1.nxt.getD a 0 = s.nxt.getD a 0 + 1 := by
        rw [g6.nxt a (List.mem_append_left _ hya) (fun e => hye (by rw [← e]; exact hya))]
        show (s.nxt.set a _).getD a 0 = _
        rw [hN, if_pos rfl]
      have hlen1 : s.ent.length + 1 ≤ s1.ent.length := by have := g6.len; simpa using this
      obtain ⟨k, s', P', h1, h2, h3, h4, h5, h6, h7⟩ := ih s1 P2 a g2 g3 hcur (by rw [hnx]; exact hl') (by omega)
      refine ⟨k1 + k + 1, s', P', fun i => ?_, h2, h3, h4, h5, ?_, fun x hx => h7.ent x (g6.ent x (List.mem_append_left _ hx)), fun x hx => ?_, fun x hx hn => ?_, by have := h7.len; omega⟩
      · rw [show k1 + k + 1 + i = (k1 + (k + i)) + 1 by omega, go_step (by omega), step_new hc hne hy hr, g1]
        exact h1 i
      · unfold wkRow
        rw [if_neg (by rw [hr]; decide)]
        have g5' : wkF G F y s.rch s.left = some (s1.rch, s1.left) := g5
        rw [g5']
        exact h6
      · rw [h7.frm x (g6.ent x (List.mem_append_left _ hx)), g6.frm x (List.mem_append_left _ hx)]
        exact hfo x hx
      · rw [h7.nxt x (g6.ent x (List.mem_append_left _ hx)) hn, g6.nxt x (List.mem_append_left _ hx) (fun e => hye (by rw [← e]; exact hx))]
        show (s.nxt.set a _).getD x 0 = _
        rw [hN, if_neg hn]

theorem sim_all {G : List (List Nat)} (hG : GOk G) (F : Nat) : Sim G F := by
  induction F with
  | zero => intro s P a b _ _ _ _ _ h; omega
  | succ F ih =>
    intro s P a b hI hok hc hn hb hF
    obtain ⟨k, s', P', h1, h2, h3, h4, h5, h6, h7⟩ := sim_row hG ih (row G a) s P a hI hok hc (by rw [hn]; rfl) (by omega)
    have hya : a ∈ s.ent := by
      rcases hI.cr with ⟨q, _⟩ | ⟨c, c1, q, _⟩
      · omega
      · rw [hc] at q
        rw [Int.ofNat_inj.1 q]
        exact getD_mem c1
    have hok1 := step_ok hG h3 (by omega)
    have hI1 := h2.leave h4 h5
    rw [step_last h4 h5] at hok1
    refine ⟨k + 1, _, P', fun i => ?_, hI1, hok1, h7.frm a hya, ?_, h7.ent, h7.frm, h7.nxt, h7.len⟩
    · rw [show k + 1 + i = k + (i + 1) by omega, h1 (i + 1), go_step (by omega), step_last h4 h5]
    · unfold wkF
      rw [hb, h6]
      rfl

/-- THE WALKS LEAVE THE NODES IN ONE ORDER. -/
theorem walk_rec {G : List (List Nat)} (hG : GOk G) (hn : 0 < G.length) {K : Nat} {s : Ws} (hs : walkF G K = some s) : ∃ b, wkF G (G.length + 1) 0 (List.replicate G.length false) [] = some (b, s.left) := by
  obtain ⟨k, s', P', h1, h2, h3, h4, h5, h6⟩ := sim_all hG (G.length + 1) (start G) [0] 0 (List.replicate G.length false) (start_inv hn) (start_ok hn) rfl (by
    show (List.replicate G.length 0).getD 0 0 = 0
    rw [List.getD_eq_getElem?_getD, List.getElem?_replicate]
    split <;> rfl) rfl (by omega)
  have hcur : s'.cur < 0 := by
    rw [h4]
    show ((List.replicate G.length (0 : Int)).set 0 (-1)).getD 0 (-1) < 0
    rw [List.getD_eq_getElem?_getD, List.getElem?_set, if_pos rfl, if_pos (by simpa using hn)]
    decide
  -- more fuel changes nothing
  have more : ∀ i j (t r : Ws), go G i t = some r → go G (i + j) t = some r := by
    intro i
    induction i with
    | zero => intro j t r h; exact absurd h (by simp [go])
    | succ i ih =>
      intro j t r h
      rw [show i + 1 + j = (i + j) + 1 by omega]
      by_cases q : t.cur < 0
      · rw [go_end q] at h ⊢; exact h
      · rw [go_step (by omega)] at h ⊢
        exact ih j _ r h
  have e1 : go G (k + 1) (start G) = some s' := by rw [h1 1]; exact go_end hcur
  have e2 := more (k + 1) K _ _ e1
  have e3 := more K (k + 1) _ _ hs
  rw [show K + (k + 1) = k + 1 + K by omega, e2] at e3
  have : s' = s := Option.some.inj e3
  subst this
  exact ⟨_, h5⟩
end Go.Proofs.Ytomfmkddfgpmkaa.Fl
