/-
  Joined: FNodes.
-/
import Derived.Test.YtjlmkcamefaodaaJ12
/-! FNodes: Joined: FDfs, FNode. -/

namespace Go.Proofs.Ytjlmkcamefaodaa.Fl

abbrev pf (P : List Nat) : Nat → Nat := fun i => P.getD i 0

/-- A walk's state, and of each number from which number it was come to. -/
structure InvP (G : List (List Nat)) (s : Ws) (P : List Nat) : Prop where
  pl : P.length = s.ent.length
  p0 : P.getD 0 0 = 0
  e0 : s.ent.getD 0 0 = 0
  ne : 0 < s.ent.length
  plt : ∀ i, 0 < i → i < s.ent.length → P.getD i 0 < i
  pfr : ∀ i, 0 < i → i < s.ent.length → s.frm.getD (s.ent.getD i 0) (-1) = ((s.ent.getD (P.getD i 0) 0 : Nat) : Int) ∧ s.ent.getD i 0 ∈ row G (s.ent.getD (P.getD i 0) 0)
  fr0 : s.frm.getD 0 (-1) = -1
  lo : ∀ x ∈ s.ent, x < G.length
  nd : s.ent.Nodup
  rc : ∀ x, s.rch.getD x false = true ↔ x ∈ s.ent
  ld : s.left.Nodup
  ls : ∀ x ∈ s.left, x ∈ s.ent ∧ s.nxt.getD x 0 = (row G x).length
  cr : (s.cur = -1 ∧ ∀ i, i < s.ent.length → s.ent.getD i 0 ∈ s.left) ∨
    ∃ c, c < s.ent.length ∧ s.cur = ((s.ent.getD c 0 : Nat) : Int) ∧ (∀ i, i < s.ent.length → (s.ent.getD i 0 ∈ s.left ↔ ¬ Anc (pf P) i c)) ∧ ∀ u v, Anc (pf P) u c → u ≤ v → v < s.ent.length → Anc (pf P) u v
  on : ∀ i j, i < s.ent.length → j < s.nxt.getD (s.ent.getD i 0) 0 → ∃ v, v < s.ent.length ∧ s.ent.getD v 0 = (row G (s.ent.getD i 0)).getD j 0 ∧ (i < v → Anc (pf P) i v)
  nz : ∀ x, x ∉ s.ent → s.nxt.getD x 0 = 0
  bt : ∀ u v w, w < s.ent.length → Anc (pf P) u w → u ≤ v → v ≤ w → Anc (pf P) u v
  or : ∀ p i, p < s.left.length → i < s.ent.length → s.left.getD p 0 = s.ent.getD i 0 → ∀ y ∈ row G (s.ent.getD i 0), y ∈ s.left.take p ∨ ∃ v, v < s.ent.length ∧ y = s.ent.getD v 0 ∧ Anc (pf P) v i
  dn : ∀ p i w, p < s.left.length → i < s.ent.length → w < s.ent.length → s.left.getD p 0 = s.ent.getD i 0 → Anc (pf P) i w → w ≠ i → s.ent.getD w 0 ∈ s.left.take p

theorem getD_mem {l : List Nat} {i : Nat} (h : i < l.length) : l.getD i 0 ∈ l := by rw [getD_of l i 0 h]; exact List.getElem_mem h
theorem mem_getD {l : List Nat} {x : Nat} (h : x ∈ l) : ∃ i, i < l.length ∧ l.getD i 0 = x := by
  obtain ⟨i, hi, e⟩ := List.getElem_of_mem h
  exact ⟨i, hi, by rw [getD_of l i 0 hi]; exact e⟩
theorem getD_inj {l : List Nat} (h : l.Nodup) {i j : Nat} (hi : i < l.length) (hj : j < l.length) (e : l.getD i 0 = l.getD j 0) : i = j := by
  rw [getD_of l i 0 hi, getD_of l j 0 hj] at e
  exact (List.getElem_inj h).1 e
theorem getD_app {l m : List Nat} {i : Nat} (h : i < l.length) : (l ++ m).getD i 0 = l.getD i 0 := by
  rw [List.getD_eq_getElem?_getD, List.getD_eq_getElem?_getD, List.getElem?_append_left h]
theorem getD_last {l : List Nat} {x : Nat} : (l ++ [x]).getD l.length 0 = x := by
  rw [List.getD_eq_getElem?_getD, List.getElem?_append_right (Nat.le_refl _)]
  simp

theorem start_inv {G : List (List Nat)} (hn : 0 < G.length) : InvP G (start G) [0] := by
  have e1 : ∀ i, i < (start G).ent.length → i = 0 := fun i hi => by simp [start] at hi; exact hi
  refine ⟨rfl, rfl, rfl, by simp [start], fun i h1 h2 => by have := e1 i h2; omega, fun i h1 h2 => by have := e1 i h2; omega, ?_, ?_, by simp [start], ?_, by simp [start], fun x hx => by simp [start] at hx, Or.inr ⟨0, by simp [start], rfl, ?_, ?_⟩, ?_, ?_, ?_, ?_, ?_⟩
  · show ((List.replicate G.length (0 : Int)).set 0 (-1)).getD 0 (-1) = -1
    rw [List.getD_eq_getElem?_getD, List.getElem?_set]
    simp [hn]
  · intro x hx
    simp [start] at hx
    omega
  · intro x
    show ((List.replicate G.length false).set 0 true).getD x false = true ↔ x ∈ [0]
    rw [List.getD_eq_getElem?_getD, List.getElem?_set]
    by_cases h : 0 = x
    · subst h; simp [hn]
    · rw [if_neg h, List.getElem?_replicate]
      split <;> simp <;> omega
  · intro i hi
    have := e1 i hi
    subst this
    constructor
    · intro h; simp [start] at h
    · intro h; exact absurd (.refl _) h
  · intro u v h1 h2 h3
    have := e1 v h3
    subst this
    obtain rfl : u = 0 := by omega
    exact .refl _
  · intro i j hi hj
    have := e1 i hi
    subst this
    simp [start, hn] at hj
  · intro x _
    show (List.replicate G.length 0).getD x 0 = 0
    rw [List.getD_eq_getElem?_getD, List.getElem?_replicate]
    split <;> rfl
  · intro u v w hw h1 h2 h3
    have := e1 w hw
    obtain rfl : u = v := by omega
    exact .refl _
  · intro p i hp
    simp [start] at hp
  · intro p i w hp
    simp [start] at hp

section
variable {G : List (List Nat)} {s : Ws} {P : List Nat}

theorem InvP.hp (h : InvP G s P) : ∀ i, 0 < i → i < s.ent.length → pf P i < i := h.plt

/-- A node is left. -/
theorem InvP.leave (h : InvP G s P) {a : Nat} (ha : s.cur = (a : Int)) (hx : s.nxt.getD a 0 = (row G a).length) :
    InvP G { s with left := s.left ++ [a], cur := s.frm.getD a (-1) } P := by
  rcases h.cr with ⟨hc, _⟩ | ⟨c, hc, e, hl, hs⟩
  · rw [ha] at hc; omega
  obtain rfl : a = s.ent.getD c 0 := by rw [ha] at e; exact Int.ofNat_inj.1 e
  have hnot : s.ent.getD c 0 ∉ s.left := fun q => (hl c hc).1 q (.refl _)
  refine ⟨h.pl, h.p0, h.e0, h.ne, h.plt, h.pfr, h.fr0, h.lo, h.nd, h.rc, ?_, ?_, ?_, h.on, h.nz, h.bt, ?_, ?_⟩
  · show (s.left ++ [s.ent.getD c 0]).Nodup
    rw [List.nodup_append]
    refine ⟨h.ld, by simp, fun x hx y hy => ?_⟩
    simp at hy
    intro q
    rw [q, hy] at hx
    exact hnot (by simpa using hx)
  · intro x hx'
    rcases List.mem_append.1 hx' with q | q
    · exact h.ls x q
    · rw [List.mem_singleton.1 q]
      exact ⟨getD_mem hc, hx⟩
  · show (s.frm.getD (s.ent.getD c 0) (-1) = -1 ∧ _) ∨ _
    rcases Nat.eq_zero_or_pos c with z | z
    · subst z
      refine Or.inl ⟨by rw [h.e0]; exact h.fr0, fun i hi => ?_⟩
      show s.ent.getD i 0 ∈ s.left ++ [s.ent.getD 0 0]
      by_cases q : i = 0
      · subst q; simp
      · have : ¬ Anc (pf P) i 0 := fun an => by have := an.le h.hp hc; omega
        exact List.mem_append_left _ ((hl i hi).2 this)
    · have hpc := h.plt c z hc
      obtain ⟨f1, _⟩ := h.pfr c z hc
      refine Or.inr ⟨P.getD c 0, by show _ < s.ent.length; omega, f1, fun i hi => ?_, fun u v hu h1 h2 => hs u v (.up z hu) h1 h2⟩
      show s.ent.getD i 0 ∈ s.left ++ [s.ent.getD c 0] ↔ ¬ Anc (pf P) i (P.getD c 0)
      rw [List.mem_append, List.mem_singleton, hl i hi]
      constructor
      · rintro (q | q)
        · exact fun an => q (.up z an)
        · have := getD_inj h.nd hi hc q
          subst this
          exact fun an => by have := an.le h.hp (w := P.getD i 0) (by omega); omega
      · intro q
        by_cases w : i = c
        · exact Or.inr (by rw [w])
        · left
          intro an
          cases an with
          | refl => exact w rfl
          | up _ an => exact q an
  · intro p i hp hi he y hy
    have hp' : p < s.left.length + 1 := by simpa using hp
    show y ∈ (s.left ++ [s.ent.getD c 0]).take p ∨ _
    rcases Nat.lt_or_ge p s.left.length with q | q
    · have he' : s.left.getD p 0 = s.ent.getD i 0 := by rw [← he]; exact (getD_app q).symm
      rw [List.take_append_of_le_length (Nat.le_of_lt q)]
      exact h.or p i q hi he' y hy
    · obtain rfl : p = s.left.length := by omega
      have he' : s.ent.getD c 0 = s.ent.getD i 0 := by rw [← he]; exact getD_last.symm
      have := getD_inj h.nd hc hi he'
      subst this
      rw [List.take_append_of_le_length (Nat.le_refl _), List.take_length]
      obtain ⟨j, hj, rfl⟩ := mem_getD hy
      obtain ⟨v, hv, ev, _⟩ := h.on c j hc (by rw [hx]; exact hj)
      by_cases w : (s.ent.getD v 0) ∈ s.left
      · exact Or.inl (ev ▸ w)
      · refine Or.inr ⟨v, hv, ev.symm, ?_⟩
        rw [hl v hv] at w
        exact Classical.not_not.1 w
  · intro p i w hp hi hw he han hne
    have hp' : p < s.left.length + 1 := by simpa using hp
    show s.ent.getD w 0 ∈ (s.left ++ [s.ent.getD c 0]).take p
    rcases Nat.lt_or_ge p s.left.length with q | q
    · have he' : s.left.getD p 0 = s.ent.getD i 0 := by rw [← he]; exact (getD_app q).symm
      rw [List.take_append_of_le_length (Nat.le_of_lt q)]
      exact h.dn p i w q hi hw he' han hne
    · obtain rfl : p = s.left.length := by omega
      have he' : s.ent.getD c 0 = s.ent.getD i 0 := by rw [← he]; exact getD_last.symm
      have := getD_inj h.nd hc hi he'
      subst this
      rw [List.take_append_of_le_length (Nat.le_refl _), List.take_length, hl w hw]
      intro q2
      have l1 := han.le h.hp hw
      have l2 := q2.le h.hp hc
      omega

/-- A way is gone. -/
theorem nxt_set {nxt : List Nat} {a x q : Nat} (ha : a < nxt.length) : (nxt.set a x).getD q 0 = if q = a then x else nxt.getD q 0 := getD_set' _ _ _ _ ha
theorem InvP.old (h : InvP G s P) {a t : Nat} (hok : WsOk G s) (ha : s.cur = (a : Int)) (hx : s.nxt.getD a 0 ≠ (row G a).length) (ht : (row G a).getD (s.nxt.getD a 0) 0 = t) (hr : s.rch.getD t false = true) :
    InvP G { s with nxt := s.nxt.set a (s.nxt.getD a 0 + 1) } P := by
  rcases h.cr with ⟨hc, _⟩ | ⟨c, hc, e, hl, hs⟩
  · rw [ha] at hc; omega
  obtain rfl : a = s.ent.getD c 0 := by rw [ha] at e; exact Int.ofNat_inj.1 e
  have hnot : s.ent.getD c 0 ∉ s.left := fun q => (hl c hc).1 q (.refl _)
  have hN : ∀ q, (s.nxt.set (s.ent.getD c 0) (s.nxt.getD (s.ent.getD c 0) 0 + 1)).getD q 0 = if q = s.ent.getD c 0 then s.nxt.getD (s.ent.getD c 0) 0 + 1 else s.nxt.getD q 0 := fun q => nxt_set (by rw [hok.nl]; exact h.lo _ (getD_mem hc))
  refine ⟨h.pl, h.p0, h.e0, h.ne, h.plt, h.pfr, h.fr0, h.lo, h.nd, h.rc, h.ld, ?_, Or.inr ⟨c, hc, e, hl, hs⟩, ?_, ?_, h.bt, h.or, h.dn⟩
  · intro x hx'
    refine ⟨(h.ls x hx').1, ?_⟩
    show (s.nxt.set _ _).getD x 0 = _
    rw [hN, if_neg (fun q => hnot (by rw [← q]; exact hx'))]
    exact (h.ls x hx').2
  · intro i j hi hj
    have hj' : j < (s.nxt.set (s.ent.getD c 0) (s.nxt.getD (s.ent.getD c 0) 0 + 1)).getD (s.ent.getD i 0) 0 := hj
    rw [hN] at hj'
    by_cases q : s.ent.getD i 0 = s.ent.getD c 0
    · rw [if_pos q] at hj'
      rcases Nat.lt_or_ge j (s.nxt.getD (s.ent.getD c 0) 0) with w | w
      · exact h.on i j hi (by rw [q]; exact w)
      · obtain rfl : j = s.nxt.getD (s.ent.getD c 0) 0 := by omega
        have := getD_inj h.nd hi hc q
        subst this
        obtain ⟨v, hv, ev⟩ := mem_getD ((h.rc t).1 hr)
        exact ⟨v, hv, ev.trans ht.symm, fun hiv => hs i v (.refl _) (Nat.le_of_lt hiv) hv⟩
    · rw [if_neg q] at hj'
      exact h.on i j hi hj'
  · intro x hx'
    show (s.nxt.set _ _).getD x 0 = 0
    rw [hN, if_neg (fun q => hx' (by rw [q]; exact getD_mem hc))]
    exact h.nz x hx'

theorem InvP.new (h : InvP G s P) {a t : Nat} (hok : WsOk G s) (hG : GOk G) (ha : s.cur = (a : Int)) (hx : s.nxt.getD a 0 ≠ (row G a).length) (ht : (row G a).getD (s.nxt.getD a 0) 0 = t) (hr : s.rch.getD t false = false) :
    ∃ P', InvP G { ent := s.ent ++ [t], left := s.left, frm := s.frm.set t (a : Int), rch := s.rch.set t true, nxt := s.nxt.set a (s.nxt.getD a 0 + 1), cur := (t : Int) } P' := by
  rcases h.cr with ⟨hc, _⟩ | ⟨c, hc, e, hl, hs⟩
  · rw [ha] at hc; omega
  obtain rfl : a = s.ent.getD c 0 := by rw [ha] at e; exact Int.ofNat_inj.1 e
  have hnot : s.ent.getD c 0 ∉ s.left := fun q => (hl c hc).1 q (.refl _)
  have hN : ∀ q, (s.nxt.set (s.ent.getD c 0) (s.nxt.getD (s.ent.getD c 0) 0 + 1)).getD q 0 = if q = s.ent.getD c 0 then s.nxt.getD (s.ent.getD c 0) 0 + 1 else s.nxt.getD q 0 := fun q => nxt_set (by rw [hok.nl]; exact h.lo _ (getD_mem hc))
  have hlt : s.nxt.getD (s.ent.getD c 0) 0 < (row G (s.ent.getD c 0)).length := by have := hok.nx (s.ent.getD c 0); omega
  have htn : t < G.length := by rw [← ht]; exact row_getD hG hlt
  have htm : t ∈ row G (s.ent.getD c 0) := by rw [← ht]; exact getD_mem hlt
  have hte : t ∉ s.ent := fun q => by rw [(h.rc t).2 q] at hr; exact absurd hr (by decide)
  have hF : ∀ q, q ∈ s.ent → (s.frm.set t ((s.ent.getD c 0 : Nat) : Int)).getD q (-1) = s.frm.getD q (-1) := by
    intro q hq
    rw [List.getD_eq_getElem?_getD, List.getElem?_set, if_neg (fun w => hte (by rw [w]; exact hq)), ← List.getD_eq_getElem?_getD]
  have hFt : (s.frm.set t ((s.ent.getD c 0 : Nat) : Int)).getD t (-1) = ((s.ent.getD c 0 : Nat) : Int) := by
    rw [List.getD_eq_getElem?_getD, List.getElem?_set, if_pos rfl, if_pos (by rw [hok.fl]; exact htn)]
    rfl
  have hE : ∀ i, i < s.ent.length → (s.ent ++ [t]).getD i 0 = s.ent.getD i 0 := fun i hi => getD_app hi
  have hEl : (s.ent ++ [t]).getD s.ent.length 0 = t := getD_last
  have hP : ∀ i, i < s.ent.length → (P ++ [c]).getD i 0 = P.getD i 0 := fun i hi => getD_app (by rw [h.pl]; exact hi)
  have hPl : (P ++ [c]).getD s.ent.length 0 = c := by rw [← h.pl]; exact getD_last
  have hA : ∀ u v, v < s.ent.length → (Anc (pf (P ++ [c])) u v ↔ Anc (pf P) u v) := by
    intro u v hv
    constructor
    · exact fun q => Anc.congr (m := s.ent.length) (fun i i0 hi => by show (P ++ [c]).getD i 0 < i; rw [hP i hi]; exact h.plt i i0 hi) (fun i hi => (hP i hi).symm) q hv
    · exact fun q => Anc.congr (m := s.ent.length) h.hp (fun i hi => hP i hi) q hv
  have hAl : ∀ u, Anc (pf (P ++ [c])) u s.ent.length ↔ u = s.ent.length ∨ Anc (pf P) u c := by
    intro u
    constructor
    · intro q
      generalize hm : s.ent.length = m at q
      cases q with
      | refl => exact Or.inl rfl
      | up _ q =>
        right
        have q' : Anc (pf (P ++ [c])) u ((P ++ [c]).getD m 0) := q
        rw [← hm, hPl, hA u c hc] at q'
        exact q'
    · rintro (q | q)
      · rw [q]; exact .refl _
      · refine .up h.ne ?_
        show Anc (pf (P ++ [c])) u ((P ++ [c]).getD s.ent.length 0)
        rw [hPl, hA u c hc]
        exact q
  have hcase : ∀ i, i < (s.ent ++ [t]).length → i < s.ent.length ∨ i = s.ent.length := fun i hi => by simp at hi; omega
  refine ⟨P ++ [c], ⟨by simp [h.pl], ?_, ?_, by simp, ?_, ?_, ?_, ?_, ?_, ?_, h.ld, ?_, Or.inr ⟨s.ent.length, by simp, ?_, ?_, ?_⟩, ?_, ?_, ?_, ?_, ?_⟩⟩
  · rw [hP 0 h.ne]; exact h.p0
  · show (s.ent ++ [t]).getD 0 0 = 0
    rw [hE 0 h.ne]; exact h.e0
  · intro i i0 hi
    rcases hcase i hi with q | q
    · rw [hP i q]; exact h.plt i i0 q
    · rw [q, hPl]; exact hc
  · intro i i0 hi
    show (s.frm.set t ((s.ent.getD c 0 : Nat) : Int)).getD ((s.ent ++ [t]).getD i 0) (-1) = (((s.ent ++ [t]).getD ((P ++ [c]).getD i 0) 0 : Nat) : Int) ∧ (s.ent ++ [t]).getD i 0 ∈ row G ((s.ent ++ [t]).getD ((P ++ [c]).getD i 0) 0)
    rcases hcase i hi with q | q
    · have := h.plt i i0 q
      rw [hP i q, hE i q, hE _ (by omega), hF _ (getD_mem q)]
      exact h.pfr i i0 q
    · rw [q, hPl, hEl, hE c hc, hFt]
      exact ⟨rfl, htm⟩
  · show (s.frm.set t _).getD 0 (-1) = -1
    rw [hF 0 (by rw [← h.e0]; exact getD_mem h.ne)]
    exact h.fr0
  · intro x hx'
    rcases List.mem_append.1 hx' with q | q
    · exact h.lo x q
    · rw [List.mem_singleton.1 q]; exact htn
  · show (s.ent ++ [t]).Nodup
    rw [List.nodup_append]
    refine ⟨h.nd, by simp, fun x hx y hy => ?_⟩
    simp at hy
    intro q
    rw [q, hy] at hx
    exact hte hx
  · intro x
    show (s.rch.set t true).getD x false = true ↔ x ∈ s.ent ++ [t]
    rw [List.getD_eq_getElem?_getD, List.getElem?_set, List.mem_append, List.mem_singleton]
    by_cases q : t = x
    · subst q; rw [if_pos rfl, if_pos (by rw [hok.rl]; exact htn)]; simp
    · rw [if_neg q, ← List.getD_eq_getElem?_getD, h.rc x]
      exact ⟨Or.inl, fun w => w.resolve_right (fun w => q w.symm)⟩
  · intro x hx'
    refine ⟨List.mem_append_left _ (h.ls x hx').1, ?_⟩
    show (s.nxt.set _ _).getD x 0 = _
    rw [hN, if_neg (fun q => hnot (by rw [← q]; exact hx'))]
    exact (h.ls x hx').2
  · rw [hEl]
  · intro i hi
    show (s.ent ++ [t]).getD i 0 ∈ s.left ↔ ¬ Anc (pf (P ++ [c])) i s.ent.length
    rw [hAl]
    rcases hcase i hi with q | q
    · rw [hE i q, hl i q]
      exact ⟨fun w z => z.elim (fun z => by omega) w, fun w z => w (Or.inr z)⟩
    · rw [q, hEl]
      exact ⟨fun w => absurd (h.ls t w).1 hte, fun w => absurd (Or.inl rfl) w⟩
  · intro u v hu h1 h2
    rw [hAl] at hu
    rcases hcase v h2 with q | q
    · rcases hu with w | w
      · omega
      · rw [hA u v q]; exact hs u v w h1 q
    · rw [q, hAl]; exact hu
  · intro i j hi hj
    have hj' : j < (s.nxt.set (s.ent.getD c 0) (s.nxt.getD (s.ent.getD c 0) 0 + 1)).getD ((s.ent ++ [t]).getD i 0) 0 := hj
    show ∃ v, v < (s.ent ++ [t]).length ∧ (s.ent ++ [t]).getD v 0 = (row G ((s.ent ++ [t]).getD i 0)).getD j 0 ∧ (i < v → Anc (pf (P ++ [c])) i v)
    rw [hN] at hj'
    rcases hcase i hi with hq | hq
    · rw [hE i hq] at hj' ⊢
      have old : j < s.nxt.getD (s.ent.getD i 0) 0 → ∃ v, v < (s.ent ++ [t]).length ∧ (s.ent ++ [t]).getD v 0 = (row G (s.ent.getD i 0)).getD j 0 ∧ (i < v → Anc (pf (P ++ [c])) i v) := by
        intro w
        obtain ⟨v, v1, v2, v3⟩ := h.on i j hq w
        exact ⟨v, by simp; omega, by rw [hE v v1]; exact v2, fun z => by rw [hA i v v1]; exact v3 z⟩
      by_cases q : s.ent.getD i 0 = s.ent.getD c 0
      · rw [if_pos q] at hj'
        rcases Nat.lt_or_ge j (s.nxt.getD (s.ent.getD c 0) 0) with w | w
        · exact old (by rw [q]; exact w)
        · obtain rfl : j = s.nxt.getD (s.ent.getD c 0) 0 := by omega
          have := getD_inj h.nd hq hc q
          subst this
          exact ⟨s.ent.length, by simp, by rw [hEl]; exact ht.symm, fun _ => by rw [hAl]; exact Or.inr (.refl _)⟩
      · rw [if_neg q] at hj'
        exact old hj'
    · rw [hq, hEl, if_neg (fun q => hte (by rw [q]; exact getD_mem hc))] at hj'
      have hz := h.nz t hte
      omega
  · intro x hx'
    have hx1 : x ∉ s.ent ++ [t] := hx'
    show (s.nxt.set _ _).getD x 0 = 0
    rw [List.mem_append] at hx1
    rw [hN, if_neg (fun q => hx1 (Or.inl (by rw [q]; exact getD_mem hc)))]
    exact h.nz x (fun q => hx1 (Or.inl q))
  · intro u v w hw hu h1 h2
    rcases hcase w hw with q | q
    · rw [hA u v (by omega)]
      rw [hA u w q] at hu
      exact h.bt u v w q hu h1 h2
    · rw [q] at h2 hu
      rw [hAl] at hu
      rcases Nat.lt_or_ge v s.ent.length with z | z
      · rw [hA u v z]
        rcases hu with y | y
        · omega
        · exact hs u v y h1 z
      · obtain rfl : v = s.ent.length := by omega
        rw [hAl]; exact hu
  · intro p i hp hi he y hy
    have he' : s.left.getD p 0 = (s.ent ++ [t]).getD i 0 := he
    have hy' : y ∈ row G ((s.ent ++ [t]).getD i 0) := hy
    show y ∈ s.left.take p ∨ ∃ v, v < (s.ent ++ [t]).length ∧ y = (s.ent ++ [t]).getD v 0 ∧ Anc (pf (P ++ [c])) v i
    rcases hcase i hi with q | q
    · rw [hE i q] at he' hy'
      rcases h.or p i hp q he' y hy' with w | ⟨v, v1, v2, v3⟩
      · exact Or.inl w
      · exact Or.inr ⟨v, by simp; omega, by rw [hE v v1]; exact v2, by rw [hA v i q]; exact v3⟩
    · rw [q, hEl] at he'
      exact absurd (h.ls _ (getD_mem hp)).1 (by rw [he']; exact hte)
  · intro p i w hp hi hw he han hne
    have he' : s.left.getD p 0 = (s.ent ++ [t]).getD i 0 := he
    show (s.ent ++ [t]).getD w 0 ∈ s.left.take p
    rcases hcase i hi with q | q
    · rw [hE i q] at he'
      rcases hcase w hw with z | z
      · rw [hE w z]
        rw [hA i w z] at han
        exact h.dn p i w hp q z he' han hne
      · rw [z, hAl] at han
        rcases han with y | y
        · omega
        · exact absurd y ((hl i q).1 (by rw [← he']; exact getD_mem hp))
    · rw [q, hEl] at he'
      exact absurd (h.ls _ (getD_mem hp)).1 (by rw [he']; exact hte)
end

/-- How much a walk has before it. -/
def restE (G : List (List Nat)) (nxt : List Nat) : Nat := ((List.range G.length).map (fun i => (row G i).length - nxt.getD i 0)).sum
def rest (G : List (List Nat)) (s : Ws) : Nat := restE G s.nxt + (G.length - s.ent.length) + (G.length - s.left.length)
theorem sum_lt (f g : Nat → Nat) (n a : Nat) (ha : a < n) (h1 : g a < f a) (h2 : ∀ i, i ≠ a → g i = f i) : ((List.range n).map g).sum < ((List.range n).map f).sum := by
  induction n with
  | zero => omega
  | succ n ih =>
    rw [List.range_succ, List.map_append, List.map_append, List.sum_append, List.sum_append]
    simp
    by_cases e : a = n
    · subst e
      have : (List.range a).map g = (List.range a).map f := List.map_congr_left (fun i hi => h2 i (by have := List.mem_range.1 hi; omega))
      rw [this]; omega
    · have := ih (by omega)
      rw [h2 n (Ne.symm e)]
      omega
theorem nodup_len {l : List Nat} {n : Nat} (h : l.Nodup) (hb : ∀ x ∈ l, x < n) : l.length ≤ n := by
  induction n generalizing l with
  | zero =>
    match l, hb with
    | [], _ => exact Nat.le_refl _
    | x :: r, hb => have := hb x (by simp); omega
  | succ n ih =>
    by_cases hm : n ∈ l
    · have h1 := ih (h.erase n) (fun x hx => by
        have := (List.Nodup.mem_erase_iff h).1 hx
        have := hb x this.2
        omega)
      rw [List.length_erase_of_mem hm] at h1
      omega
    · have := ih h (fun x hx => by
        have h1 := hb x hx
        have : x ≠ n := fun e => hm (e ▸ hx)
        omega)
      omega
theorem step_inv {G : List (List Nat)} (hG : GOk G) {s : Ws} {P : List Nat} (h : InvP G s P) (hok : WsOk G s) (hc : 0 ≤ s.cur) : ∃ P', InvP G (step G s) P' ∧ rest G (step G s) < rest G s := by
  obtain ⟨a, ha⟩ : ∃ a : Nat, s.cur = (a : Int) := ⟨s.cur.toNat, by omega⟩
  have han : a < G.length := by have := hok.hi; omega
  by_cases h1 : s.nxt.getD a 0 = (row G a).length
  · rw [step_last ha h1]
    have q := h.leave ha h1
    refine ⟨P, q, ?_⟩
    have : (s.left ++ [a]).length ≤ G.length := nodup_len q.ld (fun x hx => h.lo x (q.ls x hx).1)
    simp only [List.length_append, List.length_singleton] at this
    unfold rest
    simp only [List.length_append, List.length_singleton]
    omega
  · have hlt : s.nxt.getD a 0 < (row G a).length := by have := hok.nx a; omega
    have hm : restE G (s.nxt.set a (s.nxt.getD a 0 + 1)) < restE G s.nxt := by
      refine sum_lt _ _ _ a han ?_ ?_
      · rw [nxt_set (by rw [hok.nl]; exact han), if_pos rfl]; omega
      · intro i hi
        rw [nxt_set (by rw [hok.nl]; exact han), if_neg hi]
    obtain ⟨t, ht⟩ : ∃ t, (row G a).getD (s.nxt.getD a 0) 0 = t := ⟨_, rfl⟩
    cases hr : s.rch.getD t false with
    | true =>
      rw [step_old ha h1 ht hr]
      refine ⟨P, h.old hok ha h1 ht hr, ?_⟩
      unfold rest
      show restE G (s.nxt.set a (s.nxt.getD a 0 + 1)) + (G.length - s.ent.length) + (G.length - s.left.length) < _
      omega
    | false =>
      rw [step_new ha h1 ht hr]
      obtain ⟨P', q⟩ := h.new hok hG ha h1 ht hr
      refine ⟨P', q, ?_⟩
      unfold rest
      show restE G (s.nxt.set a (s.nxt.getD a 0 + 1)) + (G.length - (s.ent ++ [t]).length) + (G.length - s.left.length) < _
      simp only [List.length_append, List.length_singleton]
      omega
theorem go_inv {G : List (List Nat)} (hG : GOk G) {k : Nat} {s : Ws} {P : List Nat} (h : InvP G s P) (hok : WsOk G s) (hk : rest G s < k) : ∃ s' P', go G k s = some s' ∧ InvP G s' P' ∧ WsOk G s' ∧ s'.cur = -1 := by
  induction k generalizing s P with
  | zero => omega
  | succ k ih =>
    by_cases hc : s.cur < 0
    · rw [go_end hc]
      exact ⟨s, P, rfl, h, hok, by have := hok.lo; omega⟩
    · rw [go_step (by omega)]
      obtain ⟨P', a, b⟩ := step_inv hG h hok (by omega)
      exact ih a (step_ok hG hok (by omega)) (by omega)
/-- THE WALK ENDS, and has found all this. -/
theorem walk_inv {G : List (List Nat)} (hG : GOk G) (hn : 0 < G.length) {k : Nat} (hk : rest G (start G) < k) : ∃ s P, walkF G k = some s ∧ InvP G s P ∧ WsOk G s ∧ s.cur = -1 :=
  go_inv hG (start_inv hn) (start_ok hn) hk
end Go.Proofs.Ytjlmkcamefaodaa.Fl

/-! A graph's nodes: which are reached, which dominate which, which is the nearest above: what the walk's numbers say of them. -/

namespace Go.Proofs.Ytjlmkcamefaodaa.Fl

/-- A way goes from the one node to the other. -/
def EG (G : List (List Nat)) (x y : Nat) : Prop := y ∈ row G x
/-- A node is reached. -/
def Rch (G : List (List Nat)) (x : Nat) : Prop := Av (EG G) (fun _ => True) 0 x
/-- The one dominates the other; both are reached. -/
def DomG (G : List (List Nat)) (a b : Nat) : Prop := Rch G a ∧ Rch G b ∧ ¬ Av (EG G) (fun y => y ≠ a) 0 b
def SD (G : List (List Nat)) (a b : Nat) : Prop := DomG G a b ∧ a ≠ b
/-- Of each node the nearest above it, or -1. -/
def AboveOk (G : List (List Nat)) (L : List Int) : Prop := L.length = G.length ∧ ∀ b, b < G.length → (L.getD b 0 = -1 ∧ ∀ a, ¬ SD G a b) ∨ ∃ a : Nat, L.getD b 0 = (a : Int) ∧ SD G a b ∧ ∀ a', SD G a' b → DomG G a' a

/-- A way by the walk's numbers. -/
def EN (G : List (List Nat)) (ent : List Nat) (u v : Nat) : Prop := u < ent.length ∧ v < ent.length ∧ ent.getD v 0 ∈ row G (ent.getD u 0)

section
variable {G : List (List Nat)} {s : Ws} {P : List Nat}

theorem InvP.clos (h : InvP G s P) (hc : s.cur = -1) {u y : Nat} (hu : u < s.ent.length) (hy : y ∈ row G (s.ent.getD u 0)) : ∃ v, v < s.ent.length ∧ s.ent.getD v 0 = y ∧ (u < v → Anc (pf P) u v) := by
  rcases h.cr with ⟨_, hl⟩ | ⟨c, _, e, _⟩
  · obtain ⟨j, hj, rfl⟩ := mem_getD hy
    exact h.on u j hu (by rw [(h.ls _ (hl u hu)).2]; exact hj)
  · rw [hc] at e; omega
theorem InvP.nums3 (h : InvP G s P) (hc : s.cur = -1) : Nums3 s.ent.length (EN G s.ent) (pf P) := by
  refine ⟨h.hp, fun i i0 hi => ⟨by have := h.plt i i0 hi; show P.getD i 0 < _; omega, hi, (h.pfr i i0 hi).2⟩, fun u v he => ⟨he.1, he.2.1⟩, ?_, fun u v w a b c d => h.bt u v w d a b c⟩
  rintro u v ⟨hu, hv, he⟩ hlt
  obtain ⟨v', h1, h2, h3⟩ := h.clos hc hu he
  have := getD_inj h.nd h1 hv h2
  subst this
  exact h3 hlt
/-- A way of nodes is one of numbers. -/
theorem InvP.down (h : InvP G s P) (hc : s.cur = -1) {ok : Nat → Prop} {u y : Nat} (hu : u < s.ent.length) (ha : Av (EG G) ok (s.ent.getD u 0) y) : ∃ w, w < s.ent.length ∧ s.ent.getD w 0 = y ∧ Av (EN G s.ent) (fun i => ok (s.ent.getD i 0)) u w := by
  generalize hx : s.ent.getD u 0 = x at ha
  induction ha with
  | refl ho => exact ⟨u, hu, hx, .refl _ (by rw [hx]; exact ho)⟩
  | step _ he ho ih =>
    obtain ⟨w, h1, h2, h3⟩ := ih
    obtain ⟨v, h4, h5, _⟩ := h.clos hc h1 (by rw [h2]; exact he)
    exact ⟨v, h4, h5, .step h3 ⟨h1, h4, by rw [h2, h5]; exact he⟩ (by rw [h5]; exact ho)⟩
theorem InvP.lift (_h : InvP G s P) {ok : Nat → Prop} {u w : Nat} (ha : Av (EN G s.ent) (fun i => ok (s.ent.getD i 0)) u w) : Av (EG G) ok (s.ent.getD u 0) (s.ent.getD w 0) := by
  induction ha with
  | refl ho => exact .refl _ ho
  | step _ he ho ih => exact .step ih he.2.2 ho
theorem InvP.rch (h : InvP G s P) (hc : s.cur = -1) (x : Nat) : Rch G x ↔ x ∈ s.ent := by
  constructor
  · intro ha
    obtain ⟨w, h1, h2, _⟩ := h.down (ok := fun _ => True) hc h.ne (by rw [h.e0]; exact ha)
    exact h2 ▸ getD_mem h1
  · intro hx
    obtain ⟨w, h1, h2⟩ := mem_getD hx
    have D := h.nums3 hc
    have := D.tree (ok := fun _ => True) (anc_zero D.lt w h1) h1 (fun _ _ _ => trivial)
    have := h.lift (ok := fun _ => True) this
    rw [h.e0, h2] at this
    exact this
theorem InvP.dom (h : InvP G s P) (hc : s.cur = -1) {d w : Nat} (hd : d < s.ent.length) (hw : w < s.ent.length) : DomG G (s.ent.getD d 0) (s.ent.getD w 0) ↔ DomN (EN G s.ent) d w := by
  constructor
  · rintro ⟨-, -, q⟩ ha
    refine q ?_
    have hb : ∀ x, x ≠ d → x < s.ent.length → s.ent.getD x 0 ≠ s.ent.getD d 0 := fun x hx hl e => hx (getD_inj h.nd hl hd e)
    have key : Av (EN G s.ent) (fun i => s.ent.getD i 0 ≠ s.ent.getD d 0) 0 w := by
      clear q
      induction ha with
      | refl ho => exact .refl _ (hb _ ho h.ne)
      | step _ he ho ih => exact .step (ih he.1) he (hb _ ho he.2.1)
    have := h.lift (ok := fun y => y ≠ s.ent.getD d 0) key
    rw [h.e0] at this
    exact this
  · intro q
    refine ⟨(h.rch hc _).2 (getD_mem hd), (h.rch hc _).2 (getD_mem hw), fun ha => q ?_⟩
    obtain ⟨w', h1, h2, h3⟩ := h.down (ok := fun y => y ≠ s.ent.getD d 0) hc h.ne (by rw [h.e0]; exact ha)
    have := getD_inj h.nd h1 hw h2
    subst this
    exact h3.mono (fun x hx e => hx (by rw [e]))
end

/-- Where each node stands among those that were come to. -/
def numsF (ent : List Nat) (n : Nat) : Nat → List Nat
  | 0 => List.replicate n 0
  | k + 1 => (numsF ent n k).set (ent.getD k 0) k
theorem numsF_len (ent : List Nat) (n k : Nat) : (numsF ent n k).length = n := by
  induction k with
  | zero => simp [numsF]
  | succ k ih => simp [numsF, ih]
theorem numsF_at {ent : List Nat} {n : Nat} (hnd : ent.Nodup) (hlo : ∀ x ∈ ent, x < n) {k i : Nat} (hk : k ≤ ent.length) (hi : i < k) : (numsF ent n k).getD (ent.getD i 0) 0 = i := by
  induction k with
  | zero => omega
  | succ k ih =>
    unfold numsF
    rw [getD_set' _ _ _ _ (by rw [numsF_len]; exact hlo _ (getD_mem (by omega)))]
    by_cases e : i = k
    · subst e; rw [if_pos rfl]
    · rw [if_neg (fun q => e (getD_inj hnd (by omega) (by omega) q))]
      exact ih (by omega) (by omega)

/-- The numbers of those that go on to a number. -/
def predsL (G : List (List Nat)) (s : Ws) (w : Nat) : List Nat := ((rowSt G G.length 0 (s.ent.getD w 0)).filter (fun x => s.rch.getD x false)).map (fun x => (numsF s.ent G.length s.ent.length).getD x 0)
def parL (G : List (List Nat)) (s : Ws) (i : Nat) : Nat := fromF s.ent s.frm (numsF s.ent G.length s.ent.length) i
def nearL (G : List (List Nat)) (s : Ws) : List Nat := nearestF (predsL G s) (parL G s) s.ent.length
/-- Of each node the nearest above it: those of the numbers below k. -/
def aboveL (ent near : List Nat) (n : Nat) : Nat → List Int
  | 0 => List.replicate n (-1)
  | k + 1 => if k = 0 then List.replicate n (-1) else (aboveL ent near n k).set (ent.getD k 0) ((ent.getD (near.getD k 0) 0 : Nat) : Int)

section
variable {G : List (List Nat)} {s : Ws} {P : List Nat}
theorem InvP.par (h : InvP G s P) (hok : WsOk G s) {i : Nat} (hi : i < s.ent.length) : parL G s i = P.getD i 0 := by
  unfold parL fromF
  rcases Nat.eq_zero_or_pos i with e | e
  · subst e; rw [if_pos rfl, h.p0]
  · rw [if_neg (by omega)]
    have hx : s.ent.getD i 0 < s.frm.length := by rw [hok.fl]; exact h.lo _ (getD_mem hi)
    have e1 : s.frm.getD (s.ent.getD i 0) 0 = s.frm.getD (s.ent.getD i 0) (-1) := by rw [getD_of _ _ _ hx, getD_of _ _ _ hx]
    have hp := h.plt i e hi
    rw [e1, (h.pfr i e hi).1]
    show (numsF s.ent G.length s.ent.length).getD (s.ent.getD (P.getD i 0) 0) 0 = P.getD i 0
    exact numsF_at h.nd h.lo (Nat.le_refl _) (by omega)
theorem mem_rowSt {G : List (List Nat)} {x t : Nat} : x ∈ rowSt G G.length 0 t ↔ x < G.length ∧ t ∈ row G x := by
  simp [rowSt, List.mem_filter]
theorem row_lt {G : List (List Nat)} {x t : Nat} (h : t ∈ row G x) : x < G.length := by
  rcases Nat.lt_or_ge x G.length with q | q
  · exact q
  · unfold row at h
    rw [List.getD_eq_getElem?_getD, List.getElem?_eq_none q] at h
    exact absurd h (by simp)
theorem InvP.preds (h : InvP G s P) {w v : Nat} (hw : w < s.ent.length) : v ∈ predsL G s w ↔ EN G s.ent v w := by
  unfold predsL EN
  simp only [List.mem_map, List.mem_filter, mem_rowSt]
  constructor
  · rintro ⟨x, ⟨⟨_, hx⟩, hr⟩, rfl⟩
    obtain ⟨i, hi, rfl⟩ := mem_getD ((h.rc x).1 hr)
    rw [numsF_at h.nd h.lo (Nat.le_refl _) hi]
    exact ⟨hi, hw, hx⟩
  · rintro ⟨hv, _, he⟩
    exact ⟨s.ent.getD v 0, ⟨⟨row_lt he, he⟩, (h.rc _).2 (getD_mem hv)⟩, numsF_at h.nd h.lo (Nat.le_refl _) hv⟩
theorem Nums3.congr {m : Nat} {E : Nat → Nat → Prop} {f g : Nat → Nat} (D : Nums3 m E f) (he : ∀ i, i < m → g i = f i) : Nums3 m E g := by
  have A : ∀ u v, v < m → (Anc g u v ↔ Anc f u v) := fun u v hv =>
    ⟨fun q => Anc.congr (m := m) (fun i i0 hi => by rw [he i hi]; exact D.lt i i0 hi) (fun i hi => (he i hi).symm) q hv, fun q => Anc.congr (m := m) D.lt he q hv⟩
  refine ⟨fun i i0 hi => by rw [he i hi]; exact D.lt i i0 hi, fun i i0 hi => by rw [he i hi]; exact D.edge i i0 hi, D.bound, fun u v e hl => (A u v (D.bound _ _ e).2).2 (D.on u v e hl), ?_⟩
  intro u v w a b c d
  exact (A u v (by omega)).2 (D.btw u v w ((A u w d).1 a) b c d)

/-- THE NEAREST ABOVE, by the walk's numbers. -/
theorem InvP.near (h : InvP G s P) (hok : WsOk G s) (hc : s.cur = -1) :
    (nearL G s).length = s.ent.length ∧ (nearL G s).getD 0 0 = 0 ∧ (∀ w, 0 < w → w < s.ent.length → (nearL G s).getD w 0 < w) ∧
    ∀ w, w < s.ent.length → ∀ d, Anc (fun j => (nearL G s).getD j 0) d w ↔ DomN (EN G s.ent) d w :=
  nearest_dom ((h.nums3 hc).congr (fun i hi => h.par hok hi)) (fun _ _ hw => h.preds hw) h.ne (by rw [h.par hok h.ne]; exact h.p0)

theorem aboveL_len (ent near : List Nat) (n k : Nat) : (aboveL ent near n k).length = n := by
  induction k with
  | zero => simp [aboveL]
  | succ k ih =>
    unfold aboveL
    split
    · simp
    · rw [List.length_set]; exact ih
theorem getZ_set (m : List Int) (j q : Nat) (x : Int) (hj : j < m.length) : (m.set j x).getD q 0 = if q = j then x else m.getD q 0 := by
  rw [List.getD_eq_getElem?_getD, List.getD_eq_getElem?_getD, List.getElem?_set]
  by_cases h : j = q
  · subst h; simp [hj]
  · rw [if_neg h, if_neg (Ne.symm h)]
theorem aboveL_at {ent near : List Nat} {n : Nat} (_hnd : ent.Nodup) (hlo : ∀ x ∈ ent, x < n) {k : Nat} (hk : k ≤ ent.length) (b : Nat) (hb : b < n) :
    (∃ i, 0 < i ∧ i < k ∧ ent.getD i 0 = b ∧ (aboveL ent near n k).getD b 0 = ((ent.getD (near.getD i 0) 0 : Nat) : Int)) ∨ ((∀ i, 0 < i → i < k → ent.getD i 0 ≠ b) ∧ (aboveL ent near n k).getD b 0 = -1) := by
  have z : (aboveL ent near n 0).getD b 0 = -1 := by
    show (List.replicate n (-1 : Int)).getD b 0 = -1
    rw [List.getD_eq_getElem?_getD, List.getElem?_replicate, if_pos hb]
    rfl
  induction k with
  | zero => exact Or.inr ⟨fun i _ hi => by omega, z⟩
  | succ k ih =>
    unfold aboveL
    by_cases e : k = 0
    · subst e
      rw [if_pos rfl]
      exact Or.inr ⟨fun i _ hi => by omega, z⟩
    · rw [if_neg e, getZ_set _ _ _ _ (by rw [aboveL_len]; exact hlo _ (getD_mem (by omega)))]
      by_cases q : b = ent.getD k 0
      · rw [if_pos q]
        exact Or.inl ⟨k, by omega, by omega, q.symm, rfl⟩
      · rw [if_neg q]
        rcases ih (by omega) with ⟨i, h1, h2, h3, h4⟩ | ⟨h1, h2⟩
        · exact Or.inl ⟨i, h1, by omega, h3, h4⟩
        · refine Or.inr ⟨fun i i0 hi => ?_, h2⟩
          by_cases w : i = k
          · subst w; exact fun c => q c.symm
          · exact h1 i i0 (by omega)

/-- OF EACH NODE THE NEAREST ABOVE IT. -/
theorem InvP.above (h : InvP G s P) (hok : WsOk G s) (hc : s.cur = -1) : AboveOk G (aboveL s.ent (nearL G s) G.length s.ent.length) := by
  obtain ⟨n1, n2, n3, n4⟩ := h.near hok hc
  refine ⟨aboveL_len _ _ _ _, fun b hb => ?_⟩
  have hself : ∀ a, SD G a b → b ∈ s.ent ∧ a ∈ s.ent := fun a q => ⟨(h.rch hc _).1 q.1.2.1, (h.rch hc _).1 q.1.1⟩
  rcases aboveL_at (near := nearL G s) h.nd h.lo (Nat.le_refl s.ent.length) b hb with ⟨w, w0, w1, rfl, e⟩ | ⟨h1, e⟩
  · have hn := n3 w w0 w1
    refine Or.inr ⟨_, e, ⟨(h.dom hc (by omega) w1).2 ((n4 w w1 _).1 (.one w0)), fun q => ?_⟩, fun a' q => ?_⟩
    · have := getD_inj h.nd (by omega) w1 q; omega
    · obtain ⟨d, d1, rfl⟩ := mem_getD (hself a' q).2
      have := (n4 w w1 d).2 ((h.dom hc d1 w1).1 q.1)
      cases this with
      | refl => exact absurd rfl q.2
      | up _ an => exact (h.dom hc d1 (by omega)).2 ((n4 _ (by omega) d).1 an)
  · refine Or.inl ⟨e, fun a q => ?_⟩
    obtain ⟨hb', ha'⟩ := hself a q
    obtain ⟨w, w1, rfl⟩ := mem_getD hb'
    obtain ⟨d, d1, rfl⟩ := mem_getD ha'
    rcases Nat.eq_zero_or_pos w with z | z
    · subst z
      have := (n4 0 w1 d).2 ((h.dom hc d1 w1).1 q.1)
      cases this with
      | refl => exact q.2 rfl
      | up c _ => omega
    · exact h1 w z w1 rfl
end

/-- There is but one nearest above. -/
theorem dom_anti {G : List (List Nat)} {s : Ws} {P : List Nat} (h : InvP G s P) (hok : WsOk G s) (hc : s.cur = -1) {a b : Nat} (h1 : DomG G a b) (h2 : DomG G b a) : a = b := by
  obtain ⟨n1, n2, n3, n4⟩ := h.near hok hc
  obtain ⟨i, i1, rfl⟩ := mem_getD ((h.rch hc _).1 h1.1)
  obtain ⟨j, j1, rfl⟩ := mem_getD ((h.rch hc _).1 h1.2.1)
  have a1 := ((n4 j j1 i).2 ((h.dom hc i1 j1).1 h1)).le (m := s.ent.length) n3 j1
  have a2 := ((n4 i i1 j).2 ((h.dom hc j1 i1).1 h2)).le (m := s.ent.length) n3 i1
  rw [show i = j by omega]
theorem dom_chain {G : List (List Nat)} {s : Ws} {P : List Nat} (h : InvP G s P) (hok : WsOk G s) (hc : s.cur = -1) {a a' b : Nat} (h1 : DomG G a b) (h2 : DomG G a' b) : DomG G a a' ∨ DomG G a' a := by
  obtain ⟨n1, n2, n3, n4⟩ := h.near hok hc
  obtain ⟨i, i1, rfl⟩ := mem_getD ((h.rch hc _).1 h1.1)
  obtain ⟨k, k1, rfl⟩ := mem_getD ((h.rch hc _).1 h2.1)
  obtain ⟨j, j1, rfl⟩ := mem_getD ((h.rch hc _).1 h1.2.1)
  have a1 := (n4 j j1 i).2 ((h.dom hc i1 j1).1 h1)
  have a2 := (n4 j j1 k).2 ((h.dom hc k1 j1).1 h2)
  rcases Nat.le_total i k with q | q
  · exact Or.inl ((h.dom hc i1 k1).2 ((n4 k k1 i).1 (anc_chain (m := s.ent.length) n3 a1 a2 q j1)))
  · exact Or.inr ((h.dom hc k1 i1).2 ((n4 i i1 k).1 (anc_chain (m := s.ent.length) n3 a2 a1 q j1)))
theorem dom_trans {G : List (List Nat)} {s : Ws} {P : List Nat} (h : InvP G s P) (hok : WsOk G s) (hc : s.cur = -1) {a b c : Nat} (h1 : DomG G a b) (h2 : DomG G b c) : DomG G a c := by
  obtain ⟨n1, n2, n3, n4⟩ := h.near hok hc
  obtain ⟨i, i1, rfl⟩ := mem_getD ((h.rch hc _).1 h1.1)
  obtain ⟨j, j1, rfl⟩ := mem_getD ((h.rch hc _).1 h1.2.1)
  obtain ⟨k, k1, rfl⟩ := mem_getD ((h.rch hc _).1 h2.2.1)
  exact (h.dom hc i1 k1).2 ((n4 k k1 i).1 (((n4 j j1 i).2 ((h.dom hc i1 j1).1 h1)).trans ((n4 k k1 j).2 ((h.dom hc j1 k1).1 h2))))
theorem dom_refl {G : List (List Nat)} {a : Nat} (h : Rch G a) : DomG G a a := ⟨h, h, fun q => q.end_ok rfl⟩
theorem above_one {G : List (List Nat)} {s : Ws} {P : List Nat} (h : InvP G s P) (hok : WsOk G s) (hc : s.cur = -1) {L L' : List Int} (h1 : AboveOk G L) (h2 : AboveOk G L') : L = L' := by
  apply List.ext_getElem (h1.1.trans h2.1.symm)
  intro i hi hi'
  have hb : i < G.length := by rw [← h1.1]; exact hi
  have e : L.getD i 0 = L'.getD i 0 := by
    rcases h1.2 i hb with ⟨a1, a2⟩ | ⟨a, a1, a2, a3⟩ <;> rcases h2.2 i hb with ⟨b1, b2⟩ | ⟨b, b1, b2, b3⟩
    · rw [a1, b1]
    · exact absurd b2 (a2 b)
    · exact absurd a2 (b2 a)
    · rw [a1, b1, dom_anti h hok hc (b3 a a2) (a3 b b2)]
  rw [getD_of L i 0 hi, getD_of L' i 0 hi'] at e
  exact e
end Go.Proofs.Ytjlmkcamefaodaa.Fl
