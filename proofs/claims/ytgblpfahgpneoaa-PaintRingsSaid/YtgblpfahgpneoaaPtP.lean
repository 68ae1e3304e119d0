/-
  The order of nodes, plainly.
-/
import Derived.WalkKit
namespace Go.Proofs.Ytgblpfahgpneoaa.Po

def cnt (nr : Nat → List Nat) (out : List Nat) (v : Nat) : Nat := ((nr v).filter fun x => decide (x ∉ out)).length
/-- Who is near to whom: each once, none to itself. -/
structure Gr (n : Nat) (nr : Nat → List Nat) : Prop where
  lt : ∀ v, v < n → ∀ x ∈ nr v, x < n
  nd : ∀ v, v < n → (nr v).Nodup
  ns : ∀ v, v < n → v ∉ nr v
  sy : ∀ v, v < n → ∀ x ∈ nr v, v ∈ nr x
theorem nodup_len {n : Nat} {l : List Nat} (hd : l.Nodup) (hl : ∀ x ∈ l, x < n) : l.length ≤ n := by
  have h := hd.length_le_of_subset (l₂ := List.range n) (fun x hx => List.mem_range.2 (hl x hx))
  simpa using h
theorem Gr.len {n : Nat} {nr : Nat → List Nat} (h : Gr n nr) {v : Nat} (hv : v < n) : (nr v).length < n := by
  have h1 : (v :: nr v).length ≤ n := nodup_len (List.nodup_cons.2 ⟨h.ns v hv, h.nd v hv⟩) (fun x hx => by
    rcases List.mem_cons.1 hx with e | e
    · rw [e]; exact hv
    · exact h.lt v hv x e)
  rw [List.length_cons] at h1
  exact h1
theorem cnt_le {n : Nat} {nr : Nat → List Nat} (h : Gr n nr) (out : List Nat) {v : Nat} (hv : v < n) : cnt nr out v < n := by
  have h1 := List.length_filter_le (fun x => decide (x ∉ out)) (nr v)
  have h2 := h.len hv
  unfold cnt
  omega
theorem cnt_start (nr : Nat → List Nat) (v : Nat) : cnt nr [] v = (nr v).length := by simp [cnt]
theorem filter_app {out : List Nat} {x : Nat} : ∀ (l : List Nat), l.Nodup → x ∉ out → (l.filter fun y => decide (y ∉ out ++ [x])).length + (if x ∈ l then 1 else 0) = (l.filter fun y => decide (y ∉ out)).length
  | [], _, _ => by simp
  | a :: r, hd, hx => by
    have ih := filter_app r (List.nodup_cons.1 hd).2 hx
    have hna := (List.nodup_cons.1 hd).1
    rw [List.filter_cons, List.filter_cons]
    by_cases e : a = x
    · subst e
      have g1 : decide (a ∉ out ++ [a]) = false := by simp
      have g2 : decide (a ∉ out) = true := by simpa using hx
      rw [g1, g2, if_neg (by simp), if_pos rfl, if_pos (by simp), List.length_cons]
      rw [if_neg hna] at ih
      omega
    · have g1 : decide (a ∉ out ++ [x]) = decide (a ∉ out) := by simp [e]
      have g3 : (x ∈ a :: r) ↔ x ∈ r := by rw [List.mem_cons]; exact or_iff_right (fun h => e h.symm)
      rw [g1]
      simp only [g3]
      by_cases g : decide (a ∉ out) = true
      · rw [if_pos g, if_pos g, List.length_cons, List.length_cons]
        omega
      · rw [if_neg g, if_neg g]
        exact ih
theorem cnt_app {nr : Nat → List Nat} {out : List Nat} {x v : Nat} (hd : (nr v).Nodup) (hx : x ∉ out) : cnt nr (out ++ [x]) v + (if x ∈ nr v then 1 else 0) = cnt nr out v := filter_app _ hd hx
theorem cnt_pos {nr : Nat → List Nat} {out : List Nat} {x v : Nat} (h : x ∈ nr v) (hx : x ∉ out) : 0 < cnt nr out v := by
  unfold cnt
  exact List.length_pos_iff.2 (List.ne_nil_of_mem (List.mem_filter.2 ⟨h, by simpa using hx⟩))

/-- How much stands in the rows. -/
def tot (R : Nat → List Nat) : Nat → Nat
  | 0 => 0
  | n + 1 => tot R n + (R n).length
def upd (R : Nat → List Nat) (f : Nat) (r : List Nat) : Nat → List Nat := fun x => if x = f then r else R x
theorem tot_other {R : Nat → List Nat} {f : Nat} {r : List Nat} : ∀ {n : Nat}, n ≤ f → tot (upd R f r) n = tot R n
  | 0, _ => rfl
  | n + 1, h => by
    show tot (upd R f r) n + (upd R f r n).length = tot R n + (R n).length
    rw [tot_other (by omega)]
    unfold upd
    rw [if_neg (by omega)]
theorem tot_upd {R : Nat → List Nat} {f : Nat} {r : List Nat} : ∀ {n : Nat}, f < n → tot (upd R f r) n + (R f).length = tot R n + r.length
  | n + 1, h => by
    show tot (upd R f r) n + (upd R f r n).length + (R f).length = tot R n + (R n).length + r.length
    by_cases e : f = n
    · subst e
      rw [tot_other (Nat.le_refl _)]
      unfold upd
      rw [if_pos rfl]
      omega
    · have ih := tot_upd (R := R) (r := r) (n := n) (f := f) (by omega)
      unfold upd at ih ⊢
      rw [if_neg (by omega)]
      omega

/-- The order, part way. -/
structure Inv (n : Nat) (nr : Nat → List Nat) (lf : Nat → Int) (R : Nat → List Nat) (out : List Nat) (fw : Nat) : Prop where
  nd : out.Nodup
  ol : ∀ v ∈ out, v < n
  go : ∀ v, v < n → v ∈ out → lf v = -1
  lc : ∀ v, v < n → v ∉ out → lf v = (cnt nr out v : Int)
  rw : ∀ v, v < n → v ∉ out → v ∈ R (cnt nr out v) ∧ fw ≤ cnt nr out v
  re : ∀ f, f < n → ∀ x ∈ R f, x < n
def mu (n : Nat) (R : Nat → List Nat) (out : List Nat) (fw : Nat) : Nat := (n - out.length) * (n + 3) + tot R n + (n - fw)
theorem out_all {n : Nat} {out : List Nat} (h1 : out.Nodup) (h2 : ∀ v ∈ out, v < n) (h3 : n ≤ out.length) : ∀ v, v < n → v ∈ out := by
  intro v hv
  apply Classical.byContradiction
  intro hn
  have h4 : (v :: out).Nodup := List.nodup_cons.2 ⟨hn, h1⟩
  have h5 := h4.length_le_of_subset (l₂ := List.range n) (fun y hy => by
    rcases List.mem_cons.1 hy with rfl | hy
    · exact List.mem_range.2 hv
    · exact List.mem_range.2 (h2 y hy))
  rw [List.length_cons, List.length_range] at h5
  omega
theorem exists_left {n : Nat} {out : List Nat} (h3 : out.length < n) : ∃ v, v < n ∧ v ∉ out := by
  apply Classical.byContradiction
  intro hc
  have hall : ∀ v, v < n → v ∈ out := fun v hv => Classical.byContradiction fun h => hc ⟨v, hv, h⟩
  have hs := (List.nodup_range (n := n)).length_le_of_subset (l₂ := out) (fun x hx => hall x (List.mem_range.1 hx))
  rw [List.length_range] at hs
  omega
theorem Inv.few {n fw : Nat} {nr R : Nat → List Nat} {lf : Nat → Int} {out : List Nat} (hg : Gr n nr) (h : Inv n nr lf R out fw) (h3 : out.length < n) : fw < n := by
  obtain ⟨v, h1, h2⟩ := exists_left h3
  have := (h.rw v h1 h2).2
  have := cnt_le hg out h1
  omega
/-- An empty row. -/
theorem Inv.up {n fw : Nat} {nr R : Nat → List Nat} {lf : Nat → Int} {out : List Nat} (h : Inv n nr lf R out fw) (he : R fw = []) : Inv n nr lf R out (fw + 1) :=
  ⟨h.nd, h.ol, h.go, h.lc, fun v h1 h2 => by
    obtain ⟨a, b⟩ := h.rw v h1 h2
    refine ⟨a, ?_⟩
    by_cases e : cnt nr out v = fw
    · rw [e, he] at a; cases a
    · omega, h.re⟩
/-- One that has gone lower. -/
theorem Inv.drop {n fw x : Nat} {nr R : Nat → List Nat} {lf : Nat → Int} {out r : List Nat} (h : Inv n nr lf R out fw) (hf : fw < n) (he : R fw = r ++ [x]) (hx : lf x ≠ (fw : Int)) : Inv n nr lf (upd R fw r) out fw :=
  ⟨h.nd, h.ol, h.go, h.lc, fun v h1 h2 => by
    obtain ⟨a, b⟩ := h.rw v h1 h2
    refine ⟨?_, b⟩
    unfold upd
    by_cases e : cnt nr out v = fw
    · rw [if_pos e]
      rw [e, he] at a
      rcases List.mem_append.1 a with g | g
      · exact g
      · obtain rfl := List.mem_singleton.1 g
        have := h.lc v h1 h2
        rw [e] at this
        exact absurd this hx
    · rw [if_neg e]; exact a, fun f hf2 y hy => by
    unfold upd at hy
    by_cases e : f = fw
    · subst e
      rw [if_pos rfl] at hy
      exact h.re f hf2 y (by rw [he]; exact List.mem_append_left _ hy)
    · rw [if_neg e] at hy
      exact h.re f hf2 y hy⟩
/-- The neighbours of one that goes, some of them told. -/
structure Mid (n : Nat) (nr : Nat → List Nat) (lf : Nat → Int) (out : List Nat) (x : Nat) (j B : Nat) (lf' : Nat → Int) (R' : Nat → List Nat) : Prop where
  lx : lf' x = -1
  ls : ∀ v, v < n → v ≠ x → lf' v = if v ∈ (nr x).take j ∧ v ∉ out then lf v - 1 else lf v
  rs : ∀ v, v < n → v ∉ out → v ≠ x → v ∈ R' (lf' v).toNat
  re : ∀ f, f < n → ∀ y ∈ R' f, y < n
  tt : tot R' n ≤ B + j
theorem Inv.mid {n fw x : Nat} {nr R : Nat → List Nat} {lf : Nat → Int} {out r : List Nat} (h : Inv n nr lf R out fw) (hf : fw < n) (he : R fw = r ++ [x]) : Mid n nr lf out x 0 (tot R n - 1) (fun v => if v = x then -1 else lf v) (upd R fw r) := by
  have hT := tot_upd (R := R) (r := r) hf
  rw [he, List.length_append, List.length_singleton] at hT
  refine ⟨if_pos rfl, fun v hv hne => by rw [if_neg hne, if_neg (by simp)], fun v h1 h2 hne => ?_, fun f hf2 y hy => ?_, by omega⟩
  · rw [if_neg hne, h.lc v h1 h2, Int.toNat_natCast]
    have a := (h.rw v h1 h2).1
    unfold upd
    by_cases e : cnt nr out v = fw
    · rw [if_pos e]
      rw [e, he] at a
      rcases List.mem_append.1 a with g | g
      · exact g
      · exact absurd (List.mem_singleton.1 g) hne
    · rw [if_neg e]; exact a
  · unfold upd at hy
    by_cases e : f = fw
    · subst e
      rw [if_pos rfl] at hy
      exact h.re f hf2 y (by rw [he]; exact List.mem_append_left _ hy)
    · rw [if_neg e] at hy
      exact h.re f hf2 y hy
theorem take_mem {l : List Nat} {j v : Nat} (hj : j < l.length) : v ∈ l.take (j + 1) ↔ v ∈ l.take j ∨ v = l[j] := by
  rw [List.take_succ_eq_append_getElem hj, List.mem_append, List.mem_singleton]
theorem take_new {l : List Nat} (hd : l.Nodup) {j : Nat} (hj : j < l.length) : l[j] ∉ l.take j := by
  have h : (l.take (j + 1)).Nodup := List.Nodup.sublist (List.take_sublist _ _) hd
  rw [List.take_succ_eq_append_getElem hj, List.nodup_append] at h
  intro hm
  exact h.2.2 _ hm _ (by simp) rfl
/-- A neighbour that is gone. -/
theorem Mid.skip {n fw x j B : Nat} {nr R R' : Nat → List Nat} {lf lf' : Nat → Int} {out : List Nat} (hg : Gr n nr) (hi : Inv n nr lf R out fw) (hx : x < n) (h : Mid n nr lf out x j B lf' R') (hj : j < (nr x).length) (hgo : lf' (nr x)[j] = -1) : Mid n nr lf out x (j + 1) B lf' R' := by
  have hy := hg.lt x hx _ (List.getElem_mem hj)
  have hyx : (nr x)[j] ≠ x := fun e => hg.ns x hx (by have := List.getElem_mem hj; rw [e] at this; exact this)
  have hout : (nr x)[j] ∈ out := Classical.byContradiction fun hc => by
    have h1 := h.ls _ hy hyx
    rw [if_neg (fun e => take_new (hg.nd x hx) hj e.1), hi.lc _ hy hc, hgo] at h1
    omega
  refine ⟨h.lx, fun v hv hne => ?_, h.rs, h.re, by have := h.tt; omega⟩
  rw [h.ls v hv hne]
  by_cases e : v ∈ (nr x).take j ∧ v ∉ out
  · rw [if_pos e, if_pos ⟨(take_mem hj).2 (Or.inl e.1), e.2⟩]
  · rw [if_neg e, if_neg (fun e2 => by
      rcases (take_mem hj).1 e2.1 with g | g
      · exact e ⟨g, e2.2⟩
      · rw [g] at e2; exact e2.2 hout)]
/-- One that is left: what it stands at. -/
theorem Mid.at {n fw x j B : Nat} {nr R R' : Nat → List Nat} {lf lf' : Nat → Int} {out : List Nat} (hg : Gr n nr) (hi : Inv n nr lf R out fw) (hx : x < n) (hxo : x ∉ out) (h : Mid n nr lf out x j B lf' R') (hj : j < (nr x).length) (hgo : lf' (nr x)[j] ≠ -1) : (nr x)[j] ∉ out ∧ lf' (nr x)[j] = (cnt nr out (nr x)[j] : Int) ∧ 0 < cnt nr out (nr x)[j] ∧ cnt nr out (nr x)[j] < n := by
  have hy := hg.lt x hx _ (List.getElem_mem hj)
  have hyx : (nr x)[j] ≠ x := fun e => hg.ns x hx (by have := List.getElem_mem hj; rw [e] at this; exact this)
  have h1 := h.ls _ hy hyx
  rw [if_neg (fun e => take_new (hg.nd x hx) hj e.1)] at h1
  have hout : (nr x)[j] ∉ out := fun hc => by
    rw [hi.go _ hy hc] at h1
    exact hgo h1
  exact ⟨hout, by rw [h1, hi.lc _ hy hout], cnt_pos (hg.sy x hx _ (List.getElem_mem hj)) hxo, cnt_le hg out hy⟩
theorem Mid.step {n fw x j B c : Nat} {nr R R' : Nat → List Nat} {lf lf' : Nat → Int} {out : List Nat} (hg : Gr n nr) (hi : Inv n nr lf R out fw) (hx : x < n) (hxo : x ∉ out) (h : Mid n nr lf out x j B lf' R') (hj : j < (nr x).length) (hgo : lf' (nr x)[j] ≠ -1) (hc : lf' (nr x)[j] = (c : Int) + 1) :
    Mid n nr lf out x (j + 1) B (fun v => if v = (nr x)[j] then (c : Int) else lf' v) (upd R' c (R' c ++ [(nr x)[j]])) := by
  have hy := hg.lt x hx _ (List.getElem_mem hj)
  have hyx : (nr x)[j] ≠ x := fun e => hg.ns x hx (by have := List.getElem_mem hj; rw [e] at this; exact this)
  obtain ⟨ho, h1, h2, h3⟩ := Mid.at hg hi hx hxo h hj hgo
  have hl := h.ls _ hy hyx
  rw [if_neg (fun e => take_new (hg.nd x hx) hj e.1)] at hl
  refine ⟨by show (if x = (nr x)[j] then (c : Int) else lf' x) = -1; rw [if_neg (fun e => hyx e.symm)]; exact h.lx, fun v hv hne => ?_, fun v hv hvo hne => ?_, fun f hf y hyf => ?_, ?_⟩
  · show (if v = (nr x)[j] then (c : Int) else lf' v) = _
    by_cases e : v = (nr x)[j]
    · subst e
      rw [if_pos rfl, if_pos ⟨(take_mem hj).2 (Or.inr rfl), ho⟩]
      omega
    · rw [if_neg e, h.ls v hv hne]
      by_cases e2 : v ∈ (nr x).take j ∧ v ∉ out
      · rw [if_pos e2, if_pos ⟨(take_mem hj).2 (Or.inl e2.1), e2.2⟩]
      · rw [if_neg e2, if_neg (fun e3 => by
          rcases (take_mem hj).1 e3.1 with g | g
          · exact e2 ⟨g, e3.2⟩
          · exact e g)]
  · show v ∈ upd R' c _ (if v = (nr x)[j] then (c : Int) else lf' v).toNat
    unfold upd
    by_cases e : v = (nr x)[j]
    · rw [if_pos e, Int.toNat_natCast, if_pos rfl, e]
      simp
    · rw [if_neg e]
      have h9 := h.rs v hv hvo hne
      by_cases e2 : (lf' v).toNat = c
      · rw [if_pos e2, ← e2]
        exact List.mem_append_left _ h9
      · rw [if_neg e2]; exact h9
  · unfold upd at hyf
    by_cases e : f = c
    · subst e
      rw [if_pos rfl] at hyf
      rcases List.mem_append.1 hyf with g | g
      · exact h.re f hf y g
      · rw [List.mem_singleton.1 g]; exact hy
    · rw [if_neg e] at hyf
      exact h.re f hf y hyf
  · have hT := tot_upd (R := R') (r := R' c ++ [(nr x)[j]]) (f := c) (n := n) (by omega)
    rw [List.length_append, List.length_singleton] at hT
    have := h.tt
    omega
theorem Mid.done {n fw x B : Nat} {nr R R' : Nat → List Nat} {lf lf' : Nat → Int} {out : List Nat} (hg : Gr n nr) (hi : Inv n nr lf R out fw) (hx : x < n) (hxo : x ∉ out) (h : Mid n nr lf out x (nr x).length B lf' R') : Inv n nr lf' R' (out ++ [x]) (fw - 1) := by
  have hl : ∀ v, v < n → v ∉ out → v ≠ x → lf' v = (cnt nr (out ++ [x]) v : Int) := fun v hv hvo hne => by
    have h1 := h.ls v hv hne
    rw [List.take_length] at h1
    have h2 := cnt_app (nr := nr) (out := out) (x := x) (v := v) (hg.nd v hv) hxo
    have h3 := hi.lc v hv hvo
    by_cases e : v ∈ nr x
    · rw [if_pos ⟨e, hvo⟩] at h1
      rw [if_pos (hg.sy x hx v e)] at h2
      omega
    · rw [if_neg (fun e2 => e e2.1)] at h1
      rw [if_neg (fun e2 => e (hg.sy v hv x e2))] at h2
      omega
  refine ⟨List.nodup_append.2 ⟨hi.nd, by simp, fun a ha b hb e => by rw [List.mem_singleton.1 hb] at e; rw [e] at ha; exact hxo ha⟩, fun v hv => ?_, fun v hv hvo => ?_, fun v hv hvo => ?_, fun v hv hvo => ?_, h.re⟩
  · rcases List.mem_append.1 hv with g | g
    · exact hi.ol v g
    · rw [List.mem_singleton.1 g]; exact hx
  · rcases List.mem_append.1 hvo with g | g
    · have hne : v ≠ x := fun e => hxo (by rw [← e]; exact g)
      rw [h.ls v hv hne, if_neg (fun e => e.2 g)]
      exact hi.go v hv g
    · rw [List.mem_singleton.1 g]; exact h.lx
  · exact hl v hv (fun e => hvo (List.mem_append_left _ e)) (fun e => hvo (by rw [e]; simp))
  · have hvo1 : v ∉ out := fun e => hvo (List.mem_append_left _ e)
    have hne : v ≠ x := fun e => hvo (by rw [e]; simp)
    have h1 := hl v hv hvo1 hne
    refine ⟨?_, ?_⟩
    · have h2 := h.rs v hv hvo1 hne
      rw [h1, Int.toNat_natCast] at h2
      exact h2
    · have h2 := cnt_app (nr := nr) (out := out) (x := x) (v := v) (hg.nd v hv) hxo
      have h3 := (hi.rw v hv hvo1).2
      split at h2 <;> omega
theorem mul_less {a K : Nat} (h : 0 < a) : (a - 1) * K + K = a * K := by
  obtain ⟨b, rfl⟩ : ∃ b, a = b + 1 := ⟨a - 1, by omega⟩
  rw [Nat.add_sub_cancel, Nat.add_mul, Nat.one_mul]
end Go.Proofs.Ytgblpfahgpneoaa.Po
