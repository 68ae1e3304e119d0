/-
  What the order and the nearest above of a graph are to one another, plainly.
-/
import Derived.Test.YtomfmkddfgpmkaaFRec
namespace Go.Proofs.Ytomfmkddfgpmkaa.Fl

theorem List.nodup_reverse' {l : List Nat} (h : l.Nodup) : l.reverse.Nodup := by
  unfold List.Nodup at *
  rw [List.pairwise_reverse]
  exact h.imp (fun q => Ne.symm q)
theorem av_split {E : Nat → Nat → Prop} {a b h : Nat} (hab : Av E (fun _ => True) a b) : Av E (fun y => y ≠ h) a b ∨ Av E (fun _ => True) h b := by
  induction hab with
  | refl _ =>
    by_cases e : a = h
    · exact Or.inr (e ▸ .refl _ trivial)
    · exact Or.inl (.refl _ e)
  | @step v w _ he _ ih =>
    by_cases e : w = h
    · exact Or.inr (e ▸ .refl _ trivial)
    · rcases ih with q | q
      · exact Or.inl (.step q he e)
      · exact Or.inr (.step q he trivial)
/-- What dominates goes on to it. -/
theorem dom_path {G : List (List Nat)} {h n : Nat} (hd : DomG G h n) : Av (EG G) (fun _ => True) h n := (av_split hd.2.1).resolve_left hd.2.2

section
variable {m : Nat} {E : Nat → Nat → Prop} {par : Nat → Nat}
theorem Nums3.tree' (D : Nums3 m E par) {ok : Nat → Prop} {u w : Nat} (h : Anc par u w) (hw : w < m) (ho : ∀ x, Anc par u x → Anc par x w → ok x) : Av E ok u w := by
  induction h with
  | refl => exact .refl _ (ho _ (.refl _) (.refl _))
  | @up w h0 h1 ih =>
    have h2 := D.lt _ h0 hw
    exact .step (ih (by omega) (fun x a b => ho x a (b.trans (.one h0)))) (D.edge _ h0 hw) (ho _ (.up h0 h1) (.refl _))
theorem DomN.anc (D : Nums3 m E par) {d w : Nat} (h : DomN E d w) (hw : w < m) : Anc par d w := by
  apply Classical.byContradiction
  intro q
  exact h (D.tree' (anc_zero D.lt w hw) hw (fun x _ b e => q (e ▸ b)))
end

section
variable {G : List (List Nat)} {s : Ws} {P : List Nat}
abbrev abF (L : List Int) : Nat → Int := fun x => L.getD x (-1)
theorem abF_eq {L : List Int} {b : Nat} (h : b < L.length) : abF L b = L.getD b 0 := by unfold abF; rw [getD_of _ _ _ h, getD_of _ _ _ h]
theorem rch_lt (h : InvP G s P) (hc : s.cur = -1) {b : Nat} (hb : Rch G b) : b < G.length := h.lo b ((h.rch hc b).1 hb)
theorem left_all (h : InvP G s P) (hc : s.cur = -1) (x : Nat) : x ∈ s.left ↔ Rch G x := by
  rw [h.rch hc]
  constructor
  · exact fun q => (h.ls x q).1
  · intro q
    obtain ⟨i, hi, rfl⟩ := mem_getD q
    rcases h.cr with ⟨_, w⟩ | ⟨c, _, e, _⟩
    · exact w i hi
    · rw [hc] at e; omega
/-- GOING UP from a reached node, what dominates it is met. -/
theorem up_dom (h : InvP G s P) (hok : WsOk G s) (hc : s.cur = -1) {L : List Int} (hL : AboveOk G L) (b : Nat) (hb : Rch G b) (a : Nat) : Up (abF L) a b ↔ DomG G a b := by
  obtain ⟨w, w1, rfl⟩ := mem_getD ((h.rch hc _).1 hb)
  induction w using Nat.strongRecOn with
  | ind w ih =>
    have hlt := rch_lt h hc hb
    have e0 := abF_eq (L := L) (b := s.ent.getD w 0) (by rw [hL.1]; exact hlt)
    rcases hL.2 _ hlt with ⟨e, q⟩ | ⟨i, e, q1, q2⟩
    · rw [e] at e0
      constructor
      · intro u
        cases u with
        | refl => exact dom_refl hb
        | up c _ => omega
      · intro u
        by_cases z : a = s.ent.getD w 0
        · rw [z]; exact .refl
        · exact absurd ⟨u, z⟩ (q a)
    · rw [e] at e0
      obtain ⟨d, d1, rfl⟩ := mem_getD ((h.rch hc _).1 q1.1.1)
      have hdw : d < w := by
        obtain ⟨n1, n2, n3, n4⟩ := h.near hok hc
        have := ((n4 w w1 d).2 ((h.dom hc d1 w1).1 q1.1)).le (m := s.ent.length) n3 w1
        have : d ≠ w := fun z => q1.2 (by rw [z])
        omega
      have IH := ih d hdw d1 q1.1.1
      constructor
      · intro u
        cases u with
        | refl => exact dom_refl hb
        | @up _ c c1 u =>
          have : c = s.ent.getD d 0 := by omega
          subst this
          exact dom_trans h hok hc (IH.1 u) q1.1
      · intro u
        by_cases z : a = s.ent.getD w 0
        · rw [z]; exact .refl
        · exact .up e0 (IH.2 (q2 a ⟨u, z⟩))

/-- The order in which nodes are told: each stands behind what dominates it. -/
theorem ord_ok (h : InvP G s P) (_hok : WsOk G s) (hc : s.cur = -1) {L : List Int} (hL : AboveOk G L) : OrdOk G.length (abF L) s.left.reverse := by
  have D := h.nums3 hc
  refine ⟨(List.nodup_reverse' h.ld), fun x hx => ?_, fun A x B ho => ?_⟩
  · exact rch_lt h hc ((left_all h hc x).1 (List.mem_reverse.1 hx))
  · have hx : x ∈ s.left := by rw [← List.mem_reverse, ho]; simp
    have hrx := (left_all h hc x).1 hx
    have hlt := rch_lt h hc hrx
    have e0 := abF_eq (L := L) (b := x) (by rw [hL.1]; exact hlt)
    rcases hL.2 x hlt with ⟨e, _⟩ | ⟨a, e, q1, _⟩
    · exact Or.inl (e0.trans e)
    · refine Or.inr ⟨a, e0.trans e, ?_⟩
      obtain ⟨w, w1, rfl⟩ := mem_getD ((h.rch hc _).1 hrx)
      obtain ⟨d, d1, rfl⟩ := mem_getD ((h.rch hc _).1 q1.1.1)
      have an : Anc (pf P) d w := ((h.dom hc d1 w1).1 q1.1).anc D w1
      have hne : w ≠ d := fun z => q1.2 (by rw [z])
      have hl : s.left = B.reverse ++ s.ent.getD w 0 :: A.reverse := by
        have := congrArg List.reverse ho
        rw [List.reverse_reverse] at this
        rw [this]; simp
      have ha : s.ent.getD d 0 ∈ s.left := (left_all h hc _).2 q1.1.1
      obtain ⟨p, hp, ep⟩ := mem_getD ha
      have hin := h.dn p d w hp d1 w1 ep an hne
      have hnd := h.ld
      rw [hl, List.nodup_append] at hnd
      obtain ⟨_, _, hnd3⟩ := hnd
      rw [hl] at ha
      rcases List.mem_append.1 ha with q | q
      · exfalso
        -- it would stand ahead of what it dominates
        rcases Nat.lt_or_ge p B.length with z | z
        · rw [hl, List.take_append_of_le_length (by rw [List.length_reverse]; omega)] at hin
          exact hnd3 _ (List.mem_of_mem_take hin) _ (by simp) rfl
        · obtain ⟨j, hj, ej⟩ := mem_getD q
          rw [List.length_reverse] at hj
          have hpl : s.left.getD j 0 = s.ent.getD d 0 := by
            rw [hl, getD_app (by rw [List.length_reverse]; exact hj)]; exact ej
          have := getD_inj h.ld (i := j) (j := p) (by rw [hl, List.length_append, List.length_reverse]; omega) hp (hpl.trans ep.symm)
          omega
      · rcases List.mem_cons.1 q with z | z
        · exact absurd z q1.2
        · exact List.mem_reverse.1 z
/-- In the order: without ways back each stands ahead of those to which it goes on. -/
theorem order_on (h : InvP G s P) (hc : s.cur = -1) {x y : Nat} (hx : Rch G x) (he : y ∈ row G x) : (∃ A B C, s.left.reverse = A ++ x :: (B ++ y :: C)) ∨ Av (EG G) (fun _ => True) y x := by
  have D := h.nums3 hc
  have hl := (left_all h hc x).2 hx
  obtain ⟨p, hp, ep⟩ := mem_getD hl
  obtain ⟨i, hi, ei⟩ := mem_getD ((h.rch hc x).1 hx)
  rcases h.or p i hp hi (ep.trans ei.symm) y (by rw [ei]; exact he) with q | ⟨v, v1, v2, v3⟩
  · left
    obtain ⟨A1, A2, hA⟩ := List.append_of_mem q
    have e1 : s.left = s.left.take p ++ x :: s.left.drop (p + 1) := by
      have := (List.take_append_drop p s.left).symm
      rw [List.drop_eq_getElem_cons hp, ← getD_of s.left p 0 hp, ep] at this
      exact this
    rw [hA] at e1
    refine ⟨(s.left.drop (p + 1)).reverse, A2.reverse, A1.reverse, ?_⟩
    conv => lhs; rw [e1]
    simp
  · right
    have := h.lift (ok := fun _ => True) (D.tree' (ok := fun _ => True) v3 hi (fun _ _ _ => trivial))
    rw [← v2, ei] at this
    exact this
end
end Go.Proofs.Ytomfmkddfgpmkaa.Fl
