/-
  What FlowLoops speaks of, plainly: a loop's nodes are the head and what reaches an end without passing it.
-/
import Derived.Test.YtomfmkddfgpmkaaFRows5
namespace Go.Proofs.Ytomfmkddfgpmkaa
open Go Go.RowKit Fl

namespace Fl
/-- What belongs to a head's loop. -/
def InL (G : List (List Nat)) (h : Nat) (ends : List Nat) (x : Nat) : Prop := x = h ∨ ∃ t ∈ ends, Av (EG G) (fun y => y ≠ h) x t

theorem bk_some (F : List (List Nat)) {N R : Nat} (hR : ∀ x, (row F x).length ≤ R) (hlt : ∀ i, ∀ x ∈ row F i, x < N) : ∀ (k : Nat) (st sn : List Nat), muB N R st sn < k → sn.Nodup → (∀ x ∈ sn, x < N) → (∀ x ∈ st, x < N) → ∃ res, bkF F k st sn = some res
  | 0, _, _, h, _, _, _ => absurd h (by omega)
  | k + 1, st, sn, h, hn, hb, hs => by
    rcases nil_or_app st with e | ⟨r, n, e⟩
    · subst e
      exact ⟨sn, bk_end F k sn⟩
    · subst e
      by_cases hm : n ∈ sn
      · rw [bk_old hm]
        have h1 := mu_old (N := N) (R := R) (r := r) (sn := sn) (n := n)
        exact bk_some F hR hlt k r sn (by omega) hn hb (fun x hx => hs x (by simp [hx]))
      · rw [bk_new hm]
        have hn' : (n :: sn).Nodup := List.nodup_cons.2 ⟨hm, hn⟩
        have hb' : ∀ x ∈ n :: sn, x < N := fun x hx => by
          rcases List.mem_cons.1 hx with e | e
          · rw [e]; exact hs n (by simp)
          · exact hb x e
        have h1 := mu_new (R := R) (r := r) hn' hb' (hR n)
        exact bk_some F hR hlt k (r ++ row F n) (n :: sn) (by omega) hn' hb' (fun x hx => by
          rcases List.mem_append.1 hx with e | e
          · exact hs x (by simp [e])
          · exact hlt n x e)

theorem bk_set {G F : List (List Nat)} {N h : Nat} {ends : List Nat} (hF : ∀ n, n < N → ∀ m, m ∈ row F n ↔ m < N ∧ n ∈ row G m) : ∀ (k : Nat) (st sn res : List Nat), bkF F k st sn = some res → h ∈ sn → sn.Nodup → (∀ x ∈ st, x < N ∧ InL G h ends x) → (∀ x ∈ sn, x < N ∧ InL G h ends x) → (∀ x ∈ ends, x ∈ st ∨ x ∈ sn) → (∀ x ∈ sn, x ≠ h → ∀ m ∈ row F x, m ∈ st ∨ m ∈ sn) →
    h ∈ res ∧ res.Nodup ∧ (∀ x ∈ res, x < N ∧ InL G h ends x) ∧ (∀ x ∈ ends, x ∈ res) ∧ ∀ x ∈ res, x ≠ h → ∀ m ∈ row F x, m ∈ res
  | 0, _, _, _, e, _, _, _, _, _, _ => by simp [bkF] at e
  | k + 1, st, sn, res, e, hh, hn, hs, hb, he, hc => by
    rcases nil_or_app st with e1 | ⟨r, n, e1⟩
    · subst e1
      rw [bk_end] at e
      cases e
      exact ⟨hh, hn, hb, fun x hx => (he x hx).resolve_left (by simp), fun x hx hxh m hm => (hc x hx hxh m hm).resolve_left (by simp)⟩
    · subst e1
      by_cases hm : n ∈ sn
      · rw [bk_old hm] at e
        refine bk_set hF k r sn res e hh hn (fun x hx => hs x (by simp [hx])) hb (fun x hx => ?_) (fun x hx hxh m hm' => ?_)
        · rcases he x hx with h1 | h1
          · rcases List.mem_append.1 h1 with h2 | h2
            · exact Or.inl h2
            · rw [List.mem_singleton.1 h2]; exact Or.inr hm
          · exact Or.inr h1
        · rcases hc x hx hxh m hm' with h1 | h1
          · rcases List.mem_append.1 h1 with h2 | h2
            · exact Or.inl h2
            · rw [List.mem_singleton.1 h2]; exact Or.inr hm
          · exact Or.inr h1
      · rw [bk_new hm] at e
        have hnN := hs n (by simp)
        have hnh : n ≠ h := fun e2 => hm (by rw [e2]; exact hh)
        refine bk_set hF k (r ++ row F n) (n :: sn) res e (by simp [hh]) (List.nodup_cons.2 ⟨hm, hn⟩) (fun x hx => ?_) (fun x hx => ?_) (fun x hx => ?_) (fun x hx hxh m hm' => ?_)
        · rcases List.mem_append.1 hx with h1 | h1
          · exact hs x (by simp [h1])
          · obtain ⟨h2, h3⟩ := (hF n hnN.1 x).1 h1
            refine ⟨h2, ?_⟩
            by_cases hxh : x = h
            · exact Or.inl hxh
            · rcases hnN.2 with h4 | ⟨t, ht, h4⟩
              · exact absurd h4 hnh
              · exact Or.inr ⟨t, ht, h4.head hxh h3⟩
        · rcases List.mem_cons.1 hx with h1 | h1
          · rw [h1]; exact hnN
          · exact hb x h1
        · rcases he x hx with h1 | h1
          · rcases List.mem_append.1 h1 with h2 | h2
            · left; simp [h2]
            · right; rw [List.mem_singleton.1 h2]; simp
          · right; simp [h1]
        · rcases List.mem_cons.1 hx with h1 | h1
          · rw [h1] at hm'
            left; simp [hm']
          · rcases hc x h1 hxh m hm' with h2 | h2
            · rcases List.mem_append.1 h2 with h3 | h3
              · left; simp [h3]
              · right; rw [List.mem_singleton.1 h3]; simp
            · right; simp [h2]

theorem bk_all {G F : List (List Nat)} {N h : Nat} {ends res : List Nat} (hF : ∀ n, n < N → ∀ m, m ∈ row F n ↔ m < N ∧ n ∈ row G m) (hG : G.length ≤ N) (k : Nat) (e : bkF F k ends [h] = some res) (hh : h < N) (he : ∀ x ∈ ends, x < N) : res.Nodup ∧ ∀ x, x ∈ res ↔ (x < N ∧ InL G h ends x) := by
  obtain ⟨h1, h2, h3, h4, h5⟩ := bk_set (G := G) (ends := ends) hF k ends [h] res e (by simp) (by simp) (fun x hx => ⟨he x hx, by
      by_cases hxh : x = h
      · exact Or.inl hxh
      · exact Or.inr ⟨x, hx, .refl x hxh⟩⟩) (fun x hx => by rw [List.mem_singleton.1 hx]; exact ⟨hh, Or.inl rfl⟩) (fun x hx => Or.inl hx) (fun x hx hxh => absurd (List.mem_singleton.1 hx) hxh)
  refine ⟨h2, fun x => ⟨h3 x, ?_⟩⟩
  rintro ⟨_, hx | ⟨t, ht, hp⟩⟩
  · rw [hx]; exact h1
  · have key : ∀ w, Av (EG G) (fun y => y ≠ h) x w → w ∈ res → x ∈ res := by
      intro w hw
      induction hw with
      | refl _ => exact id
      | @step v w _ hev ho ih =>
        intro hwr
        apply ih
        refine h5 w hwr ho v ((hF w (h3 w hwr).1 v).2 ⟨?_, hev⟩)
        rcases Nat.lt_or_ge v G.length with hv | hv
        · omega
        · unfold EG at hev; rw [row_out G hv] at hev; cases hev
    exact key t hp (h4 t ht)

theorem sort_filter {N : Nat} {sn : List Nat} {f : Nat → Bool} (hn : sn.Nodup) (hm : ∀ x, x ∈ sn ↔ (x < N ∧ f x = true)) : sortN sn = (List.range N).filter f := by
  have hp : ((List.range N).filter f).Perm sn := by
    refine (List.perm_ext_iff_of_nodup (List.nodup_range.filter _) hn).2 (fun x => ?_)
    rw [hm x, List.mem_filter, List.mem_range]
  have hp2 : (sortN sn).Perm ((List.range N).filter f) := (sortN_perm sn).trans hp.symm
  refine hp2.eq_of_pairwise (le := fun a b => a ≤ b) (fun a b _ _ h1 h2 => Nat.le_antisymm h1 h2) (sortN_le sn) ?_
  refine List.Pairwise.filter _ ?_
  exact (List.pairwise_lt_range).imp (fun h => Nat.le_of_lt h)

/-- The loops' reckoning of what lies above is the dominance. -/
theorem overB_dom {G : List (List Nat)} (hG : GOk G) (h0 : G.length ≠ 0) {h n : Nat} (hh : h < G.length) (hn : n < G.length) : overB (forP (abF (abvL G)) G.length (orderL G)) (forS (abF (abvL G)) G.length (orderL G)) h n = true ↔ DomG G h n := by
  obtain ⟨_, ⟨P, hP⟩, hok, hc⟩ := wlk_inv hG (Nat.pos_of_ne_zero h0)
  have hab : AboveOk G (abvL G) := by unfold abvL; rw [if_neg h0]; exact hP.above hok hc
  have hor : orderL G = (wlk G).left.reverse := by unfold orderL; rw [if_neg h0]
  have hord : OrdOk G.length (abF (abvL G)) (orderL G) := by rw [hor]; exact ord_ok hP hok hc hab
  obtain ⟨f1, f2, f3⟩ := forest_over hord
  have e1 : ∀ x, x < G.length → (forP (abF (abvL G)) G.length (orderL G)).getD x 0 = (forP (abF (abvL G)) G.length (orderL G)).getD x (-1) := fun x hx => by
    rw [getD_of _ _ _ (by rw [f1]; exact hx), getD_of _ _ _ (by rw [f1]; exact hx)]
  unfold overB
  rw [decide_eq_true_iff, e1 h hh, e1 n hn]
  rw [f3 h n hh hn]
  have hmem : ∀ x, x ∈ orderL G ↔ Rch G x := (order_mem hG h0).2.1
  constructor
  · rintro ⟨_, h2, h3⟩
    exact (up_dom hP hok hc hab n ((hmem n).1 h2) h).1 h3
  · intro hd
    exact ⟨(hmem h).2 hd.1, (hmem n).2 hd.2.1, (up_dom hP hok hc hab n hd.2.1 h).2 hd⟩

/-- The program's loops, head by head. -/
def ovG (G : List (List Nat)) : Nat → Nat → Bool := overB (forP (abF (abvL G)) G.length (orderL G)) (forS (abF (abvL G)) G.length (orderL G))
theorem lpsL_is {G : List (List Nat)} (h0 : G.length ≠ 0) : lpsL G = loopL (intoF G) G.length (ovG G) G.length := by
  unfold lpsL
  rw [if_neg h0]
  rfl
theorem mem_ends {G : List (List Nat)} (hG : GOk G) (h0 : G.length ≠ 0) {h t : Nat} (hh : h < G.length) : t ∈ endsF (intoF G) (ovG G) h ↔ (t < G.length ∧ h ∈ row G t ∧ DomG G h t) := by
  unfold endsF
  rw [List.mem_filter, intoF_row G hh]
  constructor
  · rintro ⟨h1, h2⟩
    obtain ⟨h3, h4⟩ := mem_rowSt.1 h1
    exact ⟨h3, h4, (overB_dom hG h0 hh h3).1 h2⟩
  · rintro ⟨h1, h2, h3⟩
    exact ⟨mem_rowSt.2 ⟨h1, h2⟩, (overB_dom hG h0 hh h1).2 h3⟩
theorem loop_none {G : List (List Nat)} (hG : GOk G) (h0 : G.length ≠ 0) {h : Nat} (hh : h < G.length) (hn : ∀ t, t < G.length → h ∈ row G t → ¬ DomG G h t) : loopL (intoF G) G.length (ovG G) (h + 1) = loopL (intoF G) G.length (ovG G) h := by
  refine loopL_none (List.eq_nil_iff_forall_not_mem.2 fun t ht => ?_)
  obtain ⟨h1, h2, h3⟩ := (mem_ends hG h0 hh).1 ht
  exact hn t h1 h2 h3
theorem into_row_len {G : List (List Nat)} (x : Nat) : (row (intoF G) x).length ≤ G.length := by
  rcases Nat.lt_or_ge x (intoF G).length with h | h
  · have hx : x < G.length := by
      rcases Nat.lt_or_ge x G.length with h1 | h1
      · exact h1
      · have e : (intoF G).length = G.length := by simp [intoF]
        omega
    rw [intoF_row G hx]
    unfold rowSt
    have h2 := List.length_filter_le (fun q => (row G q).contains x) (List.range G.length)
    simpa using h2
  · rw [row_out _ h]; simp
theorem loop_some {G : List (List Nat)} (hG : GOk G) (h0 : G.length ≠ 0) {h t : Nat} (hh : h < G.length) (ht : t < G.length) (hr : h ∈ row G t) (hd : DomG G h t) {f : Nat → Bool}
    (hf : ∀ x, x < G.length → (f x = true ↔ (x = h ∨ ∃ t, t < G.length ∧ h ∈ row G t ∧ DomG G h t ∧ Av (EG G) (fun y => y ≠ h) x t))) : loopL (intoF G) G.length (ovG G) (h + 1) = loopL (intoF G) G.length (ovG G) h ++ [(h, (List.range G.length).filter f)] := by
  have hne : endsF (intoF G) (ovG G) h ≠ [] := fun e => by
    have h1 := (mem_ends hG h0 hh).2 ⟨ht, hr, hd⟩
    rw [e] at h1
    cases h1
  have hel : ∀ x ∈ endsF (intoF G) (ovG G) h, x < G.length := fun x hx => ((mem_ends hG h0 hh).1 hx).1
  have hrl : ∀ i, ∀ x ∈ row (intoF G) i, x < G.length := fun i x hx => by
    rcases Nat.lt_or_ge i G.length with h1 | h1
    · rw [intoF_row G h1] at hx
      exact (mem_rowSt.1 hx).1
    · rw [row_out (intoF G) (by simp [intoF]; exact h1)] at hx
      cases hx
  obtain ⟨sn, hsn⟩ := bk_some (intoF G) (N := G.length) (R := G.length) into_row_len hrl (muB G.length G.length (endsF (intoF G) (ovG G) h) [h] + 1) (endsF (intoF G) (ovG G) h) [h] (by omega) (by simp) (fun x hx => by rw [List.mem_singleton.1 hx]; exact hh) hel
  obtain ⟨hnd, hmem⟩ := bk_all (G := G) (N := G.length) (fun n hn m => by rw [intoF_row G hn]; exact mem_rowSt) (Nat.le_refl _) _ hsn hh hel
  rw [loopL_some hne hsn, sort_filter hnd (f := f) (N := G.length)]
  intro x
  rw [hmem x]
  constructor
  · rintro ⟨h1, h2⟩
    refine ⟨h1, (hf x h1).2 ?_⟩
    rcases h2 with h2 | ⟨t', h3, h4⟩
    · exact Or.inl h2
    · obtain ⟨h5, h6, h7⟩ := (mem_ends hG h0 hh).1 h3
      exact Or.inr ⟨t', h5, h6, h7, h4⟩
  · rintro ⟨h1, h2⟩
    refine ⟨h1, ?_⟩
    rcases (hf x h1).1 h2 with h3 | ⟨t', h5, h6, h7, h4⟩
    · exact Or.inl h3
    · exact Or.inr ⟨t', (mem_ends hG h0 hh).2 ⟨h5, h6, h7⟩, h4⟩
end Fl
end Go.Proofs.Ytomfmkddfgpmkaa
