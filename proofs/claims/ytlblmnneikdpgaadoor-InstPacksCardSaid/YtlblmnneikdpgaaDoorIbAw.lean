/-
  Instructions, wherever they lie, are put behind instructions of one's own.
-/
import Derived.Test.YtlblmnneikdpgaaDoorIbUn
import Derived.Test.YtlblmnneikdpgaaDoorIbEa
namespace Go.Proofs.YtlblmnneikdpgaaDoor
open Go Go.RowKit Ib

theorem SlS.takeG {S : Nat → Prop} {k : Nat} {α : Type} {V : (Nat → Prop) → World → List Value → α → Prop} {W : World} {a : Option Addr} {m c : Nat} {l : List α} (h : SlS S k V W (.slice a m c) l) (n : Nat) (hn : n ≤ l.length) : SlS S k V W (.slice a n c) (l.take n) := by
  have hc := h.cap
  obtain ⟨a', c', e, hc', h⟩ := h
  injection e with e1 e2 e3
  subst e1 e2 e3
  refine ⟨a, c, by rw [List.length_take, Nat.min_eq_left hn], by rw [List.length_take]; omega, fun i hi => ?_⟩
  rw [List.length_take] at hi
  obtain ⟨b, vs, h1, h2, h3, h4⟩ := h i (by omega)
  exact ⟨b, vs, h1, h2, h3, by rw [List.getElem_take]; exact h4⟩
theorem wds_get : ∀ (l : List Wd) (j : Nat) (u : Value), (wds l)[j]? = some u → ∃ i, ∃ hi : i < l.length, ∃ k, k < 5 ∧ j = i * 5 + k ∧ (encWd l[i])[k]? = some u
  | [], j, u, h => by simp [wds] at h
  | x :: l, j, u, h => by
    have e : wds (x :: l) = encWd x ++ wds l := by simp [wds]
    rw [e] at h
    by_cases hj : j < 5
    · rw [List.getElem?_append_left (by simp [encWd]; omega)] at h
      exact ⟨0, by simp, j, hj, by omega, h⟩
    · rw [List.getElem?_append_right (by simp [encWd]; omega)] at h
      obtain ⟨i, hi, k, hk, e1, e2⟩ := wds_get l (j - 5) u (by simpa [encWd] using h)
      exact ⟨i + 1, by simp; omega, k, hk, by omega, by simpa using e2⟩
theorem wds_len (l : List Wd) : (wds l).length = l.length * 5 := by
  induction l with
  | nil => rfl
  | cons x l ih =>
    have e : wds (x :: l) = encWd x ++ wds l := by simp [wds]
    rw [e, List.length_append, ih]
    simp [encWd]
    omega
theorem wds_one (l : List Wd) : ∀ u ∈ wds l, u.oneCell' = true := fun u hu => by
  obtain ⟨vs, h1, h2⟩ := List.mem_flatten.1 hu
  obtain ⟨x, _, rfl⟩ := List.mem_map.1 h1
  simp [encWd] at h2
  rcases h2 with rfl | rfl | rfl | rfl | rfl <;> rfl
theorem wp_append_w {w : World} {o : Oper} {a : Act} {K : Act → World → Prop} {Q : Exit → Act → World → Prop} (s x : Operand) (ho : o.op = .call { callee := .builtin .append, args := #[s, x], argTypes := #[40, 40] })
    (base : Nat) (v u : Value) (n : Nat) (xs : List Value) (hs : a.eval s = v) (hown : w.ownsRow base 23 5 v n xs) (hx : a.eval x = u) (l : List Wd) (S : Nat → Prop) (hl : SlS S 5 WordV w u l)
    (hnz : v.ownBlock ≠ none ∨ 0 < l.length) (hb : n + l.length ≤ 1000000) (hbase : base ≤ w.heap.size)
    (h : ∀ v' w', w'.ownsRow base 23 5 v' (n + l.length) (xs ++ wds l) → w.grownBy w' v.ownBlock → (v'.ownBlock = v.ownBlock ∨ v'.ownBlock = some w.heap.size) → K (a.put o.dst v') w') : o.wp Tryd.prog a w K Q := by
  obtain ⟨i1, p1, p2, p3, p4⟩ := info_parts infoW
  have hl0 := hl
  obtain ⟨ad, c, e, hcc, hat⟩ := hl
  cases ad with
  | none =>
    have hl0 : l = [] := by
      cases l with
      | nil => rfl
      | cons y l' => obtain ⟨b, vs, e1, _⟩ := hat 0 (by simp); cases e1
    subst hl0
    rcases hown.2 with ⟨e0, _⟩ | ⟨g, cap, cur, e0, q1, q2, q3, q4, q5, q6⟩
    · rcases hnz with hz | hz
      · rw [e0] at hz; exact absurd rfl hz
      · exact absurd hz (by simp)
    · subst e0
      have hr := run_append_room_src (P := Tryd.prog) w 40 40 o.type 23 i1 Tryd.underlying40 p1 g 0 n cap (.slice none 0 c) 0 [] (Src.ofNil w Tryd.underlying40 c) (by omega) (by simp) (by simp)
      have e1 : w.setCells g (0 + n * i1.size) [] = w := rfl
      rw [e1] at hr
      unfold Oper.wp execOp
      simp only [ho, resolve, invoke, builtin, Sem.run_bind, Sem.run_pure, Result.andThen_ok, List.map_toArray, List.map_cons, List.map_nil, hs, hx, e, List.length_nil]
      rw [hr]
      exact h _ _ (by simpa [wds] using hown) ⟨rfl, rfl, rfl, Nat.le_refl _, fun _ _ _ => rfl⟩ (Or.inl rfl)
  | some b =>
    subst e
    obtain ⟨v', w', hr, h2, h3, _, h5⟩ := run_append_own_at (P := Tryd.prog) w base 40 o.type 23 i1 (.agg zR) 5 16 Tryd.underlying40 p1 p2 p3 p4 rfl (by decide) v n xs hown b l.length c (wds l) (wds_len l)
      (fun j u hj => by
        obtain ⟨i, hi, k, hk, rfl, hk2⟩ := wds_get l j u hj
        obtain ⟨bb, bo, eb, _, hwd, hadd⟩ := wdc_at hl0 i hi
        cases eb
        obtain ⟨h0, h1, h2, h3, h4⟩ := hwd
        have hj2 : (⟨bb, bo, none⟩ : Addr).add (i * 5 + k) = ⟨bb, bo + i * 5 + k, none⟩ := by rw [Addr.add_lit, ← Nat.add_assoc]
        rw [hj2]
        have hk5 : k = 0 ∨ k = 1 ∨ k = 2 ∨ k = 3 ∨ k = 4 := by omega
        rcases hk5 with rfl | rfl | rfl | rfl | rfl <;> (simp [encWd] at hk2; subst hk2; assumption)) (wds_one l) (by unfold maxLen; omega) (by omega) hbase
    unfold Oper.wp execOp
    simp only [ho, resolve, invoke, builtin, Sem.run_bind, Sem.run_pure, Result.andThen_ok, List.map_toArray, List.map_cons, List.map_nil, hs, hx, hr]
    exact h _ _ h2 h3 h5
theorem wpList_append_w {w : World} {ops : Array Oper} {rest : List Oper} {o : Oper} {a : Act} {Q : Exit → Act → World → Prop} (hgd : o.guard = none) (s x : Operand) (ho : o.op = .call { callee := .builtin .append, args := #[s, x], argTypes := #[40, 40] })
    (base : Nat) (v u : Value) (n : Nat) (xs : List Value) (hs : a.eval s = v) (hown : w.ownsRow base 23 5 v n xs) (hx : a.eval x = u) (l : List Wd) (S : Nat → Prop) (hl : SlS S 5 WordV w u l)
    (hnz : v.ownBlock ≠ none ∨ 0 < l.length) (hb : n + l.length ≤ 1000000) (hbase : base ≤ w.heap.size)
    (h : ∀ v' w', w'.ownsRow base 23 5 v' (n + l.length) (xs ++ wds l) → w.grownBy w' v.ownBlock → (v'.ownBlock = v.ownBlock ∨ v'.ownBlock = some w.heap.size) → wpList Tryd.prog ops Q rest (a.put o.dst v') w') : wpList Tryd.prog ops Q (o :: rest) a w :=
  wpList_plain hgd fun _ hK => wp_append_w s x ho base v u n xs hs hown hx l S hl hnz hb hbase fun v' w' h2 h3 h4 => hK _ _ (h v' w' h2 h3 h4)
end Go.Proofs.YtlblmnneikdpgaaDoor
