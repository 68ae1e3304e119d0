/-
  A graph's nodes: which are reached, which dominate which, which is the nearest above: what the walk's numbers say of them.
-/
import Derived.Test.YtomfmkddfgpmkaaFDfs
namespace Go.Proofs.Ytomfmkddfgpmkaa.Fl

/-- A way goes from the one node to the other. -/
def EG (G : List (List Nat)) (x y : Nat) : Prop := y ∈ row G x
/-- A node is reached. -/
def Rch (G : List (List Nat)) (x : Nat) : Prop := Av (EG G) (fun _ => True) 0 x
/-- The one dominates the other; both are reached. -/
def DomG (G : List (List Nat)) (a b : Nat) : Prop := Rch G a ∧ Rch G b ∧ ¬ Av (EG G) (fun y => y ≠ a) 0 b
def SD (G : List (List Nat)) (a b : Nat) : Prop := DomG G a b ∧ a ≠ b
/-- Of each node the nearest above it, or -1. -/
def AboveOk (G : List (List Nat)) (L : List Int) : Prop := L.length = G.length ∧ ∀ b, b < G.length → (L.getD b 0 = -1 ∧ ∀ a, ¬ SD G a b) ∨ ∃ a : Nat, L.getD b 0 = (a : Int) ∧ SD G a b ∧ ∀ a', SD G a' b → DomG G a' a

/-- A way by the walk's numbers. -/
def EN (G : List (List Nat)) (ent : List Nat) (u v : Nat) : Prop := u < ent.length ∧ v < ent.length ∧ ent.getD v 0 ∈ row G (ent.getD u 0)

section
variable {G : List (List Nat)} {s : Ws} {P : List Nat}

theorem InvP.clos (h : InvP G s P) (hc : s.cur = -1) {u y : Nat} (hu : u < s.ent.length) (hy : y ∈ row G (s.ent.getD u 0)) : ∃ v, v < s.ent.length ∧ s.ent.getD v 0 = y ∧ (u < v → Anc (pf P) u v) := by
  rcases h.cr with ⟨_, hl⟩ | ⟨c, _, e, _⟩
  · obtain ⟨j, hj, rfl⟩ := mem_getD hy
    exact h.on u j hu (by rw [(h.ls _ (hl u hu)).2]; exact hj)
  · rw [hc] at e; omega
theorem InvP.nums3 (h : InvP G s P) (hc : s.cur = -1) : Nums3 s.ent.length (EN G s.ent) (pf P) := by
  refine ⟨h.hp, fun i i0 hi => ⟨by have := h.plt i i0 hi; show P.getD i 0 < _; omega, hi, (h.pfr i i0 hi).2⟩, fun u v he => ⟨he.1, he.2.1⟩, ?_, fun u v w a b c d => h.bt u v w d a b c⟩
  rintro u v ⟨hu, hv, he⟩ hlt
  obtain ⟨v', h1, h2, h3⟩ := h.clos hc hu he
  have := getD_inj h.nd h1 hv h2
  subst this
  exact h3 hlt
/-- A way of nodes is one of numbers. -/
theorem InvP.down (h : InvP G s P) (hc : s.cur = -1) {ok : Nat → Prop} {u y : Nat} (hu : u < s.ent.length) (ha : Av (EG G) ok (s.ent.getD u 0) y) : ∃ w, w < s.ent.length ∧ s.ent.getD w 0 = y ∧ Av (EN G s.ent) (fun i => ok (s.ent.getD i 0)) u w := by
  generalize hx : s.ent.getD u 0 = x at ha
  induction ha with
  | refl ho => exact ⟨u, hu, hx, .refl _ (by rw [hx]; exact ho)⟩
  | step _ he ho ih =>
    obtain ⟨w, h1, h2, h3⟩ := ih
    obtain ⟨v, h4, h5, _⟩ := h.clos hc h1 (by rw [h2]; exact he)
    exact ⟨v, h4, h5, .step h3 ⟨h1, h4, by rw [h2, h5]; exact he⟩ (by rw [h5]; exact ho)⟩
theorem InvP.lift (_h : InvP G s P) {ok : Nat → Prop} {u w : Nat} (ha : Av (EN G s.ent) (fun i => ok (s.ent.getD i 0)) u w) : Av (EG G) ok (s.ent.getD u 0) (s.ent.getD w 0) := by
  induction ha with
  | refl ho => exact .refl _ ho
  | step _ he ho ih => exact .step ih he.2.2 ho
theorem InvP.rch (h : InvP G s P) (hc : s.cur = -1) (x : Nat) : Rch G x ↔ x ∈ s.ent := by
  constructor
  · intro ha
    obtain ⟨w, h1, h2, _⟩ := h.down (ok := fun _ => True) hc h.ne (by rw [h.e0]; exact ha)
    exact h2 ▸ getD_mem h1
  · intro hx
    obtain ⟨w, h1, h2⟩ := mem_getD hx
    have D := h.nums3 hc
    have := D.tree (ok := fun _ => True) (anc_zero D.lt w h1) h1 (fun _ _ _ => trivial)
    have := h.lift (ok := fun _ => True) this
    rw [h.e0, h2] at this
    exact this
theorem InvP.dom (h : InvP G s P) (hc : s.cur = -1) {d w : Nat} (hd : d < s.ent.length) (hw : w < s.ent.length) : DomG G (s.ent.getD d 0) (s.ent.getD w 0) ↔ DomN (EN G s.ent) d w := by
  constructor
  · rintro ⟨-, -, q⟩ ha
    refine q ?_
    have hb : ∀ x, x ≠ d → x < s.ent.length → s.ent.getD x 0 ≠ s.ent.getD d 0 := fun x hx hl e => hx (getD_inj h.nd hl hd e)
    have key : Av (EN G s.ent) (fun i => s.ent.getD i 0 ≠ s.ent.getD d 0) 0 w := by
      clear q
      induction ha with
      | refl ho => exact .refl _ (hb _ ho h.ne)
      | step _ he ho ih => exact .step (ih he.1) he (hb _ ho he.2.1)
    have := h.lift (ok := fun y => y ≠ s.ent.getD d 0) key
    rw [h.e0] at this
    exact this
  · intro q
    refine ⟨(h.rch hc _).2 (getD_mem hd), (h.rch hc _).2 (getD_mem hw), fun ha => q ?_⟩
    obtain ⟨w', h1, h2, h3⟩ := h.down (ok := fun y => y ≠ s.ent.getD d 0) hc h.ne (by rw [h.e0]; exact ha)
    have := getD_inj h.nd h1 hw h2
    subst this
    exact h3.mono (fun x hx e => hx (by rw [e]))
end

/-- Where each node stands among those that were come to. -/
def numsF (ent : List Nat) (n : Nat) : Nat → List Nat
  | 0 => List.replicate n 0
  | k + 1 => (numsF ent n k).set (ent.getD k 0) k
theorem numsF_len (ent : List Nat) (n k : Nat) : (numsF ent n k).length = n := by
  induction k with
  | zero => simp [numsF]
  | succ k ih => simp [numsF, ih]
theorem numsF_at {ent : List Nat} {n : Nat} (hnd : ent.Nodup) (hlo : ∀ x ∈ ent, x < n) {k i : Nat} (hk : k ≤ ent.length) (hi : i < k) : (numsF ent n k).getD (ent.getD i 0) 0 = i := by
  induction k with
  | zero => omega
  | succ k ih =>
    unfold numsF
    rw [getD_set' _ _ _ _ (by rw [numsF_len]; exact hlo _ (getD_mem (by omega)))]
    by_cases e : i = k
    · subst e; rw [if_pos rfl]
    · rw [if_neg (fun q => e (getD_inj hnd (by omega) (by omega) q))]
      exact ih (by omega) (by omega)

/-- The numbers of those that go on to a number. -/
def predsL (G : List (List Nat)) (s : Ws) (w : Nat) : List Nat := ((rowSt G G.length 0 (s.ent.getD w 0)).filter (fun x => s.rch.getD x false)).map (fun x => (numsF s.ent G.length s.ent.length).getD x 0)
def parL (G : List (List Nat)) (s : Ws) (i : Nat) : Nat := fromF s.ent s.frm (numsF s.ent G.length s.ent.length) i
def nearL (G : List (List Nat)) (s : Ws) : List Nat := nearestF (predsL G s) (parL G s) s.ent.length
/-- Of each node the nearest above it: those of the numbers below k. -/
def aboveL (ent near : List Nat) (n : Nat) : Nat → List Int
  | 0 => List.replicate n (-1)
  | k + 1 => if k = 0 then List.replicate n (-1) else (aboveL ent near n k).set (ent.getD k 0) ((ent.getD (near.getD k 0) 0 : Nat) : Int)

section
variable {G : List (List Nat)} {s : Ws} {P : List Nat}
theorem InvP.par (h : InvP G s P) (hok : WsOk G s) {i : Nat} (hi : i < s.ent.length) : parL G s i = P.getD i 0 := by
  unfold parL fromF
  rcases Nat.eq_zero_or_pos i with e | e
  · subst e; rw [if_pos rfl, h.p0]
  · rw [if_neg (by omega)]
    have hx : s.ent.getD i 0 < s.frm.length := by rw [hok.fl]; exact h.lo _ (getD_mem hi)
    have e1 : s.frm.getD (s.ent.getD i 0) 0 = s.frm.getD (s.ent.getD i 0) (-1) := by rw [getD_of _ _ _ hx, getD_of _ _ _ hx]
    have hp := h.plt i e hi
    rw [e1, (h.pfr i e hi).1]
    show (numsF s.ent G.length s.ent.length).getD (s.ent.getD (P.getD i 0) 0) 0 = P.getD i 0
    exact numsF_at h.nd h.lo (Nat.le_refl _) (by omega)
theorem mem_rowSt {G : List (List Nat)} {x t : Nat} : x ∈ rowSt G G.length 0 t ↔ x < G.length ∧ t ∈ row G x := by
  simp [rowSt, List.mem_filter]
theorem row_lt {G : List (List Nat)} {x t : Nat} (h : t ∈ row G x) : x < G.length := by
  rcases Nat.lt_or_ge x G.length with q | q
  · exact q
  · unfold row at h
    rw [List.getD_eq_getElem?_getD, List.getElem?_eq_none q] at h
    exact absurd h (by simp)
theorem InvP.preds (h : InvP G s P) {w v : Nat} (hw : w < s.ent.length) : v ∈ predsL G s w ↔ EN G s.ent v w := by
  unfold predsL EN
  simp only [List.mem_map, List.mem_filter, mem_rowSt]
  constructor
  · rintro ⟨x, ⟨⟨_, hx⟩, hr⟩, rfl⟩
    obtain ⟨i, hi, rfl⟩ := mem_getD ((h.rc x).1 hr)
    rw [numsF_at h.nd h.lo (Nat.le_refl _) hi]
    exact ⟨hi, hw, hx⟩
  · rintro ⟨hv, _, he⟩
    exact ⟨s.ent.getD v 0, ⟨⟨row_lt he, he⟩, (h.rc _).2 (getD_mem hv)⟩, numsF_at h.nd h.lo (Nat.le_refl _) hv⟩
theorem Nums3.congr {m : Nat} {E : Nat → Nat → Prop} {f g : Nat → Nat} (D : Nums3 m E f) (he : ∀ i, i < m → g i = f i) : Nums3 m E g := by
  have A : ∀ u v, v < m → (Anc g u v ↔ Anc f u v) := fun u v hv =>
    ⟨fun q => Anc.congr (m := m) (fun i i0 hi => by rw [he i hi]; exact D.lt i i0 hi) (fun i hi => (he i hi).symm) q hv, fun q => Anc.congr (m := m) D.lt he q hv⟩
  refine ⟨fun i i0 hi => by rw [he i hi]; exact D.lt i i0 hi, fun i i0 hi => by rw [he i hi]; exact D.edge i i0 hi, D.bound, fun u v e hl => (A u v (D.bound _ _ e).2).2 (D.on u v e hl), ?_⟩
  intro u v w a b c d
  exact (A u v (by omega)).2 (D.btw u v w ((A u w d).1 a) b c d)

/-- THE NEAREST ABOVE, by the walk's numbers. -/
theorem InvP.near (h : InvP G s P) (hok : WsOk G s) (hc : s.cur = -1) :
    (nearL G s).length = s.ent.length ∧ (nearL G s).getD 0 0 = 0 ∧ (∀ w, 0 < w → w < s.ent.length → (nearL G s).getD w 0 < w) ∧
    ∀ w, w < s.ent.length → ∀ d, Anc (fun j => (nearL G s).getD j 0) d w ↔ DomN (EN G s.ent) d w :=
  nearest_dom ((h.nums3 hc).congr (fun i hi => h.par hok hi)) (fun _ _ hw => h.preds hw) h.ne (by rw [h.par hok h.ne]; exact h.p0)

theorem aboveL_len (ent near : List Nat) (n k : Nat) : (aboveL ent near n k).length = n := by
  induction k with
  | zero => simp [aboveL]
  | succ k ih =>
    unfold aboveL
    split
    · simp
    · rw [List.length_set]; exact ih
theorem getZ_set (m : List Int) (j q : Nat) (x : Int) (hj : j < m.length) : (m.set j x).getD q 0 = if q = j then x else m.getD q 0 := by
  rw [List.getD_eq_getElem?_getD, List.getD_eq_getElem?_getD, List.getElem?_set]
  by_cases h : j = q
  · subst h; simp [hj]
  · rw [if_neg h, if_neg (Ne.symm h)]
theorem aboveL_at {ent near : List Nat} {n : Nat} (_hnd : ent.Nodup) (hlo : ∀ x ∈ ent, x < n) {k : Nat} (hk : k ≤ ent.length) (b : Nat) (hb : b < n) :
    (∃ i, 0 < i ∧ i < k ∧ ent.getD i 0 = b ∧ (aboveL ent near n k).getD b 0 = ((ent.getD (near.getD i 0) 0 : Nat) : Int)) ∨ ((∀ i, 0 < i → i < k → ent.getD i 0 ≠ b) ∧ (aboveL ent near n k).getD b 0 = -1) := by
  have z : (aboveL ent near n 0).getD b 0 = -1 := by
    show (List.replicate n (-1 : Int)).getD b 0 = -1
    rw [List.getD_eq_getElem?_getD, List.getElem?_replicate, if_pos hb]
    rfl
  induction k with
  | zero => exact Or.inr ⟨fun i _ hi => by omega, z⟩
  | succ k ih =>
    unfold aboveL
    by_cases e : k = 0
    · subst e
      rw [if_pos rfl]
      exact Or.inr ⟨fun i _ hi => by omega, z⟩
    · rw [if_neg e, getZ_set _ _ _ _ (by rw [aboveL_len]; exact hlo _ (getD_mem (by omega)))]
      by_cases q : b = ent.getD k 0
      · rw [if_pos q]
        exact Or.inl ⟨k, by omega, by omega, q.symm, rfl⟩
      · rw [if_neg q]
        rcases ih (by omega) with ⟨i, h1, h2, h3, h4⟩ | ⟨h1, h2⟩
        · exact Or.inl ⟨i, h1, by omega, h3, h4⟩
        · refine Or.inr ⟨fun i i0 hi => ?_, h2⟩
          by_cases w : i = k
          · subst w; exact fun c => q c.symm
          · exact h1 i i0 (by omega)

/-- OF EACH NODE THE NEAREST ABOVE IT. -/
theorem InvP.above (h : InvP G s P) (hok : WsOk G s) (hc : s.cur = -1) : AboveOk G (aboveL s.ent (nearL G s) G.length s.ent.length) := by
  obtain ⟨n1, n2, n3, n4⟩ := h.near hok hc
  refine ⟨aboveL_len _ _ _ _, fun b hb => ?_⟩
  have hself : ∀ a, SD G a b → b ∈ s.ent ∧ a ∈ s.ent := fun a q => ⟨(h.rch hc _).1 q.1.2.1, (h.rch hc _).1 q.1.1⟩
  rcases aboveL_at (near := nearL G s) h.nd h.lo (Nat.le_refl s.ent.length) b hb with ⟨w, w0, w1, rfl, e⟩ | ⟨h1, e⟩
  · have hn := n3 w w0 w1
    refine Or.inr ⟨_, e, ⟨(h.dom hc (by omega) w1).2 ((n4 w w1 _).1 (.one w0)), fun q => ?_⟩, fun a' q => ?_⟩
    · have := getD_inj h.nd (by omega) w1 q; omega
    · obtain ⟨d, d1, rfl⟩ := mem_getD (hself a' q).2
      have := (n4 w w1 d).2 ((h.dom hc d1 w1).1 q.1)
      cases this with
      | refl => exact absurd rfl q.2
      | up _ an => exact (h.dom hc d1 (by omega)).2 ((n4 _ (by omega) d).1 an)
  · refine Or.inl ⟨e, fun a q => ?_⟩
    obtain ⟨hb', ha'⟩ := hself a q
    obtain ⟨w, w1, rfl⟩ := mem_getD hb'
    obtain ⟨d, d1, rfl⟩ := mem_getD ha'
    rcases Nat.eq_zero_or_pos w with z | z
    · subst z
      have := (n4 0 w1 d).2 ((h.dom hc d1 w1).1 q.1)
      cases this with
      | refl => exact q.2 rfl
      | up c _ => omega
    · exact h1 w z w1 rfl
end

/-- There is but one nearest above. -/
theorem dom_anti {G : List (List Nat)} {s : Ws} {P : List Nat} (h : InvP G s P) (hok : WsOk G s) (hc : s.cur = -1) {a b : Nat} (h1 : DomG G a b) (h2 : DomG G b a) : a = b := by
  obtain ⟨n1, n2, n3, n4⟩ := h.near hok hc
  obtain ⟨i, i1, rfl⟩ := mem_getD ((h.rch hc _).1 h1.1)
  obtain ⟨j, j1, rfl⟩ := mem_getD ((h.rch hc _).1 h1.2.1)
  have a1 := ((n4 j j1 i).2 ((h.dom hc i1 j1).1 h1)).le (m := s.ent.length) n3 j1
  have a2 := ((n4 i i1 j).2 ((h.dom hc j1 i1).1 h2)).le (m := s.ent.length) n3 i1
  rw [show i = j by omega]
theorem dom_chain {G : List (List Nat)} {s : Ws} {P : List Nat} (h : InvP G s P) (hok : WsOk G s) (hc : s.cur = -1) {a a' b : Nat} (h1 : DomG G a b) (h2 : DomG G a' b) : DomG G a a' ∨ DomG G a' a := by
  obtain ⟨n1, n2, n3, n4⟩ := h.near hok hc
  obtain ⟨i, i1, rfl⟩ := mem_getD ((h.rch hc _).1 h1.1)
  obtain ⟨k, k1, rfl⟩ := mem_getD ((h.rch hc _).1 h2.1)
  obtain ⟨j, j1, rfl⟩ := mem_getD ((h.rch hc _).1 h1.2.1)
  have a1 := (n4 j j1 i).2 ((h.dom hc i1 j1).1 h1)
  have a2 := (n4 j j1 k).2 ((h.dom hc k1 j1).1 h2)
  rcases Nat.le_total i k with q | q
  · exact Or.inl ((h.dom hc i1 k1).2 ((n4 k k1 i).1 (anc_chain (m := s.ent.length) n3 a1 a2 q j1)))
  · exact Or.inr ((h.dom hc k1 i1).2 ((n4 i i1 k).1 (anc_chain (m := s.ent.length) n3 a2 a1 q j1)))
theorem dom_trans {G : List (List Nat)} {s : Ws} {P : List Nat} (h : InvP G s P) (hok : WsOk G s) (hc : s.cur = -1) {a b c : Nat} (h1 : DomG G a b) (h2 : DomG G b c) : DomG G a c := by
  obtain ⟨n1, n2, n3, n4⟩ := h.near hok hc
  obtain ⟨i, i1, rfl⟩ := mem_getD ((h.rch hc _).1 h1.1)
  obtain ⟨j, j1, rfl⟩ := mem_getD ((h.rch hc _).1 h1.2.1)
  obtain ⟨k, k1, rfl⟩ := mem_getD ((h.rch hc _).1 h2.2.1)
  exact (h.dom hc i1 k1).2 ((n4 k k1 i).1 (((n4 j j1 i).2 ((h.dom hc i1 j1).1 h1)).trans ((n4 k k1 j).2 ((h.dom hc j1 k1).1 h2))))
theorem dom_refl {G : List (List Nat)} {a : Nat} (h : Rch G a) : DomG G a a := ⟨h, h, fun q => q.end_ok rfl⟩
theorem above_one {G : List (List Nat)} {s : Ws} {P : List Nat} (h : InvP G s P) (hok : WsOk G s) (hc : s.cur = -1) {L L' : List Int} (h1 : AboveOk G L) (h2 : AboveOk G L') : L = L' := by
  apply List.ext_getElem (h1.1.trans h2.1.symm)
  intro i hi hi'
  have hb : i < G.length := by rw [← h1.1]; exact hi
  have e : L.getD i 0 = L'.getD i 0 := by
    rcases h1.2 i hb with ⟨a1, a2⟩ | ⟨a, a1, a2, a3⟩ <;> rcases h2.2 i hb with ⟨b1, b2⟩ | ⟨b, b1, b2, b3⟩
    · rw [a1, b1]
    · exact absurd b2 (a2 b)
    · exact absurd a2 (b2 a)
    · rw [a1, b1, dom_anti h hok hc (b3 a a2) (a3 b b2)]
  rw [getD_of L i 0 hi, getD_of L' i 0 hi'] at e
  exact e
end Go.Proofs.Ytomfmkddfgpmkaa.Fl
