/-
  The nearest above, as climb.nearest reckons them, plainly: ways up that skip ahead.
-/
import Derived.Test.YtomfmkddfgpmkaaFHalf
namespace Go.Proofs.Ytomfmkddfgpmkaa.Fl

/-- Up from n to what isn't below h. -/
def meetF (near far : List Nat) (h : Nat) : Nat → Nat → Nat
  | 0, n => n
  | F + 1, n => if h < n then meetF near far h F (if h < far.getD n 0 then far.getD n 0 else near.getD n 0) else n
/-- Three rows, gone through from k on. -/
def nearF (par : Nat → Nat) (half : List Nat) : Nat → Nat → List Nat → List Nat → List Nat → List Nat × List Nat × List Nat
  | 0, _, near, far, depth => (near, far, depth)
  | c + 1, k, near, far, depth =>
    let p := meetF near far (half.getD k 0) (par k + 1) (par k)
    let d := depth.set k (depth.getD p 0 + 1)
    let q := far.getD p 0
    nearF par half c (k + 1) (near.set k p)
      (if (d.getD p 0 : Int) - (d.getD q 0 : Int) = (d.getD q 0 : Int) - (d.getD ((far.set k p).getD q 0) 0 : Int) then (far.set k p).set k ((far.set k p).getD q 0) else far.set k p) d

/-- The rows are right below k. -/
structure NearOk (m k : Nat) (near far : List Nat) : Prop where
  nl : near.length = m
  fl : far.length = m
  n0 : near.getD 0 0 = 0
  f0 : far.getD 0 0 = 0
  nlt : ∀ i, 0 < i → i < k → near.getD i 0 < i
  flt : ∀ i, 0 < i → i < k → far.getD i 0 < i
  fa : ∀ i, 0 < i → i < k → Anc (fun j => near.getD j 0) (far.getD i 0) i

theorem meet_ok {m k : Nat} {near far : List Nat} (h : NearOk m k near far) {x F n : Nat} (hF : n < F) (hn : n < k) :
    meetF near far x F n ≤ x ∧ meetF near far x F n ≤ n ∧ Anc (fun j => near.getD j 0) (meetF near far x F n) n ∧ ∀ d, Anc (fun j => near.getD j 0) d n → d ≤ x → Anc (fun j => near.getD j 0) d (meetF near far x F n) := by
  induction F generalizing n with
  | zero => omega
  | succ F ih =>
    unfold meetF
    by_cases hc : x < n
    · rw [if_pos hc]
      have h0 : 0 < n := by omega
      have a := h.nlt n h0 hn
      have b := h.flt n h0 hn
      by_cases hf : x < far.getD n 0
      · rw [if_pos hf]
        obtain ⟨c, d, e, f⟩ := ih (n := far.getD n 0) (by omega) (by omega)
        refine ⟨c, by omega, e.trans (h.fa n h0 hn), fun z hz hx => f z ?_ hx⟩
        exact anc_chain (m := k) (fun i i0 hi => h.nlt i i0 hi) hz (h.fa n h0 hn) (by omega) hn
      · rw [if_neg hf]
        obtain ⟨c, d, e, f⟩ := ih (n := near.getD n 0) (by omega) (by omega)
        refine ⟨c, by omega, e.trans (.one h0), fun z hz hx => f z ?_ hx⟩
        cases hz with
        | refl => omega
        | up _ q => exact q
    · rw [if_neg hc]
      exact ⟨by omega, Nat.le_refl _, .refl _, fun d hd _ => hd⟩

/-- The nearest above are right below k. -/
def NearAt (par : Nat → Nat) (half near : List Nat) (k : Nat) : Prop := ∀ w, 0 < w → w < k → near.getD w 0 < w ∧ ∀ d, Anc (fun j => near.getD j 0) d (near.getD w 0) ↔ (Anc (fun j => near.getD j 0) d (par w) ∧ d ≤ half.getD w 0)

theorem anc_set {near : List Nat} {k p d v : Nat} (hlt : ∀ i, 0 < i → i < k → near.getD i 0 < i) (hk : k < near.length) (hv : v < k) : Anc (fun j => (near.set k p).getD j 0) d v ↔ Anc (fun j => near.getD j 0) d v := by
  have e : ∀ i, i < k → (near.set k p).getD i 0 = near.getD i 0 := fun i hi => by rw [getD_set' _ _ _ _ hk, if_neg (by omega)]
  constructor
  · exact fun h => Anc.congr (m := k) (fun i i0 hi => by show (near.set k p).getD i 0 < i; rw [e i hi]; exact hlt i i0 hi) (fun i hi => (e i hi).symm) h hv
  · exact fun h => Anc.congr (m := k) hlt (fun i hi => e i hi) h hv

theorem near_all {m : Nat} {par : Nat → Nat} {half : List Nat} (hp : ∀ i, 0 < i → i < m → par i < i) {c k : Nat} {near far depth : List Nat} (hk : 0 < k) (hm : k + c = m) (h : NearOk m k near far) (hN : NearAt par half near k) :
    (nearF par half c k near far depth).1.length = m ∧ (nearF par half c k near far depth).1.getD 0 0 = 0 ∧ NearAt par half (nearF par half c k near far depth).1 m := by
  induction c generalizing k near far depth with
  | zero =>
    obtain rfl : k = m := by omega
    exact ⟨h.nl, h.n0, hN⟩
  | succ c ih =>
    have hkm : k < m := by omega
    have hpk := hp k hk hkm
    obtain ⟨a1, a2, a3, a4⟩ := meet_ok h (x := half.getD k 0) (F := par k + 1) (n := par k) (Nat.lt_succ_self _) hpk
    unfold nearF
    generalize meetF near far (half.getD k 0) (par k + 1) (par k) = p at a1 a2 a3 a4
    have eN : ∀ i, (near.set k p).getD i 0 = if i = k then p else near.getD i 0 := fun i => getD_set' _ _ _ _ (by rw [h.nl]; exact hkm)
    have eF : ∀ i, (far.set k p).getD i 0 = if i = k then p else far.getD i 0 := fun i => getD_set' _ _ _ _ (by rw [h.fl]; exact hkm)
    have hA : ∀ d v, v < k → (Anc (fun j => (near.set k p).getD j 0) d v ↔ Anc (fun j => near.getD j 0) d v) := fun d v hv => anc_set h.nlt (by rw [h.nl]; exact hkm) hv
    have hpk' : p < k := by omega
    -- where the far one goes: to p, or to p's far one
    have hfar : ∀ f : List Nat, (f = far.set k p ∨ f = (far.set k p).set k ((far.set k p).getD (far.getD p 0) 0)) → f.length = m ∧ (∀ i, i ≠ k → f.getD i 0 = far.getD i 0) ∧ f.getD k 0 < k ∧ Anc (fun j => near.getD j 0) (f.getD k 0) p := by
      have hq : far.getD p 0 ≤ p ∧ Anc (fun j => near.getD j 0) (far.getD p 0) p := by
        rcases Nat.eq_zero_or_pos p with e | e
        · subst e; rw [h.f0]; exact ⟨Nat.le_refl _, .refl _⟩
        · exact ⟨Nat.le_of_lt (h.flt p e hpk'), h.fa p e hpk'⟩
      have hq2 : far.getD (far.getD p 0) 0 ≤ far.getD p 0 ∧ Anc (fun j => near.getD j 0) (far.getD (far.getD p 0) 0) (far.getD p 0) := by
        rcases Nat.eq_zero_or_pos (far.getD p 0) with e | e
        · rw [e, h.f0]; exact ⟨Nat.le_refl _, .refl _⟩
        · exact ⟨Nat.le_of_lt (h.flt _ e (by omega)), h.fa _ e (by omega)⟩
      rintro f (rfl | rfl)
      · exact ⟨by rw [List.length_set]; exact h.fl, fun i hi => by rw [eF, if_neg hi], by rw [eF, if_pos rfl]; exact hpk', by rw [eF, if_pos rfl]; exact .refl _⟩
      · have e2 : ∀ i, ((far.set k p).set k ((far.set k p).getD (far.getD p 0) 0)).getD i 0 = if i = k then (far.set k p).getD (far.getD p 0) 0 else (far.set k p).getD i 0 := fun i => getD_set' _ _ _ _ (by rw [List.length_set, h.fl]; exact hkm)
        have e3 : (far.set k p).getD (far.getD p 0) 0 = far.getD (far.getD p 0) 0 := by rw [eF, if_neg (by omega)]
        refine ⟨by rw [List.length_set, List.length_set]; exact h.fl, fun i hi => by rw [e2, if_neg hi, eF, if_neg hi], by rw [e2, if_pos rfl, e3]; omega, ?_⟩
        rw [e2, if_pos rfl, e3]
        exact hq2.2.trans hq.2
    have hN' : NearAt par half (near.set k p) (k + 1) := by
      intro w w0 hw
      rw [eN]
      by_cases e : w = k
      · subst e
        rw [if_pos rfl]
        refine ⟨hpk', fun d => ?_⟩
        rw [hA d p hpk', hA d (par w) hpk]
        exact ⟨fun hd => ⟨hd.trans a3, by have := hd.le (m := w) (fun i i0 hi => h.nlt i i0 hi) hpk'; omega⟩, fun hd => a4 d hd.1 hd.2⟩
      · rw [if_neg e]
        have hw' : w < k := by omega
        obtain ⟨b1, b2⟩ := hN w w0 hw'
        have := hp w w0 (by omega)
        exact ⟨b1, fun d => by rw [hA d _ (by omega), hA d _ (by omega)]; exact b2 d⟩
    have step : ∀ f : List Nat, (f = far.set k p ∨ f = (far.set k p).set k ((far.set k p).getD (far.getD p 0) 0)) → NearOk m (k + 1) (near.set k p) f := by
      intro f hf
      obtain ⟨c1, c2, c3, c4⟩ := hfar f hf
      refine ⟨by rw [List.length_set]; exact h.nl, c1, by rw [eN, if_neg (by omega)]; exact h.n0, by rw [c2 0 (by omega)]; exact h.f0, fun i i0 hi => ?_, fun i i0 hi => ?_, fun i i0 hi => ?_⟩
      · exact (hN' i i0 hi).1
      · by_cases e : i = k
        · subst e; exact c3
        · rw [c2 i e]; exact h.flt i i0 (by omega)
      · by_cases e : i = k
        · subst e
          refine .up i0 ?_
          show Anc _ _ ((near.set i p).getD i 0)
          rw [eN, if_pos rfl, hA _ p hpk']
          exact c4
        · rw [c2 i e, hA _ i (by omega)]
          exact h.fa i i0 (by omega)
    refine ih (by omega) (by omega) ?_ hN'
    split
    · exact step _ (Or.inr rfl)
    · exact step _ (Or.inl rfl)

/-- Nought everywhere is right below 1. -/
theorem near_start (m : Nat) (_hm : 0 < m) : NearOk m 1 (List.replicate m 0) (List.replicate m 0) := by
  have e : ∀ i, (List.replicate m 0).getD i 0 = 0 := fun i => by
    rw [List.getD_eq_getElem?_getD, List.getElem?_replicate]
    split <;> rfl
  exact ⟨by simp, by simp, e 0, e 0, fun i h1 h2 => by omega, fun i h1 h2 => by omega, fun i h1 h2 => by omega⟩

/-- Half ways, and what is nearest above, of all numbers. -/
def halvesF (P : Nat → List Nat) (par : Nat → Nat) (m : Nat) : List Nat := (halfF P par (m - 1) ((List.range m).map par) (List.range m) (List.range m)).2.2
def nearestF (P : Nat → List Nat) (par : Nat → Nat) (m : Nat) : List Nat := (nearF par (halvesF P par m) (m - 1) 1 (List.replicate m 0) (List.replicate m 0) (List.replicate m 0)).1

/-- THE NEAREST ABOVE: what is met going up by it is what dominates. -/
theorem nearest_dom {m : Nat} {E : Nat → Nat → Prop} {par : Nat → Nat} (D : Nums3 m E par) {P : Nat → List Nat} (hP : ∀ w v, w < m → (v ∈ P w ↔ E v w)) (hm : 0 < m) (h0 : par 0 = 0) :
    (nearestF P par m).length = m ∧ (nearestF P par m).getD 0 0 = 0 ∧ (∀ w, 0 < w → w < m → (nearestF P par m).getD w 0 < w) ∧
    ∀ w, w < m → ∀ d, Anc (fun j => (nearestF P par m).getD j 0) d w ↔ DomN E d w := by
  have hid : ∀ i, i ≤ m - 1 → i < m → (List.range m).getD i 0 = i := fun i _ hi => by simp [List.getD_eq_getElem?_getD, hi]
  obtain ⟨h1, h2⟩ := half_all D hP (n := m - 1) (by omega) (cl_start D.lt hm h0) hid (by simp) (fun u a b => by omega)
  obtain ⟨a, b, c⟩ := near_all (m := m) (half := halvesF P par m) (depth := List.replicate m 0) D.lt (c := m - 1) (k := 1) (by omega) (by omega) (near_start m hm) (fun w a b => by omega)
  exact ⟨a, b, fun w w0 hw => (c w w0 hw).1, fun w hw d => dom_near D (half := fun w => (halvesF P par m).getD w 0) h2 (fun w w0 hw => c w w0 hw) w hw d⟩
end Go.Proofs.Ytomfmkddfgpmkaa.Fl
