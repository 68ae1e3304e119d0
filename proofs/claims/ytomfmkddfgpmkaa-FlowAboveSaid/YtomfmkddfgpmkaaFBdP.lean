/-
  Borders: what stands at a node's border, plainly.
-/
import Derived.Test.YtomfmkddfgpmkaaFTreeP
namespace Go.Proofs.Ytomfmkddfgpmkaa.Fl
open Go Go.RowKit

/-- Does one node stand above another, or is it that? -/
def domB (G : List (List Nat)) (a b : Nat) : Bool := (orderL G).contains a && (orderL G).contains b && ovW (abvL G) G.length (a : Int) (b : Int)
theorem domB_iff {G : List (List Nat)} (hG : GOk G) (h0 : G.length ≠ 0) (a b : Nat) : domB G a b = true ↔ DomG G a b := by
  obtain ⟨_, hmem, _⟩ := order_mem hG h0
  unfold domB
  rw [Bool.and_eq_true, Bool.and_eq_true, List.contains_iff_mem, List.contains_iff_mem]
  constructor
  · rintro ⟨⟨ha, hb⟩, h⟩
    exact (ov_dom hG h0 ((hmem a).1 ha) ((hmem b).1 hb)).1 h
  · intro h
    exact ⟨⟨(hmem a).2 h.1, (hmem b).2 h.2.1⟩, (ov_dom hG h0 h.1 h.2.1).2 h⟩
/-- Does one of the first nodes that stand below a go on to b? -/
def goesB (G : List (List Nat)) (a b m : Nat) : Bool := (List.range m).any fun p => domB G a p && (row G p).contains b
theorem goesB_zero (G : List (List Nat)) (a b : Nat) : goesB G a b 0 = false := rfl
theorem goesB_succ (G : List (List Nat)) (a b m : Nat) : goesB G a b (m + 1) = (goesB G a b m || (domB G a m && (row G m).contains b)) := by
  unfold goesB
  rw [List.range_succ, List.any_append]
  simp
def bdB (G : List (List Nat)) (a b : Nat) : Bool := goesB G a b G.length && (a == b || !domB G a b)
theorem bd_iff {G : List (List Nat)} (hG : GOk G) (h0 : G.length ≠ 0) (a b : Nat) : bdB G a b = true ↔ (∃ p, DomG G a p ∧ b ∈ row G p) ∧ ¬ SD G a b := by
  unfold bdB goesB
  rw [Bool.and_eq_true, List.any_eq_true]
  have e1 : (∃ x, x ∈ List.range G.length ∧ (domB G a x && (row G x).contains b) = true) ↔ ∃ p, DomG G a p ∧ b ∈ row G p := by
    constructor
    · rintro ⟨p, _, h⟩
      rw [Bool.and_eq_true, domB_iff hG h0, List.contains_iff_mem] at h
      exact ⟨p, h⟩
    · rintro ⟨p, h1, h2⟩
      refine ⟨p, List.mem_range.2 (row_lt h2), ?_⟩
      rw [Bool.and_eq_true, domB_iff hG h0, List.contains_iff_mem]
      exact ⟨h1, h2⟩
  have e2 : (a == b || !domB G a b) = true ↔ ¬ SD G a b := by
    unfold SD
    rw [Bool.or_eq_true, Bool.not_eq_true', beq_iff_eq, ← Bool.not_eq_true, domB_iff hG h0]
    constructor
    · rintro (h | h) ⟨h1, h2⟩
      · exact h2 h
      · exact h h1
    · intro h
      by_cases e : a = b
      · exact Or.inl e
      · exact Or.inr fun h1 => h ⟨h1, e⟩
  rw [e1, e2]
/-- The border of a among the first nodes. -/
def brdT (G : List (List Nat)) (k a : Nat) : List Nat := (List.range k).filter (bdB G a)
theorem brdT_zero (G : List (List Nat)) (a : Nat) : brdT G 0 a = [] := rfl
theorem brdT_yes {G : List (List Nat)} {k a : Nat} (h : bdB G a k = true) : brdT G (k + 1) a = brdT G k a ++ [k] := by
  unfold brdT
  rw [List.range_succ, List.filter_append, List.filter_cons, if_pos h]
  rfl
theorem brdT_no {G : List (List Nat)} {k a : Nat} (h : bdB G a k = false) : brdT G (k + 1) a = brdT G k a := by
  unfold brdT
  rw [List.range_succ, List.filter_append, List.filter_cons, if_neg (by rw [h]; decide)]
  simp
theorem brdT_len (G : List (List Nat)) (k a : Nat) : (brdT G k a).length ≤ k := by
  have := List.length_filter_le (bdB G a) (List.range k)
  rw [List.length_range] at this
  exact this
theorem brdT_lt {G : List (List Nat)} {k a x : Nat} (h : x ∈ brdT G k a) : x < k := List.mem_range.1 (List.mem_filter.1 h).1
/-- Which nodes have b in their border already: those of H. -/
def BdRow (G : List (List Nat)) (b : Nat) (H : Nat → Prop) (T : Nat → List Nat) : Prop := ∀ a, a < G.length → (H a ∧ T a = brdT G b a ++ [b]) ∨ (¬ H a ∧ T a = brdT G b a)
theorem rowB_len {G : List (List Nat)} {b : Nat} {H : Nat → Prop} {T : Nat → List Nat} (h : BdRow G b H T) {a : Nat} (ha : a < G.length) : (T a).length ≤ b + 1 := by
  have := brdT_len G b a
  rcases h a ha with ⟨_, e⟩ | ⟨_, e⟩ <;> rw [e]
  · rw [List.length_append, List.length_singleton]; omega
  · omega
theorem rowB_last {G : List (List Nat)} {b : Nat} {H : Nat → Prop} {T : Nat → List Nat} (h : BdRow G b H T) {a M : Nat} (ha : a < G.length) (hM : (T a).length = M + 1) : (T a).getD M 0 = b ↔ H a := by
  rcases h a ha with ⟨h1, e⟩ | ⟨h1, e⟩
  · rw [e] at hM ⊢
    rw [List.length_append, List.length_singleton] at hM
    have e2 : M = (brdT G b a).length := by omega
    rw [e2, getD_last]
    exact ⟨fun _ => h1, fun _ => rfl⟩
  · rw [e] at hM ⊢
    have h2 : (brdT G b a).getD M 0 ∈ brdT G b a := getD_mem (by omega)
    have := brdT_lt h2
    exact ⟨fun e3 => by omega, fun h3 => absurd h3 h1⟩
theorem rowB_nil {G : List (List Nat)} {b : Nat} {H : Nat → Prop} {T : Nat → List Nat} (h : BdRow G b H T) {a : Nat} (ha : a < G.length) (h0 : T a = []) : ¬ H a := by
  rcases h a ha with ⟨_, e⟩ | ⟨h1, _⟩
  · rw [e] at h0; simp at h0
  · exact h1
theorem rowB_app {G : List (List Nat)} {b : Nat} {H : Nat → Prop} {T : Nat → List Nat} (h : BdRow G b H T) {c : Nat} (hc : ¬ H c) : BdRow G b (fun a => H a ∨ a = c) (fun a => if a = c then T a ++ [b] else T a) := by
  intro a ha
  show (_ ∧ (if a = c then T a ++ [b] else T a) = _) ∨ (_ ∧ (if a = c then T a ++ [b] else T a) = _)
  by_cases e : a = c
  · rw [if_pos e]
    rcases h a ha with ⟨h1, _⟩ | ⟨_, h2⟩
    · rw [e] at h1; exact absurd h1 hc
    · exact Or.inl ⟨Or.inr e, by rw [h2]⟩
  · rw [if_neg e]
    rcases h a ha with ⟨h1, h2⟩ | ⟨h1, h2⟩
    · exact Or.inl ⟨Or.inl h1, h2⟩
    · exact Or.inr ⟨fun h3 => h3.elim h1 e, h2⟩
theorem BdRow.iff {G : List (List Nat)} {b : Nat} {H H' : Nat → Prop} {T : Nat → List Nat} (h : BdRow G b H T) (e : ∀ a, H' a ↔ H a) : BdRow G b H' T := fun a ha => by
  rw [e a]; exact h a ha

section
variable {G : List (List Nat)}
/-- Who has b when the nodes of a list went up. -/
def HadB (G : List (List Nat)) (b : Nat) (F : List Nat) (a : Nat) : Prop := ∃ f, f ∈ F ∧ DomG G a f ∧ ¬ SD G a b
/-- Going up from f: at n. -/
def UpB (G : List (List Nat)) (b f : Nat) (H0 H : Nat → Prop) (n : Int) : Prop :=
  (∀ a, H a ↔ H0 a ∨ (DomG G a f ∧ ¬ SD G a b ∧ ∀ c : Nat, n = (c : Int) → ¬ DomG G a c)) ∧
  (n = -1 ∨ ∃ c : Nat, n = (c : Int) ∧ DomG G c f ∧ ∀ y : Nat, (abvL G).getD b 0 = (y : Int) → DomG G y c)
theorem abv_at (hG : GOk G) (h0 : G.length ≠ 0) {b : Nat} (hb : b < G.length) : ((abvL G).getD b 0 = -1 ∧ ∀ a, ¬ SD G a b) ∨ ∃ a : Nat, (abvL G).getD b 0 = (a : Int) ∧ SD G a b ∧ ∀ a', SD G a' b → DomG G a' a := (abv_facts hG h0).1.2 b hb
theorem rchLt (hG : GOk G) (h0 : G.length ≠ 0) {x : Nat} (hx : Rch G x) : x < G.length := by
  obtain ⟨_, hmem, hlt⟩ := order_mem hG h0
  exact hlt x ((hmem x).2 hx)
/-- What dominates a node and isn't it dominates those that go on to it. -/
theorem sd_edge {y b f : Nat} (hf : Rch G f) (he : b ∈ row G f) (hs : SD G y b) : DomG G y f := by
  refine ⟨hs.1.1, hf, fun h => hs.1.2.2 ?_⟩
  exact .step h he (fun e => hs.2 e.symm)
theorem upB_start (hG : GOk G) (h0 : G.length ≠ 0) {b f : Nat} (hf : Rch G f) (he : b ∈ row G f) {H : Nat → Prop} : UpB G b f H H (f : Int) := by
  have hb : b < G.length := hG f b he
  refine ⟨fun a => ⟨fun h => Or.inl h, ?_⟩, Or.inr ⟨f, rfl, dom_refl hf, fun y hy => ?_⟩⟩
  · rintro (h | ⟨h1, _, h2⟩)
    · exact h
    · exact absurd h1 (h2 f rfl)
  · rcases abv_at hG h0 hb with ⟨e, _⟩ | ⟨y', e, h1, _⟩
    · omega
    · obtain rfl : y' = y := by omega
      exact sd_edge hf he h1
theorem upB_free (hG : GOk G) (h0 : G.length ≠ 0) {b f c : Nat} (hb : b < G.length) {H0 H : Nat → Prop} (h : UpB G b f H0 H (c : Int)) (hy : (c : Int) ≠ (abvL G).getD b 0) : ¬ SD G c b := by
  obtain ⟨_, ⟨P, hP⟩, hok, hc⟩ := wlk_inv hG (Nat.pos_of_ne_zero h0)
  intro hs
  rcases abv_at hG h0 hb with ⟨_, h1⟩ | ⟨y, e, _, h2⟩
  · exact h1 c hs
  · rcases h.2 with h3 | ⟨c', e2, _, h4⟩
    · omega
    · obtain rfl : c = c' := by omega
      have := dom_anti hP hok hc (h2 c hs) (h4 y e)
      rw [e, this] at hy
      exact hy rfl
theorem upB_step (hG : GOk G) (h0 : G.length ≠ 0) {b f c : Nat} (hb : b < G.length) {H0 H : Nat → Prop} (h : UpB G b f H0 H (c : Int)) (hy : (c : Int) ≠ (abvL G).getD b 0) : UpB G b f H0 (fun a => H a ∨ a = c) ((abvL G).getD c 0) := by
  obtain ⟨_, ⟨P, hP⟩, hok, hc⟩ := wlk_inv hG (Nat.pos_of_ne_zero h0)
  have hfree := upB_free hG h0 hb h hy
  obtain ⟨h1, h2⟩ := h
  obtain ⟨c', e2, h3, h4⟩ := h2.resolve_left (by omega)
  obtain rfl : c = c' := by omega
  have hcl : c < G.length := rchLt hG h0 h3.1
  have hab := abv_at hG h0 hcl
  refine ⟨fun a => ⟨?_, ?_⟩, ?_⟩
  · rintro (h5 | rfl)
    · rcases (h1 a).1 h5 with h6 | ⟨h6, h7, h8⟩
      · exact Or.inl h6
      · refine Or.inr ⟨h6, h7, fun d hd h9 => ?_⟩
        rcases hab with ⟨e, _⟩ | ⟨d', e, h10, _⟩
        · omega
        · obtain rfl : d' = d := by omega
          exact h8 c rfl (dom_trans hP hok hc h9 h10.1)
    · refine Or.inr ⟨h3, hfree, fun d hd h9 => ?_⟩
      rcases hab with ⟨e, _⟩ | ⟨d', e, h10, _⟩
      · omega
      · obtain rfl : d' = d := by omega
        exact h10.2 (dom_anti hP hok hc h10.1 h9)
  · rintro (h5 | ⟨h5, h6, h7⟩)
    · exact Or.inl ((h1 a).2 (Or.inl h5))
    · by_cases h8 : DomG G a c
      · by_cases e : a = c
        · exact Or.inr e
        · exfalso
          rcases hab with ⟨_, h9⟩ | ⟨d, e3, _, h9⟩
          · exact h9 a ⟨h8, e⟩
          · exact h7 d e3 (h9 a ⟨h8, e⟩)
      · exact Or.inl ((h1 a).2 (Or.inr ⟨h5, h6, fun d hd => by
          obtain rfl : c = d := by omega
          exact h8⟩))
  · rcases hab with ⟨e, _⟩ | ⟨d, e, h5, h6⟩
    · exact Or.inl e
    · refine Or.inr ⟨d, e, dom_trans hP hok hc h5.1 h3, fun y hy2 => ?_⟩
      have h7 := h4 y hy2
      refine h6 y ⟨h7, fun e3 => hy ?_⟩
      rw [hy2, e3]
/-- The end at the root, or at what is above b. -/
theorem upB_end (hG : GOk G) (h0 : G.length ≠ 0) {b f : Nat} (hb : b < G.length) {H0 H : Nat → Prop} {n : Int} (h : UpB G b f H0 H n) (hn : n = -1 ∨ n = (abvL G).getD b 0) (a : Nat) : H a ↔ H0 a ∨ (DomG G a f ∧ ¬ SD G a b) := by
  obtain ⟨_, ⟨P, hP⟩, hok, hc⟩ := wlk_inv hG (Nat.pos_of_ne_zero h0)
  rw [h.1 a]
  constructor
  · rintro (h1 | ⟨h1, h2, _⟩)
    · exact Or.inl h1
    · exact Or.inr ⟨h1, h2⟩
  · rintro (h1 | ⟨h1, h2⟩)
    · exact Or.inl h1
    · refine Or.inr ⟨h1, h2, fun c hc2 h3 => h2 ?_⟩
      rcases hn with e | e
      · omega
      · rcases abv_at hG h0 hb with ⟨e2, _⟩ | ⟨y, e2, h4, _⟩
        · omega
        · obtain rfl : y = c := by omega
          refine ⟨dom_trans hP hok hc h3 h4.1, fun e3 => ?_⟩
          rw [e3] at h3
          exact h4.2 (dom_anti hP hok hc h4.1 h3)
/-- The end where b stands already. -/
theorem upB_had (hG : GOk G) (h0 : G.length ≠ 0) {b f c : Nat} {F : List Nat} {H : Nat → Prop} (h : UpB G b f (HadB G b F) H (c : Int)) (hc : H c) (a : Nat) : H a ↔ HadB G b F a ∨ (DomG G a f ∧ ¬ SD G a b) := by
  obtain ⟨_, ⟨P, hP⟩, hok, hcu⟩ := wlk_inv hG (Nat.pos_of_ne_zero h0)
  rw [h.1 a]
  constructor
  · rintro (h1 | ⟨h1, h2, _⟩)
    · exact Or.inl h1
    · exact Or.inr ⟨h1, h2⟩
  · rintro (h1 | ⟨h1, h2⟩)
    · exact Or.inl h1
    · by_cases h3 : DomG G a c
      · left
        rcases (h.1 c).1 hc with ⟨f', h4, h5, _⟩ | ⟨_, _, h4⟩
        · exact ⟨f', h4, dom_trans hP hok hcu h3 h5, h2⟩
        · exact absurd (dom_refl h3.2.1) (h4 c rfl)
      · exact Or.inr ⟨h1, h2, fun d hd => by
          obtain rfl : c = d := by omega
          exact h3⟩
theorem had_snoc (b f : Nat) (F : List Nat) (a : Nat) : HadB G b (F ++ [f]) a ↔ HadB G b F a ∨ (DomG G a f ∧ ¬ SD G a b) := by
  constructor
  · rintro ⟨x, h1, h2⟩
    rcases List.mem_append.1 h1 with h3 | h3
    · exact Or.inl ⟨x, h3, h2⟩
    · rw [List.mem_singleton.1 h3] at h2; exact Or.inr h2
  · rintro (⟨x, h1, h2⟩ | h2)
    · exact ⟨x, List.mem_append.2 (Or.inl h1), h2⟩
    · exact ⟨f, List.mem_append.2 (Or.inr (List.mem_singleton.2 rfl)), h2⟩
theorem had_not {b f : Nat} {F : List Nat} (hf : ¬ Rch G f) (a : Nat) : HadB G b (F ++ [f]) a ↔ HadB G b F a := by
  rw [had_snoc]
  exact ⟨fun h => h.elim id (fun h => absurd h.1.2.1 hf), Or.inl⟩
theorem had_nil (b a : Nat) : ¬ HadB G b [] a := fun ⟨_, h, _⟩ => by cases h
theorem had_all (hG : GOk G) (h0 : G.length ≠ 0) (b a : Nat) : HadB G b (rowSt G G.length 0 b) a ↔ bdB G a b = true := by
  rw [bd_iff hG h0]
  constructor
  · rintro ⟨f, h1, h2, h3⟩
    exact ⟨⟨f, h2, (mem_rowSt.1 h1).2⟩, h3⟩
  · rintro ⟨⟨f, h2, h1⟩, h3⟩
    exact ⟨f, mem_rowSt.2 ⟨row_lt h1, h1⟩, h2, h3⟩
theorem rowB_next (hG : GOk G) (h0 : G.length ≠ 0) {b : Nat} {T : Nat → List Nat} (h : BdRow G b (HadB G b (rowSt G G.length 0 b)) T) : BdRow G (b + 1) (HadB G (b + 1) []) T := by
  intro a ha
  refine Or.inr ⟨had_nil _ _, ?_⟩
  have hi := had_all hG h0 b a
  rcases h a ha with ⟨h1, h2⟩ | ⟨h1, h2⟩
  · rw [h2, brdT_yes (hi.1 h1)]
  · rw [h2, brdT_no (by
      cases hb : bdB G a b with
      | false => rfl
      | true => exact absurd (hi.2 hb) h1)]
theorem rowB_done {b : Nat} {T : Nat → List Nat} (h : BdRow G b (HadB G b []) T) {a : Nat} (ha : a < G.length) : T a = brdT G b a := by
  rcases h a ha with ⟨h1, _⟩ | ⟨_, h2⟩
  · exact absurd h1 (had_nil _ _)
  · exact h2
theorem rowB_start : BdRow G 0 (HadB G 0 []) (fun _ => []) := fun a _ => Or.inr ⟨had_nil _ _, rfl⟩
/-- How far down a node is. -/
def depB (G : List (List Nat)) (c : Nat) : Nat := (orderL G).idxOf c
theorem depB_up (hG : GOk G) (h0 : G.length ≠ 0) {c d : Nat} (hc : Rch G c) (hd : (abvL G).getD c 0 = (d : Int)) : depB G d < depB G c := by
  obtain ⟨hab, hord, _⟩ := abv_facts hG h0
  obtain ⟨hnd, hmem, _⟩ := order_mem hG h0
  obtain ⟨A, B, ho⟩ := List.append_of_mem ((hmem c).2 hc)
  have hA : c ∉ A := fun h => by
    rw [ho] at hnd
    exact (List.nodup_append.1 hnd).2.2 c h c (by simp) rfl
  have hcl := rchLt hG h0 hc
  have hu := hord.up A c B ho
  rw [abF_eq (by rw [hab.1]; exact hcl), hd] at hu
  rcases hu with e | ⟨d', e, h1⟩
  · omega
  · obtain rfl : d = d' := by omega
    unfold depB
    rw [ho, List.idxOf_append, if_pos h1, List.idxOf_append, if_neg hA]
    have := List.idxOf_lt_length_of_mem h1
    omega
end
end Go.Proofs.Ytomfmkddfgpmkaa.Fl
