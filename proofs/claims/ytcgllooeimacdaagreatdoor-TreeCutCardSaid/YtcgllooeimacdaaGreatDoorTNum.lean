/-
  Joined: TNum, TNumL.
-/
import Derived.Test.YtcgllooeimacdaaGreatDoorTBal
import Derived.Test.YtcgllooeimacdaaGreatDoorTParse
import Derived.Test.YtcgllooeimacdaaGreatDoorTNm
import Derived.Test.YtcgllooeimacdaaGreatDoorTAwake2
import Derived.BigQuiet
/-! Joined: TG, TWf, TNum, TAny. -/

namespace Go.Proofs.YtcgllooeimacdaaGreatDoor.Px
open Lx (Tok)

/-- The tokens end with the end, which stands nowhere else. -/
def EndT (ts : List Tok) : Prop := ∀ i, i < ts.length → (tk ts i).kind ≠ 0 ∨ (tk ts i).text ≠ [] → i + 1 < ts.length
/-- P: there is fuel enough. -/
def G {α : Type} (P : Prop) (ts : List Tok) (k : Nat) (s : St) (r : R α) : Prop := match r with
  | .error e => e.2 ≠ 0 ∧ (P → e.2 ≠ 99)
  | .ok (_, s') => s.i + k ≤ s'.i ∧ s'.i < ts.length
section
variable {α β : Type} {P Q : Prop} {ts : List Tok} {k j : Nat} {s : St} {r : R α}
theorem G.weak (h : G Q ts k s r) (hP : P → Q) (hj : j ≤ k) : G P ts j s r := by
  rcases r with e | ⟨a, s'⟩
  · exact ⟨h.1, fun p => h.2 (hP p)⟩
  · exact ⟨by have := h.1; omega, h.2⟩
theorem G.bind {f : α → St → R β} (h : G P ts k s r) (hf : ∀ a s', r = .ok (a, s') → s.i + k ≤ s'.i → s'.i < ts.length → G P ts j s' (f a s')) : G P ts (k + j) s (bindR r f) := by
  rcases r with e | ⟨a, s'⟩
  · exact h
  · have h2 := hf a s' rfl h.1 h.2
    show G P ts (k + j) s (f a s')
    rcases hr : f a s' with e | ⟨b, s2⟩
    · rw [hr] at h2; exact h2
    · rw [hr] at h2; exact ⟨by have := h2.1; have := h.1; omega, h2.2⟩
theorem G.ret (a : α) (h : s.i < ts.length) : G P ts 0 s (.ok (a, s)) := ⟨Nat.le_refl _, h⟩
theorem G.wrong : G P ts k s (wrongR (α := α) ts s) := ⟨by simp, fun _ => by simp⟩
theorem G.gone (h : ¬ P) : G P ts k s (gone (α := α)) := ⟨by simp, fun p => absurd p h⟩
theorem G.take (hw : EndT ts) (h : s.i < ts.length) (ht : (tk ts s.i).kind ≠ 0 ∨ (tk ts s.i).text ≠ []) : G P ts 1 s (takeR ts s) := by
  have := hw s.i h ht
  unfold takeR
  split
  · split
    · exact ⟨by simp, fun _ => by simp⟩
    · exact ⟨Nat.le_refl _, this⟩
  · split
    · exact ⟨Nat.le_refl _, this⟩
    · exact ⟨Nat.le_refl _, this⟩
theorem G.expect (hw : EndT ts) (h : s.i < ts.length) {x : Bytes} (hx : x ≠ []) : G P ts 1 s (expectR x ts s) := by
  unfold expectR
  split
  · exact G.take hw h (Or.inr (by rename_i e; rw [e]; exact hx))
  · exact G.wrong
theorem G.kind (hw : EndT ts) (h : s.i < ts.length) {k : Nat} (hx : k ≠ 0) : G P ts 1 s (kindR k ts s) := by
  unfold kindR
  split
  · exact G.take hw h (Or.inl (by rename_i e; rw [e]; exact hx))
  · exact G.wrong
theorem G.type (hw : EndT ts) (h : s.i < ts.length) : ∀ (ks : List Nat), (∀ k ∈ ks, nameOf k ≠ []) → G P ts 1 s (typeR ts ks s)
  | [], _ => G.wrong
  | k :: ks, hk => by
    unfold typeR
    split
    · rename_i e
      exact (G.take hw h (Or.inr (by rw [e]; exact hk k (by simp)))).bind (j := 0) fun a s' _ _ h2 => G.ret _ h2
    · exact G.type hw h ks fun k h => hk k (by simp [h])
theorem G.place (hw : EndT ts) (h : s.i < ts.length) {item : St → R α} (hi : ∀ s', s.i + 1 ≤ s'.i → s'.i < ts.length → G P ts 0 s' (item s')) : G P ts 1 s (placeB ts item s) := by
  unfold placeB
  refine ((G.expect hw h (by simp)).bind (j := 0 + (1 + 0)) fun a s1 _ h1 h2 => (hi s1 h1 h2).bind fun x s2 _ h3 h4 => (G.expect hw h4 (by simp)).bind fun _ s3 _ _ h5 => G.ret _ h5).weak (fun p => p) (by omega)
theorem G.items (hw : EndT ts) {item : St → R α} (i0 : Nat) (hi : ∀ s', i0 ≤ s'.i → s'.i < ts.length → G P ts 0 s' (item s')) : ∀ (n : Nat) (l : List α) (s : St), i0 ≤ s.i → s.i < ts.length → (P → ts.length - s.i ≤ n) → G P ts 0 s (itemsB ts item n l s)
  | 0, l, s, h0, h, hn => G.gone fun p => by have := hn p; omega
  | n + 1, l, s, h0, h, hn => by
    rw [show itemsB ts item (n + 1) l s = if (tk ts s.i).text = [44] then bindR (takeR ts s) fun _ s => bindR (item s) fun x s => itemsB ts item n (l ++ [x]) s else .ok (l, s) from rfl]
    split
    · rename_i e
      refine ((G.take hw h (Or.inr (by rw [e]; simp))).bind (j := 0) fun a s1 _ h1 h2 => ?_).weak (fun p => p) (by omega)
      refine (hi s1 (by omega) h2).bind (j := 0) fun x s2 _ h3 h4 => G.items hw i0 hi n (l ++ [x]) s2 (by omega) h4 fun p => by have := hn p; omega
    · exact G.ret _ h
theorem G.list (hw : EndT ts) (h : s.i < ts.length) {item : St → R α} (hi : ∀ s', s.i + 1 ≤ s'.i → s'.i < ts.length → G P ts 0 s' (item s')) {n : Nat} (hn : P → ts.length - s.i ≤ n) : G P ts 1 s (listB ts item n s) := by
  unfold listB
  refine ((G.expect hw h (by simp)).bind (j := 0 + (1 + 0)) fun a s1 _ h1 h2 => G.bind ?_ fun x s2 _ h3 h4 => (G.expect hw h4 (by simp)).bind fun _ s3 _ _ h5 => G.ret _ h5).weak (fun p => p) (by omega)
  split
  · exact G.ret _ h2
  · exact (hi s1 h1 h2).bind (j := 0) fun x s2 _ h3 h4 => G.items hw (s.i + 1) hi n [x] s2 (by omega) h4 fun p => by have := hn p; omega
end

theorem prefix_nil {t : Bytes} (h : prefixOf t ≠ 0) : t ≠ [] := by rintro rfl; exact h (by decide)
theorem infix_nil {t : Bytes} (h : (infixOf t).1 ≠ 0) : t ≠ [] := by rintro rfl; exact h (by decide)

theorem exprs_G {ts : List Tok} (hw : EndT ts) : ∀ f, (∀ least s, s.i < ts.length → G (4 * (ts.length - s.i) + 3 ≤ f) ts 0 s (binF ts f least s)) ∧ (∀ least l s, s.i < ts.length → G (4 * (ts.length - s.i) + 1 ≤ f) ts 0 s (loopF ts f least l s)) ∧
    (∀ s, s.i < ts.length → G (4 * (ts.length - s.i) + 2 ≤ f) ts 0 s (unF ts f s)) ∧ (∀ s, s.i < ts.length → G (4 * (ts.length - s.i) + 1 ≤ f) ts 0 s (opF ts f s)) ∧ (∀ u s, s.i < ts.length → G (4 * (ts.length - s.i) + 1 ≤ f) ts 0 s (useF ts f u s))
  | 0 => ⟨(fun _ _ _ => by rw [binF]; exact G.gone (by omega)), (fun _ _ _ _ => by rw [loopF]; exact G.gone (by omega)), (fun _ _ => by rw [unF]; exact G.gone (by omega)), (fun _ _ => by rw [opF]; exact G.gone (by omega)), (fun _ _ _ => by rw [useF]; exact G.gone (by omega))⟩
  | f + 1 => by
    obtain ⟨h1, h2, h3, h4, h5⟩ := exprs_G hw f
    refine ⟨?_, ?_, ?_, ?_, ?_⟩
    · intro least s h
      rw [binF]
      exact ((h3 s h).weak (fun p => by omega) (Nat.le_refl _)).bind (j := 0) fun l s1 _ e1 e2 => (h2 least l s1 e2).weak (fun p => by omega) (Nat.le_refl _)
    · intro least l s h
      rw [loopF]
      split
      · exact G.ret _ h
      · rename_i hc
        refine ((G.take hw h (Or.inr (infix_nil (fun e => hc (Or.inl e))))).bind (j := 0 + 0) fun t s1 _ e1 e2 => ?_).weak (fun p => p) (by omega)
        refine ((h1 _ s1 e2).weak (fun p => by omega) (Nat.le_refl _)).bind fun r s2 _ e3 e4 => (h2 _ _ s2 e4).weak (fun p => by omega) (Nat.le_refl _)
    · intro s h
      rw [unF]
      split
      · exact (h4 s h).weak (fun p => by omega) (Nat.le_refl _)
      · rename_i hc
        refine ((G.take hw h (Or.inr (prefix_nil hc))).bind (j := 0 + 0) fun t s1 _ e1 e2 => ?_).weak (fun p => p) (by omega)
        exact ((h3 s1 e2).weak (fun p => by omega) (Nat.le_refl _)).bind fun r s2 _ e3 e4 => G.ret _ e4
    · intro s h
      rw [opF]
      split
      · rename_i hc
        exact ((G.take hw h (Or.inl (by rw [hc]; decide))).bind (j := 0) fun t s1 _ e1 e2 => G.ret _ e2).weak (fun p => p) (by omega)
      split
      · rename_i hc
        exact ((G.take hw h (Or.inl (by rw [hc]; decide))).bind (j := 0) fun t s1 _ e1 e2 => (h5 _ s1 e2).weak (fun p => by omega) (Nat.le_refl _)).weak (fun p => p) (by omega)
      split
      · rename_i hc
        exact ((G.take hw h (Or.inr (by rw [hc]; simp))).bind (j := 0) fun t s1 _ e1 e2 => G.ret _ e2).weak (fun p => p) (by omega)
      split
      · rename_i hc
        exact ((G.take hw h (Or.inr (by rw [hc]; simp))).bind (j := 0) fun t s1 _ e1 e2 => G.ret _ e2).weak (fun p => p) (by omega)
      split
      · rename_i hc
        refine ((G.take hw h (Or.inr (by rw [hc]; simp))).bind (j := 1 + (1 + 0)) fun t s1 _ e1 e2 => ?_).weak (fun p => p) (by omega)
        exact (G.expect hw e2 (by simp)).bind fun _ s2 _ _ e4 => (G.expect hw e4 (by simp)).bind fun _ s3 _ _ e6 => G.ret _ e6
      split
      · rename_i hc
        refine ((G.take hw h (Or.inr (by rw [hc]; simp))).bind (j := 1 + (1 + (1 + 0))) fun t s1 _ e1 e2 => ?_).weak (fun p => p) (by omega)
        exact (G.expect hw e2 (by simp)).bind fun _ s2 _ _ e4 => (G.kind hw e4 (by decide)).bind fun _ s3 _ _ e6 => (G.expect hw e6 (by simp)).bind fun _ s3 _ _ e6 => G.ret _ e6
      split
      · rename_i hc
        refine ((G.take hw h (Or.inr (by rw [hc]; simp))).bind (j := 0 + (1 + 0)) fun t s1 _ e1 e2 => ?_).weak (fun p => p) (by omega)
        exact ((h1 _ s1 e2).weak (fun p => by omega) (Nat.le_refl _)).bind fun _ s2 _ _ e4 => (G.expect hw e4 (by simp)).bind fun _ s3 _ _ e6 => G.ret _ e6
      · exact G.wrong
    · intro u s h
      rw [useF]
      split
      · refine ((G.place hw h fun s1 e1 e2 => (h1 _ s1 e2).weak (fun p => by omega) (Nat.le_refl _)).bind (j := 0) fun x s2 _ _ e4 => G.ret _ e4).weak (fun p => p) (by omega)
      split
      · refine ((G.list hw h (fun s1 e1 e2 => (h1 _ s1 e2).weak (fun p => by omega) (Nat.le_refl _)) (fun p => by omega)).bind (j := 0) fun x s2 _ _ e4 => G.ret _ e4).weak (fun p => p) (by omega)
      · exact G.ret _ h
/-- Fuel for an expression that is read behind another token than that which is counted from. -/
abbrev EnB (ts : List Tok) (f i : Nat) : Prop := 4 * (ts.length - i) ≤ f + 1
theorem bin_G {ts : List Tok} (hw : EndT ts) {f least i : Nat} {s : St} (h : s.i < ts.length) (hi : i + 1 ≤ s.i) : G (EnB ts f i) ts 0 s (binF ts f least s) := ((exprs_G hw f).1 least s h).weak (fun p => by unfold EnB at p; omega) (Nat.le_refl _)

section
variable {ts : List Tok} {f id pos : Nat} {s : St}
theorem namedF_G (hw : EndT ts) (h : s.i < ts.length) : G (EnB ts f s.i) ts 1 s (namedF ts f id pos s) := by
  unfold namedF
  refine ((G.kind hw h (by decide)).bind (j := 0) fun t s1 _ a1 a2 => ?_).weak (fun p => p) (by omega)
  split
  · rename_i hc
    exact ((G.take hw a2 (Or.inr (by rw [hc]; simp))).bind (j := 0 + (1 + 0)) fun _ s2 _ b1 b2 => (bin_G hw b2 (by omega)).bind fun _ s3 _ c1 c2 => (G.expect hw c2 (by simp)).bind fun _ s4 _ _ d2 => G.ret _ d2).weak (fun p => p) (by omega)
  split
  · rename_i hc
    unfold placeF
    exact ((G.place hw a2 fun s' b1 b2 => bin_G hw b2 (by omega)).bind (j := 1 + (0 + (1 + 0))) fun _ s2 _ b1 b2 => (G.expect hw b2 (by simp)).bind fun _ s3 _ c1 c2 => (bin_G hw c2 (by omega)).bind fun _ s4 _ d1 d2 => (G.expect hw d2 (by simp)).bind fun _ s5 _ _ e2 => G.ret _ e2).weak (fun p => p) (by omega)
  split
  · rename_i hc
    refine (G.bind (k := 1) (j := 1 + 0) ?_ fun _ s2 _ b1 b2 => (G.expect hw b2 (by simp)).bind fun _ s3 _ c1 c2 => G.ret _ c2).weak (fun p => p) (by omega)
    unfold callF
    exact (G.list hw a2 (fun s' b1 b2 => bin_G hw b2 (by omega)) (fun p => by unfold EnB at p; omega)).bind (j := 0) fun _ s2 _ b1 b2 => G.ret _ b2
  · exact G.wrong
theorem letF_G (hw : EndT ts) (h : s.i < ts.length) : G (EnB ts f s.i) ts 1 s (letF ts f id pos s) := by
  unfold letF
  refine ((G.expect hw h (by simp)).bind (j := 1 + (1 + (1 + 0))) fun t s1 _ a1 a2 => (G.kind hw a2 (by decide)).bind fun _ s2 _ b1 b2 => (G.expect hw b2 (by simp)).bind fun _ s3 _ c1 c2 => (G.type hw c2 [1, 2, 3] (by decide)).bind fun y s4 _ d1 d2 => ?_).weak (fun p => p) (by omega)
  split
  · exact ((G.expect hw d2 (by simp)).bind (j := 1 + (1 + (1 + 0))) fun _ s5 _ _ e2 => (G.kind hw e2 (by decide)).bind fun _ s6 _ _ f2 => (G.expect hw f2 (by simp)).bind fun _ s7 _ _ g2 => (G.expect hw g2 (by simp)).bind fun _ s8 _ _ h2 => G.ret _ h2).weak (fun p => p) (by omega)
  split
  · rename_i hc
    exact ((G.take hw d2 (Or.inr (by rw [hc]; simp))).bind (j := 0 + (1 + 0)) fun _ s5 _ e1 e2 => (bin_G hw e2 (by omega)).bind fun _ s6 _ _ f2 => (G.expect hw f2 (by simp)).bind fun _ s7 _ _ g2 => G.ret _ g2).weak (fun p => p) (by omega)
  · exact ((G.expect hw d2 (by simp)).bind (j := 0) fun _ s5 _ _ e2 => G.ret _ e2).weak (fun p => p) (by omega)
theorem returnF_G (hw : EndT ts) (h : s.i < ts.length) (ht : (tk ts s.i).text ≠ []) : G (EnB ts f s.i) ts 1 s (returnF ts f id pos s) := by
  unfold returnF
  refine ((G.take hw h (Or.inr ht)).bind (j := 0) fun t s1 _ a1 a2 => ?_).weak (fun p => p) (by omega)
  split
  · exact ((G.expect hw a2 (by simp)).bind (j := 0) fun _ s5 _ _ e2 => G.ret _ e2).weak (fun p => p) (by omega)
  · exact ((bin_G hw a2 (by omega)).bind (j := 1 + 0) fun _ s6 _ _ f2 => (G.expect hw f2 (by simp)).bind fun _ s7 _ _ g2 => G.ret _ g2).weak (fun p => p) (by omega)
theorem printF_G (hw : EndT ts) (h : s.i < ts.length) (ht : (tk ts s.i).text ≠ []) : G (EnB ts f s.i) ts 1 s (printF ts f id pos s) := by
  unfold printF
  exact ((G.take hw h (Or.inr ht)).bind (j := 0 + (1 + 0)) fun t s1 _ a1 a2 => (bin_G hw a2 (by omega)).bind fun _ s6 _ _ f2 => (G.expect hw f2 (by simp)).bind fun _ s7 _ _ g2 => G.ret _ g2).weak (fun p => p) (by omega)
theorem choiceB_G {blk : St → R (List Sm)} (hw : EndT ts) (h : s.i < ts.length) (hb : ∀ s', s.i + 1 ≤ s'.i → s'.i < ts.length → G (EnB ts f s.i) ts 0 s' (blk s')) : G (EnB ts f s.i) ts 1 s (choiceB ts f id pos blk s) := by
  unfold choiceB
  refine ((G.expect hw h (by simp)).bind (j := 0 + (0 + 0)) fun t s1 _ a1 a2 => (bin_G hw a2 (by omega)).bind fun _ s2 _ b1 b2 => (hb s2 (by omega) b2).bind fun _ s3 _ c1 c2 => ?_).weak (fun p => p) (by omega)
  split
  · rename_i hc
    exact ((G.take hw c2 (Or.inr (by rw [hc]; simp))).bind (j := 0 + 0) fun _ s4 _ d1 d2 => (hb s4 (by omega) d2).bind fun _ s5 _ e1 e2 => G.ret _ e2).weak (fun p => p) (by omega)
  · exact G.ret _ c2
theorem whileB_G {blk : St → R (List Sm)} (hw : EndT ts) (h : s.i < ts.length) (ht : (tk ts s.i).text ≠ []) (hb : ∀ s', s.i + 1 ≤ s'.i → s'.i < ts.length → G (EnB ts f s.i) ts 0 s' (blk s')) : G (EnB ts f s.i) ts 1 s (whileB ts f id pos blk s) := by
  unfold whileB
  exact ((G.take hw h (Or.inr ht)).bind (j := 0 + (0 + 0)) fun t s1 _ a1 a2 => (bin_G hw a2 (by omega)).bind fun _ s2 _ b1 b2 => (hb s2 (by omega) b2).bind fun _ s3 _ c1 c2 => G.ret _ c2).weak (fun p => p) (by omega)
end

theorem stmts_G {ts : List Tok} (hw : EndT ts) : ∀ f, (∀ s, s.i < ts.length → G (4 * (ts.length - s.i) ≤ f) ts 1 s (blockF ts f s)) ∧ (∀ l s, s.i < ts.length → G (4 * (ts.length - s.i) + 2 ≤ f) ts 0 s (bodyF ts f l s)) ∧ (∀ s, s.i < ts.length → G (4 * (ts.length - s.i) + 1 ≤ f) ts 1 s (smF ts f s))
  | 0 => ⟨(fun _ _ => by rw [blockF]; exact G.gone (by omega)), (fun _ _ _ => by rw [bodyF]; exact G.gone (by omega)), (fun _ _ => by rw [smF]; exact G.gone (by omega))⟩
  | f + 1 => by
    obtain ⟨h1, h2, h3⟩ := stmts_G hw f
    refine ⟨?_, ?_, ?_⟩
    · intro s h
      rw [blockF]
      exact ((G.expect hw h (by simp)).bind (j := 0 + (1 + 0)) fun t s1 _ a1 a2 => ((h2 [] s1 a2).weak (fun p => by omega) (Nat.le_refl _)).bind fun _ s2 _ b1 b2 => (G.expect hw b2 (by simp)).bind fun _ s3 _ c1 c2 => G.ret _ c2).weak (fun p => p) (by omega)
    · intro l s h
      rw [bodyF]
      split
      · exact G.ret _ h
      · exact (((h3 s h).weak (fun p => by omega) (Nat.le_refl _)).bind (j := 0) fun x s1 _ a1 a2 => (h2 _ s1 a2).weak (fun p => by omega) (Nat.le_refl _)).weak (fun p => p) (by omega)
    · intro s h
      have hb : ∀ s' : St, s.i + 1 ≤ s'.i → s'.i < ts.length → G (EnB ts f s.i) ts 0 s' (blockF ts f s') := fun s' e1 e2 => (h1 s' e2).weak (fun p => by unfold EnB at p; omega) (by omega)
      have key : ∀ r : R Sm, G (EnB ts f s.i) ts 1 ⟨s.i, s.o, s.n + 1⟩ r → G (4 * (ts.length - s.i) + 1 ≤ f + 1) ts 1 s r := fun r hr => by
        have h' : G (EnB ts f s.i) ts 1 s r := hr
        exact h'.weak (fun p => by unfold EnB; omega) (Nat.le_refl _)
      rw [smF]
      split
      · exact key _ (namedF_G (s := ⟨s.i, s.o, s.n + 1⟩) hw h)
      split
      · exact key _ (letF_G (s := ⟨s.i, s.o, s.n + 1⟩) hw h)
      split
      · exact key _ (choiceB_G (s := ⟨s.i, s.o, s.n + 1⟩) hw h hb)
      split
      · rename_i hc; exact key _ (whileB_G (s := ⟨s.i, s.o, s.n + 1⟩) hw h (by show (tk ts s.i).text ≠ []; rw [hc]; simp) hb)
      split
      · rename_i hc; exact key _ (returnF_G (s := ⟨s.i, s.o, s.n + 1⟩) hw h (by show (tk ts s.i).text ≠ []; rw [hc]; simp))
      split
      · rename_i hc; exact key _ (printF_G (s := ⟨s.i, s.o, s.n + 1⟩) hw h (by show (tk ts s.i).text ≠ []; rw [hc]; simp))
      · exact G.wrong
theorem pmF_G {ts : List Tok} (hw : EndT ts) {P : Prop} {s : St} (h : s.i < ts.length) : G P ts 1 s (pmF ts s) := by
  unfold pmF
  exact ((G.kind hw h (by decide)).bind (j := 1 + (1 + 0)) fun _ s2 _ b1 b2 => (G.expect hw b2 (by simp)).bind fun _ s3 _ c1 c2 => (G.type hw c2 [1, 2, 3] (by decide)).bind fun y s4 _ d1 d2 => G.ret _ d2).weak (fun p => p) (by omega)
theorem fuF_G {ts : List Tok} (hw : EndT ts) {f : Nat} {s : St} (h : s.i < ts.length) : G (4 * (ts.length - s.i) ≤ f) ts 1 s (fuF ts f s) := by
  unfold fuF
  refine ((G.expect hw h (by simp)).bind (j := 1 + (1 + (0 + (1 + 0)))) fun _ s1 _ a1 a2 => (G.kind hw a2 (by decide)).bind fun _ s2 _ b1 b2 => (G.list hw b2 (fun s' c1 c2 => (pmF_G hw c2).weak (fun p => p) (by omega)) (fun p => by omega)).bind fun _ s3 _ c1 c2 => G.bind ?_ fun y s4 _ d1 d2 => (((stmts_G hw f).1 s4 d2).weak (fun p => by omega) (Nat.le_refl _)).bind fun _ s5 _ e1 e2 => G.ret _ e2).weak (fun p => p) (by omega)
  split
  · rename_i hc
    exact ((G.take hw c2 (Or.inr (by rw [hc]; simp))).bind (j := 1) fun _ s4 _ d1 d2 => G.type hw d2 [1, 2] (by decide)).weak (fun p => p) (by omega)
  · exact G.ret _ c2
theorem fusF_G {ts : List Tok} (hw : EndT ts) : ∀ (f : Nat) (l : List Fu) (s : St), s.i < ts.length → G (4 * (ts.length - s.i) + 1 ≤ f) ts 0 s (fusF ts f l s)
  | 0, _, _, _ => by rw [fusF]; exact G.gone (by omega)
  | f + 1, l, s, h => by
    rw [fusF]
    refine (((fuF_G hw h).weak (fun p => by omega) (Nat.le_refl _)).bind (j := 0) fun x s1 _ a1 a2 => ?_).weak (fun p => p) (by omega)
    split
    · exact G.ret _ a2
    · exact (fusF_G hw f _ s1 a2).weak (fun p => by omega) (Nat.le_refl _)
theorem fusF_ng {ts : List Tok} (hw : EndT ts) (h0 : 0 < ts.length) : fusF ts (fuel ts) [] ⟨0, 0, 0⟩ ≠ gone := by
  intro h
  have := fusF_G hw (fuel ts) [] ⟨0, 0, 0⟩ h0
  rw [h] at this
  exact this.2 (by unfold fuel; simp; omega) rfl
end Go.Proofs.YtcgllooeimacdaaGreatDoor.Px

/-! The tokens of a text: they end with the end, their places rise, there aren't too many; and what any text's parsing comes to. -/

namespace Go.Proofs.YtcgllooeimacdaaGreatDoor.Px
open Lx (Tok)

theorem tokL_err {pos : Nat} {l : List UInt8} {e : Nat} (h : Lx.tokL pos l = .error e) : e = 2 ∨ e = 4 := by
  match l with
  | [] => unfold Lx.tokL at h; cases h; exact Or.inr rfl
  | c :: t =>
    rw [Lx.tokL] at h
    split at h
    · split at h
      · cases h; exact Or.inl rfl
      · cases h
    · split at h
      · split at h
        · cases h; exact Or.inl rfl
        · split at h
          · cases h; exact Or.inr rfl
          · split at h
            · cases h; exact Or.inr rfl
            · cases h
      · split at h
        · cases h; exact Or.inr rfl
        · cases h
/-- Tokens of which the last is the end, and whose places rise. -/
def TsOk : Nat → List Tok → Prop
  | _, [] => False
  | p, t :: r => p ≤ t.pos ∧ ((r = [] ∧ t.kind = 0 ∧ t.text = []) ∨ (r ≠ [] ∧ t.text ≠ [] ∧ TsOk (t.pos + 1) r))
theorem TsOk.mono : ∀ {p q : Nat} {r : List Tok}, TsOk q r → p ≤ q → TsOk p r
  | _, _, [], h, _ => h
  | _, _, _ :: _, h, hp => ⟨Nat.le_trans hp h.1, h.2⟩
theorem TsOk.ne {p : Nat} {r : List Tok} (h : TsOk p r) : r ≠ [] := by rintro rfl; exact h
theorem resF_ok : ∀ (n pos : Nat) (l : List UInt8), l.length < n → (∀ p e, Lx.resF n pos l = .error (p, e) → e = 2 ∨ e = 4) ∧ (∀ ts, Lx.resF n pos l = .ok ts → TsOk pos ts ∧ ts.length ≤ l.length + 1)
  | 0, _, _, h => absurd h (by omega)
  | n + 1, pos, [], _ => by
    rw [Lx.resF]
    refine ⟨(fun p e h => by cases h), fun ts h => ?_⟩
    cases h
    exact ⟨⟨Nat.le_refl _, Or.inl ⟨rfl, rfl, rfl⟩⟩, by simp⟩
  | n + 1, pos, c :: t, hl => by
    simp only [List.length_cons] at hl
    rw [Lx.resF]
    split
    · obtain ⟨h1, h2⟩ := resF_ok n (pos + 1) t (by omega)
      refine ⟨h1, fun ts h => ?_⟩
      obtain ⟨a, b⟩ := h2 ts h
      exact ⟨a.mono (by omega), by simp; omega⟩
    · split
      · have := Lx.dropWhile_le (· != 10) t
        obtain ⟨h1, h2⟩ := resF_ok n (pos + 1 + (t.takeWhile (· != 10)).length) (t.dropWhile (· != 10)) (by omega)
        refine ⟨h1, fun ts h => ?_⟩
        obtain ⟨a, b⟩ := h2 ts h
        exact ⟨a.mono (by omega), by simp only [List.length_cons]; omega⟩
      · cases hk : Lx.tokL pos (c :: t) with
        | error e =>
          refine ⟨fun p e' h => ?_, fun ts h => by cases h⟩
          cases h
          exact tokL_err hk
        | ok k =>
          obtain ⟨k1, k2, k3, k4⟩ := Lx.tokL_len hk
          obtain ⟨h1, h2⟩ := resF_ok n (pos + k.text.length) ((c :: t).drop k.text.length) (by simp only [List.length_drop, List.length_cons]; omega)
          dsimp only
          cases hr : Lx.resF n (pos + k.text.length) ((c :: t).drop k.text.length) with
          | error e =>
            refine ⟨fun p e' h => ?_, fun ts h => by cases h⟩
            cases h
            exact h1 _ _ hr
          | ok r =>
            refine ⟨(fun p e' h => by cases h), fun ts h => ?_⟩
            cases h
            obtain ⟨a, b⟩ := h2 r hr
            refine ⟨⟨by omega, Or.inr ⟨a.ne, by intro e; rw [e] at k1; exact absurd k1 (by simp), a.mono (by omega)⟩⟩, ?_⟩
            simp only [List.length_drop, List.length_cons, List.singleton_append] at b ⊢
            simp only [List.length_cons] at k2
            omega
theorem scan_err {l : Bytes} {p e : Nat} (h : Lx.scan l = .error (p, e)) : e = 2 ∨ e = 4 := by
  unfold Lx.scan at h
  split at h
  · cases h; exact Or.inl rfl
  · exact (resF_ok (l.length + 1) 0 l (by omega)).1 p e h
theorem TsOk.end : ∀ {p : Nat} {ts : List Tok}, TsOk p ts → EndT ts
  | _, [], h => h.elim
  | _, t :: r, h => by
    intro i hi ht
    rcases h.2 with ⟨h1, h2, h3⟩ | ⟨h1, h2, h3⟩
    · subst h1
      simp at hi
      subst hi
      rcases ht with ht | ht
      · exact absurd h2 ht
      · exact absurd h3 ht
    · cases i with
      | zero =>
        have : 0 < r.length := List.length_pos_iff.2 h1
        simp only [List.length_cons]; omega
      | succ i =>
        have := TsOk.end h3 i (by simpa using hi) ht
        simp only [List.length_cons]; omega
theorem TsOk.first : ∀ {p : Nat} {ts : List Tok}, TsOk p ts → p ≤ (tk ts 0).pos
  | _, [], h => h.elim
  | _, t :: r, h => h.1
theorem TsOk.step : ∀ {p : Nat} {ts : List Tok}, TsOk p ts → ∀ i, i + 1 < ts.length → (tk ts i).pos + 1 ≤ (tk ts (i + 1)).pos
  | _, [], h, _, _ => h.elim
  | _, t :: r, h, i, hi => by
    rcases h.2 with ⟨h1, h2, h3⟩ | ⟨h1, h2, h3⟩
    · subst h1; simp at hi
    · cases i with
      | zero => exact h3.first
      | succ i => exact TsOk.step h3 i (by simpa using hi)
/-- Places rise. -/
def Rise (ts : List Tok) : Prop := ∀ i j, i < j → j < ts.length → (tk ts i).pos + 1 ≤ (tk ts j).pos
theorem TsOk.rise {p : Nat} {ts : List Tok} (h : TsOk p ts) : Rise ts := by
  intro i j hij hj
  obtain ⟨d, rfl⟩ : ∃ d, j = i + 1 + d := ⟨j - (i + 1), by omega⟩
  induction d with
  | zero => exact h.step i hj
  | succ d ih =>
    have := ih (by omega) (by omega)
    have := h.step (i + 1 + d) (by omega)
    rw [show i + 1 + (d + 1) = i + 1 + d + 1 by omega]
    omega
theorem scan_ok {l : Bytes} {ts : List Tok} (h : Lx.scan l = .ok ts) : TsOk 0 ts ∧ ts.length ≤ 20001 := by
  unfold Lx.scan at h
  split at h
  · cases h
  · obtain ⟨a, b⟩ := (resF_ok (l.length + 1) 0 l (by omega)).2 ts h
    exact ⟨a, by omega⟩
end Go.Proofs.YtcgllooeimacdaaGreatDoor.Px
namespace Go.Proofs.YtcgllooeimacdaaGreatDoor
open Go Go.RowKit Px
open Lx (Tok)
theorem scan_wf {l : Bytes} {ts : List Tok} (h : Lx.scan l = .ok ts) : WfT ts := by
  obtain ⟨h1, h2⟩ := scan_ok h
  exact ⟨List.length_pos_iff.2 h1.ne, by omega, h1.end⟩
end Go.Proofs.YtcgllooeimacdaaGreatDoor

/-! Statements are numbered as they begin, and stand where they begin. -/

namespace Go.Proofs.YtcgllooeimacdaaGreatDoor.Px
open Lx (Tok)

mutual
/-- The number that comes next, and the first place that may be, behind a statement; none if it isn't numbered so. -/
def numSm : Sm → Nat → Nat → Option (Nat × Nat)
  | .mk _ id _ _ _ pos _ body els, n, a => if id = n ∧ a ≤ pos then match numSms body (n + 1) (pos + 1) with
    | none => none
    | some (n1, a1) => numSms els n1 a1
    else none
def numSms : List Sm → Nat → Nat → Option (Nat × Nat)
  | [], n, a => some (n, a)
  | x :: l, n, a => match numSm x n a with
    | none => none
    | some (n1, a1) => numSms l n1 a1
end
theorem numSms_snoc {x : Sm} : ∀ (l : List Sm) {n a n1 a1 n2 a2 : Nat}, numSms l n a = some (n1, a1) → numSm x n1 a1 = some (n2, a2) → numSms (l ++ [x]) n a = some (n2, a2)
  | [], n, a, n1, a1, n2, a2, h, hx => by
    rw [numSms] at h; cases h
    rw [List.nil_append, numSms, hx]; rfl
  | y :: l, n, a, n1, a1, n2, a2, h, hx => by
    rw [numSms] at h
    rw [List.cons_append, numSms]
    cases hy : numSm y n a with
    | none => rw [hy] at h; cases h
    | some p =>
      obtain ⟨n3, a3⟩ := p
      rw [hy] at h
      exact numSms_snoc l h hx

theorem bin_n {ts : List Tok} {f least : Nat} {s s' : St} {x : Ex} (h : binF ts f least s = .ok (x, s')) : s'.n = s.n := ((exprs_adv ts f).1 _ _ _ _ h).1
theorem type_n {ts : List Tok} : ∀ (ks : List Nat) {s s' : St} {y : Nat}, typeR ts ks s = .ok (y, s') → s'.n = s.n := typeR_n
/-- A statement without blocks. -/
def Leaf (id pos : Nat) (s s' : St) (x : Sm) : Prop := s'.n = s.n ∧ ∃ k nm t n ex, x = .mk k id nm t n pos ex [] []
theorem namedF_leaf {ts : List Tok} {f id pos : Nat} {s s' : St} {x : Sm} (h : namedF ts f id pos s = .ok (x, s')) : Leaf id pos s s' x := by
  unfold namedF at h
  obtain ⟨a, s1, e1, e2⟩ := bindR_inv h
  have n1 := kindR_n e1
  split at e2
  · obtain ⟨a', s2, e3, e4⟩ := bindR_inv e2
    obtain ⟨a'', s3, e5, e6⟩ := bindR_inv e4
    obtain ⟨a3, s4, e7, e8⟩ := bindR_inv e6
    cases e8
    exact ⟨((expectR_n e7).trans (bin_n e5)).trans ((takeR_n e3).trans n1), _, _, _, _, _, rfl⟩
  split at e2
  · obtain ⟨a', s2, e3, e4⟩ := bindR_inv e2
    obtain ⟨a'', s3, e5, e6⟩ := bindR_inv e4
    obtain ⟨a3, s4, e7, e8⟩ := bindR_inv e6
    obtain ⟨a4, s5, e9, e10⟩ := bindR_inv e8
    cases e10
    exact ⟨((expectR_n e9).trans (bin_n e7)).trans ((expectR_n e5).trans ((placeB_adv ((exprs_adv ts f).1 1) e3).1.trans n1)), _, _, _, _, _, rfl⟩
  split at e2
  · obtain ⟨a', s2, e3, e4⟩ := bindR_inv e2
    obtain ⟨a'', s3, e5, e6⟩ := bindR_inv e4
    cases e6
    unfold callF at e3
    obtain ⟨a3, s4, e7, e8⟩ := bindR_inv e3
    cases e8
    exact ⟨(expectR_n e5).trans ((listB_adv ((exprs_adv ts f).1 1) e7).1.trans n1), _, _, _, _, _, rfl⟩
  · cases e2
theorem letF_leaf {ts : List Tok} {f id pos : Nat} {s s' : St} {x : Sm} (h : letF ts f id pos s = .ok (x, s')) : Leaf id pos s s' x := by
  unfold letF at h
  obtain ⟨a, s1, e1, e2⟩ := bindR_inv h
  obtain ⟨a', s2, e3, e4⟩ := bindR_inv e2
  obtain ⟨a'', s3, e5, e6⟩ := bindR_inv e4
  obtain ⟨y, s4, e7, e8⟩ := bindR_inv e6
  have n1 := (typeR_n _ e7).trans ((expectR_n e5).trans ((kindR_n e3).trans (expectR_n e1)))
  split at e8
  · obtain ⟨b1, r1, f1, f2⟩ := bindR_inv e8
    obtain ⟨b2, r2, f3, f4⟩ := bindR_inv f2
    obtain ⟨b3, r3, f5, f6⟩ := bindR_inv f4
    obtain ⟨b4, r4, f7, f8⟩ := bindR_inv f6
    cases f8
    exact ⟨(expectR_n f7).trans ((expectR_n f5).trans ((kindR_n f3).trans ((expectR_n f1).trans n1))), _, _, _, _, _, rfl⟩
  split at e8
  · obtain ⟨b1, r1, f1, f2⟩ := bindR_inv e8
    obtain ⟨b2, r2, f3, f4⟩ := bindR_inv f2
    obtain ⟨b3, r3, f5, f6⟩ := bindR_inv f4
    cases f6
    exact ⟨(expectR_n f5).trans ((bin_n f3).trans ((takeR_n f1).trans n1)), _, _, _, _, _, rfl⟩
  · obtain ⟨b1, r1, f1, f2⟩ := bindR_inv e8
    cases f2
    exact ⟨(expectR_n f1).trans n1, _, _, _, _, _, rfl⟩
theorem returnF_leaf {ts : List Tok} {f id pos : Nat} {s s' : St} {x : Sm} (h : returnF ts f id pos s = .ok (x, s')) : Leaf id pos s s' x := by
  unfold returnF at h
  obtain ⟨a, s1, e1, e2⟩ := bindR_inv h
  have n1 := takeR_n e1
  split at e2
  · obtain ⟨a', s2, e3, e4⟩ := bindR_inv e2
    cases e4
    exact ⟨(expectR_n e3).trans n1, _, _, _, _, _, rfl⟩
  · obtain ⟨a', s2, e3, e4⟩ := bindR_inv e2
    obtain ⟨a'', s3, e5, e6⟩ := bindR_inv e4
    cases e6
    exact ⟨(expectR_n e5).trans ((bin_n e3).trans n1), _, _, _, _, _, rfl⟩
theorem printF_leaf {ts : List Tok} {f id pos : Nat} {s s' : St} {x : Sm} (h : printF ts f id pos s = .ok (x, s')) : Leaf id pos s s' x := by
  unfold printF at h
  obtain ⟨a, s1, e1, e2⟩ := bindR_inv h
  obtain ⟨a', s2, e3, e4⟩ := bindR_inv e2
  obtain ⟨a'', s3, e5, e6⟩ := bindR_inv e4
  cases e6
  exact ⟨(expectR_n e5).trans ((bin_n e3).trans (takeR_n e1)), _, _, _, _, _, rfl⟩

/-- A list's numbers go from those ahead to those behind, and its places up to where the reader is. -/
def NumOk (ts : List Tok) (s s' : St) (l : List Sm) : Prop := ∀ a, a ≤ (tk ts s.i).pos → ∃ a', numSms l (s.n + 1) a = some (s'.n + 1, a') ∧ a' ≤ (tk ts s'.i).pos
theorem pos_le {ts : List Tok} (hr : Rise ts) {i j : Nat} (h : i ≤ j) (hj : j < ts.length) : (tk ts i).pos ≤ (tk ts j).pos := by
  rcases Nat.eq_or_lt_of_le h with rfl | h
  · exact Nat.le_refl _
  · have := hr i j h hj; omega
theorem G.got {α : Type} {P : Prop} {ts : List Tok} {k : Nat} {s s' : St} {r : R α} {x : α} (h : G P ts k s r) (hr : r = .ok (x, s')) : s.i + k ≤ s'.i ∧ s'.i < ts.length := by subst hr; exact h
theorem leaf_num {ts : List Tok} (hr : Rise ts) {s s' : St} {x : Sm} (hl : Leaf (s.n + 1) (tk ts s.i).pos ⟨s.i, s.o, s.n + 1⟩ s' x) (hi : s.i + 1 ≤ s'.i) (hj : s'.i < ts.length) : NumOk ts s s' [x] := by
  obtain ⟨h1, k, nm, t, n, ex, rfl⟩ := hl
  intro a ha
  refine ⟨(tk ts s.i).pos + 1, ?_, hr _ _ (by omega) hj⟩
  have h1 : s'.n = s.n + 1 := h1
  simp [numSms, numSm, ha, h1]

theorem stmts_num {ts : List Tok} (hw : EndT ts) (hr : Rise ts) : ∀ f, (∀ s x s', s.i < ts.length → blockF ts f s = .ok (x, s') → NumOk ts s s' x) ∧ (∀ l s x s', s.i < ts.length → bodyF ts f l s = .ok (x, s') → ∃ l', x = l ++ l' ∧ NumOk ts s s' l') ∧ (∀ s x s', s.i < ts.length → smF ts f s = .ok (x, s') → NumOk ts s s' [x])
  | 0 => ⟨(fun _ _ _ _ h => by rw [blockF] at h; cases h), (fun _ _ _ _ _ h => by rw [bodyF] at h; cases h), (fun _ _ _ _ h => by rw [smF] at h; cases h)⟩
  | f + 1 => by
    obtain ⟨h1, h2, h3⟩ := stmts_num hw hr f
    refine ⟨?_, ?_, ?_⟩
    · intro s x s' hs h
      rw [blockF] at h
      obtain ⟨a, s1, e1, e2⟩ := bindR_inv h
      obtain ⟨a', s2, e3, e4⟩ := bindR_inv e2
      obtain ⟨a'', s3, e5, e6⟩ := bindR_inv e4
      cases e6
      have g1 := (G.expect (P := False) hw hs (x := [123]) (by simp)).got e1
      obtain ⟨l', q, hn⟩ := h2 _ _ _ _ g1.2 e3
      have q : x = l' := q
      subst q
      have g3 := ((stmts_G hw f).2.1 [] s1 g1.2).got e3
      have g4 := (G.expect (P := False) hw g3.2 (x := [125]) (by simp)).got e5
      intro b hb
      obtain ⟨b', hb1, hb2⟩ := hn b (Nat.le_trans hb (pos_le hr (by omega) g1.2))
      refine ⟨b', ?_, Nat.le_trans hb2 (pos_le hr (by omega) g4.2)⟩
      rw [expectR_n e5, ← expectR_n e1]
      exact hb1
    · intro l s x s' hs h
      rw [bodyF] at h
      split at h
      · cases h
        exact ⟨[], by simp, fun b hb => ⟨b, by rw [numSms], hb⟩⟩
      · obtain ⟨y, s1, e1, e2⟩ := bindR_inv h
        have g1 := ((stmts_G hw f).2.2 s hs).got e1
        obtain ⟨l', q, hn⟩ := h2 _ _ _ _ g1.2 e2
        refine ⟨y :: l', by rw [q]; simp, ?_⟩
        intro b hb
        obtain ⟨b1, k1, k2⟩ := h3 _ _ _ hs e1 b hb
        obtain ⟨b2, k3, k4⟩ := hn b1 k2
        refine ⟨b2, ?_, k4⟩
        rw [numSms] at k1 ⊢
        cases hy : numSm y (s.n + 1) b with
        | none => rw [hy] at k1; cases k1
        | some p =>
          obtain ⟨n3, a3⟩ := p
          rw [hy] at k1
          have k1 : some (n3, a3) = some (s1.n + 1, b1) := by rw [← k1]; simp [numSms]
          cases k1
          exact k3
    · intro s x s' hs h
      have hg := ((stmts_G hw (f + 1)).2.2 s hs).got h
      have blk : ∀ (s0 : St) y s2, s0.i < ts.length → blockF ts f s0 = .ok (y, s2) → NumOk ts s0 s2 y ∧ s0.i + 1 ≤ s2.i ∧ s2.i < ts.length := fun s0 y s2 hs0 h0 => ⟨h1 _ _ _ hs0 h0, ((stmts_G hw f).1 s0 hs0).got h0⟩
      rw [smF] at h
      split at h
      · exact leaf_num hr (namedF_leaf h) hg.1 hg.2
      split at h
      · exact leaf_num hr (letF_leaf h) hg.1 hg.2
      split at h
      · unfold choiceB at h
        obtain ⟨a, s1, e1, e2⟩ := bindR_inv h
        obtain ⟨xx, s2, e3, e4⟩ := bindR_inv e2
        obtain ⟨bd, s3, e5, e6⟩ := bindR_inv e4
        have g1 := (G.expect (P := False) hw (s := ⟨s.i, s.o, s.n + 1⟩) hs (x := [105, 102]) (by simp)).got e1
        have g2 := ((exprs_G hw f).1 1 s1 g1.2).got e3
        have g3 := blk _ _ _ g2.2 e5
        have n2 : s2.n = s.n + 1 := (bin_n e3).trans (expectR_n e1)
        have i1 : s.i + 1 ≤ s1.i := g1.1
        have p2 : (tk ts s.i).pos + 1 ≤ (tk ts s2.i).pos := hr _ _ (by omega) g2.2
        obtain ⟨b1, k1, k2⟩ := g3.1 _ p2
        rw [n2] at k1
        split at e6
        · obtain ⟨t, s4, e7, e8⟩ := bindR_inv e6
          obtain ⟨el, s5, e9, e10⟩ := bindR_inv e8
          cases e10
          rename_i hc
          have g4 := (G.take (P := False) hw g3.2.2 (Or.inr (by rw [hc]; simp))).got e7
          have g5 := blk _ _ _ g4.2 e9
          obtain ⟨b2, k3, k4⟩ := g5.1 b1 (Nat.le_trans k2 (pos_le hr (by omega) g4.2))
          rw [takeR_n e7] at k3
          intro b hb
          refine ⟨b2, ?_, k4⟩
          simp [numSms, numSm, hb, k1, k3]
        · cases e6
          intro b hb
          refine ⟨b1, ?_, k2⟩
          simp [numSms, numSm, hb, k1]
      split at h
      · rename_i hc
        unfold whileB at h
        obtain ⟨a, s1, e1, e2⟩ := bindR_inv h
        obtain ⟨xx, s2, e3, e4⟩ := bindR_inv e2
        obtain ⟨bd, s3, e5, e6⟩ := bindR_inv e4
        cases e6
        have g1 := (G.take (P := False) hw (s := ⟨s.i, s.o, s.n + 1⟩) hs (Or.inr (by show (tk ts s.i).text ≠ []; rw [hc]; simp))).got e1
        have g2 := ((exprs_G hw f).1 1 s1 g1.2).got e3
        have g3 := blk _ _ _ g2.2 e5
        have n2 : s2.n = s.n + 1 := (bin_n e3).trans (takeR_n e1)
        have i1 : s.i + 1 ≤ s1.i := g1.1
        have p2 : (tk ts s.i).pos + 1 ≤ (tk ts s2.i).pos := hr _ _ (by omega) g2.2
        obtain ⟨b1, k1, k2⟩ := g3.1 _ p2
        rw [n2] at k1
        intro b hb
        refine ⟨b1, ?_, k2⟩
        simp [numSms, numSm, hb, k1]
      split at h
      · exact leaf_num hr (returnF_leaf h) hg.1 hg.2
      split at h
      · exact leaf_num hr (printF_leaf h) hg.1 hg.2
      · cases h

/-- The same through all functions. -/
def numFus : List Fu → Nat → Nat → Option (Nat × Nat)
  | [], n, a => some (n, a)
  | f :: l, n, a => match numSms f.body n a with
    | none => none
    | some (n1, a1) => numFus l n1 a1
theorem fuF_num {ts : List Tok} (hw : EndT ts) (hr : Rise ts) {f : Nat} {s s' : St} {x : Fu} (hs : s.i < ts.length) (h : fuF ts f s = .ok (x, s')) : NumOk ts s s' x.body ∧ s'.i < ts.length := by
  unfold fuF at h
  obtain ⟨a, s1, e1, e2⟩ := bindR_inv h
  obtain ⟨a', s2, e3, e4⟩ := bindR_inv e2
  obtain ⟨l, s3, e5, e6⟩ := bindR_inv e4
  obtain ⟨y, s4, e7, e8⟩ := bindR_inv e6
  obtain ⟨bd, s5, e9, e10⟩ := bindR_inv e8
  cases e10
  have g1 := (G.expect (P := False) hw hs (x := [102, 110]) (by simp)).got e1
  have g2 := (G.kind (P := False) hw g1.2 (k := 1) (by decide)).got e3
  have g3 := (G.list (P := False) hw g2.2 (item := pmF ts) (n := f) (fun s' c1 c2 => (pmF_G hw c2).weak (fun p => p) (by omega)) (fun p => p.elim)).got e5
  have g4 : s3.i ≤ s4.i ∧ s4.i < ts.length ∧ s4.n = s3.n := by
    split at e7
    · rename_i hc
      obtain ⟨c, s6, f1, f2⟩ := bindR_inv e7
      have k1 := (G.take (P := False) hw g3.2 (Or.inr (by rw [hc]; simp))).got f1
      have k2 := (G.type (P := False) hw k1.2 [1, 2] (by decide)).got f2
      exact ⟨by omega, k2.2, (typeR_n _ f2).trans (takeR_n f1)⟩
    · cases e7; exact ⟨Nat.le_refl _, g3.2, rfl⟩
  have g5 := ((stmts_G hw f).1 s4 g4.2.1).got e9
  have n4 : s4.n = s.n := g4.2.2.trans ((listB_adv (fun _ _ _ h => pmF_adv h) e5).1.trans ((kindR_n e3).trans (expectR_n e1)))
  refine ⟨?_, g5.2⟩
  intro b hb
  obtain ⟨b1, k1, k2⟩ := (stmts_num hw hr f).1 _ _ _ g4.2.1 e9 b (Nat.le_trans hb (pos_le hr (by omega) g4.2.1))
  rw [n4] at k1
  exact ⟨b1, k1, k2⟩
theorem numFus_snoc {x : Fu} : ∀ (l : List Fu) {n a n1 a1 n2 a2 : Nat}, numFus l n a = some (n1, a1) → numSms x.body n1 a1 = some (n2, a2) → numFus (l ++ [x]) n a = some (n2, a2)
  | [], n, a, n1, a1, n2, a2, h, hx => by
    rw [numFus] at h; cases h
    rw [List.nil_append, numFus, hx]; rfl
  | y :: l, n, a, n1, a1, n2, a2, h, hx => by
    rw [numFus] at h
    rw [List.cons_append, numFus]
    cases hy : numSms y.body n a with
    | none => rw [hy] at h; cases h
    | some p =>
      obtain ⟨n3, a3⟩ := p
      rw [hy] at h
      exact numFus_snoc l h hx
theorem fusF_num {ts : List Tok} (hw : EndT ts) (hr : Rise ts) : ∀ (f : Nat) (l : List Fu) (s : St) (k : List Fu) (s' : St) (a : Nat), s.i < ts.length → numFus l 1 0 = some (s.n + 1, a) → a ≤ (tk ts s.i).pos → fusF ts f l s = .ok (k, s') → ∃ a', numFus k 1 0 = some (s'.n + 1, a')
  | 0, _, _, _, _, _, _, _, _, h => by rw [fusF] at h; cases h
  | f + 1, l, s, k, s', a, hs, hl, ha, h => by
    rw [fusF_succ] at h
    obtain ⟨x, s1, e1, e2⟩ := bindR_inv h
    obtain ⟨g1, g2⟩ := fuF_num hw hr hs e1
    obtain ⟨b, k1, k2⟩ := g1 a ha
    have := numFus_snoc l hl k1
    split at e2
    · cases e2; exact ⟨b, this⟩
    · exact fusF_num hw hr f _ _ _ _ b g2 this k2 e2
end Go.Proofs.YtcgllooeimacdaaGreatDoor.Px

/-! What any text's parsing comes to. -/

namespace Go.Proofs.YtcgllooeimacdaaGreatDoor
open Go Go.RowKit Px
open Lx (Tok)

namespace Px
/-- What a text is parsed as, and where the reader is then. -/
def parseR (l : Bytes) : R (List Fu) := match Lx.scan l with
  | .error e => .error e
  | .ok ts => fusF ts (fuel ts) [] ⟨0, 0, 0⟩
theorem fusF_bal {ts : List Tok} : ∀ (f : Nat) (l : List Fu) (s : St) (k : List Fu) (s' : St), fusF ts f l s = .ok (k, s') → Bal 0 s s' ∧ k.length + s.i ≤ s'.i + l.length
  | 0, _, _, _, _, h => by rw [fusF] at h; cases h
  | f + 1, l, s, k, s', h => by
    rw [fusF_succ] at h
    obtain ⟨x, s1, e1, e2⟩ := bindR_inv h
    have h1 := fuF_bal e1
    split at e2
    · cases e2
      refine ⟨h1.le (by omega), ?_⟩
      unfold Bal at h1
      simp only [List.length_append, List.length_cons, List.length_nil]; omega
    · obtain ⟨h2, h3⟩ := fusF_bal f _ _ _ _ e2
      refine ⟨(h1.trans h2).le (by omega), ?_⟩
      unfold Bal at h1
      simp only [List.length_append, List.length_cons, List.length_nil] at h3; omega
theorem parse_num {l : Bytes} {k : List Fu} {s' : St} (h : parseR l = .ok (k, s')) : k.length ≤ 30000 ∧ ∃ n' a', numFus k 1 0 = some (n', a') ∧ n' ≤ 1000000000 := by
  unfold parseR at h
  split at h
  · cases h
  · rename_i ts hsc
    obtain ⟨h1, h2⟩ := scan_ok hsc
    have hb := fusF_bal _ _ _ _ _ h
    have hg := (fusF_G h1.end (fuel ts) [] ⟨0, 0, 0⟩ (List.length_pos_iff.2 h1.ne)).got h
    have hb1 := hb.1
    have hb2 := hb.2
    unfold Bal at hb1
    simp only [List.length_nil] at hb2
    simp only at hb1 hg
    obtain ⟨a', ha⟩ := fusF_num h1.end h1.rise _ _ _ _ _ 0 (List.length_pos_iff.2 h1.ne) (by rw [numFus]) (Nat.zero_le _) h
    exact ⟨by omega, s'.n + 1, a', ha, by omega⟩
end Px

set_option maxRecDepth 100000 in
set_option maxHeartbeats 2000000 in
theorem treeParse_scan (s : ByteArray) (hs : s.size ≤ 9223372036854775806) (p n : Nat) (hsc : Lx.scan (Bs s) = .error (p, n)) (hn : n = 2 ∨ n = 4) (w : World) (hT : Tabs w.heap.size w) :
    Calls Tryz.prog 9 #[.string s] w (ParsePost w (.error (p, n))) := by
  obtain ⟨W, hW⟩ : ∃ W, W = ((w.alloc (.cells #[.slice none 0 0] 24)).alloc (.cells #[.int .i64 0] 3)).alloc (.cells #[.int .i64 0] 25) := ⟨_, rfl⟩
  have hbW : Below w.heap.size w W := by rw [hW]; go_grown
  have hWs : W.heap.size = w.heap.size + 3 := by rw [hW]; simp
  have q0 : Blk w.heap.size #[.slice none 0 0] 24 W := by rw [hW]; exact ((Blk.new w _ _).below ((Below.refl _ _).alloc (Nat.le_refl _) _) (by simp)).below ((Below.refl _ _).alloc (Nat.le_refl _) _) (by simp; omega)
  have q1 : Blk (w.heap.size + 1) #[.int .i64 0] 3 W := by rw [hW]; exact (Blk.new' _ _ _ (by simp)).below ((Below.refl _ _).alloc (Nat.le_refl _) _) (by simp)
  have q2 : Blk (w.heap.size + 2) #[.int .i64 0] 25 W := by rw [hW]; exact Blk.new' _ _ _ (by simp)
  have HS := Lib.hid (scan_any s hs W ((hT.below hbW).mono (by omega)))
  have HWW := Lib.hid hW
  have HQ := Lib.hid (And.intro hbW (And.intro q0 (And.intro q1 (And.intro q2 hWs))))
  have HSC := Lib.hid hsc
  have hk1 : ((n : Int) == 0) = false := by rw [beq_eq_false_iff_ne]; omega
  have hmf : ∀ (fn : Fn) (first cap : Array Value) (w : World), (Instr.makeFunc fn first cap).run Tryz.prog w = .ok (.func fn first cap) w := fun _ _ _ _ => rfl
  clear hT hbW hWs q0 q1 q2 hW hsc hn
  go_enter_defers Tryz.func9, Tryz.ntmps9
  go_wp2_with fail
  rw [← HWW.out]
  refine HS.out.mono ?_
  rintro e w2 ⟨hb1, h1⟩
  rw [HSC.out] at h1
  have h1 : e = .returned (.tuple #[.slice none 0 0, .int .i64 (p : Int), .int .i64 (n : Int)]) := h1
  subst h1
  obtain ⟨x1, x2, x3, x4, x5⟩ := HQ.out
  have hb2 : Below w.heap.size w w2 := x1.trans (hb1.mono x1.size)
  have z0 := x2.below hb1 (by omega)
  have z1 := x3.below hb1 (by omega)
  have z2 := x4.below hb1 (by omega)
  have c0 := z0.get 0 _ rfl
  have c1 := z1.get 0 _ rfl
  have c2 := z2.get 0 _ rfl
  have f0 := z0.free 0
  have f1 := z1.free 0
  have f2 := z2.free 0
  have hFIN : Below w.heap.size w (((w2.setCell ⟨w.heap.size, 0, none⟩ (.slice none 0 0)).setCell ⟨w.heap.size + 1, 0, none⟩ (.int .i64 (p : Int))).setCell ⟨w.heap.size + 1 + 1, 0, none⟩ (.int .i64 (n : Int))) :=
    ((hb2.setCell (Nat.le_refl _) _).setCell (by show w.heap.size ≤ w.heap.size + 1; omega) _).setCell (by show w.heap.size ≤ w.heap.size + 1 + 1; omega) _
  have y0 : (((w2.setCell ⟨w.heap.size, 0, none⟩ (.slice none 0 0)).setCell ⟨w.heap.size + 1, 0, none⟩ (.int .i64 (p : Int))).setCell ⟨w.heap.size + 1 + 1, 0, none⟩ (.int .i64 (n : Int))).cell? ⟨w.heap.size, 0, none⟩ = some (.slice none 0 0) := by
    rw [World.cell?_setCell_other _ _ _ _ (by simp), World.cell?_setCell_other _ _ _ _ (by simp)]
    exact World.cell?_setCell_same _ _ _ c0
  have y1 : (((w2.setCell ⟨w.heap.size, 0, none⟩ (.slice none 0 0)).setCell ⟨w.heap.size + 1, 0, none⟩ (.int .i64 (p : Int))).setCell ⟨w.heap.size + 1 + 1, 0, none⟩ (.int .i64 (n : Int))).cell? ⟨w.heap.size + 1, 0, none⟩ = some (.int .i64 (p : Int)) := by
    rw [World.cell?_setCell_other _ _ _ _ (by simp)]
    exact World.cell?_setCell_same _ _ _ ((World.cell?_setCell_other _ _ _ _ (by simp)).trans c1)
  have y2 : (((w2.setCell ⟨w.heap.size, 0, none⟩ (.slice none 0 0)).setCell ⟨w.heap.size + 1, 0, none⟩ (.int .i64 (p : Int))).setCell ⟨w.heap.size + 1 + 1, 0, none⟩ (.int .i64 (n : Int))).cell? ⟨w.heap.size + 1 + 1, 0, none⟩ = some (.int .i64 (n : Int)) :=
    World.cell?_setCell_same _ _ _ ((World.cell?_setCell_other _ _ _ _ (by simp)).trans ((World.cell?_setCell_other _ _ _ _ (by simp)).trans c2))
  have HY := Lib.hid (And.intro y0 (And.intro y1 y2))
  have FIN := Lib.hid hFIN
  clear z0 z1 z2 hb1 hb2 y0 y1 y2 hFIN x1 x2 x3 x4 x5
  go_wp2
  refine leaves_cons (f := 19) (args := #[.pointer (some ⟨w.heap.size, 0, none⟩), .pointer (some ⟨w.heap.size + 1, 0, none⟩), .pointer (some ⟨w.heap.size + 2, 0, none⟩)]) (by simp) (by simp [go_sem]) ?_
  refine (catchP_idle ⟨w.heap.size, 0, none⟩ ⟨w.heap.size + 1, 0, none⟩ ⟨w.heap.size + 2, 0, none⟩ _).mono ?_
  rintro e u' w3 ⟨rfl, rfl, rfl⟩
  obtain ⟨y0, y1, y2⟩ := HY.out
  clear c0 c1 c2 f0 f1 f2
  simp [Leaves, settle, results, Tryz.results9, go_sem, y0, y1, y2]
  exact ⟨FIN.out, rfl⟩

theorem treeParse_any (s : ByteArray) (hs : s.size ≤ 9223372036854775806) (w : World) (hT : Tabs w.heap.size w) : Calls Tryz.prog 9 #[.string s] w (ParsePost w (parseR (Bs s))) := by
  unfold parseR
  cases hsc : Lx.scan (Bs s) with
  | error e =>
    obtain ⟨p, n⟩ := e
    exact treeParse_scan s hs p n hsc (scan_err hsc) w hT
  | ok ts =>
    obtain ⟨h1, h2⟩ := scan_ok hsc
    exact treeParse_ts s hs ts hsc (scan_wf hsc) (fuel ts) (by unfold fuel; omega) (fusF_ng h1.end (List.length_pos_iff.2 h1.ne)) w hT
end Go.Proofs.YtcgllooeimacdaaGreatDoor

/-! Joined: TNumW, TNumL. -/

namespace Go.Proofs.YtcgllooeimacdaaGreatDoor
open Go Go.RowKit Px
open Lx (Tok)

namespace Px
mutual
theorem numSm_le : ∀ (x : Sm) {n a n1 a1 : Nat}, numSm x n a = some (n1, a1) → n + 1 ≤ n1
  | .mk _ id _ _ _ pos _ body els, n, a, n1, a1, h => by
    rw [numSm] at h
    split at h
    · cases hb : numSms body (n + 1) (pos + 1) with
      | none => rw [hb] at h; cases h
      | some p =>
        obtain ⟨n2, a2⟩ := p
        rw [hb] at h
        have h1 := numSms_le body hb
        have h2 := numSms_le els h
        omega
    · cases h
theorem numSms_le : ∀ (l : List Sm) {n a n1 a1 : Nat}, numSms l n a = some (n1, a1) → n + l.length ≤ n1
  | [], n, a, n1, a1, h => by rw [numSms] at h; cases h; simp
  | x :: l, n, a, n1, a1, h => by
    rw [numSms] at h
    cases hb : numSm x n a with
    | none => rw [hb] at h; cases h
    | some p =>
      obtain ⟨n2, a2⟩ := p
      rw [hb] at h
      have h1 := numSm_le x hb
      have h2 := numSms_le l h
      simp only [List.length_cons]; omega
end
end Px

theorem SmC_len {w : World} {ok : Nat → Prop} : ∀ {x : Sm} {cs : List Value}, SmC w ok x cs → cs.length = 9
  | .mk _ _ _ _ _ _ _ _ _, cs, h => by
    simp only [SmC] at h
    obtain ⟨v1, v2, v3, rfl, _⟩ := h
    rfl
theorem SmsC_at {w : World} {ok : Nat → Prop} {x : Sm} {r : List Sm} : ∀ (d : List Sm) {xs : List Value}, SmsC w ok (d ++ x :: r) xs → ∃ cs, SmC w ok x cs ∧ ∀ j, j < 9 → xs[d.length * 9 + j]? = cs[j]?
  | [], xs, h => by
    simp only [List.nil_append, SmsC] at h
    obtain ⟨c, e, rfl, h1, _⟩ := h
    refine ⟨c, h1, fun j hj => ?_⟩
    rw [List.getElem?_append_left (by rw [SmC_len h1]; simpa using hj)]
    simp
  | y :: d, xs, h => by
    simp only [List.cons_append, SmsC] at h
    obtain ⟨c, e, rfl, h1, h2⟩ := h
    obtain ⟨cs, h3, h4⟩ := SmsC_at d h2
    have hl := SmC_len h1
    refine ⟨cs, h3, fun j hj => ?_⟩
    rw [List.getElem?_append_right (by rw [hl]; simp only [List.length_cons]; omega), hl, ← h4 j hj]
    congr 1
    simp only [List.length_cons]; omega
/-- A statement of a row: its cells, and the rows of its blocks. -/
theorem sm_at {w : World} {ok : Nat → Prop} {d r : List Sm} {k id : Nat} {nm : Bytes} {t n pos : Nat} {ex : List Ex} {body els : List Sm} {sv : Value} (h : SmRow w ok (d ++ .mk k id nm t n pos ex body els :: r) sv) :
    ∃ (g cap : Nat) (a1 : Option Addr) (m1 c1 : Nat) (a2 : Option Addr) (m2 c2 : Nat) (a3 : Option Addr) (m3 c3 : Nat), sv = .slice (some ⟨g, 0, none⟩) (d ++ .mk k id nm t n pos ex body els :: r).length cap ∧ ok g ∧ g < w.heap.size ∧
      SmRow w ok body (.slice a2 m2 c2) ∧ SmRow w ok els (.slice a3 m3 c3) ∧ ∀ j u, (smCells k id nm t n pos (.slice a1 m1 c1) (.slice a2 m2 c2) (.slice a3 m3 c3)).toList[j]? = some u → w.cell? ⟨g, d.length * 9 + j, none⟩ = some u := by
  rcases h with ⟨h, _⟩ | ⟨g, cap, xs, rfl, hg, ho, hxs⟩
  · simp at h
  obtain ⟨cs, h1, h2⟩ := SmsC_at d hxs
  simp only [SmC] at h1
  obtain ⟨v1, v2, v3, rfl, e1, e2, e3⟩ := h1
  have form : ∀ {α : Type} {E size : Nat} {P : List α → List Value → Prop} {l : List α} {v : Value}, RowW w ok E size P l v → ∃ (a : Option Addr) (m c : Nat), v = .slice a m c := by
    intro α E size P l v h
    rcases h with ⟨_, rfl⟩ | ⟨_, _, _, rfl, _⟩
    · exact ⟨_, _, _, rfl⟩
    · exact ⟨_, _, _, rfl⟩
  have e2 : SmRow w ok body v2 := e2
  have e3 : SmRow w ok els v3 := e3
  obtain ⟨a1, m1, c1, rfl⟩ := form e1
  obtain ⟨a2, m2, c2, rfl⟩ := form e2
  obtain ⟨a3, m3, c3, rfl⟩ := form e3
  refine ⟨g, cap, a1, m1, c1, a2, m2, c2, a3, m3, c3, rfl, hg, owns_lt ho, e2, e3, ?_⟩
  intro j u hu
  have hj : j < 9 := by
    have := (List.getElem?_eq_some_iff.1 hu).1
    simpa using this
  have hadd : ∀ j, (⟨g, 0, none⟩ : Addr).add j = ⟨g, j, none⟩ := by intro j; unfold Addr.add; split <;> simp_all
  have := ho.cells (g := g) rfl (d.length * 9 + j) u (by rw [h2 j hj]; exact hu)
  rwa [hadd] at this
theorem sm_form {w : World} {ok : Nat → Prop} {l : List Sm} {sv : Value} (h : SmRow w ok l sv) : ∃ (a : Option Addr) (c : Nat), sv = .slice a l.length c := by
  rcases h with ⟨rfl, rfl⟩ | ⟨_, _, _, rfl, _⟩
  · exact ⟨_, _, rfl⟩
  · exact ⟨_, _, rfl⟩
theorem Grown2.sms {p q : Nat} {w w' : World} (h : Grown2 p q w w') {l : List Sm} {sv : Value} (hr : SmRow w (fun g => g ≠ p ∧ g ≠ q) l sv) : SmRow w' (fun g => g ≠ p ∧ g ≠ q) l sv := hr.stays fun g hg hl => ⟨h.block g hl hg.1 hg.2, hg⟩

def NumP (p q n' a' : Nat) (w : World) (e : Ending) (w' : World) : Prop := e = .returned (.bool true) ∧ Grown2 p q w w' ∧ Blk p #[.int .i64 (n' : Int)] 3 w' ∧ Blk q #[.int .i64 ((a' : Int) - 1)] 3 w'
def NumC (K : Nat) : Prop := ∀ (l : List Sm) (n a n' a' : Nat) (sv : Value) (p q : Nat) (w : World), n' ≤ n + K → n' ≤ 1000000000 → numSms l n a = some (n', a') → SmRow w (fun g => g ≠ p ∧ g ≠ q) l sv → p ≠ q →
  Blk p #[.int .i64 (n : Int)] 3 w → Blk q #[.int .i64 ((a : Int) - 1)] 3 w → Calls Tryz.prog 17 #[sv, .pointer (some ⟨p, 0, none⟩), .pointer (some ⟨q, 0, none⟩)] w (NumP p q n' a' w)
def NumRel (l : List Sm) (n n' a' p q : Nat) (w : World) (gk : Nat) (v : Value) (wr : World) : Prop := ∃ (d r : List Sm) (n1 a1 : Nat), l = d ++ r ∧ r.length = gk ∧ v = .int .i64 (d.length : Int) ∧ n ≤ n1 ∧ numSms r n1 a1 = some (n', a') ∧ Grown2 p q w wr ∧ Blk p #[.int .i64 (n1 : Int)] 3 wr ∧ Blk q #[.int .i64 ((a1 : Int) - 1)] 3 wr

set_option maxRecDepth 100000 in
set_option maxHeartbeats 4000000 in
theorem numbered_step (K : Nat) (IH : ∀ K', K' < K → NumC K') : NumC K := by
  intro l n a n' a' sv p q w hK hB hnum hrow hpq hp hq
  obtain ⟨av, cv, rfl⟩ := sm_form hrow
  have hlen := numSms_le l hnum
  have HIH := Lib.hid IH
  have HROW := Lib.hid hrow
  have HREL := Lib.hid (show NumRel l n n' a' p q w l.length (.int .i64 0) w from ⟨[], l, n, a, rfl, rfl, rfl, Nat.le_refl _, hnum, Grown2.refl _ _ _, hp, hq⟩)
  clear IH hrow hnum hp hq
  go_enter Tryz.func17, Tryz.ntmps17
  go_upto_region 2 with (fail)
  go_loopg [11] l.length (fun gk v wr => NumRel l n n' a' p q w gk v wr)
  case atStart => exact HREL.out
  case round =>
    obtain ⟨d, r, n1, a1, hl, hgk, rfl, hn1, hr, hg, hp, hq⟩ := hrel
    have hll : l.length = d.length + r.length := by rw [hl, List.length_append]
    cases r with
    | nil =>
      have hge : ¬ (d.length : Int) < (l.length : Int) := by rw [hll]; simp
      rw [numSms] at hr
      have FIN := Lib.hid (show NumP p q n' a' w (.returned (.bool true)) wr from ⟨rfl, hg, by cases hr; exact hp, by cases hr; exact hq⟩)
      clear hr hg hp hq hll
      go_wp2
      go_ret
      exact FIN.out
    | cons x r =>
      obtain ⟨xk, xid, xnm, xt, xn, xpos, xe, body, els⟩ := x
      rw [numSms] at hr
      cases hx : numSm (.mk xk xid xnm xt xn xpos xe body els) n1 a1 with
      | none => rw [hx] at hr; cases hr
      | some p2 =>
        obtain ⟨n2, a2⟩ := p2
        rw [hx] at hr
        have hr : numSms r n2 a2 = some (n', a') := hr
        rw [numSm] at hx
        split at hx
        · rename_i hc
          obtain ⟨rfl, hap⟩ := hc
          cases hb : numSms body (xid + 1) (xpos + 1) with
          | none => rw [hb] at hx; cases hx
          | some p3 =>
            obtain ⟨n3, a3⟩ := p3
            rw [hb] at hx
            have hx : numSms els n3 a3 = some (n2, a2) := hx
            have l1 := numSms_le body hb
            have l2 := numSms_le els hx
            have l3 := numSms_le r hr
            have HR := Lib.hid hr
            have HL := Lib.hid hl
            have hrow := HROW.out
            rw [hl] at hrow
            obtain ⟨g, cap, b1, m1, c1, b2, m2, c2, b3, m3, c3, hsv, hok, hgl, hrb, hre, hcell⟩ := sm_at hrow
            rw [← hl] at hsv
            cases hsv
            have hcr : ∀ j u, (smCells xk xid xnm xt xn xpos (.slice b1 m1 c1) (.slice b2 m2 c2) (.slice b3 m3 c3)).toList[j]? = some u → wr.cell? ⟨g, d.length * 9 + j, none⟩ = some u := fun j u hu => (World.cell?_of_block (w := w) (a := ⟨g, d.length * 9 + j, none⟩) (hg.block g hgl hok.1 hok.2)).trans (hcell j u hu)
            have k0 := hcr 0 _ rfl
            have k1 := hcr 1 _ rfl
            have k2 := hcr 2 _ rfl
            have k3 := hcr 3 _ rfl
            have k4 := hcr 4 _ rfl
            have k5 := hcr 5 _ rfl
            have k6 := hcr 6 _ rfl
            have k7 := hcr 7 _ rfl
            have k8 := hcr 8 _ rfl
            rw [Nat.add_zero] at k0
            obtain ⟨W, hW⟩ : ∃ W, W = wr.alloc (.cells (smCells xk xid xnm xt xn xpos (.slice b1 m1 c1) (.slice b2 m2 c2) (.slice b3 m3 c3)) 39) := ⟨_, rfl⟩
            have hbW : Below wr.heap.size wr W := by rw [hW]; exact (Below.refl _ _).alloc (Nat.le_refl _) _
            have hM : Blk wr.heap.size (smCells xk xid xnm xt xn xpos (.slice b1 m1 c1) (.slice b2 m2 c2) (.slice b3 m3 c3)) 39 W := by rw [hW]; exact Blk.new _ _ _
            have hMp : wr.heap.size ≠ p := by have := hp.lt; omega
            have hMq : wr.heap.size ≠ q := by have := hq.lt; omega
            have hpW := hp.below hbW hp.lt
            have hqW := hq.below hbW hq.lt
            have hgW := hg.trans (Grown2.below hbW)
            have HWW := Lib.hid hW
            have HB := Lib.hid (And.intro hgW (And.intro hM (And.intro hpW hqW)))
            have HX := Lib.hid (And.intro hrb (And.intro hre (And.intro hb hx)))
            have v1 := hM.get 1 (.int .i64 (xid : Int)) rfl
            have v5 := hM.get 5 (.int .i64 (xpos : Int)) rfl
            have vp := hpW.get 0 (.int .i64 (xid : Int)) rfl
            have vq := hqW.get 0 (.int .i64 ((a1 : Int) - 1)) rfl
            have hidx : (d.length : Int) < (l.length : Int) := by rw [hll]; simp; omega
            have hlb : (l.length : Int) ≤ 1000000000 := by omega
            have hib : (xid : Int) ≤ 1000000000 := by omega
            have hle : decide ((xpos : Int) ≤ (a1 : Int) - 1) = false := by simp; omega
            have hne1 : ¬ p = q := hpq
            have HLL := Lib.hid hll
            clear hr hl hrow hcell hcr hok hrb hre hb hx hW hbW hM hpW hqW hgW hg hp hq hll
            go_upto_region 4 with (fail)
            rw [← HWW.out]
            clear k0 k1 k2 k3 k4 k5 k6 k7 k8 HWW
            generalize wr.heap.size = M at *
            go_quiet (fail)
            obtain ⟨V, hV⟩ : ∃ V, V = W.drewN nq := ⟨_, rfl⟩
            rw [← hV]
            have hbV : Below W.heap.size W V := by rw [hV]; exact ⟨rfl, rfl, rfl, Nat.le_refl _, fun _ _ => rfl⟩
            have hgV := HB.out.1.trans (Grown2.below hbV)
            have hMV := HB.out.2.1.below hbV HB.out.2.1.lt
            have hpV := HB.out.2.2.1.below hbV HB.out.2.2.1.lt
            have hqV := HB.out.2.2.2.below hbV HB.out.2.2.2.lt
            clear v1 v5 vp vq hV hbV
            obtain ⟨X, hX⟩ : ∃ X, X = (V.setCell ⟨p, 0, none⟩ (.int .i64 ((xid : Int) + 1))).setCell ⟨q, 0, none⟩ (.int .i64 (xpos : Int)) := ⟨_, rfl⟩
            have hg1 : V.grownBy (V.setCell ⟨p, 0, none⟩ (.int .i64 ((xid : Int) + 1))) (some p) := Lib.grownBy_setCell _ _ _ _
            have hg2 : (V.setCell ⟨p, 0, none⟩ (.int .i64 ((xid : Int) + 1))).grownBy X (some q) := by rw [hX]; exact Lib.grownBy_setCell _ _ _ _
            have hpX : Blk p #[.int .i64 ((xid + 1 : Nat) : Int)] 3 X := (hpV.set 0 (.int .i64 ((xid : Int) + 1))).other hg2 (by simpa using hpq)
            have hqX : Blk q #[.int .i64 (((xpos + 1 : Nat) : Int) - 1)] 3 X := by
              rw [show (((xpos + 1 : Nat) : Int) - 1) = (xpos : Int) by omega, hX]
              exact (hqV.other hg1 (by simpa using Ne.symm hpq)).set 0 _
            have hgX := (hgV.trans (Grown2.of1 hg1)).trans (Grown2.of2 hg2)
            have hMX := ((hMV.other hg1 (by simpa using hMp)).other hg2 (by simpa using hMq))
            have HC1 := Lib.hid (HIH.out (K - 1) (by omega) body (xid + 1) (xpos + 1) n3 a3 _ p q X (by omega) (by omega) HX.out.2.2.1 (hgX.sms HX.out.1) hpq hpX hqX)
            have HXX := Lib.hid hX
            have HY := Lib.hid (And.intro hgX hMX)
            have v5 := hMV.get 5 (.int .i64 (xpos : Int)) rfl
            have vp := hpV.get 0 (.int .i64 (xid : Int)) rfl
            have vq := hqV.get 0 (.int .i64 ((a1 : Int) - 1)) rfl
            have fp := hpV.free 0
            have fq := hqV.free 0
            have w7 := hMX.get 7 (.slice b2 m2 c2) rfl
            clear hX hg1 hg2 hpX hqX hgX hMX hgV hMV hpV hqV
            go_upto_region 8 with (fail)
            rw [← HXX.out]
            clear v5 vp vq fp fq HXX
            go_wp2_with fail
            refine HC1.out.mono ?_
            rintro e w4 ⟨rfl, hg4, hp4, hq4⟩
            have hM4 := hg4.stays HY.out.2 hMp hMq
            have HC2 := Lib.hid (HIH.out (K - 1) (by omega) els n3 a3 n2 a2 _ p q w4 (by omega) (by omega) HX.out.2.2.2 ((HY.out.1.trans hg4).sms HX.out.2.1) hpq hp4 hq4)
            have HG4 := Lib.hid (HY.out.1.trans hg4)
            have w8 := hM4.get 8 (.slice b3 m3 c3) rfl
            clear w7 hg4 hp4 hq4 hM4
            go_wp2_with fail
            refine HC2.out.mono ?_
            rintro e w5 ⟨rfl, hg5, hp5, hq5⟩
            have FIN := Lib.hid (show NumRel l n n' a' p q w r.length (.int .i64 ((d.length : Int) + 1)) w5 from ⟨d ++ [.mk xk xid xnm xt xn xpos xe body els], r, n2, a2, by rw [HL.out]; simp, rfl, by simp, by omega, HR.out, HG4.out.trans hg5, hp5, hq5⟩)
            clear w8 hg5 hp5 hq5
            go_wp2
            go_roundg r.length
            case measure => simp only [List.length_cons] at hgk; omega
            case rel => exact FIN.out
        · cases hx
end Go.Proofs.YtcgllooeimacdaaGreatDoor

/-! TreeNumbers: the statement's own body says true of every text. -/

namespace Go.Proofs.YtcgllooeimacdaaGreatDoor
open Go Go.RowKit Px
open Lx (Tok)

theorem numC : ∀ K, NumC K := by
  have h : ∀ n K, K < n → NumC K := by
    intro n
    induction n with
    | zero => intro K h; omega
    | succ n ih => intro K h; exact numbered_step K fun K' h' => ih K' (by omega)
  exact fun K => h (K + 1) K (by omega)

theorem FuC_len {w : World} {ok : Nat → Prop} {x : Fu} {cs : List Value} (h : FuC w ok x cs) : cs.length = 5 := by
  obtain ⟨v1, v2, rfl, _⟩ := h
  rfl
theorem FusC_at {w : World} {ok : Nat → Prop} {x : Fu} {r : List Fu} : ∀ (d : List Fu) {xs : List Value}, FusC w ok (d ++ x :: r) xs → ∃ cs, FuC w ok x cs ∧ ∀ j, j < 5 → xs[d.length * 5 + j]? = cs[j]?
  | [], xs, h => by
    obtain ⟨c, e, rfl, h1, _⟩ := h
    refine ⟨c, h1, fun j hj => ?_⟩
    rw [List.getElem?_append_left (by rw [FuC_len h1]; simpa using hj)]
    simp
  | y :: d, xs, h => by
    obtain ⟨c, e, rfl, h1, h2⟩ := h
    obtain ⟨cs, h3, h4⟩ := FusC_at d h2
    have hl := FuC_len h1
    refine ⟨cs, h3, fun j hj => ?_⟩
    rw [List.getElem?_append_right (by rw [hl]; simp only [List.length_cons]; omega), hl, ← h4 j hj]
    congr 1
    simp only [List.length_cons]; omega
theorem fu_at {w : World} {ok : Nat → Prop} {d r : List Fu} {x : Fu} {sv : Value} (h : FuRow w ok (d ++ x :: r) sv) :
    ∃ (g cap : Nat) (a1 : Option Addr) (m1 c1 : Nat) (a2 : Option Addr) (m2 c2 : Nat), sv = .slice (some ⟨g, 0, none⟩) (d ++ x :: r).length cap ∧ ok g ∧ g < w.heap.size ∧
      SmRow w ok x.body (.slice a2 m2 c2) ∧ ∀ j u, (fuCells x.name (.slice a1 m1 c1) (.int .u8 (x.result : Int)) (.slice a2 m2 c2) x.pos).toList[j]? = some u → w.cell? ⟨g, d.length * 5 + j, none⟩ = some u := by
  rcases h with ⟨h, _⟩ | ⟨g, cap, xs, rfl, hg, ho, hxs⟩
  · simp at h
  obtain ⟨cs, h1, h2⟩ := FusC_at d hxs
  obtain ⟨v1, v2, rfl, e1, e2⟩ := h1
  have form : ∀ {α : Type} {E size : Nat} {P : List α → List Value → Prop} {l : List α} {v : Value}, RowW w ok E size P l v → ∃ (a : Option Addr) (m c : Nat), v = .slice a m c := by
    intro α E size P l v h
    rcases h with ⟨_, rfl⟩ | ⟨_, _, _, rfl, _⟩
    · exact ⟨_, _, _, rfl⟩
    · exact ⟨_, _, _, rfl⟩
  obtain ⟨a1, m1, c1, rfl⟩ := form e1
  obtain ⟨a2, m2, c2, rfl⟩ := form e2
  refine ⟨g, cap, a1, m1, c1, a2, m2, c2, rfl, hg, owns_lt ho, e2, ?_⟩
  intro j u hu
  have hj : j < 5 := by
    have := (List.getElem?_eq_some_iff.1 hu).1
    simpa using this
  have hadd : ∀ j, (⟨g, 0, none⟩ : Addr).add j = ⟨g, j, none⟩ := by intro j; unfold Addr.add; split <;> simp_all
  have := ho.cells (g := g) rfl (d.length * 5 + j) u (by rw [h2 j hj]; exact hu)
  rwa [hadd] at this

theorem par_num {w w' : World} {l : Bytes} {e : Ending} (h : ParsePost w (parseR l) e w') : ∃ (a : Option Addr) (c : Nat) (at' : Int) (n : Nat) (L : List Fu), e = .returned (.tuple #[.agg #[.slice a L.length c], .int .i64 at', .int .i64 (n : Int)]) ∧ Below w.heap.size w w' ∧
    (n ≠ 0 ∨ n = 0 ∧ FuRow w' (fun h => w.heap.size ≤ h) L (.slice a L.length c) ∧ L.length ≤ 30000 ∧ ∃ n' a', numFus L 1 0 = some (n', a') ∧ n' ≤ 1000000000) := by
  obtain ⟨hb, h⟩ := h
  cases hr : parseR l with
  | error pn =>
    rw [hr] at h
    obtain ⟨p, n⟩ := pn
    refine ⟨none, 0, p, n, [], h, hb, ?_⟩
    rcases Nat.eq_zero_or_pos n with rfl | hn
    · exact Or.inr ⟨rfl, Or.inl ⟨rfl, rfl⟩, by simp, 1, 0, by rw [numFus], by omega⟩
    · exact Or.inl (by omega)
  | ok q =>
    rw [hr] at h
    obtain ⟨k, s'⟩ := q
    obtain ⟨a, m, c, he, hrow⟩ := h
    have hm : m = k.length := by
      rcases hrow with ⟨rfl, h⟩ | ⟨_, _, _, h, _⟩
      · cases h; rfl
      · cases h; rfl
    subst hm
    obtain ⟨h1, h2⟩ := parse_num hr
    exact ⟨a, c, 0, 0, k, he, hb, Or.inr ⟨rfl, hrow, h1, h2⟩⟩

def FunRel (L : List Fu) (n' a' p q : Nat) (w : World) (gk : Nat) (v : Value) (wr : World) : Prop := ∃ (d r : List Fu) (n1 a1 : Nat), L = d ++ r ∧ r.length = gk ∧ v = .int .i64 (d.length : Int) ∧ numFus r n1 a1 = some (n', a') ∧ Grown2 p q w wr ∧ Blk p #[.int .i64 (n1 : Int)] 3 wr ∧ Blk q #[.int .i64 ((a1 : Int) - 1)] 3 wr
theorem numFus_le : ∀ (l : List Fu) {n a n1 a1 : Nat}, numFus l n a = some (n1, a1) → n ≤ n1
  | [], n, a, n1, a1, h => by rw [numFus] at h; cases h; exact Nat.le_refl _
  | x :: l, n, a, n1, a1, h => by
    rw [numFus] at h
    cases hb : numSms x.body n a with
    | none => rw [hb] at h; cases h
    | some p =>
      obtain ⟨n2, a2⟩ := p
      rw [hb] at h
      have h1 := numSms_le x.body hb
      have h2 := numFus_le l h
      omega

set_option maxRecDepth 100000 in
set_option maxHeartbeats 4000000 in
theorem treeNumbers_any (s : ByteArray) (hs : s.size ≤ 9223372036854775806) (w : World) (hT : Tabs w.heap.size w) : Calls Tryz.prog 6 #[.string s] w fun e w' => e = .returned (.bool true) ∧ Below w.heap.size w w' := by
  have HT := Lib.hid hT
  have HP := Lib.hid fun (s' : ByteArray) (w1 : World) (h1 : s'.size ≤ 9223372036854775806) (h2 : Tabs w1.heap.size w1) => treeParse_any s' h1 w1 h2
  have hsz : (s.size : Int) ≤ 9223372036854775806 := by omega
  clear hT
  go_enter Tryz.func6, Tryz.ntmps6
  go_wp2_with fail
  refine (awake_tree w HT.out).mono ?_
  rintro e w1 ⟨rfl, hb1⟩
  have HT1 := Lib.hid ((HT.out.below hb1).mono hb1.size)
  have HB1 := Lib.hid hb1
  clear hb1
  go_wp2_with fail
  refine (HP.out _ w1 ?_ HT1.out).mono ?_
  · simp only [ByteArray.size_extract]; omega
  rintro e w2 h2
  obtain ⟨a, c, at', n, L, rfl, hb2, h2⟩ := par_num h2
  have HB2 := Lib.hid (HB1.out.trans (hb2.mono HB1.out.size))
  rcases h2 with hn | ⟨rfl, hrow, hL, n', a', hnum, hn'⟩
  · have hk1 : ((n : Int) == 0) = false := by rw [beq_eq_false_iff_ne]; omega
    clear hb2 hn
    go_wp2_with fail
    go_ret
    exact ⟨rfl, HB2.out.alloc HB2.out.size _⟩
  · obtain ⟨V, hV⟩ : ∃ V, V = ((w2.alloc (.cells #[.slice a L.length c] 24)).alloc (.cells #[.int .i64 1] 3)).alloc (.cells #[.int .i64 (-1)] 3) := ⟨_, rfl⟩
    have hbV : Below w2.heap.size w2 V := by rw [hV]; go_grown
    have hp : Blk (w2.heap.size + 1) #[.int .i64 ((1 : Nat) : Int)] 3 V := by rw [hV]; exact (Blk.new' _ _ _ (by simp)).below ((Below.refl _ _).alloc (Nat.le_refl _) _) (by simp)
    have hq : Blk (w2.heap.size + 2) #[.int .i64 (((0 : Nat) : Int) - 1)] 3 V := by rw [hV]; exact Blk.new' _ _ _ (by simp)
    have hVs : V.heap.size = w2.heap.size + 3 := by rw [hV]; simp
    have hrowV : FuRow V (fun g => g ≠ w2.heap.size + 1 ∧ g ≠ w2.heap.size + 2) L (.slice a L.length c) := hrow.stays fun g _ hl => ⟨hbV.block g hl, by omega, by omega⟩
    have HROW := Lib.hid hrowV
    have HREL := Lib.hid (show FunRel L n' a' (w2.heap.size + 1) (w2.heap.size + 2) V L.length (.int .i64 0) V from ⟨[], L, 1, 0, rfl, rfl, rfl, hnum, Grown2.refl _ _ _, hp, hq⟩)
    have HBV := Lib.hid (HB2.out.trans (hbV.mono HB2.out.size))
    have hbw := HB2.out.size
    have HVV := Lib.hid hV
    clear hrow hnum hb2 h2 hV hbV hp hq hrowV
    go_upto_region 9 with (fail)
    rw [← HVV.out]
    clear HVV
    obtain ⟨N, hN⟩ : ∃ N, N = w2.heap.size := ⟨_, rfl⟩
    rw [← hN] at HREL HROW hVs hbw ⊢
    clear hN
    rw [show N + 1 + 1 = N + 2 from rfl]
    go_loopg [28] L.length (fun gk v wr => FunRel L n' a' (N + 1) (N + 2) V gk v wr)
    case atStart => exact HREL.out
    case round =>
      obtain ⟨d, r, n1, a1, hl, hgk, rfl, hr, hg, hp, hq⟩ := hrel
      have hll : L.length = d.length + r.length := by rw [hl, List.length_append]
      cases r with
      | nil =>
        have hge : ¬ (d.length : Int) < (L.length : Int) := by rw [hll]; simp
        have FIN := Lib.hid (show Below w.heap.size w wr from ⟨hg.os.trans HBV.out.os, hg.tape.trans HBV.out.tape, hg.output.trans HBV.out.output, Nat.le_trans HBV.out.size hg.size, fun k hk => (hg.block k (Nat.lt_of_lt_of_le hk HBV.out.size) (by omega) (by omega)).trans (HBV.out.block k hk)⟩)
        clear hr hg hp hq hll
        go_wp2
        go_ret
        exact ⟨rfl, FIN.out⟩
      | cons x r =>
        rw [numFus] at hr
        cases hx : numSms x.body n1 a1 with
        | none => rw [hx] at hr; cases hr
        | some p2 =>
          obtain ⟨n2, a2⟩ := p2
          rw [hx] at hr
          have hr : numFus r n2 a2 = some (n', a') := hr
          have l3 := numFus_le r hr
          have hrow := HROW.out
          rw [hl] at hrow
          obtain ⟨g, cap, b1, m1, c1, b2, m2, c2, hsv, hok, hgl, hrb, hcell⟩ := fu_at hrow
          rw [← hl] at hsv
          cases hsv
          have hcr : ∀ j u, (fuCells x.name (.slice b1 m1 c1) (.int .u8 (x.result : Int)) (.slice b2 m2 c2) x.pos).toList[j]? = some u → wr.cell? ⟨g, d.length * 5 + j, none⟩ = some u := fun j u hu => (World.cell?_of_block (w := V) (a := ⟨g, d.length * 5 + j, none⟩) (hg.block g hgl hok.1 hok.2)).trans (hcell j u hu)
          have k0 := hcr 0 _ rfl
          have k1 := hcr 1 _ rfl
          have k2 := hcr 2 _ rfl
          have k3 := hcr 3 _ rfl
          have k4 := hcr 4 _ rfl
          rw [Nat.add_zero] at k0
          obtain ⟨W, hW⟩ : ∃ W, W = wr.alloc (.cells (fuCells x.name (.slice b1 m1 c1) (.int .u8 (x.result : Int)) (.slice b2 m2 c2) x.pos) 42) := ⟨_, rfl⟩
          have hbW : Below wr.heap.size wr W := by rw [hW]; exact (Below.refl _ _).alloc (Nat.le_refl _) _
          have hM : Blk wr.heap.size (fuCells x.name (.slice b1 m1 c1) (.int .u8 (x.result : Int)) (.slice b2 m2 c2) x.pos) 42 W := by rw [hW]; exact Blk.new _ _ _
          have hgW := hg.trans (Grown2.below hbW)
          have HC := Lib.hid (numC n2 x.body n1 a1 n2 a2 _ (N + 1) (N + 2) W (by omega) (by omega) hx (hgW.sms hrb) (by omega) (hp.below hbW hp.lt) (hq.below hbW hq.lt))
          have HWW := Lib.hid hW
          have HGW := Lib.hid hgW
          have HR := Lib.hid hr
          have HL := Lib.hid hl
          have w3 := hM.get 3 (.slice b2 m2 c2) rfl
          have hidx : (d.length : Int) < (L.length : Int) := by rw [hll]; simp; omega
          have hlb : (L.length : Int) ≤ 30000 := by omega
          clear hr hl hrow hcell hcr hok hrb hx hW hbW hM hgW hg hp hq hll
          go_upto_region 11 with (fail)
          rw [← HWW.out]
          clear k0 k1 k2 k3 k4 HWW
          go_wp2_with fail
          refine HC.out.mono ?_
          rintro e w5 ⟨rfl, hg5, hp5, hq5⟩
          have FIN := Lib.hid (show FunRel L n' a' (N + 1) (N + 2) V r.length (.int .i64 ((d.length : Int) + 1)) w5 from ⟨d ++ [x], r, n2, a2, by rw [HL.out]; simp, rfl, by simp, HR.out, HGW.out.trans hg5, hp5, hq5⟩)
          clear w3 hg5 hp5 hq5
          go_wp2
          go_roundg r.length
          case measure => simp only [List.length_cons] at hgk; omega
          case rel => exact FIN.out
end Go.Proofs.YtcgllooeimacdaaGreatDoor
