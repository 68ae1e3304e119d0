/-
  Joined: TNum, TNumL.
-/
import Derived.Test.YtcgllooeimacdaaGreatDoorTBal
import Derived.Test.YtcgllooeimacdaaGreatDoorTParse
import Derived.Test.YtcgllooeimacdaaGreatDoorTNm
import Derived.Test.YtcgllooeimacdaaGreatDoorTAwake2
import Derived.BigQuiet
/-! Joined: TG, TWf, TNum, TAny. -/

namespace Go.Proofs.YtcgllooeimacdaaGreatDoor.Px
open Lx (Tok)

/-- The tokens end with the end, which stands nowhere else. -/
def EndT (ts : List Tok) : Prop := ∀ i, i < ts.length → (tk ts i).kind ≠ 0 ∨ (tk ts i).text ≠ [] → i + 1 < ts.length
/-- P: there is fuel enough. -/
def G {α : Type} (P : Prop) (ts : List Tok) (k : Nat) (s : St) (r : R α) : Prop := match r with
  | .error e => e.2 ≠ 0 ∧ (P → e.2 ≠ 99)
  | .ok (_, s') => s.i + k ≤ s'.i ∧ s'.i < ts.length
section
variable {α β : Type} {P Q : Prop} {ts : List Tok} {k j : Nat} {s : St} {r : R α}
theorem G.weak (h : G Q ts k s r) (hP : P → Q) (hj : j ≤ k) : G P ts j s r := by
  rcases r with e | ⟨a, s'⟩
  · exact ⟨h.1, fun p => h.2 (hP p)⟩
  · exact ⟨by have := h.1; omega, h.2⟩
theorem G.bind {f : α → St → R β} (h : G P ts k s r) (hf : ∀ a s', r = .ok (a, s') → s.i + k ≤ s'.i → s'.i < ts.length → G P ts j s' (f a s')) : G P ts (k + j) s (bindR r f) := by
  rcases r with e | ⟨a, s'⟩
  · exact h
  · have h2 := hf a s' rfl h.1 h.2
    show G P ts (k + j) s (f a s')
    rcases hr : f a s' with e | ⟨b, s2⟩
    · rw [hr] at h2; exact h2
    · rw [hr] at h2; exact ⟨by have := h2.1; have := h.1; omega, h2.2⟩
theorem G.ret (a : α) (h : s.i < ts.length) : G P ts 0 s (.ok (a, s)) := ⟨Nat.le_refl _, h⟩
theorem G.wrong : G P ts k s (wrongR (α := α) ts s) := ⟨by simp, fun _ => by simp⟩
theorem G.gone (h : ¬ P) : G P ts k s (gone (α := α)) := ⟨by simp, fun p => absurd p h⟩
theorem G.take (hw : EndT ts) (h : s.i < ts.length) (ht : (tk ts s.i).kind ≠ 0 ∨ (tk ts s.i).text ≠ []) : G P ts 1 s (takeR ts s) := by
  have := hw s.i h ht
  unfold takeR
  split
  · split
    · exact ⟨by simp, fun _ => by simp⟩
    · exact ⟨Nat.le_refl _, this⟩
  · split
    · exact ⟨Nat.le_refl _, this⟩
    · exact ⟨Nat.le_refl _, this⟩
theorem G.expect (hw : EndT ts) (h : s.i < ts.length) {x : Bytes} (hx : x ≠ []) : G P ts 1 s (expectR x ts s) := by
  unfold expectR
  split
  · exact G.take hw h (Or.inr (by rename_i e; rw [e]; exact hx))
  · exact G.wrong
theorem G.kind (hw : EndT ts) (h : s.i < ts.length) {k : Nat} (hx : k ≠ 0) : G P ts 1 s (kindR k ts s) := by
  unfold kindR
  split
  · exact G.take hw h (Or.inl (by rename_i e; rw [e]; exact hx))
  · exact G.wrong
theorem G.type (hw : EndT ts) (h : s.i < ts.length) : ∀ (ks : List Nat), (∀ k ∈ ks, nameOf k ≠ []) → G P ts 1 s (typeR ts ks s)
  | [], _ => G.wrong
  | k :: ks, hk => by
    unfold typeR
    split
    · rename_i e
      exact (G.take hw h (Or.inr (by rw [e]; exact hk k (by simp)))).bind (j := 0) fun a s' _ _ h2 => G.ret _ h2
    · exact G.type hw h ks fun k h => hk k (by simp [h])
theorem G.place (hw : EndT ts) (h : s.i < ts.length) {item : St → R α} (hi : ∀ s', s.i + 1 ≤ s'.i → s'.i < ts.length → G P ts 0 s' (item s')) : G P ts 1 s (placeB ts item s) := by
  unfold placeB
  refine ((G.expect hw h (by simp)).bind (j := 0 + (1 + 0)) fun a s1 _ h1 h2 => (hi s1 h1 h2).bind fun x s2 _ h3 h4 => (G.expect hw h4 (by simp)).bind fun _ s3 _ _ h5 => G.ret _ h5).weak (fun p => p) (by omega)
theorem G.items (hw : EndT ts) {item : St → R α} (i0 : Nat) (hi : ∀ s', i0 ≤ s'.i → s'.i < ts.length → G P ts 0 s' (item s')) : ∀ (n : Nat) (l : List α) (s : St), i0 ≤ s.i → s.i < ts.length → (P → ts.length - s.i ≤ n) → G P ts 0 s (itemsB ts item n l s)
  | 0, l, s, h0, h, hn => G.gone fun p => by have := hn p; omega
  | n + 1, l, s, h0, h, hn => by
    rw [show itemsB ts item (n + 1) l s = if (tk ts s.i).text = [44] then bindR (takeR ts s) fun _ s => bindR (item s) fun x s => itemsB ts item n (l ++ [x]) s else .ok (l, s) from rfl]
    split
    · rename_i e
      refine ((G.take hw h (Or.inr (by rw [e]; simp))).bind (j := 0) fun a s1 _ h1 h2 => ?_).weak (fun p => p) (by omega)
      refine (hi s1 (by omega) h2).bind (j := 0) fun x s2 _ h3 h4 => G.items hw i0 hi n (l ++ [x]) s2 (by omega) h4 fun p => by have := hn p; omega
    · exact G.ret _ h
theorem G.list (hw : EndT ts) (h : s.i < ts.length) {item : St → R α} (hi : ∀ s', s.i + 1 ≤ s'.i → s'.i < ts.length → G P ts 0 s' (item s')) {n : Nat} (hn : P → ts.length - s.i ≤ n) : G P ts 1 s (listB ts item n s) := by
  unfold listB
  refine ((G.expect hw h (by simp)).bind (j := 0 + (1 + 0)) fun a s1 _ h1 h2 => G.bind ?_ fun x s2 _ h3 h4 => (G.expect hw h4 (by simp)).bind fun _ s3 _ _ h5 => G.ret _ h5).weak (fun p => p) (by omega)
  split
  · exact G.ret _ h2
  · exact (hi s1 h1 h2).bind (j := 0) fun x s2 _ h3 h4 => G.items hw (s.i + 1) hi n [x] s2 (by omega) h4 fun p => by have := hn p; omega
end

theorem prefix_nil {t : Bytes} (h : prefixOf t ≠ 0) : t ≠ [] := by rintro rfl; exact h (by decide)
theorem infix_nil {t : Bytes} (h : (infixOf t).1 ≠ 0) : t ≠ [] := by rintro rfl; exact h (by decide)

theorem exprs_G {ts : List Tok} (hw : EndT ts) : ∀ f, (∀ least s, s.i < ts.length → G (4 * (ts.length - s.i) + 3 ≤ f) ts 0 s (binF ts f least s)) ∧ (∀ least l s, s.i < ts.length → G (4 * (ts.length - s.i) + 1 ≤ f) ts 0 s (loopF ts f least l s)) ∧
    (∀ s, s.i < ts.length → G (4 * (ts.length - s.i) + 2 ≤ f) ts 0 s (unF ts f s)) ∧ (∀ s, s.i < ts.length → G (4 * (ts.length - s.i) + 1 ≤ f) ts 0 s (opF ts f s)) ∧ (∀ u s, s.i < ts.length → G (4 * (ts.length - s.i) + 1 ≤ f) ts 0 s (useF ts f u s))
  | 0 => ⟨(fun _ _ _ => by rw [binF]; exact G.gone (by omega)), (fun _ _ _ _ => by rw [loopF]; exact G.gone (by omega)), (fun _ _ => by rw [unF]; exact G.gone (by omega)), (fun _ _ => by rw [opF]; exact G.gone (by omega)), (fun _ _ _ => by rw [useF]; exact G.gone (by omega))⟩
  | f + 1 => by
    obtain ⟨h1, h2, h3, h4, h5⟩ := exprs_G hw f
    refine ⟨?_, ?_, ?_, ?_, ?_⟩
    · intro least s h
      rw [binF]
      exact ((h3 s h).weak (fun p => by omega) (Nat.le_refl _)).bind (j := 0) fun l s1 _ e1 e2 => (h2 least l s1 e2).weak (fun p => by omega) (Nat.le_refl _)
    · intro least l s h
      rw [loopF]
      split
      · exact G.ret _ h
      · rename_i hc
        refine ((G.take hw h (Or.inr (infix_nil (fun e => hc (Or.inl e))))).bind (j := 0 + 0) fun t s1 _ e1 e2 => ?_).weak (fun p => p) (by omega)
        refine ((h1 _ s1 e2).weak (fun p => by omega) (Nat.le_refl _)).bind fun r s2 _ e3 e4 => (h2 _ _ s2 e4).weak (fun p => by omega) (Nat.le_refl _)
    · intro s h
      rw [unF]
      split
      · exact (h4 s h).weak (fun p => by omega) (Nat.le_refl _)
      · rename_i hc
        refine ((G.take hw h (Or.inr (prefix_nil hc))).bind (j := 0 + 0) fun t s1 _ e1 e2 => ?_).weak (fun p => p) (by omega)
        exact ((h3 s1 e2).weak (fun p => by omega) (Nat.le_refl _)).bind fun r s2 _ e3 e4 => G.ret _ e4
    · intro s h
      rw [opF]
      split
      · rename_i hc
        exact ((G.take hw h (Or.inl (by rw [hc]; decide))).bind (j := 0) fun t s1 _ e1 e2 => G.ret _ e2).weak (fun p => p) (by omega)
      split
      · rename_i hc
        exact ((G.take hw h (Or.inl (by rw [hc]; decide))).bind (j := 0) fun t s1 _ e1 e2 => (h5 _ s1 e2).weak (fun p => by omega) (Nat.le_refl _)).weak (fun p => p) (by omega)
      split
      · rename_i hc
        exact ((G.take hw h (Or.inr (by rw [hc]; simp))).bind (j := 0) fun t s1 _ e1 e2 => G.ret _ e2).weak (fun p => p) (by omega)
      split
      · rename_i hc
        exact ((G.take hw h (Or.inr (by rw [hc]; simp))).bind (j := 0) fun t s1 _ e1 e2 => G.ret _ e2).weak (fun p => p) (by omega)
      split
      · rename_i hc
        refine ((G.take hw h (Or.inr (by rw [hc]; simp))).bind (j := 1 + (1 + 0)) fun t s1 _ e1 e2 => ?_).weak (fun p => p) (by omega)
        exact (G.expect hw e2 (by simp)).bind fun _ s2 _ _ e4 => (G.expect hw e4 (by simp)).bind fun _ s3 _ _ e6 => G.ret _ e6
      split
      · rename_i hc
        refine ((G.take hw h (Or.inr (by rw [hc]; simp))).bind (j := 1 + (1 + (1 + 0))) fun t s1 _ e1 e2 => ?_).weak (fun p => p) (by omega)
        exact (G.expect hw e2 (by simp)).bind fun _ s2 _ _ e4 => (G.kind hw e4 (by decide)).bind fun _ s3 _ _ e6 => (G.expect hw e6 (by simp)).bind fun _ s3 _ _ e6 => G.ret _ e6
      split
      · rename_i hc
        refine ((G.take hw h (Or.inr (by rw [hc]; simp))).bind (j := 0 + (1 + 0)) fun t s1 _ e1 e2 => ?_).weak (fun p => p) (by omega)
        exact ((h1 _ s1 e2).weak (fun p => by omega) (Nat.le_refl _)).bind fun _ s2 _ _ e4 => (G.expect hw e4 (by simp)).bind fun _ s3 _ _ e6 => G.ret _ e6
      · exact G.wrong
    · intro u s h
      rw [useF]
      split
      · refine ((G.place hw h fun s1 e1 e2 => (h1 _ s1 e2).weak (fun p => by omega) (Nat.le_refl _)).bind (j := 0) fun x s2 _ _ e4 => G.ret _ e4).weak (fun p => p) (by omega)
      split
      · refine ((G.list hw h (fun s1 e1 e2 => (h1 _ s1 e2).weak (fun p => by omega) (Nat.le_refl _)) (fun p => by omega)).bind (j := 0) fun x s2 _ _ e4 => G.ret _ e4).weak (fun p => p) (by omega)
      · exact G.ret _ h
/-- Fuel for an expression that is read behind another token than that which is counted from. -/
abbrev EnB (ts : List Tok) (f i : Nat) : Prop := 4 * (ts.length - i) ≤ f + 1
theorem bin_G {ts : List Tok} (hw : EndT ts) {f least i : Nat} {s : St} (h : s.i < ts.length) (hi : i + 1 ≤ s.i) : G (EnB ts f i) ts 0 s (binF ts f least s) := ((exprs_G hw f).1 least s h).weak (fun p => by unfold EnB at p; omega) (Nat.le_refl _)

section
variable {ts : List Tok} {f id pos : Nat} {s : St}
theorem namedF_G (hw : EndT ts) (h : s.i < ts.length) : G (EnB ts f s.i) ts 1 s (namedF ts f id pos s) := by
  unfold namedF
  refine ((G.kind hw h (by decide)).bind (j := 0) fun t s1 _ a1 a2 => ?_).weak (fun p => p) (by omega)
  split
  · rename_i hc
    exact ((G.take hw a2 (Or.inr (by rw [hc]; simp))).bind (j := 0 + (1 + 0)) fun _ s2 _ b1 b2 => (bin_G hw b2 (by omega)).bind fun _ s3 _ c1 c2 => (G.expect hw c2 (by simp)).bind fun _ s4 _ _ d2 => G.ret _ d2).weak (fun p => p) (by omega)
  split
  · rename_i hc
    unfold placeF
    exact ((G.place hw a2 fun s' b1 b2 => bin_G hw b2 (by omega)).bind (j := 1 + (0 + (1 + 0))) fun _ s2 _ b1 b2 => (G.expect hw b2 (by simp)).bind fun _ s3 _ c1 c2 => (bin_G hw c2 (by omega)).bind fun _ s4 _ d1 d2 => (G.expect hw d2 (by simp)).bind fun _ s5 _ _ e2 => G.ret _ e2).weak (fun p => p) (by omega)
  split
  · rename_i hc
    refine (G.bind (k := 1) (j := 1 + 0) ?_ fun _ s2 _ b1 b2 => (G.expect hw b2 (by simp)).bind fun _ s3 _ c1 c2 => G.ret _ c2).weak (fun p => p) (by omega)
    unfold callF
    exact (G.list hw a2 (fun s' b1 b2 => bin_G hw b2 (by omega)) (fun p => by unfold EnB at p; omega)).bind (j := 0) fun _ s2 _ b1 b2 => G.ret _ b2
  · exact G.wrong
theorem letF_G (hw : EndT ts) (h : s.i < ts.length) : G (EnB ts f s.i) ts 1 s (letF ts f id pos s) := by
  unfold letF
  refine ((G.expect hw h (by simp)).bind (j := 1 + (1 + (1 + 0))) fun t s1 _ a1 a2 => (G.kind hw a2 (by decide)).bind fun _ s2 _ b1 b2 => (G.expect hw b2 (by simp)).bind fun _ s3 _ c1 c2 => (G.type hw c2 [1, 2, 3] (by decide)).bind fun y s4 _ d1 d2 => ?_).weak (fun p => p) (by omega)
  split
  · exact ((G.expect hw d2 (by simp)).bind (j := 1 + (1 + (1 + 0))) fun _ s5 _ _ e2 => (G.kind hw e2 (by decide)).bind fun _ s6 _ _ f2 => (G.expect hw f2 (by simp)).bind fun _ s7 _ _ g2 => (G.expect hw g2 (by simp)).bind fun _ s8 _ _ h2 => G.ret _ h2).weak (fun p => p) (by omega)
  split
  · rename_i hc
    exact ((G.take hw d2 (Or.inr (by rw [hc]; simp))).bind (j := 0 + (1 + 0)) fun _ s5 _ e1 e2 => (bin_G hw e2 (by omega)).bind fun _ s6 _ _ f2 => (G.expect hw f2 (by simp)).bind fun _ s7 _ _ g2 => G.ret _ g2).weak (fun p => p) (by omega)
  · exact ((G.expect hw d2 (by simp)).bind (j := 0) fun _ s5 _ _ e2 => G.ret _ e2).weak (fun p => p) (by omega)
theorem returnF_G (hw : EndT ts) (h : s.i < ts.length) (ht : (tk ts s.i).text ≠ []) : G (EnB ts f s.i) ts 1 s (returnF ts f id pos s) := by
  unfold returnF
  refine ((G.take hw h (Or.inr ht)).bind (j := 0) fun t s1 _ a1 a2 => ?_).weak (fun p => p) (by omega)
  split
  · exact ((G.expect hw a2 (by simp)).bind (j := 0) fun _ s5 _ _ e2 => G.ret _ e2).weak (fun p => p) (by omega)
  · exact ((bin_G hw a2 (by omega)).bind (j := 1 + 0) fun _ s6 _ _ f2 => (G.expect hw f2 (by simp)).bind fun _ s7 _ _ g2 => G.ret _ g2).weak (fun p => p) (by omega)
theorem printF_G (hw : EndT ts) (h : s.i < ts.length) (ht : (tk ts s.i).text ≠ []) : G (EnB ts f s.i) ts 1 s (printF ts f id pos s) := by
  unfold printF
  exact ((G.take hw h (Or.inr ht)).bind (j := 0 + (1 + 0)) fun t s1 _ a1 a2 => (bin_G hw a2 (by omega)).bind fun _ s6 _ _ f2 => (G.expect hw f2 (by simp)).bind fun _ s7 _ _ g2 => G.ret _ g2).weak (fun p => p) (by omega)
theorem choiceB_G {blk : St → R (List Sm)} (hw : EndT ts) (h : s.i < ts.length) (hb : ∀ s', s.i + 1 ≤ s'.i → s'.i < ts.length → G (EnB ts f s.i) ts 0 s' (blk s')) : G (EnB ts f s.i) ts 1 s (choiceB ts f id pos blk s) := by
  unfold choiceB
  refine ((G.expect hw h (by simp)).bind (j := 0 + (0 + 0)) fun t s1 _ a1 a2 => (bin_G hw a2 (by omega)).bind fun _ s2 _ b1 b2 => (hb s2 (by omega) b2).bind fun _ s3 _ c1 c2 => ?_).weak (fun p => p) (by omega)
  split
  · rename_i hc
    exact ((G.take hw c2 (Or.inr (by rw [hc]; simp))).bind (j := 0 + 0) fun _ s4 _ d1 d2 => (hb s4 (by omega) d2).bind fun _ s5 _ e1 e2 => G.ret _ e2).weak (fun p => p) (by omega)
  · exact G.ret _ c2
theorem whileB_G {blk : St → R (List Sm)} (hw : EndT ts) (h : s.i < ts.length) (ht : (tk ts s.i).text ≠ []) (hb : ∀ s', s.i + 1 ≤ s'.i → s'.i < ts.length → G (EnB ts f s.i) ts 0 s' (blk s')) : G (EnB ts f s.i) ts 1 s (whileB ts f id pos blk s) := by
  unfold whileB
  exact ((G.take hw h (Or.inr ht)).bind (j := 0 + (0 + 0)) fun t s1 _ a1 a2 => (bin_G hw a2 (by omega)).bind fun _ s2 _ b1 b2 => (hb s2 (by omega) b2).bind fun _ s3 _ c1 c2 => G.ret _ c2).weak (fun p => p) (by omega)
end

theorem stmts_G {ts : List Tok} (hw : EndT ts) : ∀ f, (∀ s, s.i < ts.length → G (4 * (ts.length - s.i) ≤ f) ts 1 s (blockF ts f s)) ∧ (∀ l s, s.i < ts.length → G (4 * (ts.length - s.i) + 2 ≤ f) ts 0 s (bodyF ts f l s)) ∧ (∀ s, s.i < ts.length → G (4 * (ts.length - s.i) + 1 ≤ f) ts 1 s (smF ts f s))
  | 0 => ⟨(fun _ _ => by rw [blockF]; exact G.gone (by omega)), (fun _ _ _ => by rw [bodyF]; exact G.gone (by omega)), (fun _ _ => by rw [smF]; exact G.gone (by omega))⟩
  | f + 1 => by
    obtain ⟨h1, h2, h3⟩ := stmts_G hw f
    refine ⟨?_, ?_, ?_⟩
    · intro s h
      rw [blockF]
      exact ((G.expect hw h (by simp)).bind (j := 0 + (1 + 0)) fun t s1 _ a1 a2 => ((h2 [] s1 a2).weak (fun p => by omega) (Nat.le_refl _)).bind fun _ s2 _ b1 b2 => (G.expect hw b2 (by simp)).bind fun _ s3 _ c1 c2 => G.ret _ c2).weak (fun p => p) (by omega)
    · intro l s h
      rw [bodyF]
      split
      · exact G.ret _ h
      · exact (((h3 s h).weak (fun p => by omega) (Nat.le_refl _)).bind (j := 0) fun x s1 _ a1 a2 => (h2 _ s1 a2).weak (fun p => by omega) (Nat.le_refl _)).weak (fun p => p) (by omega)
    · intro s h
      have hb : ∀ s' : St, s.i + 1 ≤ s'.i → s'.i < ts.length → G (EnB ts f s.i) ts 0 s' (blockF ts f s') := fun s' e1 e2 => (h1 s' e2).weak (fun p => by unfold EnB at p; omega) (by omega)
      have key : ∀ r : R Sm, G (EnB ts f s.i) ts 1 ⟨s.i, s.o, s.n + 1⟩ r → G (4 * (ts.length - s.i) + 1 ≤ f + 1) ts 1 s r := fun r hr => by
        have h' : G (EnB ts f s.i) ts 1 s r := hr
        exact h'.weak (fun p => by unfold EnB; omega) (Nat.le_refl _)
      rw [smF]
      split
      · exact key _ (namedF_G (s := ⟨s.i, s.o, s.n + 1⟩) hw h)
      split
      · exact key _ (letF_G (s := ⟨s.i, s.o, s.n + 1⟩) hw h)
      split
      · exact key _ (choiceB_G (s := ⟨s.i, s.o, s.n + 1⟩) hw h hb)
      split
      · rename_i hc; exact key _ (whileB_G (s := ⟨s.i, s.o, s.n + 1⟩) hw h (by show (tk ts s.i).text ≠ []; rw [hc]; simp) hb)
      split
      · rename_i hc; exact key _ (returnF_G (s := ⟨s.i, s.o, s.n + 1⟩) hw h (by show (tk ts s.i).text ≠ []; rw [hc]; simp))
      split
      · rename_i hc; exact key _ (printF_G (s := ⟨s.i, s.o, s.n + 1⟩) hw h (by show (tk ts s.i).text ≠ []; rw [hc]; simp))
      · exact G.wrong
theorem pmF_G {ts : List Tok} (hw : EndT ts) {P : Prop} {s : St} (h : s.i < ts.length) : G P ts 1 s (pmF ts s) := by
  unfold pmF
  exact ((G.kind hw h (by decide)).bind (j := 1 + (1 + 0)) fun _ s2 _ b1 b2 => (G.expect hw b2 (by simp)).bind fun _ s3 _ c1 c2 => (G.type hw c2 [1, 2, 3] (by decide)).bind fun y s4 _ d1 d2 => G.ret _ d2).weak (fun p => p) (by omega)
theorem fuF_G {ts : List Tok} (hw : EndT ts) {f : Nat} {s : St} (h : s.i < ts.length) : G (4 * (ts.length - s.i) ≤ f) ts 1 s (fuF ts f s) := by
  unfold fuF
  refine ((G.expect hw h (by simp)).bind (j := 1 + (1 + (0 + (1 + 0)))) fun _ s1 _ a1 a2 => (G.kind hw a2 (by decide)).bind fun _ s2 _ b1 b2 => (G.list hw b2 (fun s' c1 c2 => (pmF_G hw c2).weak (fun p => p) (by omega)) (fun p => by omega)).bind fun _ s3 _ c1 c2 => G.bind ?_ fun y s4 _ d1 d2 => (((stmts_G hw f).1 s4 d2).weak (fun p => by omega) (Nat.le_refl _)).bind fun _ s5 _ e1 e2 => G.ret _ e2).weak (fun p => p) (by omega)
  split
  · rename_i hc
    exact ((G.take hw c2 (Or.inr (by rw [hc]; simp))).bind (j := 1) fun _ s4 _ d1 d2 => G.type hw d2 [1, 2] (by decide)).weak (fun p => p) (by omega)
  · exact G.ret _ c2
theorem fusF_G {ts : List Tok} (hw : EndT ts) : ∀ (f : Nat) (l : List Fu) (s : St), s.i < ts.length → G (4 * (ts.length - s.i) + 1 ≤ f) ts 0 s (fusF ts f l s)
  | 0, _, _, _ => by rw [fusF]; exact G.gone (by omega)
  | f + 1, l, s, h => by
    rw [fusF]
    refine (((fuF_G hw h).weak (fun p => by omega) (Nat.le_refl _)).bind (j := 0) fun x s1 _ a1 a2 => ?_).weak (fun p => p) (by omega)
    split
    · exact G.ret _ a2
    · exact (fusF_G hw f _ s1 a2).weak (fun p => by omega) (Nat.le_refl _)
theorem fusF_ng {ts : List Tok} (hw : EndT ts) (h0 : 0 < ts.length) : fusF ts (fuel ts) [] ⟨0, 0, 0⟩ ≠ gone := by
  intro h
  have := fusF_G hw (fuel ts) [] ⟨0, 0, 0⟩ h0
  rw [h] at this
  exact this.2 (by unfold fuel; simp; omega) rfl
end Go.Proofs.YtcgllooeimacdaaGreatDoor.Px

/-! The tokens of a text: they end with the end, their places rise, there aren't too many; and what any text's parsing comes to. -/

namespace Go.Proofs.YtcgllooeimacdaaGreatDoor.Px
open Lx (Tok)

theorem tokL_err {pos : Nat} {l : List UInt8} {e : Nat} (h : Lx.tokL pos l = .error e) : e = 2 ∨ e = 4 := by
  match l with
  | [] => unfold Lx.tokL at h; cases h; exact Or.inr rfl
  | c :: t =>
    rw [Lx.tokL] at h
    split at h
    · split at h
      · cases h; exact Or.inl rfl
      · cases h
    · split at h
      · split at h
        · cases h; exact Or.inl rfl
        · split at h
          · cases h; exact Or.inr rfl
          · split at h
            · cases h; exact Or.inr rfl
            · cases h
      · split at h
        · cases h; exact Or.inr rfl
        · cases h
/-- Tokens of which the last is the end, and whose places rise. -/
def TsOk : Nat → List Tok → Prop
  | _, [] => False
  | p, t :: r => p ≤ t.pos ∧ ((r = [] ∧ t.kind = 0 ∧ t.text = []) ∨ (r ≠ [] ∧ t.text ≠ [] ∧ TsOk (t.pos + 1) r))
theorem TsOk.mono : ∀ {p q : Nat} {r : List Tok}, TsOk q r → p ≤ q → TsOk p r
  | _, _, [], h, _ => h
  | _, _, _ :: _, h, hp => ⟨Nat.le_trans hp h.1, h.2⟩
theorem TsOk.ne {p : Nat} {r : List Tok} (h : TsOk p r) : r ≠ [] := by rintro rfl; exact h
theorem resF_ok : ∀ (n pos : Nat) (l : List UInt8), l.length < n → (∀ p e, Lx.resF n pos l = .error (p, e) → e = 2 ∨ e = 4) ∧ (∀ ts, Lx.resF n pos l = .ok ts → TsOk pos ts ∧ ts.length ≤ l.length + 1)
  | 0, _, _, h => absurd h (by omega)
  | n + 1, pos, [], _ => by
    rw [Lx.resF]
    refine ⟨(fun p e h => by cases h), fun ts h => ?_⟩
    cases h
    exact ⟨⟨Nat.le_refl _, Or.inl ⟨rfl, rfl, rfl⟩⟩, by simp⟩
  | n + 1, pos, c :: t, hl => by
    simp only [List.length_cons] at hl
    rw [Lx.resF]
    split
    · obtain ⟨h1, h2⟩ := resF_ok n (pos + 1) t (by omega)
      refine ⟨h1, fun ts h => ?_⟩
      obtain ⟨a, b⟩ := h2 ts h
      exact ⟨a.mono (by omega), by simp; omega⟩
    · split
      · have := Lx.dropWhile_le (· != 10) t
        obtain ⟨h1, h2⟩ := resF_ok n (pos + 1 + (t.takeWhile (· != 10)).length) (t.dropWhile (· != 10)) (by omega)
        refine ⟨h1, fun ts h => ?_⟩
        obtain ⟨a, b⟩ := h2 ts h
        exact ⟨a.mono (by omega), by simp only [List.length_cons]; omega⟩
      · cases hk : Lx.tokL pos (c :: t) with
        | error e =>
          refine ⟨fun p e' h => ?_, fun ts h => by cases h⟩
          cases h
          exact tokL_err hk
        | ok k =>
          obtain ⟨k1, k2, k3, k4⟩ := Lx.tokL_len hk
          obtain ⟨h1, h2⟩ := resF_ok n (pos + k.text.length) ((c :: t).drop k.text.length) (by simp only [List.length_drop, List.length_cons]; omega)
          dsimp only
          cases hr : Lx.resF n (pos + k.text.length) ((c :: t).drop k.text.length) with
          | error e =>
            refine ⟨fun p e' h => ?_, fun ts h => by cases h⟩
            cases h
            exact h1 _ _ hr
          | ok r =>
            refine ⟨(fun p e' h => by cases h), fun ts h => ?_⟩
            cases h
            obtain ⟨a, b⟩ := h2 r hr
            refine ⟨⟨by omega, Or.inr ⟨a.ne, by intro e; rw [e] at k1; exact absurd k1 (by simp), a.mono (by omega)⟩⟩, ?_⟩
            simp only [List.length_drop, List.length_cons, List.singleton_append] at b ⊢
            simp only [List.length_cons] at k2
            omega
theorem scan_err {l : Bytes} {p e : Nat} (h : Lx.scan l = .error (p, e)) : e = 2 ∨ e = 4 := by
  unfold Lx.scan at h
  split at h
  · cases h; exact Or.inl rfl
  · exact (resF_ok (l.length + 1) 0 l (by omega)).1 p e h
theorem TsOk.end : ∀ {p : Nat} {ts : List Tok}, TsOk p ts → EndT ts
  | _, [], h => h.elim
  | _, t :: r, h => by
    intro i hi ht
    rcases h.2 with ⟨h1, h2, h3⟩ | ⟨h1, h2, h3⟩
    · subst h1
      simp at hi
      subst hi
      rcases ht with ht | ht
      · exact absurd h2 ht
      · exact absurd h3 ht
    · cases i with
      | zero =>
        have : 0 < r.length := List.length_pos_iff.2 h1
        simp only [List.length_cons]; omega
      | succ i =>
        have := TsOk.end h3 i (by simpa using hi) ht
        simp only [List.length_cons]; omega
/-- Places rise. -/
def Rise (ts : List Tok) : Prop := ∀ i j, i < j → j < ts.length → (tk ts i).pos + 1 ≤ (tk ts j).pos
theorem scan_ok {l : Bytes} {ts : List Tok} (h : Lx.scan l = .ok ts) : TsOk 0 ts ∧ ts.length ≤ 20001 := by
  unfold Lx.scan at h
  split at h
  · cases h
  · obtain ⟨a, b⟩ := (resF_ok (l.length + 1) 0 l (by omega)).2 ts h
    exact ⟨a, by omega⟩
end Go.Proofs.YtcgllooeimacdaaGreatDoor.Px
namespace Go.Proofs.YtcgllooeimacdaaGreatDoor
open Go Go.RowKit Px
open Lx (Tok)
theorem scan_wf {l : Bytes} {ts : List Tok} (h : Lx.scan l = .ok ts) : WfT ts := by
  obtain ⟨h1, h2⟩ := scan_ok h
  exact ⟨List.length_pos_iff.2 h1.ne, by omega, h1.end⟩
end Go.Proofs.YtcgllooeimacdaaGreatDoor

/-! Statements are numbered as they begin, and stand where they begin. -/

namespace Go.Proofs.YtcgllooeimacdaaGreatDoor.Px
open Lx (Tok)

mutual
/-- The number that comes next, and the first place that may be, behind a statement; none if it isn't numbered so. -/
def numSm : Sm → Nat → Nat → Option (Nat × Nat)
  | .mk _ id _ _ _ pos _ body els, n, a => if id = n ∧ a ≤ pos then match numSms body (n + 1) (pos + 1) with
    | none => none
    | some (n1, a1) => numSms els n1 a1
    else none
def numSms : List Sm → Nat → Nat → Option (Nat × Nat)
  | [], n, a => some (n, a)
  | x :: l, n, a => match numSm x n a with
    | none => none
    | some (n1, a1) => numSms l n1 a1
end

/-- A statement without blocks. -/
def Leaf (id pos : Nat) (s s' : St) (x : Sm) : Prop := s'.n = s.n ∧ ∃ k nm t n ex, x = .mk k id nm t n pos ex [] []

/-- A list's numbers go from those ahead to those behind, and its places up to where the reader is. -/
def NumOk (ts : List Tok) (s s' : St) (l : List Sm) : Prop := ∀ a, a ≤ (tk ts s.i).pos → ∃ a', numSms l (s.n + 1) a = some (s'.n + 1, a') ∧ a' ≤ (tk ts s'.i).pos
theorem G.got {α : Type} {P : Prop} {ts : List Tok} {k : Nat} {s s' : St} {r : R α} {x : α} (h : G P ts k s r) (hr : r = .ok (x, s')) : s.i + k ≤ s'.i ∧ s'.i < ts.length := by subst hr; exact h


/-- The same through all functions. -/
def numFus : List Fu → Nat → Nat → Option (Nat × Nat)
  | [], n, a => some (n, a)
  | f :: l, n, a => match numSms f.body n a with
    | none => none
    | some (n1, a1) => numFus l n1 a1
end Go.Proofs.YtcgllooeimacdaaGreatDoor.Px

/-! What any text's parsing comes to. -/

namespace Go.Proofs.YtcgllooeimacdaaGreatDoor
open Go Go.RowKit Px
open Lx (Tok)

namespace Px
/-- What a text is parsed as, and where the reader is then. -/
def parseR (l : Bytes) : R (List Fu) := match Lx.scan l with
  | .error e => .error e
  | .ok ts => fusF ts (fuel ts) [] ⟨0, 0, 0⟩
end Px

set_option maxRecDepth 100000 in
set_option maxHeartbeats 2000000 in
theorem treeParse_scan (s : ByteArray) (hs : s.size ≤ 9223372036854775806) (p n : Nat) (hsc : Lx.scan (Bs s) = .error (p, n)) (hn : n = 2 ∨ n = 4) (w : World) (hT : Tabs w.heap.size w) :
    Calls Tryz.prog 9 #[.string s] w (ParsePost w (.error (p, n))) := by
  obtain ⟨W, hW⟩ : ∃ W, W = ((w.alloc (.cells #[.slice none 0 0] 24)).alloc (.cells #[.int .i64 0] 3)).alloc (.cells #[.int .i64 0] 25) := ⟨_, rfl⟩
  have hbW : Below w.heap.size w W := by rw [hW]; go_grown
  have hWs : W.heap.size = w.heap.size + 3 := by rw [hW]; simp
  have q0 : Blk w.heap.size #[.slice none 0 0] 24 W := by rw [hW]; exact ((Blk.new w _ _).below ((Below.refl _ _).alloc (Nat.le_refl _) _) (by simp)).below ((Below.refl _ _).alloc (Nat.le_refl _) _) (by simp; omega)
  have q1 : Blk (w.heap.size + 1) #[.int .i64 0] 3 W := by rw [hW]; exact (Blk.new' _ _ _ (by simp)).below ((Below.refl _ _).alloc (Nat.le_refl _) _) (by simp)
  have q2 : Blk (w.heap.size + 2) #[.int .i64 0] 25 W := by rw [hW]; exact Blk.new' _ _ _ (by simp)
  have HS := Lib.hid (scan_any s hs W ((hT.below hbW).mono (by omega)))
  have HWW := Lib.hid hW
  have HQ := Lib.hid (And.intro hbW (And.intro q0 (And.intro q1 (And.intro q2 hWs))))
  have HSC := Lib.hid hsc
  have hk1 : ((n : Int) == 0) = false := by rw [beq_eq_false_iff_ne]; omega
  have hmf : ∀ (fn : Fn) (first cap : Array Value) (w : World), (Instr.makeFunc fn first cap).run Tryz.prog w = .ok (.func fn first cap) w := fun _ _ _ _ => rfl
  clear hT hbW hWs q0 q1 q2 hW hsc hn
  go_enter_defers Tryz.func9, Tryz.ntmps9
  go_wp2_with fail
  rw [← HWW.out]
  refine HS.out.mono ?_
  rintro e w2 ⟨hb1, h1⟩
  rw [HSC.out] at h1
  have h1 : e = .returned (.tuple #[.slice none 0 0, .int .i64 (p : Int), .int .i64 (n : Int)]) := h1
  subst h1
  obtain ⟨x1, x2, x3, x4, x5⟩ := HQ.out
  have hb2 : Below w.heap.size w w2 := x1.trans (hb1.mono x1.size)
  have z0 := x2.below hb1 (by omega)
  have z1 := x3.below hb1 (by omega)
  have z2 := x4.below hb1 (by omega)
  have c0 := z0.get 0 _ rfl
  have c1 := z1.get 0 _ rfl
  have c2 := z2.get 0 _ rfl
  have f0 := z0.free 0
  have f1 := z1.free 0
  have f2 := z2.free 0
  have hFIN : Below w.heap.size w (((w2.setCell ⟨w.heap.size, 0, none⟩ (.slice none 0 0)).setCell ⟨w.heap.size + 1, 0, none⟩ (.int .i64 (p : Int))).setCell ⟨w.heap.size + 1 + 1, 0, none⟩ (.int .i64 (n : Int))) :=
    ((hb2.setCell (Nat.le_refl _) _).setCell (by show w.heap.size ≤ w.heap.size + 1; omega) _).setCell (by show w.heap.size ≤ w.heap.size + 1 + 1; omega) _
  have y0 : (((w2.setCell ⟨w.heap.size, 0, none⟩ (.slice none 0 0)).setCell ⟨w.heap.size + 1, 0, none⟩ (.int .i64 (p : Int))).setCell ⟨w.heap.size + 1 + 1, 0, none⟩ (.int .i64 (n : Int))).cell? ⟨w.heap.size, 0, none⟩ = some (.slice none 0 0) := by
    rw [World.cell?_setCell_other _ _ _ _ (by simp), World.cell?_setCell_other _ _ _ _ (by simp)]
    exact World.cell?_setCell_same _ _ _ c0
  have y1 : (((w2.setCell ⟨w.heap.size, 0, none⟩ (.slice none 0 0)).setCell ⟨w.heap.size + 1, 0, none⟩ (.int .i64 (p : Int))).setCell ⟨w.heap.size + 1 + 1, 0, none⟩ (.int .i64 (n : Int))).cell? ⟨w.heap.size + 1, 0, none⟩ = some (.int .i64 (p : Int)) := by
    rw [World.cell?_setCell_other _ _ _ _ (by simp)]
    exact World.cell?_setCell_same _ _ _ ((World.cell?_setCell_other _ _ _ _ (by simp)).trans c1)
  have y2 : (((w2.setCell ⟨w.heap.size, 0, none⟩ (.slice none 0 0)).setCell ⟨w.heap.size + 1, 0, none⟩ (.int .i64 (p : Int))).setCell ⟨w.heap.size + 1 + 1, 0, none⟩ (.int .i64 (n : Int))).cell? ⟨w.heap.size + 1 + 1, 0, none⟩ = some (.int .i64 (n : Int)) :=
    World.cell?_setCell_same _ _ _ ((World.cell?_setCell_other _ _ _ _ (by simp)).trans ((World.cell?_setCell_other _ _ _ _ (by simp)).trans c2))
  have HY := Lib.hid (And.intro y0 (And.intro y1 y2))
  have FIN := Lib.hid hFIN
  clear z0 z1 z2 hb1 hb2 y0 y1 y2 hFIN x1 x2 x3 x4 x5
  go_wp2
  refine leaves_cons (f := 19) (args := #[.pointer (some ⟨w.heap.size, 0, none⟩), .pointer (some ⟨w.heap.size + 1, 0, none⟩), .pointer (some ⟨w.heap.size + 2, 0, none⟩)]) (by simp) (by simp [go_sem]) ?_
  refine (catchP_idle ⟨w.heap.size, 0, none⟩ ⟨w.heap.size + 1, 0, none⟩ ⟨w.heap.size + 2, 0, none⟩ _).mono ?_
  rintro e u' w3 ⟨rfl, rfl, rfl⟩
  obtain ⟨y0, y1, y2⟩ := HY.out
  clear c0 c1 c2 f0 f1 f2
  simp [Leaves, settle, results, Tryz.results9, go_sem, y0, y1, y2]
  exact ⟨FIN.out, rfl⟩

theorem treeParse_any (s : ByteArray) (hs : s.size ≤ 9223372036854775806) (w : World) (hT : Tabs w.heap.size w) : Calls Tryz.prog 9 #[.string s] w (ParsePost w (parseR (Bs s))) := by
  unfold parseR
  cases hsc : Lx.scan (Bs s) with
  | error e =>
    obtain ⟨p, n⟩ := e
    exact treeParse_scan s hs p n hsc (scan_err hsc) w hT
  | ok ts =>
    obtain ⟨h1, h2⟩ := scan_ok hsc
    exact treeParse_ts s hs ts hsc (scan_wf hsc) (fuel ts) (by unfold fuel; omega) (fusF_ng h1.end (List.length_pos_iff.2 h1.ne)) w hT
end Go.Proofs.YtcgllooeimacdaaGreatDoor

/-! Joined: TNumW, TNumL. -/

namespace Go.Proofs.YtcgllooeimacdaaGreatDoor
open Go Go.RowKit Px
open Lx (Tok)

namespace Px
mutual
theorem numSm_le : ∀ (x : Sm) {n a n1 a1 : Nat}, numSm x n a = some (n1, a1) → n + 1 ≤ n1
  | .mk _ id _ _ _ pos _ body els, n, a, n1, a1, h => by
    rw [numSm] at h
    split at h
    · cases hb : numSms body (n + 1) (pos + 1) with
      | none => rw [hb] at h; cases h
      | some p =>
        obtain ⟨n2, a2⟩ := p
        rw [hb] at h
        have h1 := numSms_le body hb
        have h2 := numSms_le els h
        omega
    · cases h
theorem numSms_le : ∀ (l : List Sm) {n a n1 a1 : Nat}, numSms l n a = some (n1, a1) → n + l.length ≤ n1
  | [], n, a, n1, a1, h => by rw [numSms] at h; cases h; simp
  | x :: l, n, a, n1, a1, h => by
    rw [numSms] at h
    cases hb : numSm x n a with
    | none => rw [hb] at h; cases h
    | some p =>
      obtain ⟨n2, a2⟩ := p
      rw [hb] at h
      have h1 := numSm_le x hb
      have h2 := numSms_le l h
      simp only [List.length_cons]; omega
end
end Px

theorem SmC_len {w : World} {ok : Nat → Prop} : ∀ {x : Sm} {cs : List Value}, SmC w ok x cs → cs.length = 9
  | .mk _ _ _ _ _ _ _ _ _, cs, h => by
    simp only [SmC] at h
    obtain ⟨v1, v2, v3, rfl, _⟩ := h
    rfl
theorem SmsC_at {w : World} {ok : Nat → Prop} {x : Sm} {r : List Sm} : ∀ (d : List Sm) {xs : List Value}, SmsC w ok (d ++ x :: r) xs → ∃ cs, SmC w ok x cs ∧ ∀ j, j < 9 → xs[d.length * 9 + j]? = cs[j]?
  | [], xs, h => by
    simp only [List.nil_append, SmsC] at h
    obtain ⟨c, e, rfl, h1, _⟩ := h
    refine ⟨c, h1, fun j hj => ?_⟩
    rw [List.getElem?_append_left (by rw [SmC_len h1]; simpa using hj)]
    simp
  | y :: d, xs, h => by
    simp only [List.cons_append, SmsC] at h
    obtain ⟨c, e, rfl, h1, h2⟩ := h
    obtain ⟨cs, h3, h4⟩ := SmsC_at d h2
    have hl := SmC_len h1
    refine ⟨cs, h3, fun j hj => ?_⟩
    rw [List.getElem?_append_right (by rw [hl]; simp only [List.length_cons]; omega), hl, ← h4 j hj]
    congr 1
    simp only [List.length_cons]; omega
theorem sm_form {w : World} {ok : Nat → Prop} {l : List Sm} {sv : Value} (h : SmRow w ok l sv) : ∃ (a : Option Addr) (c : Nat), sv = .slice a l.length c := by
  rcases h with ⟨rfl, rfl⟩ | ⟨_, _, _, rfl, _⟩
  · exact ⟨_, _, rfl⟩
  · exact ⟨_, _, rfl⟩

def NumP (p q n' a' : Nat) (w : World) (e : Ending) (w' : World) : Prop := e = .returned (.bool true) ∧ Grown2 p q w w' ∧ Blk p #[.int .i64 (n' : Int)] 3 w' ∧ Blk q #[.int .i64 ((a' : Int) - 1)] 3 w'
def NumC (K : Nat) : Prop := ∀ (l : List Sm) (n a n' a' : Nat) (sv : Value) (p q : Nat) (w : World), n' ≤ n + K → n' ≤ 1000000000 → numSms l n a = some (n', a') → SmRow w (fun g => g ≠ p ∧ g ≠ q) l sv → p ≠ q →
  Blk p #[.int .i64 (n : Int)] 3 w → Blk q #[.int .i64 ((a : Int) - 1)] 3 w → Calls Tryz.prog 17 #[sv, .pointer (some ⟨p, 0, none⟩), .pointer (some ⟨q, 0, none⟩)] w (NumP p q n' a' w)
def NumRel (l : List Sm) (n n' a' p q : Nat) (w : World) (gk : Nat) (v : Value) (wr : World) : Prop := ∃ (d r : List Sm) (n1 a1 : Nat), l = d ++ r ∧ r.length = gk ∧ v = .int .i64 (d.length : Int) ∧ n ≤ n1 ∧ numSms r n1 a1 = some (n', a') ∧ Grown2 p q w wr ∧ Blk p #[.int .i64 (n1 : Int)] 3 wr ∧ Blk q #[.int .i64 ((a1 : Int) - 1)] 3 wr

end Go.Proofs.YtcgllooeimacdaaGreatDoor

/-! TreeNumbers: the statement's own body says true of every text. -/

namespace Go.Proofs.YtcgllooeimacdaaGreatDoor
open Go Go.RowKit Px
open Lx (Tok)


theorem FuC_len {w : World} {ok : Nat → Prop} {x : Fu} {cs : List Value} (h : FuC w ok x cs) : cs.length = 5 := by
  obtain ⟨v1, v2, rfl, _⟩ := h
  rfl
theorem FusC_at {w : World} {ok : Nat → Prop} {x : Fu} {r : List Fu} : ∀ (d : List Fu) {xs : List Value}, FusC w ok (d ++ x :: r) xs → ∃ cs, FuC w ok x cs ∧ ∀ j, j < 5 → xs[d.length * 5 + j]? = cs[j]?
  | [], xs, h => by
    obtain ⟨c, e, rfl, h1, _⟩ := h
    refine ⟨c, h1, fun j hj => ?_⟩
    rw [List.getElem?_append_left (by rw [FuC_len h1]; simpa using hj)]
    simp
  | y :: d, xs, h => by
    obtain ⟨c, e, rfl, h1, h2⟩ := h
    obtain ⟨cs, h3, h4⟩ := FusC_at d h2
    have hl := FuC_len h1
    refine ⟨cs, h3, fun j hj => ?_⟩
    rw [List.getElem?_append_right (by rw [hl]; simp only [List.length_cons]; omega), hl, ← h4 j hj]
    congr 1
    simp only [List.length_cons]; omega


def FunRel (L : List Fu) (n' a' p q : Nat) (w : World) (gk : Nat) (v : Value) (wr : World) : Prop := ∃ (d r : List Fu) (n1 a1 : Nat), L = d ++ r ∧ r.length = gk ∧ v = .int .i64 (d.length : Int) ∧ numFus r n1 a1 = some (n', a') ∧ Grown2 p q w wr ∧ Blk p #[.int .i64 (n1 : Int)] 3 wr ∧ Blk q #[.int .i64 ((a1 : Int) - 1)] 3 wr

end Go.Proofs.YtcgllooeimacdaaGreatDoor
