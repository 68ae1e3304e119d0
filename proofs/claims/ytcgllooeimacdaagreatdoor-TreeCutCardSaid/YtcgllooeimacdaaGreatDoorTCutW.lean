/-
  Joined: TCutL, TCutP, TCutW.
-/
import Derived.Test.YtcgllooeimacdaaGreatDoorPlain
import Derived.Test.YtcgllooeimacdaaGreatDoorTAdv
import Derived.Test.YtcgllooeimacdaaGreatDoorTNum
import Derived.Test.YtcgllooeimacdaaGreatDoorTAwake2
/-! A text that is cut off ahead of one of its tokens: its tokens are those ahead, and the end. -/

namespace Go.Proofs.YtcgllooeimacdaaGreatDoor.Lx

theorem takeWhile_take (p : UInt8 → Bool) : ∀ (l : List UInt8) (m : Nat), (l.takeWhile p).length ≤ m → (l.take m).takeWhile p = l.takeWhile p
  | [], m, _ => by simp
  | c :: t, 0, h => by
    simp only [List.takeWhile_cons] at h ⊢
    split at h
    · simp at h
    · rename_i hc; simp [hc]
  | c :: t, m + 1, h => by
    simp only [List.take_succ_cons, List.takeWhile_cons] at h ⊢
    split
    · rename_i hc
      rw [if_pos hc] at h
      rw [takeWhile_take p t m (by simpa using h)]
    · rfl
theorem dropWhile_take (p : UInt8 → Bool) (l : List UInt8) (m : Nat) (h : (l.takeWhile p).length ≤ m) : (l.take m).dropWhile p = (l.dropWhile p).take (m - (l.takeWhile p).length) := by
  rw [← drop_takeWhile, takeWhile_take p l m h, List.drop_take, drop_takeWhile]
theorem any_take (p : UInt8 → Bool) (l : List UInt8) (m : Nat) (h : l.head?.any p = false) : (l.take m).head?.any p = false := by
  match l, m with
  | [], m => simp
  | c :: t, 0 => simp
  | c :: t, m + 1 => simpa using h
theorem signSize_take (c : UInt8) (t : List UInt8) (m : Nat) (h : signSize (c :: t) ≤ m + 1) (h0 : signSize (c :: t) ≠ 0) : signSize (c :: t.take m) = signSize (c :: t) := by
  match t, m with
  | [], m => simp
  | b :: t, m + 1 => rfl
  | b :: t, 0 =>
    simp only [List.take_zero, signSize] at h h0 ⊢
    split at h
    · omega
    · rename_i hp
      rw [if_neg hp] at h0 ⊢
theorem tokL_take {pos : Nat} {l : List UInt8} {k : Tok} {m : Nat} (h : tokL pos l = .ok k) (hm : k.text.length ≤ m) : tokL pos (l.take m) = .ok k := by
  have hpos := (tokL_len h).1
  match l, m with
  | [], m => simpa using h
  | c :: t, 0 => omega
  | c :: t, m + 1 =>
    rw [List.take_succ_cons]
    have e : c :: t.take m = (c :: t).take (m + 1) := (List.take_succ_cons).symm
    rw [tokL] at h ⊢
    split at h
    · rename_i hs
      rw [if_pos hs]
      split at h
      · cases h
      · rename_i hl
        cases h
        have hm' : ((c :: t).takeWhile nameB).length ≤ m + 1 := hm
        rw [e, takeWhile_take nameB _ _ hm', if_neg hl]
    · rename_i hs
      rw [if_neg hs]
      split at h
      · rename_i hd
        rw [if_pos hd]
        split at h
        · cases h
        · rename_i h1
          split at h
          · cases h
          · rename_i h2
            split at h
            · cases h
            · rename_i h3
              cases h
              have hm' : ((c :: t).takeWhile digitB).length ≤ m + 1 := hm
              have h3' : ((c :: t).dropWhile digitB).head?.any letterB = false := by simpa using h3
              have h4 := any_take letterB _ (m + 1 - ((c :: t).takeWhile digitB).length) h3'
              rw [e, takeWhile_take digitB _ _ hm', dropWhile_take digitB _ _ hm', if_neg h1, if_neg h2, if_neg (by rw [h4]; simp)]
      · rename_i hd
        rw [if_neg hd]
        split at h
        · cases h
        · rename_i hz
          cases h
          have hl := signSize_le (c :: t)
          have hm' : signSize (c :: t) ≤ m + 1 := by
            have : ((c :: t).take (signSize (c :: t))).length ≤ m + 1 := hm
            rw [List.length_take] at this; omega
          rw [signSize_take c t m hm' hz, if_neg hz, e, List.take_take, Nat.min_eq_left hm']

theorem getD_zero (t : Tok) (r : List Tok) (d : Tok) : (t :: r).getD 0 d = t := rfl
theorem getD_succ (t : Tok) (r : List Tok) (k : Nat) (d : Tok) : (t :: r).getD (k + 1) d = r.getD k d := rfl
theorem resF_take : ∀ (n pos : Nat) (l : List UInt8) (ts : List Tok) (k : Nat) (d : Tok), l.length < n → resF n pos l = .ok ts → k < ts.length →
    pos ≤ (ts.getD k d).pos ∧ (ts.getD k d).pos ≤ pos + l.length ∧ ∀ n', (l.take ((ts.getD k d).pos - pos)).length < n' → resF n' pos (l.take ((ts.getD k d).pos - pos)) = .ok (ts.take k ++ [⟨0, (ts.getD k d).pos, [], 0⟩])
  | 0, _, _, _, _, _, h, _, _ => by omega
  | n + 1, pos, [], ts, k, d, _, h, hk => by
    rw [resF] at h
    cases h
    obtain rfl : k = 0 := by simpa using hk
    refine ⟨Nat.le_refl _, Nat.le_refl _, fun n' hn => ?_⟩
    cases n' with
    | zero => simp at hn
    | succ n' => simp [resF]
  | n + 1, pos, c :: t, ts, k, d, hl, h, hk => by
    simp only [List.length_cons] at hl
    rw [resF] at h
    split at h
    · rename_i hb
      obtain ⟨h1, h2, h3⟩ := resF_take n (pos + 1) t ts k d (by omega) h hk
      refine ⟨by omega, by simp only [List.length_cons]; omega, fun n' hn => ?_⟩
      obtain ⟨M, hM⟩ : ∃ M, (ts.getD k d).pos - pos = M + 1 := ⟨(ts.getD k d).pos - (pos + 1), by omega⟩
      rw [hM, List.take_succ_cons] at hn ⊢
      cases n' with
      | zero => simp at hn
      | succ n' =>
        rw [resF, if_pos hb]
        have := h3 n' (by rw [show (ts.getD k d).pos - (pos + 1) = M by omega]; simpa using hn)
        rwa [show (ts.getD k d).pos - (pos + 1) = M by omega] at this
    · rename_i hb
      split at h
      · rename_i hc
        have htw := takeWhile_le (· != 10) t
        have hdw : (t.dropWhile (· != 10)).length + (t.takeWhile (· != 10)).length = t.length := by rw [← drop_takeWhile, List.length_drop]; omega
        obtain ⟨h1, h2, h3⟩ := resF_take n (pos + 1 + (t.takeWhile (· != 10)).length) (t.dropWhile (· != 10)) ts k d (by omega) h hk
        refine ⟨by omega, by simp only [List.length_cons]; omega, fun n' hn => ?_⟩
        obtain ⟨M, hM⟩ : ∃ M, (ts.getD k d).pos - pos = M + 1 := ⟨(ts.getD k d).pos - (pos + 1), by omega⟩
        rw [hM, List.take_succ_cons] at hn ⊢
        have hMt : (t.takeWhile (· != 10)).length ≤ M := by omega
        cases n' with
        | zero => simp at hn
        | succ n' =>
          rw [resF, if_neg hb, if_pos hc, takeWhile_take _ _ _ hMt, dropWhile_take _ _ _ hMt]
          have e : (ts.getD k d).pos - (pos + 1 + (t.takeWhile (· != 10)).length) = M - (t.takeWhile (· != 10)).length := by omega
          have := h3 n' (by rw [e]; simp only [List.length_cons, List.length_take] at hn ⊢; omega)
          rwa [e] at this
      · rename_i hc
        cases htk : tokL pos (c :: t) with
        | error e => rw [htk] at h; cases h
        | ok q =>
          rw [htk] at h
          dsimp only at h
          obtain ⟨k1, k2, k3, k4⟩ := tokL_len htk
          cases hr : resF n (pos + q.text.length) ((c :: t).drop q.text.length) with
          | error e => rw [hr] at h; cases h
          | ok r =>
            rw [hr] at h
            have h : q :: r = ts := by cases h; rfl
            subst h
            cases k with
            | zero =>
              rw [getD_zero, k4]
              refine ⟨Nat.le_refl _, by omega, fun n' hn => ?_⟩
              cases n' with
              | zero => omega
              | succ n' => simp [resF]
            | succ k =>
              rw [getD_succ]
              obtain ⟨h1, h2, h3⟩ := resF_take n (pos + q.text.length) ((c :: t).drop q.text.length) r k d (by simp only [List.length_drop, List.length_cons]; omega) hr (by simpa using hk)
              simp only [List.length_drop] at h2
              refine ⟨by omega, by omega, fun n' hn => ?_⟩
              obtain ⟨M, hM⟩ : ∃ M, (r.getD k d).pos - pos = M + 1 := ⟨(r.getD k d).pos - (pos + 1), by omega⟩
              rw [hM] at hn ⊢
              have hq := tokL_take (m := M + 1) htk (by omega)
              rw [List.take_succ_cons] at hn hq ⊢
              cases n' with
              | zero => simp at hn
              | succ n' =>
                rw [resF, if_neg hb, if_neg hc, hq]
                dsimp only
                have e2 : (c :: t.take M).drop q.text.length = ((c :: t).drop q.text.length).take ((r.getD k d).pos - (pos + q.text.length)) := by
                  rw [← List.take_succ_cons, List.drop_take]
                  congr 1
                  omega
                rw [e2, h3 n' (by rw [← e2]; simp only [List.length_drop, List.length_cons] at hn ⊢; omega)]
                rfl
/-- The tokens of a text that is cut off ahead of a token. -/
theorem scan_take {l : List UInt8} {ts : List Tok} {k : Nat} (d : Tok) (h : scan l = .ok ts) (hk : k < ts.length) : scan (l.take (ts.getD k d).pos) = .ok (ts.take k ++ [⟨0, (ts.getD k d).pos, [], 0⟩]) := by
  unfold scan at h ⊢
  split at h
  · cases h
  · rename_i hl
    obtain ⟨_, _, h3⟩ := resF_take (l.length + 1) 0 l ts k d (by omega) h hk
    rw [if_neg (by rw [List.length_take]; omega)]
    unfold res
    have := h3 ((l.take (ts.getD k d).pos).length + 1) (by rw [Nat.sub_zero]; omega)
    rwa [Nat.sub_zero] at this
end Go.Proofs.YtcgllooeimacdaaGreatDoor.Lx

/-! Tokens that are cut off ahead of one: what is read of them is what is read of all, or the fault is at the end, or the reader stands there. -/

namespace Go.Proofs.YtcgllooeimacdaaGreatDoor.Px
open Lx (Tok)

/-- ts' are the first k tokens of ts, and an end at E. -/
structure CutT (ts ts' : List Tok) (k E : Nat) : Prop where
  same : ∀ i, i < k → tk ts' i = tk ts i
  last : tk ts' k = ⟨0, E, [], 0⟩
def Bad {α : Type} (k E : Nat) (r : R α) : Prop := r = .error (E, 4) ∨ r = .error (0, 99) ∨ ∃ x s, r = .ok (x, s) ∧ s.i = k
/-- What is read of ts, and of ts', from the same place. -/
def Sim {α : Type} (k E : Nat) (s : St) (r r' : R α) : Prop := (s.i = k → Bad k E r') ∧ (s.i < k → ∀ x s1, r = .ok (x, s1) → (r' = .ok (x, s1) ∧ s1.i ≤ k) ∨ Bad k E r')
section
variable {α β : Type} {ts ts' : List Tok} {k E : Nat} {s : St} {r r' : R α}
theorem Bad.bind {f : α → St → R β} (h : Bad k E r) (hf : ∀ x s1, s1.i = k → Bad k E (f x s1)) : Bad k E (bindR r f) := by
  rcases h with rfl | rfl | ⟨x, s1, rfl, h⟩
  · exact Or.inl rfl
  · exact Or.inr (Or.inl rfl)
  · exact hf x s1 h
theorem Sim.bind {f f' : α → St → R β} (h : Sim k E s r r') (hf : ∀ x s1, Sim k E s1 (f x s1) (f' x s1)) : Sim k E s (bindR r f) (bindR r' f') := by
  refine ⟨fun hs => (h.1 hs).bind fun x s1 h1 => (hf x s1).1 h1, fun hs y s2 hy => ?_⟩
  obtain ⟨x, s1, e1, e2⟩ := bindR_inv hy
  rcases h.2 hs x s1 e1 with ⟨e3, e4⟩ | hb
  · rw [e3, bindR_ok]
    rcases Nat.eq_or_lt_of_le e4 with h1 | h1
    · exact Or.inr ((hf x s1).1 h1)
    · exact (hf x s1).2 h1 y s2 e2
  · exact Or.inr (hb.bind fun x s1 h1 => (hf x s1).1 h1)
theorem Sim.ret (a : α) : Sim k E s (.ok (a, s)) (.ok (a, s)) := ⟨fun hs => Or.inr (Or.inr ⟨a, s, rfl, hs⟩), fun hs x s1 h => by cases h; exact Or.inl ⟨rfl, by omega⟩⟩
theorem Sim.gone : Sim k E s (gone (α := α)) gone := ⟨fun _ => Or.inr (Or.inl rfl), fun _ x s1 h => by cases h⟩
/-- Ahead of the cut, and at it. -/
theorem Sim.of (hc : CutT ts ts' k E) (h1 : s.i < k → tk ts' s.i = tk ts s.i → Sim k E s r r') (h2 : s.i = k → tk ts' s.i = ⟨0, E, [], 0⟩ → Bad k E r') : Sim k E s r r' :=
  ⟨fun hs => h2 hs (by rw [hs]; exact hc.last), fun hs => (h1 hs (hc.same _ hs)).2 hs⟩
theorem Sim.wrong (hc : CutT ts ts' k E) : Sim k E s (wrongR (α := α) ts s) (wrongR ts' s) := Sim.of hc (fun _ _ => ⟨fun hs => by omega, fun _ x s1 h => by cases h⟩) fun _ h => by unfold wrongR; rw [h]; exact Or.inl rfl
theorem Bad.wrong (h : tk ts' s.i = ⟨0, E, [], 0⟩) : Bad k E (wrongR (α := α) ts' s) := by unfold wrongR; rw [h]; exact Or.inl rfl
theorem Sim.take (hk : s.i < k) (h : tk ts' s.i = tk ts s.i) : Sim k E s (takeR ts s) (takeR ts' s) := by
  have e : takeR ts' s = takeR ts s := by unfold takeR; rw [h]
  refine ⟨fun hs => by omega, fun _ x s1 hx => Or.inl ⟨e.trans hx, ?_⟩⟩
  rw [takeR_i hx]; omega
theorem Sim.expect (hc : CutT ts ts' k E) {x : Bytes} (hx : x ≠ []) : Sim k E s (expectR x ts s) (expectR x ts' s) := by
  refine Sim.of hc (fun hk h => ?_) fun _ h => ?_
  · unfold expectR
    rw [h]
    split
    · exact Sim.take hk h
    · exact Sim.wrong hc
  · unfold expectR
    rw [h, if_neg (Ne.symm hx)]
    exact Bad.wrong h
theorem Sim.kind (hc : CutT ts ts' k E) {n : Nat} (hx : n ≠ 0) : Sim k E s (kindR n ts s) (kindR n ts' s) := by
  refine Sim.of hc (fun hk h => ?_) fun _ h => ?_
  · unfold kindR
    rw [h]
    split
    · exact Sim.take hk h
    · exact Sim.wrong hc
  · unfold kindR
    rw [h, if_neg (Ne.symm hx)]
    exact Bad.wrong h
/-- A choice by the next token's text. -/
theorem Sim.text (hc : CutT ts ts' k E) {x : Bytes} (hx : x ≠ []) {q q' : R α} (h1 : s.i < k → tk ts' s.i = tk ts s.i → Sim k E s r r') (h2 : Sim k E s q q') : Sim k E s (if (tk ts s.i).text = x then r else q) (if (tk ts' s.i).text = x then r' else q') := by
  refine Sim.of hc (fun hk h => ?_) fun hk h => ?_
  · rw [h]
    split
    · exact h1 hk h
    · exact h2
  · rw [h, if_neg (Ne.symm hx)]
    exact h2.1 hk
theorem Sim.kinds (hc : CutT ts ts' k E) {n : Nat} (hx : n ≠ 0) {q q' : R α} (h1 : s.i < k → tk ts' s.i = tk ts s.i → Sim k E s r r') (h2 : Sim k E s q q') : Sim k E s (if (tk ts s.i).kind = n then r else q) (if (tk ts' s.i).kind = n then r' else q') := by
  refine Sim.of hc (fun hk h => ?_) fun hk h => ?_
  · rw [h]
    split
    · exact h1 hk h
    · exact h2
  · rw [h, if_neg (Ne.symm hx)]
    exact h2.1 hk
/-- Which side is as which, where nothing depends on tokens. -/
theorem Sim.ite (c : Prop) [Decidable c] {q q' : R α} (h1 : Sim k E s r r') (h2 : Sim k E s q q') : Sim k E s (if c then r else q) (if c then r' else q') := by
  split
  · exact h1
  · exact h2
theorem Sim.type (hc : CutT ts ts' k E) : ∀ (ks : List Nat), (∀ n ∈ ks, nameOf n ≠ []) → Sim k E s (typeR ts ks s) (typeR ts' ks s)
  | [], _ => Sim.wrong hc
  | n :: ks, hn => by
    unfold typeR
    exact Sim.text hc (hn n (by simp)) (fun hk h => (Sim.take hk h).bind fun _ s1 => Sim.ret n) (Sim.type hc ks fun m hm => hn m (by simp [hm]))
theorem Sim.place (hc : CutT ts ts' k E) {it it' : St → R α} (hi : ∀ s, Sim k E s (it s) (it' s)) : Sim k E s (placeB ts it s) (placeB ts' it' s) := by
  unfold placeB
  exact (Sim.expect hc (by simp)).bind fun _ s1 => (hi s1).bind fun x s2 => (Sim.expect hc (by simp)).bind fun _ s3 => Sim.ret x
theorem Sim.items (hc : CutT ts ts' k E) {it it' : St → R α} (hi : ∀ s, Sim k E s (it s) (it' s)) : ∀ (n : Nat) (l : List α) (s : St), Sim k E s (itemsB ts it n l s) (itemsB ts' it' n l s)
  | 0, l, s => Sim.gone
  | n + 1, l, s => by
    unfold itemsB
    exact Sim.text hc (by simp) (fun hk h => (Sim.take hk h).bind fun _ s1 => (hi s1).bind fun x s2 => Sim.items hc hi n (l ++ [x]) s2) (Sim.ret l)
theorem Sim.list (hc : CutT ts ts' k E) {it it' : St → R α} (hi : ∀ s, Sim k E s (it s) (it' s)) {n : Nat} : Sim k E s (listB ts it n s) (listB ts' it' n s) := by
  unfold listB
  exact (Sim.expect hc (by simp)).bind fun _ s1 => (Sim.text hc (by simp) (fun _ _ => Sim.ret []) ((hi s1).bind fun x s2 => Sim.items hc hi n [x] s2)).bind fun l s2 => (Sim.expect hc (by simp)).bind fun _ s3 => Sim.ret l
end

theorem exprs_Sim {ts ts' : List Tok} {k E : Nat} (hc : CutT ts ts' k E) : ∀ f, (∀ least s, Sim k E s (binF ts f least s) (binF ts' f least s)) ∧ (∀ least l s, Sim k E s (loopF ts f least l s) (loopF ts' f least l s)) ∧
    (∀ s, Sim k E s (unF ts f s) (unF ts' f s)) ∧ (∀ s, Sim k E s (opF ts f s) (opF ts' f s)) ∧ (∀ u s, Sim k E s (useF ts f u s) (useF ts' f u s))
  | 0 => ⟨(fun _ _ => by rw [binF, binF]; exact Sim.gone), (fun _ _ _ => by rw [loopF, loopF]; exact Sim.gone), (fun _ => by rw [unF, unF]; exact Sim.gone), (fun _ => by rw [opF, opF]; exact Sim.gone), (fun _ _ => by rw [useF, useF]; exact Sim.gone)⟩
  | f + 1 => by
    obtain ⟨h1, h2, h3, h4, h5⟩ := exprs_Sim hc f
    refine ⟨?_, ?_, ?_, ?_, ?_⟩
    · intro least s
      rw [binF, binF]
      exact (h3 s).bind fun l s1 => h2 least l s1
    · intro least l s
      rw [loopF, loopF]
      refine Sim.of hc (fun hk h => ?_) fun hk h => ?_
      · rw [h]
        exact Sim.ite _ (Sim.ret l) ((Sim.take hk h).bind fun t s1 => (h1 _ s1).bind fun r s2 => h2 _ _ s2)
      · rw [h, if_pos (Or.inl (show (infixOf []).1 = 0 by decide))]
        exact Or.inr (Or.inr ⟨l, s, rfl, hk⟩)
    · intro s
      rw [unF, unF]
      refine Sim.of hc (fun hk h => ?_) fun hk h => ?_
      · rw [h]
        exact Sim.ite _ (h4 s) ((Sim.take hk h).bind fun t s1 => (h3 s1).bind fun r s2 => Sim.ret _)
      · rw [h, if_pos (show prefixOf [] = 0 by decide)]
        exact (h4 s).1 hk
    · intro s
      rw [opF, opF]
      refine Sim.kinds hc (by decide) (fun hk h => by rw [h]; exact (Sim.take hk h).bind fun t s1 => Sim.ret _) ?_
      refine Sim.kinds hc (by decide) (fun hk h => (Sim.take hk h).bind fun t s1 => h5 t s1) ?_
      refine Sim.text hc (by simp) (fun hk h => by rw [h]; exact (Sim.take hk h).bind fun t s1 => Sim.ret _) ?_
      refine Sim.text hc (by simp) (fun hk h => by rw [h]; exact (Sim.take hk h).bind fun t s1 => Sim.ret _) ?_
      refine Sim.text hc (by simp) (fun hk h => by rw [h]; exact (Sim.take hk h).bind fun t s1 => (Sim.expect hc (by simp)).bind fun _ s2 => (Sim.expect hc (by simp)).bind fun _ s3 => Sim.ret _) ?_
      refine Sim.text hc (by simp) (fun hk h => by rw [h]; exact (Sim.take hk h).bind fun t s1 => (Sim.expect hc (by simp)).bind fun _ s2 => (Sim.kind hc (by decide)).bind fun _ s3 => (Sim.expect hc (by simp)).bind fun _ s4 => Sim.ret _) ?_
      exact Sim.text hc (by simp) (fun hk h => (Sim.take hk h).bind fun t s1 => (h1 1 s1).bind fun x s2 => (Sim.expect hc (by simp)).bind fun _ s3 => Sim.ret _) (Sim.wrong hc)
    · intro u s
      rw [useF, useF]
      refine Sim.text hc (by simp) (fun _ _ => (Sim.place hc (h1 1)).bind fun x s1 => Sim.ret _) ?_
      exact Sim.text hc (by simp) (fun _ _ => (Sim.list hc (h1 1)).bind fun x s1 => Sim.ret _) (Sim.ret _)

section
variable {ts ts' : List Tok} {k E f id pos : Nat} {s : St}
theorem bin_Sim (hc : CutT ts ts' k E) {s : St} {f least : Nat} : Sim k E s (binF ts f least s) (binF ts' f least s) := (exprs_Sim hc f).1 least s
theorem namedF_Sim (hc : CutT ts ts' k E) : Sim k E s (namedF ts f id pos s) (namedF ts' f id pos s) := by
  unfold namedF
  refine (Sim.kind hc (by decide)).bind fun t s1 => ?_
  refine Sim.text hc (by simp) (fun hk h => (Sim.take hk h).bind fun _ s2 => (bin_Sim hc).bind fun x s3 => (Sim.expect hc (by simp)).bind fun _ s4 => Sim.ret _) ?_
  refine Sim.text hc (by simp) (fun _ _ => ?_) ?_
  · unfold placeF
    exact (Sim.place hc fun s => bin_Sim hc).bind fun _ s2 => (Sim.expect hc (by simp)).bind fun _ s3 => (bin_Sim hc).bind fun _ s4 => (Sim.expect hc (by simp)).bind fun _ s5 => Sim.ret _
  refine Sim.text hc (by simp) (fun _ _ => ?_) (Sim.wrong hc)
  unfold callF
  exact ((Sim.list hc fun s => bin_Sim hc).bind fun l s2 => Sim.ret _).bind fun x s2 => (Sim.expect hc (by simp)).bind fun _ s3 => Sim.ret _
theorem letF_Sim (hc : CutT ts ts' k E) : Sim k E s (letF ts f id pos s) (letF ts' f id pos s) := by
  unfold letF
  refine (Sim.expect hc (by simp)).bind fun _ s1 => (Sim.kind hc (by decide)).bind fun t s2 => (Sim.expect hc (by simp)).bind fun _ s3 => (Sim.type hc [1, 2, 3] (by decide)).bind fun y s4 => ?_
  refine Sim.ite _ ?_ (Sim.text hc (by simp) (fun hk h => ?_) ?_)
  · exact (Sim.expect hc (by simp)).bind fun _ s5 => (Sim.kind hc (by decide)).bind fun _ s6 => (Sim.expect hc (by simp)).bind fun _ s7 => (Sim.expect hc (by simp)).bind fun _ s8 => Sim.ret _
  · exact (Sim.take hk h).bind fun _ s5 => (bin_Sim hc).bind fun _ s6 => (Sim.expect hc (by simp)).bind fun _ s7 => Sim.ret _
  · exact (Sim.expect hc (by simp)).bind fun _ s5 => Sim.ret _
theorem returnF_Sim (hc : CutT ts ts' k E) (hk : s.i < k) (h : tk ts' s.i = tk ts s.i) : Sim k E s (returnF ts f id pos s) (returnF ts' f id pos s) := by
  unfold returnF
  refine (Sim.take hk h).bind fun _ s1 => Sim.text hc (by simp) (fun _ _ => ?_) ?_
  · exact (Sim.expect hc (by simp)).bind fun _ s5 => Sim.ret _
  · exact (bin_Sim hc).bind fun _ s6 => (Sim.expect hc (by simp)).bind fun _ s7 => Sim.ret _
theorem printF_Sim (hc : CutT ts ts' k E) (hk : s.i < k) (h : tk ts' s.i = tk ts s.i) : Sim k E s (printF ts f id pos s) (printF ts' f id pos s) := by
  unfold printF
  exact (Sim.take hk h).bind fun _ s1 => (bin_Sim hc).bind fun _ s6 => (Sim.expect hc (by simp)).bind fun _ s7 => Sim.ret _
theorem choiceB_Sim (hc : CutT ts ts' k E) {blk blk' : St → R (List Sm)} (hb : ∀ s, Sim k E s (blk s) (blk' s)) : Sim k E s (choiceB ts f id pos blk s) (choiceB ts' f id pos blk' s) := by
  unfold choiceB
  refine (Sim.expect hc (by simp)).bind fun _ s1 => (bin_Sim hc).bind fun x s2 => (hb s2).bind fun b s3 => ?_
  exact Sim.text hc (by simp) (fun hk h => (Sim.take hk h).bind fun _ s4 => (hb s4).bind fun _ s5 => Sim.ret _) (Sim.ret _)
theorem whileB_Sim (hc : CutT ts ts' k E) (hk : s.i < k) (h : tk ts' s.i = tk ts s.i) {blk blk' : St → R (List Sm)} (hb : ∀ s, Sim k E s (blk s) (blk' s)) : Sim k E s (whileB ts f id pos blk s) (whileB ts' f id pos blk' s) := by
  unfold whileB
  exact (Sim.take hk h).bind fun _ s1 => (bin_Sim hc).bind fun x s2 => (hb s2).bind fun b s3 => Sim.ret _
end
/-- The next statement's number is no matter. -/
theorem Sim.num {α : Type} {k E : Nat} {s : St} {r r' : R α} (h : Sim k E ⟨s.i, s.o, s.n + 1⟩ r r') : Sim k E s r r' := h
theorem stmts_Sim {ts ts' : List Tok} {k E : Nat} (hc : CutT ts ts' k E) : ∀ f, (∀ s, Sim k E s (blockF ts f s) (blockF ts' f s)) ∧ (∀ l s, Sim k E s (bodyF ts f l s) (bodyF ts' f l s)) ∧ (∀ s, Sim k E s (smF ts f s) (smF ts' f s))
  | 0 => ⟨(fun _ => by rw [blockF, blockF]; exact Sim.gone), (fun _ _ => by rw [bodyF, bodyF]; exact Sim.gone), (fun _ => by rw [smF, smF]; exact Sim.gone)⟩
  | f + 1 => by
    obtain ⟨h1, h2, h3⟩ := stmts_Sim hc f
    refine ⟨?_, ?_, ?_⟩
    · intro s
      rw [blockF, blockF]
      exact (Sim.expect hc (by simp)).bind fun _ s1 => (h2 [] s1).bind fun l s2 => (Sim.expect hc (by simp)).bind fun _ s3 => Sim.ret _
    · intro l s
      rw [bodyF, bodyF]
      exact Sim.text hc (by simp) (fun _ _ => Sim.ret _) ((h3 s).bind fun x s1 => h2 _ s1)
    · intro s
      rw [smF, smF]
      refine Sim.of hc (fun hk h => ?_) fun hk h => ?_
      · rw [h]
        refine Sim.ite _ (Sim.num (namedF_Sim hc)) ?_
        refine Sim.ite _ (Sim.num (letF_Sim hc)) ?_
        refine Sim.ite _ (Sim.num (choiceB_Sim hc h1)) ?_
        refine Sim.ite _ (Sim.num (whileB_Sim (s := ⟨s.i, s.o, s.n + 1⟩) hc hk h h1)) ?_
        refine Sim.ite _ (Sim.num (returnF_Sim (s := ⟨s.i, s.o, s.n + 1⟩) hc hk h)) ?_
        exact Sim.ite _ (Sim.num (printF_Sim (s := ⟨s.i, s.o, s.n + 1⟩) hc hk h)) (Sim.wrong hc)
      · rw [h]
        dsimp only
        rw [if_neg (by decide), if_neg (by decide), if_neg (by decide), if_neg (by decide), if_neg (by decide), if_neg (by decide)]
        exact Bad.wrong h
theorem pmF_Sim {ts ts' : List Tok} {k E : Nat} (hc : CutT ts ts' k E) {s : St} : Sim k E s (pmF ts s) (pmF ts' s) := by
  unfold pmF
  exact (Sim.kind hc (by decide)).bind fun _ s2 => (Sim.expect hc (by simp)).bind fun _ s3 => (Sim.type hc [1, 2, 3] (by decide)).bind fun y s4 => Sim.ret _
theorem fuF_Sim {ts ts' : List Tok} {k E : Nat} (hc : CutT ts ts' k E) {f : Nat} {s : St} : Sim k E s (fuF ts f s) (fuF ts' f s) := by
  unfold fuF
  refine (Sim.expect hc (by simp)).bind fun _ s1 => (Sim.kind hc (by decide)).bind fun _ s2 => (Sim.list hc fun s => pmF_Sim hc).bind fun _ s3 => Sim.bind ?_ fun y s4 => ((stmts_Sim hc f).1 s4).bind fun _ s5 => Sim.ret _
  exact Sim.text hc (by simp) (fun hk h => (Sim.take hk h).bind fun _ s4 => Sim.type hc [1, 2] (by decide)) (Sim.ret _)
theorem fusF_len {ts : List Tok} : ∀ (f : Nat) (l : List Fu) (s : St) (q : List Fu) (s' : St), fusF ts f l s = .ok (q, s') → l.length + 1 ≤ q.length
  | 0, _, _, _, _, h => by rw [fusF] at h; cases h
  | f + 1, l, s, q, s', h => by
    rw [show fusF ts (f + 1) l s = bindR (fuF ts f s) fun x s => if (tk ts s.i).kind = 0 then .ok (l ++ [x], s) else fusF ts f (l ++ [x]) s from rfl] at h
    obtain ⟨x, s1, e1, e2⟩ := bindR_inv h
    split at e2
    · cases e2; simp
    · have := fusF_len f _ _ _ _ e2
      simp only [List.length_append, List.length_cons, List.length_nil] at this; omega
/-- Of cut tokens there are no more functions than of all; or the fault is at the end. -/
theorem fusF_cut {ts ts' : List Tok} {k E : Nat} (hc : CutT ts ts' k E) : ∀ (f : Nat) (l : List Fu) (s : St) (q : List Fu) (s' : St), s.i ≤ k → fusF ts f l s = .ok (q, s') → fusF ts' f l s = .error (E, 4) ∨ fusF ts' f l s = .error (0, 99) ∨ ∃ q' s2, fusF ts' f l s = .ok (q', s2) ∧ q'.length ≤ q.length
  | 0, _, _, _, _, _, h => by rw [fusF] at h; cases h
  | f + 1, l, s, q, s', hs, h => by
    have hq := fusF_len _ _ _ _ _ h
    rw [show fusF ts (f + 1) l s = bindR (fuF ts f s) fun x s => if (tk ts s.i).kind = 0 then .ok (l ++ [x], s) else fusF ts f (l ++ [x]) s from rfl] at h
    rw [show fusF ts' (f + 1) l s = bindR (fuF ts' f s) fun x s => if (tk ts' s.i).kind = 0 then .ok (l ++ [x], s) else fusF ts' f (l ++ [x]) s from rfl]
    obtain ⟨x, s1, e1, e2⟩ := bindR_inv h
    have hbad : ∀ r : R Fu, Bad k E r → let z := bindR r fun x s => if (tk ts' s.i).kind = 0 then .ok (l ++ [x], s) else fusF ts' f (l ++ [x]) s; z = .error (E, 4) ∨ z = .error (0, 99) ∨ ∃ q' s2, z = .ok (q', s2) ∧ q'.length ≤ q.length := by
      rintro r (rfl | rfl | ⟨y, s2, rfl, h2⟩)
      · exact Or.inl rfl
      · exact Or.inr (Or.inl rfl)
      · refine Or.inr (Or.inr ⟨l ++ [y], s2, ?_, by simpa using hq⟩)
        rw [bindR_ok, h2, hc.last, if_pos rfl]
    rcases Nat.eq_or_lt_of_le hs with hs | hs
    · exact hbad _ ((fuF_Sim hc).1 hs)
    rcases (fuF_Sim hc).2 hs x s1 e1 with ⟨e3, e4⟩ | hb
    · rw [e3]
      rcases Nat.eq_or_lt_of_le e4 with h1 | h1
      · refine Or.inr (Or.inr ⟨l ++ [x], s1, ?_, by simpa using hq⟩)
        rw [bindR_ok, h1, hc.last, if_pos rfl]
      · rw [bindR_ok, hc.same _ h1]
        split at e2
        · rename_i hk
          cases e2
          exact Or.inr (Or.inr ⟨_, _, if_pos hk, Nat.le_refl _⟩)
        · rename_i hk
          rw [if_neg hk]
          exact fusF_cut hc f _ _ _ _ e4 e2
    · exact hbad _ hb
end Go.Proofs.YtcgllooeimacdaaGreatDoor.Px

/-! TreeCut: the statement's own body says true, given the reference's scanner. -/

namespace Go.Proofs.YtcgllooeimacdaaGreatDoor
open Go Go.RowKit Px
open Lx (Tok)

namespace Px
theorem cut_toks (ts : List Tok) {k E : Nat} (hk : k < ts.length) : CutT ts (ts.take k ++ [⟨0, E, [], 0⟩]) k E := by
  have hl : (ts.take k).length = k := by rw [List.length_take]; omega
  refine ⟨fun i hi => ?_, ?_⟩
  · unfold tk
    rw [List.getD_eq_getElem?_getD, List.getD_eq_getElem?_getD, List.getElem?_append_left (by rw [hl]; exact hi), List.getElem?_take_of_lt hi]
  · unfold tk
    rw [List.getD_eq_getElem?_getD, List.getElem?_append_right (by rw [hl]; exact Nat.le_refl _), hl, Nat.sub_self]
    rfl
theorem parse_err {l : Bytes} {p n : Nat} (h : parseR l = .error (p, n)) : n ≠ 0 := by
  unfold parseR at h
  cases hsc : Lx.scan l with
  | error e =>
    rw [hsc] at h
    cases h
    have := scan_err hsc
    omega
  | ok ts =>
    rw [hsc] at h
    have h : fusF ts (fuel ts) [] ⟨0, 0, 0⟩ = .error (p, n) := h
    obtain ⟨h1, _⟩ := scan_ok hsc
    have := fusF_G h1.end (fuel ts) [] ⟨0, 0, 0⟩ (List.length_pos_iff.2 h1.ne)
    rw [h] at this
    exact this.1
/-- What the cut text comes to. -/
theorem cut_facts {l : Bytes} {K : List Fu} {s' : St} (hp : parseR l = .ok (K, s')) : ∃ ts, Lx.scan l = .ok ts ∧ 0 < ts.length ∧ ts.length ≤ 20001 ∧ ∀ k, k < ts.length → (tk ts k).pos ≤ l.length ∧ Lx.scan (l.take (tk ts k).pos) = .ok (ts.take k ++ [⟨0, (tk ts k).pos, [], 0⟩]) ∧
    fusF (ts.take k ++ [⟨0, (tk ts k).pos, [], 0⟩]) (fuel ts) [] ⟨0, 0, 0⟩ ≠ gone ∧
    (fusF (ts.take k ++ [⟨0, (tk ts k).pos, [], 0⟩]) (fuel ts) [] ⟨0, 0, 0⟩ = .error ((tk ts k).pos, 4) ∨ ∃ q s2, fusF (ts.take k ++ [⟨0, (tk ts k).pos, [], 0⟩]) (fuel ts) [] ⟨0, 0, 0⟩ = .ok (q, s2) ∧ q.length ≤ K.length) := by
  unfold parseR at hp
  cases hsc : Lx.scan l with
  | error e => rw [hsc] at hp; cases hp
  | ok ts =>
    rw [hsc] at hp
    have hp : fusF ts (fuel ts) [] ⟨0, 0, 0⟩ = .ok (K, s') := hp
    obtain ⟨h1, h2⟩ := scan_ok hsc
    refine ⟨ts, rfl, List.length_pos_iff.2 h1.ne, h2, fun k hk => ?_⟩
    have e1 := Lx.scan_take ⟨0, 0, [], 0⟩ hsc hk
    have hlen : (tk ts k).pos ≤ l.length := by
      unfold Lx.scan at hsc
      split at hsc
      · cases hsc
      · obtain ⟨_, e2, _⟩ := Lx.resF_take (l.length + 1) 0 l ts k ⟨0, 0, [], 0⟩ (by omega) hsc hk
        have : (tk ts k).pos ≤ 0 + l.length := e2
        omega
    have e1 : Lx.scan (l.take (tk ts k).pos) = .ok (ts.take k ++ [⟨0, (tk ts k).pos, [], 0⟩]) := e1
    obtain ⟨g1, g2⟩ := scan_ok e1
    have hl : (ts.take k ++ [(⟨0, (tk ts k).pos, [], 0⟩ : Tok)]).length = k + 1 := by rw [List.length_append, List.length_take, List.length_singleton]; omega
    have hng : fusF (ts.take k ++ [⟨0, (tk ts k).pos, [], 0⟩]) (fuel ts) [] ⟨0, 0, 0⟩ ≠ gone := by
      intro h
      have := fusF_G g1.end (fuel ts) [] ⟨0, 0, 0⟩ (by rw [hl]; simp)
      rw [h, hl] at this
      exact this.2 (by unfold fuel; simp; omega) rfl
    refine ⟨hlen, e1, hng, ?_⟩
    rcases fusF_cut (cut_toks ts hk) (fuel ts) [] ⟨0, 0, 0⟩ K s' (Nat.zero_le _) hp with h | h | h
    · exact Or.inl h
    · exact absurd h hng
    · exact Or.inr h
end Px

theorem bs_extract (s : ByteArray) (n : Nat) : Bs (s.extract 0 n) = (Bs s).take n := by
  rw [extract_str]
  simp
/-- What the parse of a text comes to, in memory. -/
theorem par_cut {w w' : World} {l : Bytes} {e : Ending} (h : ParsePost w (parseR l) e w') : Below w.heap.size w w' ∧ ((∃ (p n : Nat), n ≠ 0 ∧ e = .returned (.tuple #[.agg #[.slice none 0 0], .int .i64 (p : Int), .int .i64 (n : Int)])) ∨
    ∃ (K : List Fu) (s' : St) (a : Option Addr) (c : Nat), parseR l = .ok (K, s') ∧ e = .returned (.tuple #[.agg #[.slice a K.length c], .int .i64 0, .int .i64 0])) := by
  obtain ⟨hb, h⟩ := h
  refine ⟨hb, ?_⟩
  cases hr : parseR l with
  | error pn =>
    rw [hr] at h
    obtain ⟨p, n⟩ := pn
    exact Or.inl ⟨p, n, parse_err hr, h⟩
  | ok q =>
    rw [hr] at h
    obtain ⟨k, s'⟩ := q
    obtain ⟨a, m, c, he, hrow⟩ := h
    have hm : m = k.length := by
      rcases hrow with ⟨rfl, h⟩ | ⟨_, _, _, h, _⟩
      · cases h; rfl
      · cases h; rfl
    subst hm
    exact Or.inr ⟨k, s', a, c, rfl, he⟩

set_option maxRecDepth 100000 in
set_option maxHeartbeats 4000000 in
theorem treeCut_any (hRef : ∀ (s : ByteArray) (w : World), s.size ≤ 9223372036854775806 → Calls Tryz.prog 18 #[.string s] w (ScanPost w (Lx.scan (Bs s)))) (s : ByteArray) (hs : s.size ≤ 9223372036854775806) (cut : Nat) (hc : cut < 65536) (w : World) (hT : Tabs w.heap.size w) :
    Calls Tryz.prog 8 #[.string s, .int .u16 (cut : Int)] w fun e w' => e = .returned (.bool true) ∧ Below w.heap.size w w' := by
  have HT := Lib.hid hT
  have HREF := Lib.hid hRef
  have HP := Lib.hid fun (s' : ByteArray) (w1 : World) (h1 : s'.size ≤ 9223372036854775806) (h2 : Tabs w1.heap.size w1) => treeParse_any s' h1 w1 h2
  have hsz : (s.size : Int) ≤ 9223372036854775806 := by omega
  clear hT hRef
  go_enter Tryz.func8, Tryz.ntmps8
  go_wp2_with fail
  refine (awake_tree w HT.out).mono ?_
  rintro e w1 ⟨rfl, hb1⟩
  have HT1 := Lib.hid ((HT.out.below hb1).mono hb1.size)
  have HB1 := Lib.hid hb1
  clear hb1
  go_wp2_with fail
  have hS2 : (s.extract 0 (min (s.size : Int) 2000).toNat).size ≤ 2000 := by simp only [ByteArray.size_extract]; omega
  generalize s.extract 0 (min (s.size : Int) 2000).toNat = S at *
  refine (HP.out _ w1 (by omega) HT1.out).mono ?_
  rintro e w2 h2
  obtain ⟨hb2, ⟨p, n, hn, rfl⟩ | ⟨K, s', a, c, hpK, rfl⟩⟩ := par_cut h2
  · have HB2 := Lib.hid (HB1.out.trans (hb2.mono HB1.out.size))
    have hk1 : ((n : Int) == 0) = false := by rw [beq_eq_false_iff_ne]; omega
    clear hb2 hn h2
    go_wp2_with fail
    go_ret
    exact ⟨rfl, HB2.out.alloc HB2.out.size _⟩
  · obtain ⟨W, hW⟩ : ∃ W, W = w2.alloc (.cells #[.slice a K.length c] 24) := ⟨_, rfl⟩
    have hbW : Below w2.heap.size w2 W := by rw [hW]; exact (Below.refl _ _).alloc (Nat.le_refl _) _
    have hbw : Below w.heap.size w W := HB1.out.trans ((hb2.mono HB1.out.size).trans (hbW.mono (Nat.le_trans HB1.out.size hb2.size)))
    have hkW : Blk w2.heap.size #[.slice a K.length c] 24 W := by rw [hW]; exact Blk.new _ _ _
    obtain ⟨ts, hsc, hl0, hl1, hcut⟩ := cut_facts hpK
    have HW := Lib.hid (And.intro hbw hkW)
    have HWW := Lib.hid hW
    have HC := Lib.hid hcut
    have HSC := Lib.hid hsc
    have HR := Lib.hid (HREF.out S W (by omega))
    clear h2 hb2 hW hbW hbw hkW hcut hsc hpK
    go_wp2_with fail
    rw [← HWW.out]
    refine HR.out.mono ?_
    rintro e w3 ⟨hb3, h3⟩
    rw [HSC.out] at h3
    obtain ⟨v, rfl, ho⟩ := h3
    have hv : ∃ g cap, v = .slice (some ⟨g, 0, none⟩) ts.length cap := by
      rcases ho.2 with ⟨_, h⟩ | ⟨g, cap, cur, rfl, _⟩
      · omega
      · exact ⟨g, cap, rfl⟩
    obtain ⟨g, cap, rfl⟩ := hv
    obtain ⟨k, hk⟩ : ∃ k, k = cut % ts.length := ⟨_, rfl⟩
    have hkl : k < ts.length := by rw [hk]; exact Nat.mod_lt _ hl0
    have hkI : (cut : Int) % (ts.length : Int) = (k : Int) := by rw [hk]; omega
    have htk := (toks_own ho).c1 k hkl
    obtain ⟨hE, hscT, hng, hres⟩ := HC.out k hkl
    obtain ⟨E, hEE⟩ : ∃ E, E = (tk ts k).pos := ⟨_, rfl⟩
    rw [← hEE] at htk hE hscT hng hres
    clear hEE
    obtain ⟨T, hTT⟩ : ∃ T, T = S.extract 0 E := ⟨_, rfl⟩
    have hTB : Bs T = (Bs S).take E := by rw [hTT, bs_extract]
    have hTs : T.size = E := by rw [← bs_length, hTB, List.length_take]; omega
    have hES : E ≤ S.size := by rw [← bs_length]; exact hE
    have hbw3 : Below w.heap.size w w3 := HW.out.1.trans (hb3.mono HW.out.1.size)
    have HT3 := Lib.hid ((HT.out.below hbw3).mono hbw3.size)
    have HP3 := Lib.hid (treeParse_ts T (by omega) _ (by rw [hTB]; exact hscT) (scan_wf hscT) (fuel ts) (by unfold fuel; omega) hng w3 HT3.out)
    have HB3 := Lib.hid (And.intro hbw3 (HW.out.2.below hb3 HW.out.2.lt))
    have HTT := Lib.hid hTT
    have HTS := Lib.hid hTs
    have HRES := Lib.hid hres
    have hlI : (ts.length : Int) ≤ 20001 := by omega
    have hlZ : ¬ (ts.length : Int) = 0 := by omega
    have hkL : (k : Int) < (ts.length : Int) := by omega
    have hEI : (E : Int) ≤ (S.size : Int) := by omega
    have hSI : (S.size : Int) ≤ 2000 := by omega
    clear hb3 ho hE hscT hng hres hTT hTB hTs hbw3 hk
    go_upto_region 9 with (fail)
    clear htk
    go_wp2_with fail
    rw [← HTT.out]
    refine HP3.out.mono ?_
    rintro e w4 ⟨hb4, h4⟩
    have hbw4 : Below w.heap.size w w4 := HB3.out.1.trans (hb4.mono HB3.out.1.size)
    have hk4 := HB3.out.2.below hb4 HB3.out.2.lt
    rcases HRES.out with hr | ⟨q, s2, hr, hq⟩
    · rw [hr] at h4
      have h4 : e = .returned (.tuple #[.agg #[.slice none 0 0], .int .i64 (E : Int), .int .i64 ((4 : Nat) : Int)]) := h4
      subst h4
      have hTI : (T.size : Int) = (E : Int) := by rw [HTS.out]
      have HB4 := Lib.hid hbw4
      clear hb4 hbw4 hk4 hr
      go_wp2_with fail
      go_ret
      exact ⟨rfl, HB4.out.alloc HB4.out.size _⟩
    · rw [hr] at h4
      obtain ⟨a2, m2, c2, he, hrow⟩ := h4
      have hm : m2 = q.length := by
        rcases hrow with ⟨rfl, h⟩ | ⟨_, _, _, h, _⟩
        · cases h; rfl
        · cases h; rfl
      subst hm
      have he : e = .returned (.tuple #[.agg #[.slice a2 q.length c2], .int .i64 0, .int .i64 0]) := he
      subst he
      have hle : decide (q.length ≤ K.length) = true := by simpa using hq
      have HB4 := Lib.hid hbw4
      have k4 := hk4.get 0 _ rfl
      have hl4 := hk4.lt
      have k4' : (w4.alloc (.cells #[.slice a2 q.length c2] 24)).cell? ⟨w2.heap.size, 0, none⟩ = some (.slice a K.length c) := (hk4.below ((Below.refl _ _).alloc (Nat.le_refl _) _) hl4).get 0 _ rfl
      clear hb4 hbw4 hk4 hr hrow hq
      go_wp2_with fail
      go_ret
      exact ⟨rfl, HB4.out.alloc HB4.out.size _⟩
end Go.Proofs.YtcgllooeimacdaaGreatDoor
