/-
  Joined: TAdv, TBal.
-/
import Derived.Test.YtcgllooeimacdaaGreatDoorTLow
/-! What is read of expressions moves on, and begins no statement. -/

namespace Go.Proofs.YtcgllooeimacdaaGreatDoor.Px
open Lx (Tok)

def Adv (s s' : St) : Prop := s'.n = s.n ∧ s.i ≤ s'.i
theorem Adv.refl (s : St) : Adv s s := ⟨rfl, Nat.le_refl _⟩
theorem Adv.trans {s s1 s2 : St} (h : Adv s s1) (k : Adv s1 s2) : Adv s s2 := ⟨k.1.trans h.1, Nat.le_trans h.2 k.2⟩
theorem bindR_inv {α β : Type} {r : R α} {k : α → St → R β} {p : β × St} (h : bindR r k = .ok p) : ∃ a s, r = .ok (a, s) ∧ k a s = .ok p := by
  rcases r with e | ⟨a, s⟩
  · cases h
  · exact ⟨a, s, rfl, h⟩
theorem takeR_n {ts : List Tok} {s s' : St} {t : Tok} (h : takeR ts s = .ok (t, s')) : s'.n = s.n := by
  unfold takeR at h
  split at h
  · split at h
    · cases h
    · cases h; rfl
  · split at h <;> (cases h; rfl)
theorem takeR_i {ts : List Tok} {s s' : St} {t : Tok} (h : takeR ts s = .ok (t, s')) : s'.i = s.i + 1 := by
  unfold takeR at h
  split at h
  · split at h
    · cases h
    · cases h; rfl
  · split at h <;> (cases h; rfl)
theorem takeR_adv {ts : List Tok} {s s' : St} {t : Tok} (h : takeR ts s = .ok (t, s')) : Adv s s' := ⟨takeR_n h, by rw [takeR_i h]; exact Nat.le_succ _⟩
theorem expectR_take {ts : List Tok} {x : Bytes} {s : St} {p : Tok × St} (h : expectR x ts s = .ok p) : (tk ts s.i).text = x ∧ takeR ts s = .ok p := by
  unfold expectR wrongR at h
  split at h
  · rename_i hx; exact ⟨hx, h⟩
  · cases h
theorem kindR_take {ts : List Tok} {k : Nat} {s : St} {p : Tok × St} (h : kindR k ts s = .ok p) : (tk ts s.i).kind = k ∧ takeR ts s = .ok p := by
  unfold kindR wrongR at h
  split at h
  · rename_i hx; exact ⟨hx, h⟩
  · cases h
theorem expectR_i {ts : List Tok} {x : Bytes} {s s' : St} {t : Tok} (h : expectR x ts s = .ok (t, s')) : s'.i = s.i + 1 := takeR_i (expectR_take h).2
theorem kindR_i {ts : List Tok} {k : Nat} {s s' : St} {t : Tok} (h : kindR k ts s = .ok (t, s')) : s'.i = s.i + 1 := takeR_i (kindR_take h).2
theorem expectR_adv {ts : List Tok} {x : Bytes} {s s' : St} {t : Tok} (h : expectR x ts s = .ok (t, s')) : Adv s s' := takeR_adv (expectR_take h).2
theorem kindR_adv {ts : List Tok} {k : Nat} {s s' : St} {t : Tok} (h : kindR k ts s = .ok (t, s')) : Adv s s' := takeR_adv (kindR_take h).2

section
variable {α : Type} {ts : List Tok} {item : St → R α}
theorem placeB_adv (hi : ∀ s x s', item s = .ok (x, s') → Adv s s') {s s' : St} {x : α} (h : placeB ts item s = .ok (x, s')) : Adv s s' := by
  unfold placeB at h
  obtain ⟨a, s1, e1, e2⟩ := bindR_inv h
  obtain ⟨a', s2, e3, e4⟩ := bindR_inv e2
  obtain ⟨a'', s3, e5, e6⟩ := bindR_inv e4
  cases e6
  exact (expectR_adv e1).trans ((hi _ _ _ e3).trans (expectR_adv e5))
theorem itemsB_adv (hi : ∀ s x s', item s = .ok (x, s') → Adv s s') : ∀ (n : Nat) (l : List α) (s : St) (k : List α) (s' : St), itemsB ts item n l s = .ok (k, s') → Adv s s'
  | 0, l, s, k, s', h => by cases h
  | n + 1, l, s, k, s', h => by
    unfold itemsB at h
    split at h
    · obtain ⟨a, s1, e1, e2⟩ := bindR_inv h
      obtain ⟨a', s2, e3, e4⟩ := bindR_inv e2
      exact (takeR_adv e1).trans ((hi _ _ _ e3).trans (itemsB_adv hi n _ _ _ _ e4))
    · cases h; exact Adv.refl _
theorem listB_adv (hi : ∀ s x s', item s = .ok (x, s') → Adv s s') {n : Nat} {s s' : St} {l : List α} (h : listB ts item n s = .ok (l, s')) : Adv s s' := by
  unfold listB at h
  obtain ⟨a, s1, e1, e2⟩ := bindR_inv h
  obtain ⟨a', s2, e3, e4⟩ := bindR_inv e2
  obtain ⟨a'', s3, e5, e6⟩ := bindR_inv e4
  cases e6
  refine (expectR_adv e1).trans (Adv.trans ?_ (expectR_adv e5))
  split at e3
  · cases e3; exact Adv.refl _
  · obtain ⟨a3, s4, e7, e8⟩ := bindR_inv e3
    exact (hi _ _ _ e7).trans (itemsB_adv hi _ _ _ _ _ e8)
end

theorem exprs_adv (ts : List Tok) : ∀ f, (∀ least s x s', binF ts f least s = .ok (x, s') → Adv s s') ∧ (∀ least l s x s', loopF ts f least l s = .ok (x, s') → Adv s s') ∧ (∀ s x s', unF ts f s = .ok (x, s') → Adv s s') ∧ (∀ s x s', opF ts f s = .ok (x, s') → Adv s s') ∧ (∀ u s x s', useF ts f u s = .ok (x, s') → Adv s s')
  | 0 => ⟨(fun _ _ _ _ h => by rw [binF] at h; cases h), (fun _ _ _ _ _ h => by rw [loopF] at h; cases h), (fun _ _ _ h => by rw [unF] at h; cases h), (fun _ _ _ h => by rw [opF] at h; cases h), (fun _ _ _ _ h => by rw [useF] at h; cases h)⟩
  | f + 1 => by
    obtain ⟨h1, h2, h3, h4, h5⟩ := exprs_adv ts f
    refine ⟨?_, ?_, ?_, ?_, ?_⟩
    · intro least s x s' h
      rw [binF] at h
      obtain ⟨a, s1, e1, e2⟩ := bindR_inv h
      exact (h3 _ _ _ e1).trans (h2 _ _ _ _ _ e2)
    · intro least l s x s' h
      rw [loopF] at h
      split at h
      · cases h; exact Adv.refl _
      · obtain ⟨a, s1, e1, e2⟩ := bindR_inv h
        obtain ⟨a', s2, e3, e4⟩ := bindR_inv e2
        exact (takeR_adv e1).trans ((h1 _ _ _ _ e3).trans (h2 _ _ _ _ _ e4))
    · intro s x s' h
      rw [unF] at h
      split at h
      · exact h4 _ _ _ h
      · obtain ⟨a, s1, e1, e2⟩ := bindR_inv h
        obtain ⟨a', s2, e3, e4⟩ := bindR_inv e2
        cases e4
        exact (takeR_adv e1).trans (h3 _ _ _ e3)
    · intro s x s' h
      rw [opF] at h
      split at h
      · obtain ⟨a, s1, e1, e2⟩ := bindR_inv h
        cases e2; exact takeR_adv e1
      split at h
      · obtain ⟨a, s1, e1, e2⟩ := bindR_inv h
        exact (takeR_adv e1).trans (h5 _ _ _ _ e2)
      split at h
      · obtain ⟨a, s1, e1, e2⟩ := bindR_inv h
        cases e2; exact takeR_adv e1
      split at h
      · obtain ⟨a, s1, e1, e2⟩ := bindR_inv h
        cases e2; exact takeR_adv e1
      split at h
      · obtain ⟨a, s1, e1, e2⟩ := bindR_inv h
        obtain ⟨a', s2, e3, e4⟩ := bindR_inv e2
        obtain ⟨a'', s3, e5, e6⟩ := bindR_inv e4
        cases e6
        exact (takeR_adv e1).trans ((expectR_adv e3).trans (expectR_adv e5))
      split at h
      · obtain ⟨a, s1, e1, e2⟩ := bindR_inv h
        obtain ⟨a', s2, e3, e4⟩ := bindR_inv e2
        obtain ⟨a'', s3, e5, e6⟩ := bindR_inv e4
        obtain ⟨a3, s4, e7, e8⟩ := bindR_inv e6
        cases e8
        exact (takeR_adv e1).trans ((expectR_adv e3).trans ((kindR_adv e5).trans (expectR_adv e7)))
      split at h
      · obtain ⟨a, s1, e1, e2⟩ := bindR_inv h
        obtain ⟨a', s2, e3, e4⟩ := bindR_inv e2
        obtain ⟨a'', s3, e5, e6⟩ := bindR_inv e4
        cases e6
        exact (takeR_adv e1).trans ((h1 _ _ _ _ e3).trans (expectR_adv e5))
      · cases h
    · intro u s x s' h
      rw [useF] at h
      split at h
      · obtain ⟨a, s1, e1, e2⟩ := bindR_inv h
        cases e2
        exact placeB_adv (h1 1) e1
      split at h
      · obtain ⟨a, s1, e1, e2⟩ := bindR_inv h
        cases e2
        exact listB_adv (h1 1) e1
      · cases h; exact Adv.refl _
end Go.Proofs.YtcgllooeimacdaaGreatDoor.Px

/-! What is read of statements moves on at least as far as statements begin. -/

namespace Go.Proofs.YtcgllooeimacdaaGreatDoor.Px
open Lx (Tok)

def Bal (k : Nat) (s s' : St) : Prop := s.i + k ≤ s'.i ∧ s'.n + s.i + k ≤ s'.i + s.n
theorem Bal.trans {k j : Nat} {s s1 s2 : St} (h : Bal k s s1) (h2 : Bal j s1 s2) : Bal (k + j) s s2 := by unfold Bal at *; omega
theorem Bal.le {k j : Nat} {s s1 : St} (h : Bal k s s1) (hj : j ≤ k) : Bal j s s1 := by unfold Bal at *; omega
theorem Bal.refl (s : St) : Bal 0 s s := by unfold Bal; omega
theorem Adv.bal {s s' : St} (h : Adv s s') : Bal 0 s s' := by unfold Adv at h; unfold Bal; omega
theorem takeR_bal {ts : List Tok} {s s' : St} {t : Tok} (h : takeR ts s = .ok (t, s')) : Bal 1 s s' := by
  have := takeR_n h; have := takeR_i h; unfold Bal; omega
theorem expectR_bal {ts : List Tok} {x : Bytes} {s s' : St} {t : Tok} (h : expectR x ts s = .ok (t, s')) : Bal 1 s s' := takeR_bal (expectR_take h).2
theorem kindR_bal {ts : List Tok} {k : Nat} {s s' : St} {t : Tok} (h : kindR k ts s = .ok (t, s')) : Bal 1 s s' := takeR_bal (kindR_take h).2
theorem typeR_bal {ts : List Tok} : ∀ (ks : List Nat) {s s' : St} {y : Nat}, typeR ts ks s = .ok (y, s') → Bal 1 s s'
  | [], s, s', y, h => by unfold typeR wrongR at h; cases h
  | k :: ks, s, s', y, h => by
    unfold typeR at h
    split at h
    · obtain ⟨a, s1, e1, e2⟩ := bindR_inv h
      cases e2; exact takeR_bal e1
    · exact typeR_bal ks h
theorem bin_bal {ts : List Tok} {f least : Nat} {s s' : St} {x : Ex} (h : binF ts f least s = .ok (x, s')) : Bal 0 s s' := ((exprs_adv ts f).1 _ _ _ _ h).bal
theorem placeF_bal {ts : List Tok} {f : Nat} {s s' : St} {x : Ex} (h : placeF ts f s = .ok (x, s')) : Bal 0 s s' := (placeB_adv ((exprs_adv ts f).1 1) h).bal
theorem callF_bal {ts : List Tok} {f : Nat} {u : Tok} {s s' : St} {x : Ex} (h : callF ts f u s = .ok (x, s')) : Bal 0 s s' := by
  unfold callF at h
  obtain ⟨a, s1, e1, e2⟩ := bindR_inv h
  cases e2
  exact (listB_adv ((exprs_adv ts f).1 1) e1).bal
theorem namedF_bal {ts : List Tok} {f id pos : Nat} {s s' : St} {x : Sm} (h : namedF ts f id pos s = .ok (x, s')) : Bal 1 s s' := by
  unfold namedF at h
  obtain ⟨a, s1, e1, e2⟩ := bindR_inv h
  refine ((kindR_bal e1).trans (j := 0) ?_)
  split at e2
  · obtain ⟨a', s2, e3, e4⟩ := bindR_inv e2
    obtain ⟨a'', s3, e5, e6⟩ := bindR_inv e4
    obtain ⟨a3, s4, e7, e8⟩ := bindR_inv e6
    cases e8
    exact (((takeR_bal e3).trans (bin_bal e5)).trans (expectR_bal e7)).le (by omega)
  split at e2
  · obtain ⟨a', s2, e3, e4⟩ := bindR_inv e2
    obtain ⟨a'', s3, e5, e6⟩ := bindR_inv e4
    obtain ⟨a3, s4, e7, e8⟩ := bindR_inv e6
    obtain ⟨a4, s5, e9, e10⟩ := bindR_inv e8
    cases e10
    exact ((((placeF_bal e3).trans (expectR_bal e5)).trans (bin_bal e7)).trans (expectR_bal e9)).le (by omega)
  split at e2
  · obtain ⟨a', s2, e3, e4⟩ := bindR_inv e2
    obtain ⟨a'', s3, e5, e6⟩ := bindR_inv e4
    cases e6
    exact ((callF_bal e3).trans (expectR_bal e5)).le (by omega)
  · cases e2
theorem letF_bal {ts : List Tok} {f id pos : Nat} {s s' : St} {x : Sm} (h : letF ts f id pos s = .ok (x, s')) : Bal 1 s s' := by
  unfold letF at h
  obtain ⟨a, s1, e1, e2⟩ := bindR_inv h
  obtain ⟨a', s2, e3, e4⟩ := bindR_inv e2
  obtain ⟨a'', s3, e5, e6⟩ := bindR_inv e4
  obtain ⟨y, s4, e7, e8⟩ := bindR_inv e6
  have hb := (((expectR_bal e1).trans (kindR_bal e3)).trans (expectR_bal e5)).trans (typeR_bal _ e7)
  refine (hb.trans (j := 0) ?_).le (by omega)
  split at e8
  · obtain ⟨b1, r1, f1, f2⟩ := bindR_inv e8
    obtain ⟨b2, r2, f3, f4⟩ := bindR_inv f2
    obtain ⟨b3, r3, f5, f6⟩ := bindR_inv f4
    obtain ⟨b4, r4, f7, f8⟩ := bindR_inv f6
    cases f8
    exact ((((expectR_bal f1).trans (kindR_bal f3)).trans (expectR_bal f5)).trans (expectR_bal f7)).le (by omega)
  split at e8
  · obtain ⟨b1, r1, f1, f2⟩ := bindR_inv e8
    obtain ⟨b2, r2, f3, f4⟩ := bindR_inv f2
    obtain ⟨b3, r3, f5, f6⟩ := bindR_inv f4
    cases f6
    exact (((takeR_bal f1).trans (bin_bal f3)).trans (expectR_bal f5)).le (by omega)
  · obtain ⟨b1, r1, f1, f2⟩ := bindR_inv e8
    cases f2
    exact (expectR_bal f1).le (by omega)
theorem returnF_bal {ts : List Tok} {f id pos : Nat} {s s' : St} {x : Sm} (h : returnF ts f id pos s = .ok (x, s')) : Bal 1 s s' := by
  unfold returnF at h
  obtain ⟨a, s1, e1, e2⟩ := bindR_inv h
  refine ((takeR_bal e1).trans (j := 0) ?_)
  split at e2
  · obtain ⟨a', s2, e3, e4⟩ := bindR_inv e2
    cases e4
    exact (expectR_bal e3).le (by omega)
  · obtain ⟨a', s2, e3, e4⟩ := bindR_inv e2
    obtain ⟨a'', s3, e5, e6⟩ := bindR_inv e4
    cases e6
    exact ((bin_bal e3).trans (expectR_bal e5)).le (by omega)
theorem printF_bal {ts : List Tok} {f id pos : Nat} {s s' : St} {x : Sm} (h : printF ts f id pos s = .ok (x, s')) : Bal 1 s s' := by
  unfold printF at h
  obtain ⟨a, s1, e1, e2⟩ := bindR_inv h
  obtain ⟨a', s2, e3, e4⟩ := bindR_inv e2
  obtain ⟨a'', s3, e5, e6⟩ := bindR_inv e4
  cases e6
  exact (((takeR_bal e1).trans (bin_bal e3)).trans (expectR_bal e5)).le (by omega)
theorem choiceB_bal {ts : List Tok} {f id pos : Nat} {blk : St → R (List Sm)} (hb : ∀ s x s', blk s = .ok (x, s') → Bal 0 s s') {s s' : St} {x : Sm} (h : choiceB ts f id pos blk s = .ok (x, s')) : Bal 1 s s' := by
  unfold choiceB at h
  obtain ⟨a, s1, e1, e2⟩ := bindR_inv h
  obtain ⟨a', s2, e3, e4⟩ := bindR_inv e2
  obtain ⟨a'', s3, e5, e6⟩ := bindR_inv e4
  have h1 := ((expectR_bal e1).trans (bin_bal e3)).trans (hb _ _ _ e5)
  refine (h1.trans (j := 0) ?_).le (by omega)
  split at e6
  · obtain ⟨b1, r1, f1, f2⟩ := bindR_inv e6
    obtain ⟨b2, r2, f3, f4⟩ := bindR_inv f2
    cases f4
    exact ((takeR_bal f1).trans (hb _ _ _ f3)).le (by omega)
  · cases e6; exact Bal.refl _
theorem whileB_bal {ts : List Tok} {f id pos : Nat} {blk : St → R (List Sm)} (hb : ∀ s x s', blk s = .ok (x, s') → Bal 0 s s') {s s' : St} {x : Sm} (h : whileB ts f id pos blk s = .ok (x, s')) : Bal 1 s s' := by
  unfold whileB at h
  obtain ⟨a, s1, e1, e2⟩ := bindR_inv h
  obtain ⟨a', s2, e3, e4⟩ := bindR_inv e2
  obtain ⟨a'', s3, e5, e6⟩ := bindR_inv e4
  cases e6
  exact (((takeR_bal e1).trans (bin_bal e3)).trans (hb _ _ _ e5)).le (by omega)
theorem stmts_bal (ts : List Tok) : ∀ f, (∀ s x s', blockF ts f s = .ok (x, s') → Bal 0 s s') ∧ (∀ l s x s', bodyF ts f l s = .ok (x, s') → Bal 0 s s') ∧ (∀ s x s', smF ts f s = .ok (x, s') → Bal 0 s s')
  | 0 => ⟨(fun _ _ _ h => by rw [blockF] at h; cases h), (fun _ _ _ _ h => by rw [bodyF] at h; cases h), (fun _ _ _ h => by rw [smF] at h; cases h)⟩
  | f + 1 => by
    obtain ⟨h1, h2, h3⟩ := stmts_bal ts f
    refine ⟨?_, ?_, ?_⟩
    · intro s x s' h
      rw [blockF] at h
      obtain ⟨a, s1, e1, e2⟩ := bindR_inv h
      obtain ⟨a', s2, e3, e4⟩ := bindR_inv e2
      obtain ⟨a'', s3, e5, e6⟩ := bindR_inv e4
      cases e6
      exact (((expectR_bal e1).trans (h2 _ _ _ _ e3)).trans (expectR_bal e5)).le (by omega)
    · intro l s x s' h
      rw [bodyF] at h
      split at h
      · cases h; exact Bal.refl _
      · obtain ⟨a, s1, e1, e2⟩ := bindR_inv h
        exact ((h3 _ _ _ e1).trans (h2 _ _ _ _ e2)).le (by omega)
    · intro s x s' h
      have key : ∀ s', Bal 1 ⟨s.i, s.o, s.n + 1⟩ s' → Bal 0 s s' := fun s' hb => by
        unfold Bal at *; simp only at hb; omega
      rw [smF] at h
      split at h
      · exact key _ (namedF_bal h)
      split at h
      · exact key _ (letF_bal h)
      split at h
      · exact key _ (choiceB_bal h1 h)
      split at h
      · exact key _ (whileB_bal h1 h)
      split at h
      · exact key _ (returnF_bal h)
      split at h
      · exact key _ (printF_bal h)
      · cases h
end Go.Proofs.YtcgllooeimacdaaGreatDoor.Px
