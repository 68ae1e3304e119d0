/-
  What is read of expressions moves on, and begins no statement.
-/
import Derived.Test.YtcgllooeimacdaaGreatDoorTLow
namespace Go.Proofs.YtcgllooeimacdaaGreatDoor.Px
open Lx (Tok)

def Adv (s s' : St) : Prop := s'.n = s.n ∧ s.i ≤ s'.i
theorem Adv.refl (s : St) : Adv s s := ⟨rfl, Nat.le_refl _⟩
theorem Adv.trans {s s1 s2 : St} (h : Adv s s1) (k : Adv s1 s2) : Adv s s2 := ⟨k.1.trans h.1, Nat.le_trans h.2 k.2⟩
theorem bindR_inv {α β : Type} {r : R α} {k : α → St → R β} {p : β × St} (h : bindR r k = .ok p) : ∃ a s, r = .ok (a, s) ∧ k a s = .ok p := by
  rcases r with e | ⟨a, s⟩
  · cases h
  · exact ⟨a, s, rfl, h⟩
theorem takeR_n {ts : List Tok} {s s' : St} {t : Tok} (h : takeR ts s = .ok (t, s')) : s'.n = s.n := by
  unfold takeR at h
  split at h
  · split at h
    · cases h
    · cases h; rfl
  · split at h <;> (cases h; rfl)
theorem takeR_i {ts : List Tok} {s s' : St} {t : Tok} (h : takeR ts s = .ok (t, s')) : s'.i = s.i + 1 := by
  unfold takeR at h
  split at h
  · split at h
    · cases h
    · cases h; rfl
  · split at h <;> (cases h; rfl)
theorem takeR_adv {ts : List Tok} {s s' : St} {t : Tok} (h : takeR ts s = .ok (t, s')) : Adv s s' := ⟨takeR_n h, by rw [takeR_i h]; exact Nat.le_succ _⟩
theorem expectR_take {ts : List Tok} {x : Bytes} {s : St} {p : Tok × St} (h : expectR x ts s = .ok p) : (tk ts s.i).text = x ∧ takeR ts s = .ok p := by
  unfold expectR wrongR at h
  split at h
  · rename_i hx; exact ⟨hx, h⟩
  · cases h
theorem kindR_take {ts : List Tok} {k : Nat} {s : St} {p : Tok × St} (h : kindR k ts s = .ok p) : (tk ts s.i).kind = k ∧ takeR ts s = .ok p := by
  unfold kindR wrongR at h
  split at h
  · rename_i hx; exact ⟨hx, h⟩
  · cases h
theorem expectR_i {ts : List Tok} {x : Bytes} {s s' : St} {t : Tok} (h : expectR x ts s = .ok (t, s')) : s'.i = s.i + 1 := takeR_i (expectR_take h).2
theorem kindR_i {ts : List Tok} {k : Nat} {s s' : St} {t : Tok} (h : kindR k ts s = .ok (t, s')) : s'.i = s.i + 1 := takeR_i (kindR_take h).2
theorem expectR_n {ts : List Tok} {x : Bytes} {s s' : St} {t : Tok} (h : expectR x ts s = .ok (t, s')) : s'.n = s.n := takeR_n (expectR_take h).2
theorem kindR_n {ts : List Tok} {k : Nat} {s s' : St} {t : Tok} (h : kindR k ts s = .ok (t, s')) : s'.n = s.n := takeR_n (kindR_take h).2
theorem expectR_adv {ts : List Tok} {x : Bytes} {s s' : St} {t : Tok} (h : expectR x ts s = .ok (t, s')) : Adv s s' := takeR_adv (expectR_take h).2
theorem kindR_adv {ts : List Tok} {k : Nat} {s s' : St} {t : Tok} (h : kindR k ts s = .ok (t, s')) : Adv s s' := takeR_adv (kindR_take h).2

section
variable {α : Type} {ts : List Tok} {item : St → R α}
theorem placeB_adv (hi : ∀ s x s', item s = .ok (x, s') → Adv s s') {s s' : St} {x : α} (h : placeB ts item s = .ok (x, s')) : Adv s s' := by
  unfold placeB at h
  obtain ⟨a, s1, e1, e2⟩ := bindR_inv h
  obtain ⟨a', s2, e3, e4⟩ := bindR_inv e2
  obtain ⟨a'', s3, e5, e6⟩ := bindR_inv e4
  cases e6
  exact (expectR_adv e1).trans ((hi _ _ _ e3).trans (expectR_adv e5))
theorem itemsB_adv (hi : ∀ s x s', item s = .ok (x, s') → Adv s s') : ∀ (n : Nat) (l : List α) (s : St) (k : List α) (s' : St), itemsB ts item n l s = .ok (k, s') → Adv s s'
  | 0, l, s, k, s', h => by cases h
  | n + 1, l, s, k, s', h => by
    unfold itemsB at h
    split at h
    · obtain ⟨a, s1, e1, e2⟩ := bindR_inv h
      obtain ⟨a', s2, e3, e4⟩ := bindR_inv e2
      exact (takeR_adv e1).trans ((hi _ _ _ e3).trans (itemsB_adv hi n _ _ _ _ e4))
    · cases h; exact Adv.refl _
theorem listB_adv (hi : ∀ s x s', item s = .ok (x, s') → Adv s s') {n : Nat} {s s' : St} {l : List α} (h : listB ts item n s = .ok (l, s')) : Adv s s' := by
  unfold listB at h
  obtain ⟨a, s1, e1, e2⟩ := bindR_inv h
  obtain ⟨a', s2, e3, e4⟩ := bindR_inv e2
  obtain ⟨a'', s3, e5, e6⟩ := bindR_inv e4
  cases e6
  refine (expectR_adv e1).trans (Adv.trans ?_ (expectR_adv e5))
  split at e3
  · cases e3; exact Adv.refl _
  · obtain ⟨a3, s4, e7, e8⟩ := bindR_inv e3
    exact (hi _ _ _ e7).trans (itemsB_adv hi _ _ _ _ _ e8)
end

theorem exprs_adv (ts : List Tok) : ∀ f, (∀ least s x s', binF ts f least s = .ok (x, s') → Adv s s') ∧ (∀ least l s x s', loopF ts f least l s = .ok (x, s') → Adv s s') ∧ (∀ s x s', unF ts f s = .ok (x, s') → Adv s s') ∧ (∀ s x s', opF ts f s = .ok (x, s') → Adv s s') ∧ (∀ u s x s', useF ts f u s = .ok (x, s') → Adv s s')
  | 0 => ⟨(fun _ _ _ _ h => by rw [binF] at h; cases h), (fun _ _ _ _ _ h => by rw [loopF] at h; cases h), (fun _ _ _ h => by rw [unF] at h; cases h), (fun _ _ _ h => by rw [opF] at h; cases h), (fun _ _ _ _ h => by rw [useF] at h; cases h)⟩
  | f + 1 => by
    obtain ⟨h1, h2, h3, h4, h5⟩ := exprs_adv ts f
    refine ⟨?_, ?_, ?_, ?_, ?_⟩
    · intro least s x s' h
      rw [binF] at h
      obtain ⟨a, s1, e1, e2⟩ := bindR_inv h
      exact (h3 _ _ _ e1).trans (h2 _ _ _ _ _ e2)
    · intro least l s x s' h
      rw [loopF] at h
      split at h
      · cases h; exact Adv.refl _
      · obtain ⟨a, s1, e1, e2⟩ := bindR_inv h
        obtain ⟨a', s2, e3, e4⟩ := bindR_inv e2
        exact (takeR_adv e1).trans ((h1 _ _ _ _ e3).trans (h2 _ _ _ _ _ e4))
    · intro s x s' h
      rw [unF] at h
      split at h
      · exact h4 _ _ _ h
      · obtain ⟨a, s1, e1, e2⟩ := bindR_inv h
        obtain ⟨a', s2, e3, e4⟩ := bindR_inv e2
        cases e4
        exact (takeR_adv e1).trans (h3 _ _ _ e3)
    · intro s x s' h
      rw [opF] at h
      split at h
      · obtain ⟨a, s1, e1, e2⟩ := bindR_inv h
        cases e2; exact takeR_adv e1
      split at h
      · obtain ⟨a, s1, e1, e2⟩ := bindR_inv h
        exact (takeR_adv e1).trans (h5 _ _ _ _ e2)
      split at h
      · obtain ⟨a, s1, e1, e2⟩ := bindR_inv h
        cases e2; exact takeR_adv e1
      split at h
      · obtain ⟨a, s1, e1, e2⟩ := bindR_inv h
        cases e2; exact takeR_adv e1
      split at h
      · obtain ⟨a, s1, e1, e2⟩ := bindR_inv h
        obtain ⟨a', s2, e3, e4⟩ := bindR_inv e2
        obtain ⟨a'', s3, e5, e6⟩ := bindR_inv e4
        cases e6
        exact (takeR_adv e1).trans ((expectR_adv e3).trans (expectR_adv e5))
      split at h
      · obtain ⟨a, s1, e1, e2⟩ := bindR_inv h
        obtain ⟨a', s2, e3, e4⟩ := bindR_inv e2
        obtain ⟨a'', s3, e5, e6⟩ := bindR_inv e4
        obtain ⟨a3, s4, e7, e8⟩ := bindR_inv e6
        cases e8
        exact (takeR_adv e1).trans ((expectR_adv e3).trans ((kindR_adv e5).trans (expectR_adv e7)))
      split at h
      · obtain ⟨a, s1, e1, e2⟩ := bindR_inv h
        obtain ⟨a', s2, e3, e4⟩ := bindR_inv e2
        obtain ⟨a'', s3, e5, e6⟩ := bindR_inv e4
        cases e6
        exact (takeR_adv e1).trans ((h1 _ _ _ _ e3).trans (expectR_adv e5))
      · cases h
    · intro u s x s' h
      rw [useF] at h
      split at h
      · obtain ⟨a, s1, e1, e2⟩ := bindR_inv h
        cases e2
        exact placeB_adv (h1 1) e1
      split at h
      · obtain ⟨a, s1, e1, e2⟩ := bindR_inv h
        cases e2
        exact listB_adv (h1 1) e1
      · cases h; exact Adv.refl _
end Go.Proofs.YtcgllooeimacdaaGreatDoor.Px
