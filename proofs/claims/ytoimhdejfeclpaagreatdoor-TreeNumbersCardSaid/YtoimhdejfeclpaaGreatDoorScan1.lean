/-
  The scanner's four ways of passing bytes: over blanks and remarks; over a name; over digits; over a sign: where each stops, and what it hands back.
-/
import Derived.Test.YtoimhdejfeclpaaGreatDoorPass
import Derived.Test.YtoimhdejfeclpaaGreatDoorShelf
import Derived.Lib.BufferOwn
import Derived.Deep.Draws
namespace Go.Proofs.YtoimhdejfeclpaaGreatDoor
open Go Go.RowKit Lx

abbrev Bs (s : ByteArray) : List UInt8 := s.data.toList

theorem getElem_drop (s : ByteArray) (k : Nat) (hk : k < s.size) : (Bs s).drop k = s[k] :: (Bs s).drop (k + 1) := by
  rw [List.drop_eq_getElem_cons (by simpa using hk)]
  rfl

/-- A place that is reached by passing, byte by byte, what a plain test says: the greatest such. -/
theorem stop_eq (p : UInt8 → Bool) (s : ByteArray) : ∀ (d n0 k : Nat), k = n0 + d → k ≤ s.size → (∀ j (hj : j < s.size), n0 ≤ j → j < k → p s[j] = true) → (k = s.size ∨ ∃ h : k < s.size, p s[k] = false) →
    ((Bs s).drop n0).takeWhile p = ((Bs s).drop n0).take d := by
  intro d
  induction d with
  | zero =>
    intro n0 k hk hle hall hstop
    rw [List.take_zero]
    rcases hstop with h | ⟨h, hp⟩
    · rw [List.drop_of_length_le (by simp; omega)]; rfl
    · obtain rfl : k = n0 := by omega
      rw [getElem_drop s k h]
      simp [hp]
  | succ d ih =>
    intro n0 k hk hle hall hstop
    have hn : n0 < s.size := by omega
    have hp := hall n0 hn (Nat.le_refl _) (by omega)
    rw [getElem_drop s n0 hn, List.takeWhile_cons, if_pos hp, List.take_succ_cons]
    rw [ih (n0 + 1) k (by omega) hle (fun j hj h1 h2 => hall j hj (by omega) h2) hstop]

/-- Nothing but block b has turned, of what was there. -/
theorem grown_trans {a w w' : World} {row : Option Nat} (h : a.grownBy w row) (k : w.grownBy w' row) : a.grownBy w' row := Lib.grownBy_trans h k
theorem grown_new {a w w' : World} {row : Option Nat} {j : Nat} (h : a.grownBy w row) (hj : a.heap.size ≤ j) (k : w.grownBy w' (some j)) : a.grownBy w' row :=
  ⟨k.os.trans h.os, k.tape.trans h.tape, k.output.trans h.output, Nat.le_trans h.size k.size, fun i hi hne => (k.block i (Nat.lt_of_lt_of_le hi h.size) (by intro e; simp at e; omega)).trans (h.block i hi hne)⟩
theorem grown_drawN {w : World} {row : Option Nat} (n : Nat) : w.grownBy (w.drewN n) row := ⟨rfl, rfl, rfl, Nat.le_refl _, fun _ _ _ => rfl⟩
theorem grown_below {a w w' : World} {row : Option Nat} (h : a.grownBy w row) (hb : Below w.heap.size w w') : a.grownBy w' row := Lib.grownBy_below h hb

theorem Rd.below {b : Nat} {v0 v1 v2 v3 : Value} {s : ByteArray} {k : Nat} {w w' : World} (h : Rd b v0 v1 v2 v3 s k w) (hb : Below w.heap.size w w') : Rd b v0 v1 v2 v3 s k w' := (hb.block b h.lt).trans h

/-- The loop over a function value that keeps nothing. -/
theorem pass_plain (b : Nat) (v0 v1 v2 v3 : Value) (s : ByteArray) (hs : s.size ≤ 9223372036854775806) (N : Nat) (p : UInt8 → Bool)
    (hN : ∀ (c : UInt8) (w : World), Calls Tryz.prog N #[B8 c] w fun e w' => e = .returned (.bool (p c)) ∧ w = w')
    (hent : ∀ (args : Array Value) (w : World), (callFunc N args).run Tryz.prog w = .ok (.enter N args) w)
    (n0 : Nat) (hn0 : n0 ≤ s.size) (w : World) (hw : Rd b v0 v1 v2 v3 s n0 w) :
    Calls Tryz.prog 60 #[.pointer (some ⟨b, 0, none⟩), .func (.func N) #[] #[]] w fun e w' => e = .returned (.tuple #[]) ∧
      Rd b v0 v1 v2 v3 s (n0 + (((Bs s).drop n0).takeWhile p).length) w' ∧ w.grownBy w' (some b) := by
  refine (pass_any b v0 v1 v2 v3 s hs N #[] (fun k => if h : k < s.size then p s[k] else false) (fun k w1 => Rd b v0 v1 v2 v3 s k w1 ∧ w.grownBy w1 (some b)) (fun k w1 => Rd b v0 v1 v2 v3 s k w1 ∧ w.grownBy w1 (some b))
    (fun _ _ h => h.1) (fun _ _ h => h.1) (fun k hk w1 h => ?_) (fun k w1 hk _ h => ⟨h.1.setAt (k + 1), grown_trans h.2 (Lib.grownBy_setCell _ _ _ _)⟩) hent (fun k w1 n h => ⟨h.1, grown_trans h.2 (grown_drawN n)⟩) n0 hn0 w ⟨hw, World.grownBy.refl _ _⟩).mono ?_
  · refine (hN s[k] w1).mono ?_
    rintro e w2 ⟨rfl, rfl⟩
    exact ⟨by simp [hk], h⟩
  · rintro e w' ⟨rfl, k, h1, h2, hall, hend⟩
    have e1 := stop_eq p s (k - n0) n0 k (by omega) h2 (fun j hj h3 h4 => by have := hall j h3 h4; simpa [hj] using this)
      (by
        rcases hend with ⟨rfl, _⟩ | ⟨hk, hg, _⟩
        · exact Or.inl rfl
        · exact Or.inr ⟨hk, by simpa [hk] using hg⟩)
    have e2 : n0 + (((Bs s).drop n0).takeWhile p).length = k := by
      rw [e1, List.length_take, List.length_drop]
      have : (Bs s).length = s.size := by simp
      omega
    rw [e2]
    rcases hend with ⟨_, h⟩ | ⟨_, _, h⟩
    · exact ⟨rfl, h.1, h.2⟩
    · exact ⟨rfl, h.1, h.2⟩

theorem extract_str (s : ByteArray) (a b : Nat) : s.extract a b = ⟨(((Bs s).drop a).take (b - a)).toArray⟩ := by
  apply ByteArray.ext
  apply Array.toList_inj.1
  rw [Lib.extract_data]

theorem bs_length (s : ByteArray) : (Bs s).length = s.size := by simp
theorem take_at (s : ByteArray) (p : UInt8 → Bool) (n0 : Nat) : ((Bs s).drop n0).takeWhile p = ((Bs s).drop n0).take (n0 + (((Bs s).drop n0).takeWhile p).length - n0) := by
  rw [Nat.add_sub_cancel_left]
  exact List.prefix_iff_eq_take.1 (List.takeWhile_prefix p)
theorem take_le (s : ByteArray) (p : UInt8 → Bool) (n0 : Nat) (h : n0 ≤ s.size) : n0 + (((Bs s).drop n0).takeWhile p).length ≤ s.size := by
  have := takeWhile_le p ((Bs s).drop n0)
  rw [List.length_drop, bs_length] at this
  omega

set_option maxRecDepth 100000 in
set_option maxHeartbeats 400000 in
/-- What is passed, copied. -/
theorem take_plain (b : Nat) (v0 v1 v2 v3 : Value) (s : ByteArray) (hs : s.size ≤ 281474976710656) (N : Nat) (p : UInt8 → Bool)
    (hN : ∀ (c : UInt8) (w : World), Calls Tryz.prog N #[B8 c] w fun e w' => e = .returned (.bool (p c)) ∧ w = w')
    (hent : ∀ (args : Array Value) (w : World), (callFunc N args).run Tryz.prog w = .ok (.enter N args) w)
    (n0 : Nat) (hn0 : n0 ≤ s.size) (w : World) (hw : Rd b v0 v1 v2 v3 s n0 w) :
    Calls Tryz.prog 78 #[.pointer (some ⟨b, 0, none⟩), .func (.func N) #[] #[]] w fun e w' => e = .returned (.string ⟨(((Bs s).drop n0).takeWhile p).toArray⟩) ∧
      Rd b v0 v1 v2 v3 s (n0 + (((Bs s).drop n0).takeWhile p).length) w' ∧ w.grownBy w' (some b) := by
  have c5 := hw.cellAt
  have HP := Lib.hid (pass_plain b v0 v1 v2 v3 s (by omega) N p hN hent n0 hn0 w hw)
  obtain ⟨k1, hk1⟩ : ∃ k1, k1 = n0 + (((Bs s).drop n0).takeWhile p).length := ⟨_, rfl⟩
  have hle : k1 ≤ s.size := by rw [hk1]; exact take_le s p n0 hn0
  have hge : n0 ≤ k1 := by omega
  have htx : ((Bs s).drop n0).takeWhile p = ((Bs s).drop n0).take (k1 - n0) := by rw [hk1]; exact take_at s p n0
  rw [← hk1] at HP ⊢
  have HT := Lib.hid htx
  have HK := Lib.hid hk1
  clear hN hent hw htx hk1
  have hsz : (s.extract n0 k1).size ≤ 281474976710656 := by rw [ByteArray.size_extract]; omega
  go_enter Tryz.func78, Tryz.ntmps78
  go_wp2_with fail
  refine HP.out.mono ?_
  rintro e w1 ⟨rfl, hr, hg⟩
  clear c5
  have d5 := hr.cellAt
  have d4 := hr.cellText
  have HR := Lib.hid (And.intro hr hg)
  clear hr hg
  go_wp2
  go_still_tail 10, (by kernel_rfl)
  change wpList _ _ _ _ _ w1.drew
  go_wp2_with (first | (go_at_call 93; go_in) | (go_at_call 110; refine (Tryz.stringslite_Clone _ _ hsz).mono ?_; rintro e w2 ⟨rfl, hb⟩))
  go_ret
  obtain ⟨hr, hg⟩ := HR.out
  have hr1 : Rd b v0 v1 v2 v3 s k1 w1.drew := hr
  have hg1 : w.grownBy w1.drew (some b) := grown_trans hg (grown_drawN 1)
  refine ⟨?_, hr1.below hb, grown_below hg1 hb⟩
  show Ending.returned (.string (s.extract n0 k1)) = _
  rw [HT.out, extract_str]
end Go.Proofs.YtoimhdejfeclpaaGreatDoor
