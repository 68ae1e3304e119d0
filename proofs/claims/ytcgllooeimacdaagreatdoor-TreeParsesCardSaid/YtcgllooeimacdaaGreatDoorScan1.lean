/-
  Joined: Scan1, Scan2.
-/
import Derived.Test.YtcgllooeimacdaaGreatDoorPass
import Derived.Test.YtcgllooeimacdaaGreatDoorShelf
import Derived.Lib.BufferOwn
import Derived.Deep.Draws
/-! The scanner's four ways of passing bytes: over blanks and remarks; over a name; over digits; over a sign: where each stops, and what it hands back. -/

namespace Go.Proofs.YtcgllooeimacdaaGreatDoor
open Go Go.RowKit Lx

abbrev Bs (s : ByteArray) : List UInt8 := s.data.toList

theorem getElem_drop (s : ByteArray) (k : Nat) (hk : k < s.size) : (Bs s).drop k = s[k] :: (Bs s).drop (k + 1) := by
  rw [List.drop_eq_getElem_cons (by simpa using hk)]
  rfl

/-- A place that is reached by passing, byte by byte, what a plain test says: the greatest such. -/
theorem stop_eq (p : UInt8 → Bool) (s : ByteArray) : ∀ (d n0 k : Nat), k = n0 + d → k ≤ s.size → (∀ j (hj : j < s.size), n0 ≤ j → j < k → p s[j] = true) → (k = s.size ∨ ∃ h : k < s.size, p s[k] = false) →
    ((Bs s).drop n0).takeWhile p = ((Bs s).drop n0).take d := by
  intro d
  induction d with
  | zero =>
    intro n0 k hk hle hall hstop
    rw [List.take_zero]
    rcases hstop with h | ⟨h, hp⟩
    · rw [List.drop_of_length_le (by simp; omega)]; rfl
    · obtain rfl : k = n0 := by omega
      rw [getElem_drop s k h]
      simp [hp]
  | succ d ih =>
    intro n0 k hk hle hall hstop
    have hn : n0 < s.size := by omega
    have hp := hall n0 hn (Nat.le_refl _) (by omega)
    rw [getElem_drop s n0 hn, List.takeWhile_cons, if_pos hp, List.take_succ_cons]
    rw [ih (n0 + 1) k (by omega) hle (fun j hj h1 h2 => hall j hj (by omega) h2) hstop]

/-- Nothing but block b has turned, of what was there. -/
theorem grown_trans {a w w' : World} {row : Option Nat} (h : a.grownBy w row) (k : w.grownBy w' row) : a.grownBy w' row := Lib.grownBy_trans h k
theorem grown_new {a w w' : World} {row : Option Nat} {j : Nat} (h : a.grownBy w row) (hj : a.heap.size ≤ j) (k : w.grownBy w' (some j)) : a.grownBy w' row :=
  ⟨k.os.trans h.os, k.tape.trans h.tape, k.output.trans h.output, Nat.le_trans h.size k.size, fun i hi hne => (k.block i (Nat.lt_of_lt_of_le hi h.size) (by intro e; simp at e; omega)).trans (h.block i hi hne)⟩
theorem grown_drawN {w : World} {row : Option Nat} (n : Nat) : w.grownBy (w.drewN n) row := ⟨rfl, rfl, rfl, Nat.le_refl _, fun _ _ _ => rfl⟩
theorem grown_below {a w w' : World} {row : Option Nat} (h : a.grownBy w row) (hb : Below w.heap.size w w') : a.grownBy w' row := Lib.grownBy_below h hb

theorem Rd.below {b : Nat} {v0 v1 v2 v3 : Value} {s : ByteArray} {k : Nat} {w w' : World} (h : Rd b v0 v1 v2 v3 s k w) (hb : Below w.heap.size w w') : Rd b v0 v1 v2 v3 s k w' := (hb.block b h.lt).trans h

/-- The loop over a function value that keeps nothing. -/
theorem pass_plain (b : Nat) (v0 v1 v2 v3 : Value) (s : ByteArray) (hs : s.size ≤ 9223372036854775806) (N : Nat) (p : UInt8 → Bool)
    (hN : ∀ (c : UInt8) (w : World), Calls Tryz.prog N #[B8 c] w fun e w' => e = .returned (.bool (p c)) ∧ w = w')
    (hent : ∀ (args : Array Value) (w : World), (callFunc N args).run Tryz.prog w = .ok (.enter N args) w)
    (n0 : Nat) (hn0 : n0 ≤ s.size) (w : World) (hw : Rd b v0 v1 v2 v3 s n0 w) :
    Calls Tryz.prog 60 #[.pointer (some ⟨b, 0, none⟩), .func (.func N) #[] #[]] w fun e w' => e = .returned (.tuple #[]) ∧
      Rd b v0 v1 v2 v3 s (n0 + (((Bs s).drop n0).takeWhile p).length) w' ∧ w.grownBy w' (some b) := by
  refine (pass_any b v0 v1 v2 v3 s hs N #[] (fun k => if h : k < s.size then p s[k] else false) (fun k w1 => Rd b v0 v1 v2 v3 s k w1 ∧ w.grownBy w1 (some b)) (fun k w1 => Rd b v0 v1 v2 v3 s k w1 ∧ w.grownBy w1 (some b))
    (fun _ _ h => h.1) (fun _ _ h => h.1) (fun k hk w1 h => ?_) (fun k w1 hk _ h => ⟨h.1.setAt (k + 1), grown_trans h.2 (Lib.grownBy_setCell _ _ _ _)⟩) hent (fun k w1 n h => ⟨h.1, grown_trans h.2 (grown_drawN n)⟩) n0 hn0 w ⟨hw, World.grownBy.refl _ _⟩).mono ?_
  · refine (hN s[k] w1).mono ?_
    rintro e w2 ⟨rfl, rfl⟩
    exact ⟨by simp [hk], h⟩
  · rintro e w' ⟨rfl, k, h1, h2, hall, hend⟩
    have e1 := stop_eq p s (k - n0) n0 k (by omega) h2 (fun j hj h3 h4 => by have := hall j h3 h4; simpa [hj] using this)
      (by
        rcases hend with ⟨rfl, _⟩ | ⟨hk, hg, _⟩
        · exact Or.inl rfl
        · exact Or.inr ⟨hk, by simpa [hk] using hg⟩)
    have e2 : n0 + (((Bs s).drop n0).takeWhile p).length = k := by
      rw [e1, List.length_take, List.length_drop]
      have : (Bs s).length = s.size := by simp
      omega
    rw [e2]
    rcases hend with ⟨_, h⟩ | ⟨_, _, h⟩
    · exact ⟨rfl, h.1, h.2⟩
    · exact ⟨rfl, h.1, h.2⟩

theorem extract_str (s : ByteArray) (a b : Nat) : s.extract a b = ⟨(((Bs s).drop a).take (b - a)).toArray⟩ := by
  apply ByteArray.ext
  apply Array.toList_inj.1
  rw [Lib.extract_data]

theorem bs_length (s : ByteArray) : (Bs s).length = s.size := by simp
theorem take_at (s : ByteArray) (p : UInt8 → Bool) (n0 : Nat) : ((Bs s).drop n0).takeWhile p = ((Bs s).drop n0).take (n0 + (((Bs s).drop n0).takeWhile p).length - n0) := by
  rw [Nat.add_sub_cancel_left]
  exact List.prefix_iff_eq_take.1 (List.takeWhile_prefix p)
theorem take_le (s : ByteArray) (p : UInt8 → Bool) (n0 : Nat) (h : n0 ≤ s.size) : n0 + (((Bs s).drop n0).takeWhile p).length ≤ s.size := by
  have := takeWhile_le p ((Bs s).drop n0)
  rw [List.length_drop, bs_length] at this
  omega

set_option maxRecDepth 100000 in
set_option maxHeartbeats 400000 in
/-- What is passed, copied. -/
theorem take_plain (b : Nat) (v0 v1 v2 v3 : Value) (s : ByteArray) (hs : s.size ≤ 281474976710656) (N : Nat) (p : UInt8 → Bool)
    (hN : ∀ (c : UInt8) (w : World), Calls Tryz.prog N #[B8 c] w fun e w' => e = .returned (.bool (p c)) ∧ w = w')
    (hent : ∀ (args : Array Value) (w : World), (callFunc N args).run Tryz.prog w = .ok (.enter N args) w)
    (n0 : Nat) (hn0 : n0 ≤ s.size) (w : World) (hw : Rd b v0 v1 v2 v3 s n0 w) :
    Calls Tryz.prog 78 #[.pointer (some ⟨b, 0, none⟩), .func (.func N) #[] #[]] w fun e w' => e = .returned (.string ⟨(((Bs s).drop n0).takeWhile p).toArray⟩) ∧
      Rd b v0 v1 v2 v3 s (n0 + (((Bs s).drop n0).takeWhile p).length) w' ∧ w.grownBy w' (some b) := by
  have c5 := hw.cellAt
  have HP := Lib.hid (pass_plain b v0 v1 v2 v3 s (by omega) N p hN hent n0 hn0 w hw)
  obtain ⟨k1, hk1⟩ : ∃ k1, k1 = n0 + (((Bs s).drop n0).takeWhile p).length := ⟨_, rfl⟩
  have hle : k1 ≤ s.size := by rw [hk1]; exact take_le s p n0 hn0
  have hge : n0 ≤ k1 := by omega
  have htx : ((Bs s).drop n0).takeWhile p = ((Bs s).drop n0).take (k1 - n0) := by rw [hk1]; exact take_at s p n0
  rw [← hk1] at HP ⊢
  have HT := Lib.hid htx
  have HK := Lib.hid hk1
  clear hN hent hw htx hk1
  have hsz : (s.extract n0 k1).size ≤ 281474976710656 := by rw [ByteArray.size_extract]; omega
  go_enter Tryz.func78, Tryz.ntmps78
  go_wp2_with fail
  refine HP.out.mono ?_
  rintro e w1 ⟨rfl, hr, hg⟩
  clear c5
  have d5 := hr.cellAt
  have d4 := hr.cellText
  have HR := Lib.hid (And.intro hr hg)
  clear hr hg
  go_wp2
  go_still_tail 10, (by kernel_rfl)
  change wpList _ _ _ _ _ w1.drew
  go_wp2_with (first | (go_at_call 93; go_in) | (go_at_call 110; refine (Tryz.stringslite_Clone _ _ hsz).mono ?_; rintro e w2 ⟨rfl, hb⟩))
  go_ret
  obtain ⟨hr, hg⟩ := HR.out
  have hr1 : Rd b v0 v1 v2 v3 s k1 w1.drew := hr
  have hg1 : w.grownBy w1.drew (some b) := grown_trans hg (grown_drawN 1)
  refine ⟨?_, hr1.below hb, grown_below hg1 hb⟩
  show Ending.returned (.string (s.extract n0 k1)) = _
  rw [HT.out, extract_str]
end Go.Proofs.YtcgllooeimacdaaGreatDoor

/-! The scanner's skip: over blanks and remarks; and the copy of a sign's bytes, counted down. -/

namespace Go.Proofs.YtcgllooeimacdaaGreatDoor
open Go Go.RowKit Lx

def stepR (r : Bool) (c : UInt8) : Bool := c == 35 || (r && c != 10)
def remF : Bool → List UInt8 → Bool
  | r, [] => r
  | r, c :: t => remF (stepR r c) t
theorem remF_snoc (c : UInt8) : ∀ (l : List UInt8) (r : Bool), remF r (l ++ [c]) = stepR (remF r l) c := by
  intro l
  induction l with
  | nil => intro r; rfl
  | cons a t ih => intro r; exact ih (stepR r a)

theorem skipF_cons (r : Bool) (c : UInt8) (t : List UInt8) : skipF r (c :: t) = if (stepR r c || blankB c) = true then 1 + skipF (stepR r c) t else 0 := rfl

theorem take_snoc (s : ByteArray) (n0 k : Nat) (h : n0 ≤ k) (hk : k < s.size) : ((Bs s).drop n0).take (k + 1 - n0) = ((Bs s).drop n0).take (k - n0) ++ [s[k]] := by
  have e : k + 1 - n0 = (k - n0) + 1 := by omega
  have hl : k - n0 < ((Bs s).drop n0).length := by rw [List.length_drop, bs_length]; omega
  rw [e, List.take_succ_eq_append_getElem hl, List.getElem_drop]
  have e2 : n0 + (k - n0) = k := by omega
  simp only [e2]
  rfl

theorem stop_skip (s : ByteArray) : ∀ (d n0 k : Nat) (r : Bool), k = n0 + d → k ≤ s.size →
    (∀ j (hj : j < s.size), n0 ≤ j → j < k → (stepR (remF r (((Bs s).drop n0).take (j - n0))) s[j] || blankB s[j]) = true) →
    (k = s.size ∨ ∃ h : k < s.size, (stepR (remF r (((Bs s).drop n0).take (k - n0))) s[k] || blankB s[k]) = false) → skipF r ((Bs s).drop n0) = d := by
  intro d
  induction d with
  | zero =>
    intro n0 k r hk hle hall hstop
    rcases hstop with h | ⟨h, hp⟩
    · rw [List.drop_of_length_le (by rw [bs_length]; omega)]; rfl
    · obtain rfl : k = n0 := by omega
      rw [getElem_drop s k h]
      rw [Nat.sub_self, List.take_zero] at hp
      have hp' : (stepR r s[k] || blankB s[k]) = false := hp
      rw [skipF_cons, hp']
      rfl
  | succ d ih =>
    intro n0 k r hk hle hall hstop
    have hn : n0 < s.size := by omega
    have hp := hall n0 hn (Nat.le_refl _) (by omega)
    rw [Nat.sub_self, List.take_zero] at hp
    have hc := getElem_drop s n0 hn
    have hrem : ∀ j, n0 + 1 ≤ j → remF r (((Bs s).drop n0).take (j - n0)) = remF (stepR r s[n0]) (((Bs s).drop (n0 + 1)).take (j - (n0 + 1))) := by
      intro j hj
      have e : j - n0 = (j - (n0 + 1)) + 1 := by omega
      rw [hc, e, List.take_succ_cons]
      rfl
    have := ih (n0 + 1) k (stepR r s[n0]) (by omega) hle (fun j hj h1 h2 => by rw [← hrem j h1]; exact hall j hj (by omega) h2)
      (by
        rcases hstop with h | ⟨h, hq⟩
        · exact Or.inl h
        · exact Or.inr ⟨h, by rw [← hrem k (by omega)]; exact hq⟩)
    rw [hc]
    have hp' : (stepR r s[n0] || blankB s[n0]) = true := hp
    rw [skipF_cons, if_pos hp', this]
    omega

theorem skip_le (s : ByteArray) (n0 : Nat) (h : n0 ≤ s.size) : n0 + skipF false ((Bs s).drop n0) ≤ s.size := by
  have := skipF_le ((Bs s).drop n0) false
  rw [List.length_drop, bs_length] at this
  omega

/-- The loop over the closure that looks for remarks. -/
theorem pass_skip (b : Nat) (v0 v1 v2 v3 : Value) (s : ByteArray) (hs : s.size ≤ 9223372036854775806) (n0 : Nat) (hn0 : n0 ≤ s.size) (rb : Nat) (T : TypeId) (w0 w : World)
    (hg : w0.grownBy w (some b)) (hb : b < w0.heap.size) (hrb : w0.heap.size ≤ rb) (hw : Rd b v0 v1 v2 v3 s n0 w) (hr : w.heap[rb]? = some (.cells #[.bool false] T (0, 0))) :
    Calls Tryz.prog 60 #[.pointer (some ⟨b, 0, none⟩), .func (.func 61) #[] #[.pointer (some ⟨rb, 0, none⟩)]] w fun e w' => e = .returned (.tuple #[]) ∧
      Rd b v0 v1 v2 v3 s (n0 + skipF false ((Bs s).drop n0)) w' ∧ w0.grownBy w' (some b) := by
  refine (pass_any b v0 v1 v2 v3 s hs 61 #[.pointer (some ⟨rb, 0, none⟩)] (fun k => if h : k < s.size then (stepR (remF false (((Bs s).drop n0).take (k - n0))) s[k] || blankB s[k]) else false)
    (fun k w1 => Rd b v0 v1 v2 v3 s k w1 ∧ w0.grownBy w1 (some b) ∧ n0 ≤ k ∧ w1.heap[rb]? = some (.cells #[.bool (remF false (((Bs s).drop n0).take (k - n0)))] T (0, 0)))
    (fun k w1 => Rd b v0 v1 v2 v3 s k w1 ∧ w0.grownBy w1 (some b) ∧ n0 ≤ k ∧ w1.heap[rb]? = some (.cells #[.bool (remF false (((Bs s).drop n0).take (k + 1 - n0)))] T (0, 0)))
    (fun _ _ h => h.1) (fun _ _ h => h.1) ?_ ?_ (fun args w => by simp [go_sem]) (fun k w1 n h => ⟨h.1, grown_trans h.2.1 (grown_drawN n), h.2.2.1, h.2.2.2⟩) n0 hn0 w ⟨hw, hg, Nat.le_refl _, by rw [Nat.sub_self]; exact hr⟩).mono ?_
  · rintro k hk w1 ⟨h1, h2, h3, h4⟩
    refine (skip1_any s[k] rb T _ w1 h4).mono ?_
    rintro e w2 ⟨rfl, h5, h6⟩
    refine ⟨by simp [hk, stepR], h1.other h6 (by intro e; simp at e; omega), grown_new h2 hrb h6, h3, ?_⟩
    rw [take_snoc s n0 k h3 hk, remF_snoc]
    exact h5
  · rintro k w1 hk _ ⟨h1, h2, h3, h4⟩
    refine ⟨h1.setAt (k + 1), grown_trans h2 (Lib.grownBy_setCell _ _ _ _), by omega, ?_⟩
    rw [Below.heap_setCell _ _ _ _ (by show rb ≠ b; omega)]
    exact h4
  · rintro e w' ⟨rfl, k, h1, h2, hall, hend⟩
    have e1 := stop_skip s (k - n0) n0 k false (by omega) h2 (fun j hj h3 h4 => by have := hall j h3 h4; simpa [hj] using this)
      (by
        rcases hend with ⟨rfl, _⟩ | ⟨hk, hq, _⟩
        · exact Or.inl rfl
        · exact Or.inr ⟨hk, by simpa [hk] using hq⟩)
    have e2 : n0 + skipF false ((Bs s).drop n0) = k := by rw [e1]; omega
    rw [e2]
    rcases hend with ⟨_, h⟩ | ⟨_, _, h⟩
    · exact ⟨rfl, h.1, h.2.1⟩
    · exact ⟨rfl, h.1, h.2.1⟩

set_option maxRecDepth 100000 in
/-- The skip. -/
theorem skip_any (b : Nat) (v0 v1 v2 v3 : Value) (s : ByteArray) (hs : s.size ≤ 9223372036854775806) (n0 : Nat) (hn0 : n0 ≤ s.size) (w : World) (hw : Rd b v0 v1 v2 v3 s n0 w) :
    Calls Tryz.prog 46 #[.pointer (some ⟨b, 0, none⟩)] w fun e w' => e = .returned (.tuple #[]) ∧
      Rd b v0 v1 v2 v3 s (n0 + skipF false ((Bs s).drop n0)) w' ∧ w.grownBy w' (some b) := by
  have hlt := hw.lt
  have H : Hid (w.grownBy (w.alloc (.cells #[.bool false] 4)) (some b) ∧ Rd b v0 v1 v2 v3 s n0 (w.alloc (.cells #[.bool false] 4)) ∧ (w.alloc (.cells #[.bool false] 4)).heap[w.heap.size]? = some (.cells #[.bool false] 4 (0, 0))) :=
    ⟨World.grownBy_alloc _ _ _, hw.other (World.grownBy_alloc _ _ none) (by simp), heap_alloc_new w _⟩
  clear hw
  have hmf : ∀ (fn : Fn) (first cap : Array Value) (w : World), (Instr.makeFunc fn first cap).run Tryz.prog w = .ok (.func fn first cap) w := fun _ _ _ _ => rfl
  go_enter Tryz.func46, Tryz.ntmps46
  go_wp2_with fail
  refine (pass_skip b v0 v1 v2 v3 s hs n0 hn0 w.heap.size 4 w _ H.out.1 hlt (Nat.le_refl _) H.out.2.1 H.out.2.2).mono ?_
  rintro e w1 ⟨rfl, hr, hg⟩
  have HR := Lib.hid (And.intro hr hg)
  clear hr hg
  go_wp2
  go_end0
  exact ⟨rfl, HR.out.1, HR.out.2⟩
end Go.Proofs.YtcgllooeimacdaaGreatDoor
