/-
  The scanner's skip: over blanks and remarks; and the copy of a sign's bytes, counted down.
-/
import Derived.Test.YtoimhdejfeclpaaGreatDoorScan1
namespace Go.Proofs.YtoimhdejfeclpaaGreatDoor
open Go Go.RowKit Lx

def stepR (r : Bool) (c : UInt8) : Bool := c == 35 || (r && c != 10)
def remF : Bool → List UInt8 → Bool
  | r, [] => r
  | r, c :: t => remF (stepR r c) t
theorem remF_snoc (c : UInt8) : ∀ (l : List UInt8) (r : Bool), remF r (l ++ [c]) = stepR (remF r l) c := by
  intro l
  induction l with
  | nil => intro r; rfl
  | cons a t ih => intro r; exact ih (stepR r a)

theorem skipF_cons (r : Bool) (c : UInt8) (t : List UInt8) : skipF r (c :: t) = if (stepR r c || blankB c) = true then 1 + skipF (stepR r c) t else 0 := rfl

theorem take_snoc (s : ByteArray) (n0 k : Nat) (h : n0 ≤ k) (hk : k < s.size) : ((Bs s).drop n0).take (k + 1 - n0) = ((Bs s).drop n0).take (k - n0) ++ [s[k]] := by
  have e : k + 1 - n0 = (k - n0) + 1 := by omega
  have hl : k - n0 < ((Bs s).drop n0).length := by rw [List.length_drop, bs_length]; omega
  rw [e, List.take_succ_eq_append_getElem hl, List.getElem_drop]
  have e2 : n0 + (k - n0) = k := by omega
  simp only [e2]
  rfl

theorem stop_skip (s : ByteArray) : ∀ (d n0 k : Nat) (r : Bool), k = n0 + d → k ≤ s.size →
    (∀ j (hj : j < s.size), n0 ≤ j → j < k → (stepR (remF r (((Bs s).drop n0).take (j - n0))) s[j] || blankB s[j]) = true) →
    (k = s.size ∨ ∃ h : k < s.size, (stepR (remF r (((Bs s).drop n0).take (k - n0))) s[k] || blankB s[k]) = false) → skipF r ((Bs s).drop n0) = d := by
  intro d
  induction d with
  | zero =>
    intro n0 k r hk hle hall hstop
    rcases hstop with h | ⟨h, hp⟩
    · rw [List.drop_of_length_le (by rw [bs_length]; omega)]; rfl
    · obtain rfl : k = n0 := by omega
      rw [getElem_drop s k h]
      rw [Nat.sub_self, List.take_zero] at hp
      have hp' : (stepR r s[k] || blankB s[k]) = false := hp
      rw [skipF_cons, hp']
      rfl
  | succ d ih =>
    intro n0 k r hk hle hall hstop
    have hn : n0 < s.size := by omega
    have hp := hall n0 hn (Nat.le_refl _) (by omega)
    rw [Nat.sub_self, List.take_zero] at hp
    have hc := getElem_drop s n0 hn
    have hrem : ∀ j, n0 + 1 ≤ j → remF r (((Bs s).drop n0).take (j - n0)) = remF (stepR r s[n0]) (((Bs s).drop (n0 + 1)).take (j - (n0 + 1))) := by
      intro j hj
      have e : j - n0 = (j - (n0 + 1)) + 1 := by omega
      rw [hc, e, List.take_succ_cons]
      rfl
    have := ih (n0 + 1) k (stepR r s[n0]) (by omega) hle (fun j hj h1 h2 => by rw [← hrem j h1]; exact hall j hj (by omega) h2)
      (by
        rcases hstop with h | ⟨h, hq⟩
        · exact Or.inl h
        · exact Or.inr ⟨h, by rw [← hrem k (by omega)]; exact hq⟩)
    rw [hc]
    have hp' : (stepR r s[n0] || blankB s[n0]) = true := hp
    rw [skipF_cons, if_pos hp', this]
    omega

theorem skip_le (s : ByteArray) (n0 : Nat) (h : n0 ≤ s.size) : n0 + skipF false ((Bs s).drop n0) ≤ s.size := by
  have := skipF_le ((Bs s).drop n0) false
  rw [List.length_drop, bs_length] at this
  omega

/-- The loop over the closure that looks for remarks. -/
theorem pass_skip (b : Nat) (v0 v1 v2 v3 : Value) (s : ByteArray) (hs : s.size ≤ 9223372036854775806) (n0 : Nat) (hn0 : n0 ≤ s.size) (rb : Nat) (T : TypeId) (w0 w : World)
    (hg : w0.grownBy w (some b)) (hb : b < w0.heap.size) (hrb : w0.heap.size ≤ rb) (hw : Rd b v0 v1 v2 v3 s n0 w) (hr : w.heap[rb]? = some (.cells #[.bool false] T (0, 0))) :
    Calls Tryz.prog 60 #[.pointer (some ⟨b, 0, none⟩), .func (.func 61) #[] #[.pointer (some ⟨rb, 0, none⟩)]] w fun e w' => e = .returned (.tuple #[]) ∧
      Rd b v0 v1 v2 v3 s (n0 + skipF false ((Bs s).drop n0)) w' ∧ w0.grownBy w' (some b) := by
  refine (pass_any b v0 v1 v2 v3 s hs 61 #[.pointer (some ⟨rb, 0, none⟩)] (fun k => if h : k < s.size then (stepR (remF false (((Bs s).drop n0).take (k - n0))) s[k] || blankB s[k]) else false)
    (fun k w1 => Rd b v0 v1 v2 v3 s k w1 ∧ w0.grownBy w1 (some b) ∧ n0 ≤ k ∧ w1.heap[rb]? = some (.cells #[.bool (remF false (((Bs s).drop n0).take (k - n0)))] T (0, 0)))
    (fun k w1 => Rd b v0 v1 v2 v3 s k w1 ∧ w0.grownBy w1 (some b) ∧ n0 ≤ k ∧ w1.heap[rb]? = some (.cells #[.bool (remF false (((Bs s).drop n0).take (k + 1 - n0)))] T (0, 0)))
    (fun _ _ h => h.1) (fun _ _ h => h.1) ?_ ?_ (fun args w => by simp [go_sem]) (fun k w1 n h => ⟨h.1, grown_trans h.2.1 (grown_drawN n), h.2.2.1, h.2.2.2⟩) n0 hn0 w ⟨hw, hg, Nat.le_refl _, by rw [Nat.sub_self]; exact hr⟩).mono ?_
  · rintro k hk w1 ⟨h1, h2, h3, h4⟩
    refine (skip1_any s[k] rb T _ w1 h4).mono ?_
    rintro e w2 ⟨rfl, h5, h6⟩
    refine ⟨by simp [hk, stepR], h1.other h6 (by intro e; simp at e; omega), grown_new h2 hrb h6, h3, ?_⟩
    rw [take_snoc s n0 k h3 hk, remF_snoc]
    exact h5
  · rintro k w1 hk _ ⟨h1, h2, h3, h4⟩
    refine ⟨h1.setAt (k + 1), grown_trans h2 (Lib.grownBy_setCell _ _ _ _), by omega, ?_⟩
    rw [Below.heap_setCell _ _ _ _ (by show rb ≠ b; omega)]
    exact h4
  · rintro e w' ⟨rfl, k, h1, h2, hall, hend⟩
    have e1 := stop_skip s (k - n0) n0 k false (by omega) h2 (fun j hj h3 h4 => by have := hall j h3 h4; simpa [hj] using this)
      (by
        rcases hend with ⟨rfl, _⟩ | ⟨hk, hq, _⟩
        · exact Or.inl rfl
        · exact Or.inr ⟨hk, by simpa [hk] using hq⟩)
    have e2 : n0 + skipF false ((Bs s).drop n0) = k := by rw [e1]; omega
    rw [e2]
    rcases hend with ⟨_, h⟩ | ⟨_, _, h⟩
    · exact ⟨rfl, h.1, h.2.1⟩
    · exact ⟨rfl, h.1, h.2.1⟩

set_option maxRecDepth 100000 in
/-- The skip. -/
theorem skip_any (b : Nat) (v0 v1 v2 v3 : Value) (s : ByteArray) (hs : s.size ≤ 9223372036854775806) (n0 : Nat) (hn0 : n0 ≤ s.size) (w : World) (hw : Rd b v0 v1 v2 v3 s n0 w) :
    Calls Tryz.prog 46 #[.pointer (some ⟨b, 0, none⟩)] w fun e w' => e = .returned (.tuple #[]) ∧
      Rd b v0 v1 v2 v3 s (n0 + skipF false ((Bs s).drop n0)) w' ∧ w.grownBy w' (some b) := by
  have hlt := hw.lt
  have H : Hid (w.grownBy (w.alloc (.cells #[.bool false] 4)) (some b) ∧ Rd b v0 v1 v2 v3 s n0 (w.alloc (.cells #[.bool false] 4)) ∧ (w.alloc (.cells #[.bool false] 4)).heap[w.heap.size]? = some (.cells #[.bool false] 4 (0, 0))) :=
    ⟨World.grownBy_alloc _ _ _, hw.other (World.grownBy_alloc _ _ none) (by simp), heap_alloc_new w _⟩
  clear hw
  have hmf : ∀ (fn : Fn) (first cap : Array Value) (w : World), (Instr.makeFunc fn first cap).run Tryz.prog w = .ok (.func fn first cap) w := fun _ _ _ _ => rfl
  go_enter Tryz.func46, Tryz.ntmps46
  go_wp2_with fail
  refine (pass_skip b v0 v1 v2 v3 s hs n0 hn0 w.heap.size 4 w _ H.out.1 hlt (Nat.le_refl _) H.out.2.1 H.out.2.2).mono ?_
  rintro e w1 ⟨rfl, hr, hg⟩
  have HR := Lib.hid (And.intro hr hg)
  clear hr hg
  go_wp2
  go_end0
  exact ⟨rfl, HR.out.1, HR.out.2⟩
end Go.Proofs.YtoimhdejfeclpaaGreatDoor
