/-
  May a node have a colour?
-/
import Derived.Test.YtgblpfahgpneoaaPtM
namespace Go.Proofs.Ytgblpfahgpneoaa
open Go Go.RowKit

theorem pow_lt16 {c : Nat} (h : c < 16) : 2 ^ c < 65536 := Nat.pow_lt_pow_of_lt (by decide) h
theorem powU {c : Nat} (h : c < 16) : ((2 : Int) ^ c % 4294967296) = ((2 ^ c : Nat) : Int) := by
  have h1 : ((2 : Int) ^ c) = ((2 ^ c : Nat) : Int) := (Int.natCast_pow 2 c).symm
  have h2 := pow_lt16 h
  rw [h1]
  exact Int.emod_eq_of_lt (Int.natCast_nonneg _) (Int.lt_trans (Int.ofNat_lt.2 h2) (by decide))
theorem drewN_add (w : World) (a b : Nat) : (w.drewN a).drewN b = w.drewN (a + b) := by
  induction b with
  | zero => rfl
  | succ n ih => exact congrArg World.drew ih
theorem wrapU {m : Nat} (h : m < 4294967296) : IntKind.u32.wrap (m : Int) = (m : Int) := by
  show (m : Int) % _ = _
  exact Int.emod_eq_of_lt (by omega) (by show (m : Int) < 4294967296; omega)
/-- Taken's bits. -/
def tk (T : Nat → Nat) (v c : Nat) : Bool := (T v).testBit c
theorem and_pow (m c : Nat) : decide (m &&& 2 ^ c = 0) = !m.testBit c := by
  cases h : m.testBit c with
  | true =>
    have : m &&& 2 ^ c ≠ 0 := fun e => by
      have h2 := congrArg (fun x => Nat.testBit x c) e
      simp [Nat.testBit_and, h] at h2
    simpa using this
  | false =>
    have : m &&& 2 ^ c = 0 := by
      apply Nat.eq_of_testBit_eq
      intro i
      rw [Nat.testBit_and, Nat.testBit_two_pow, Nat.zero_testBit]
      by_cases e : c = i
      · subst e; simp [h]
      · simp [e]
    simpa using this
set_option maxRecDepth 100000 in
set_option maxHeartbeats 1600000 in
theorem may_any {n : Nat} {nr lk : Nat → List Nat} {k base bp bc bw bt : Nat} {nv lv : Value} {C Wh : Nat → Int} {T : Nat → Nat} (v c : Nat) (hv : v < n) (hc : c < 16) (_ : n ≤ 60000) (hT : ∀ i, i < n → T i < 65536) (w : World) (h : Pain n nr lk k base bp bc bw bt nv lv C Wh T w) :
    Calls Try.prog 24 #[.pointer (some ⟨bp, 0, none⟩), I (v : Int), I (c : Int)] w fun e w' => e = .returned (.bool (!tk T v c)) ∧ ∃ q, w' = w.drewN q := by
  have x0 := h.pb.get 5 (.slice (some ⟨bt, 0, none⟩) n n) rfl
  obtain ⟨m, hm⟩ : ∃ m, m = T v := ⟨_, rfl⟩
  have x1 := h.tb.get v (.int .u32 (m : Int)) (by rw [arrF_get _ hv, hm])
  have e0 : decide ((0 : Int) ≤ v) = true := by simp
  have e1 : (0 : Int) ≤ (v : Int) := by omega
  have e2 : (v : Int) < (n : Int) := by omega
  have e3 : (0 : Int) ≤ (c : Int) := by omega
  have e4 : (c : Int) ≤ 32 := by omega
  obtain ⟨q, hq⟩ : ∃ q, q = 2 ^ c := ⟨_, rfl⟩
  have hq2 : q < 65536 := by rw [hq]; exact pow_lt16 hc
  have hm2 : m < 65536 := by rw [hm]; exact hT v hv
  have e5 : ((2 : Int) ^ c % 4294967296) = (q : Int) := by rw [hq]; exact powU hc
  have e6 : bits .and .u32 (m : Int) (q : Int) = ((m &&& q : Nat) : Int) := u32_and_nat m q (by omega) (by omega)
  have e7 : (((m &&& q : Nat) : Int) == 0) = !tk T v c := by
    unfold tk
    rw [← hm, ← and_pow, hq]
    apply Bool.eq_iff_iff.2
    simp
  have HD := Lib.hid (show (bits BinOp.and IntKind.u32 (m : Int) (2 ^ c % 4294967296) == 0) = !tk T v c by rw [e5, e6]; exact e7)
  clear hq hm h hT e5 e6 e7
  go_enter Try.func24, Try.ntmps24
  go_wp2_with fail
  go_quiet (fail)
  go_wp2_with fail
  go_ret
  exact ⟨by rw [← HD.out]; rfl, _, rfl⟩
theorem may_at {n : Nat} {nr lk : Nat → List Nat} {k base bp bc bw bt : Nat} {nv lv : Value} {C Wh : Nat → Int} {T : Nat → Nat} (v c : Nat) (hv : v < n) (hc : c < 16) (hn : n ≤ 60000) (hT : ∀ i, i < n → T i < 65536) (w : World) (h : Pain n nr lk k base bp bc bw bt nv lv C Wh T w) (m : Nat) :
    Calls Try.prog 24 #[.pointer (some ⟨bp, 0, none⟩), I (v : Int), I (c : Int)] (w.drewN m) fun e w' => e = .returned (.bool (!tk T v c)) ∧ ∃ q, w' = w.drewN q :=
  (may_any v c hv hc hn hT _ (h.drewN m)).mono fun e w' hh => by
    obtain ⟨h1, q, h2⟩ := hh
    exact ⟨h1, m + q, by rw [h2, drewN_add]⟩
end Go.Proofs.Ytgblpfahgpneoaa
