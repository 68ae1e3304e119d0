/-
  Going up by any numbers: the walk of Over.
-/
import Derived.Test.YtomfmkddfgpmkaaFTame
namespace Go.Proofs.Ytomfmkddfgpmkaa
open Go Go.RowKit Fl

namespace Fl
def plB (N : Nat) (x : Int) : Bool := decide (0 ≤ x ∧ x < (N : Int))
/-- From b up, so many steps at most: is a met? -/
def ovF (L : List Int) (N : Nat) (a : Int) : Nat → Int → Bool
  | 0, _ => false
  | k + 1, b => if plB N b = true then (if a = L.getD b.toNat 0 then plB N a else ovF L N a k (L.getD b.toNat 0)) else false
def ovW (L : List Int) (N : Nat) (a b : Int) : Bool := if a = b then true else ovF L N a N b
end Fl

set_option maxRecDepth 100000 in
set_option maxHeartbeats 800000 in
theorem place_any (c : Nat) (sa : Option Addr) (n sc : Nat) (x : Int) (w : World) (h : w.cell? ⟨c, 0, none⟩ = some (.slice sa n sc)) :
    Calls Try.prog 36 #[I x, .pointer (some ⟨c, 0, none⟩)] w fun e w' => e = .returned (.bool (plB n x)) ∧ w = w' := by
  by_cases h0 : 0 ≤ x
  · have d0 : decide (0 ≤ x) = true := by simpa using h0
    by_cases h1 : x < (n : Int)
    · have d1 : decide (x < (n : Int)) = true := by simpa using h1
      have HB := Lib.hid (show plB n x = true by unfold plB; simp [h0, h1])
      clear h0 h1
      go_enter Try.func36, Try.ntmps36
      go_wp2_with fail
      go_ret
      exact ⟨by rw [HB.out]; rfl, rfl⟩
    · have d1 : decide (x < (n : Int)) = false := by simpa using h1
      have HB := Lib.hid (show plB n x = false by unfold plB; simp [h1])
      clear h0 h1
      go_enter Try.func36, Try.ntmps36
      go_wp2_with fail
      go_ret
      exact ⟨by rw [HB.out]; rfl, rfl⟩
  · have d0 : decide (0 ≤ x) = false := by simpa using h0
    have HB := Lib.hid (show plB n x = false by unfold plB; simp [h0])
    clear h0
    go_enter Try.func36, Try.ntmps36
    go_wp2_with fail
    go_ret
    exact ⟨by rw [HB.out]; rfl, rfl⟩

set_option maxRecDepth 100000 in
set_option maxHeartbeats 1600000 in
theorem OverW_any (v : Value) (L : List Int) (N : Nat) (a b : Int) (hN : N = L.length) (hb : N ≤ 1000000) (w : World) (h : RowZ w v L) :
    Calls Try.prog 26 #[v, I a, I b] w fun e w' => e = .returned (.bool (ovW L N a b)) ∧ Below w.heap.size w w' := by
  obtain ⟨sa, sc, rfl, hr⟩ := h
  rw [← hN]
  have hmf : ∀ (fn : Fn) (first cap : Array Value) (w : World), (Instr.makeFunc fn first cap).run Try.prog w = .ok (.func fn first cap) w := fun _ _ _ _ => rfl
  obtain ⟨W, hW⟩ : ∃ W, W = w.alloc (.cells #[.slice sa N sc] 25) := ⟨_, rfl⟩
  obtain ⟨c, hc⟩ : ∃ c, c = w.heap.size := ⟨_, rfl⟩
  have hk : Blk c #[.slice sa N sc] 25 W := by rw [hc, hW]; exact Blk.new _ _ _
  have hbe : Below w.heap.size w W := by rw [hW]; exact (Below.refl _ _).alloc (Nat.le_refl _) _
  have x0 := hk.get 0 (.slice sa N sc) rfl
  have HH := Lib.hid (And.intro hN (And.intro hr hbe))
  have HW := Lib.hid (And.intro hW hc)
  have HP := Lib.hid (fun x => place_any c sa N sc x W x0)
  clear hN hr hbe hW hc hk
  by_cases hab : a = b
  · have g0 : (a == b) = true := by simpa using hab
    have HR := Lib.hid (show ovW L N a b = true by unfold ovW; rw [if_pos hab])
    clear hab
    go_enter Try.func26, Try.ntmps26
    go_upto_region 1 with (fail)
    rw [← HW.out.2]
    change Code.wp _ _ _ _ (w.alloc (.cells #[.slice sa N sc] 25))
    rw [← HW.out.1]
    go_wp2_with fail
    go_ret
    exact ⟨by rw [HR.out]; rfl, HH.out.2.2⟩
  · have g0 : (a == b) = false := by simpa using hab
    have HR := Lib.hid (show ovW L N a b = ovF L N a N b by unfold ovW; rw [if_neg hab])
    clear hab
    go_enter Try.func26, Try.ntmps26
    go_upto_region 1 with (fail)
    rw [← HW.out.2]
    change Code.wp _ _ _ _ (w.alloc (.cells #[.slice sa N sc] 25))
    rw [← HW.out.1]
    go_wp2_with fail
    go_loop [2, 14] (fun bv iv => ∃ (i : Nat) (x : Int), i ≤ N ∧ iv = I (i : Int) ∧ bv = I x ∧ ovF L N a (N - i) x = ovF L N a N b) (fun _ iv => N - (intOf iv).toNat)
    case atStart => exact ⟨0, b, Nat.zero_le _, rfl, rfl, rfl⟩
    case round =>
      obtain ⟨i, x, hi, rfl, rfl, hx⟩ := hrel
      by_cases hiN : i < N
      · obtain ⟨k, hk⟩ : ∃ k, N - i = k + 1 := ⟨N - i - 1, by omega⟩
        rw [hk] at hx
        have d0 : decide (i < N) = true := by simpa using hiN
        have d1 : (i : Int) ≤ 1000000 := by omega
        have HX := Lib.hid (And.intro hx (And.intro hk hiN))
        obtain ⟨q, hq⟩ : ∃ q, q = plB N x := ⟨_, rfl⟩
        have HQ := Lib.hid hq
        have HP1 := Lib.hid (HP.out x)
        rw [← hq] at HP1
        clear hx hk hiN hi hq
        cases q
        · have HF := Lib.hid (show ovW L N a b = false by
            rw [HR.out, ← HX.out.1]
            show (if plB N x = true then _ else false) = false
            rw [if_neg (by rw [← HQ.out]; decide)])
          go_wp2_with fail
          refine HP1.out.mono ?_
          rintro e w' ⟨rfl, rfl⟩
          go_wp2_with fail
          go_ret
          exact ⟨by rw [HF.out]; rfl, HH.out.2.2⟩
        · obtain ⟨xn, rfl⟩ : ∃ xn : Nat, x = (xn : Int) := ⟨x.toNat, by have h1 := HQ.out; unfold plB at h1; simp at h1; omega⟩
          have hxn : xn < N := by have h1 := HQ.out; unfold plB at h1; simp at h1; omega
          obtain ⟨g, hsa, hgl, c1w⟩ := HH.out.2.1 xn (by rw [← HH.out.1]; exact hxn)
          have c1 := cell_below HH.out.2.2 hgl c1w
          subst hsa
          obtain ⟨y, hy⟩ : ∃ y, y = L[xn]'(by rw [← HH.out.1]; exact hxn) := ⟨_, rfl⟩
          rw [← hy] at c1
          have hyD : L.getD ((xn : Int)).toNat 0 = y := by rw [Int.toNat_natCast, getD_of _ _ _ (by rw [← HH.out.1]; exact hxn), hy]
          have d2 : (0 : Int) ≤ (xn : Int) := by omega
          have d3 : (xn : Int) < (N : Int) := by omega
          by_cases hay : a = y
          · have g1 : (a == y) = true := by simpa using hay
            have HF := Lib.hid (show ovW L N a b = plB N a by
              rw [HR.out, ← HX.out.1]
              show (if plB N (xn : Int) = true then (if a = L.getD ((xn : Int)).toNat 0 then plB N a else _) else false) = _
              rw [if_pos HQ.out.symm, hyD, if_pos hay])
            have HPA := Lib.hid (HP.out a)
            clear hay hy hyD hgl c1w hxn
            go_wp2_with fail
            refine HP1.out.mono ?_
            rintro e w' ⟨rfl, rfl⟩
            go_wp2_with fail
            refine HPA.out.mono ?_
            rintro e w' ⟨rfl, rfl⟩
            go_wp2_with fail
            go_ret
            exact ⟨by rw [HF.out]; rfl, HH.out.2.2⟩
          · have g1 : (a == y) = false := by simpa using hay
            have HF := Lib.hid (show ovF L N a (N - (i + 1)) y = ovF L N a N b by
              rw [← HX.out.1, show N - (i + 1) = k by have := HX.out.2.1; omega]
              show _ = (if plB N (xn : Int) = true then (if a = L.getD ((xn : Int)).toNat 0 then plB N a else ovF L N a k (L.getD ((xn : Int)).toNat 0)) else false)
              rw [if_pos HQ.out.symm, hyD, if_neg hay])
            clear hay hy hyD hgl c1w hxn
            go_wp2_with fail
            refine HP1.out.mono ?_
            rintro e w' ⟨rfl, rfl⟩
            go_wp2_with fail
            go_round
            case rel => exact ⟨i + 1, y, HX.out.2.2, by go_num, rfl, HF.out⟩
            case measure => have := HX.out.2.2; simp [intOf]; omega
      · have d0 : decide (i < N) = false := by simpa using hiN
        have he : N - i = 0 := by omega
        rw [he] at hx
        have HX := Lib.hid (show ovW L N a b = false by rw [HR.out, ← hx]; rfl)
        clear hx hiN hi he
        go_wp2_with fail
        go_ret
        exact ⟨by rw [HX.out]; rfl, HH.out.2.2⟩
end Go.Proofs.Ytomfmkddfgpmkaa
