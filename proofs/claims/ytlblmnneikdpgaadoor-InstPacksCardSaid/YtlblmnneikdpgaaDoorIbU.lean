/-
  A number with a sign is read, and one without.
-/
import Derived.Test.YtlblmnneikdpgaaDoorIbT
namespace Go.Proofs.YtlblmnneikdpgaaDoor
open Go Go.RowKit Ib

theorem sgn_shift {l : List Nat} (hb : Byt l) (hl : l.length ≤ 8) : IntKind.i64.wrap (IntKind.u64.wrap ((val l : Int) * 2 ^ (64 - 8 * l.length))) / 2 ^ (64 - 8 * l.length) = numD true l := by
  by_cases hne : l = []
  · subst hne
    simp [val, numD, IntKind.wrap_u64, IntKind.wrap_i64]
  · obtain ⟨m, x, rfl⟩ : ∃ m x, l = m ++ [x] := ⟨l.dropLast, l.getLast hne, (List.dropLast_concat_getLast hne).symm⟩
    have hlen : (m ++ [x]).length = m.length + 1 := by simp
    have hx : x < 256 := hb x (by simp)
    have hm := val_lt m (fun y hy => hb y (by simp [hy]))
    have hv : val (m ++ [x]) = val m + 256 ^ m.length * x := by rw [val_append]; simp [val]
    have hlast : (m ++ [x]).getLastD 0 = x := by simp
    unfold numD
    rw [hlast]
    rw [hlen] at hl ⊢
    obtain ⟨j, hj⟩ : ∃ j, j = m.length := ⟨_, rfl⟩
    rw [← hj] at hl hm hv ⊢
    have hP : 2 ^ (64 - 8 * (j + 1)) * 256 ^ (j + 1) = 18446744073709551616 := by
      rw [pow256', ← Nat.pow_add, show 64 - 8 * (j + 1) + 8 * (j + 1) = 64 by omega]
    have hp : (2 : Int) ^ (64 - 8 * (j + 1)) = ((2 ^ (64 - 8 * (j + 1)) : Nat) : Int) := by rw [Int.natCast_pow]; rfl
    rw [hp]
    obtain ⟨P, hPe⟩ : ∃ P, P = 2 ^ (64 - 8 * (j + 1)) := ⟨_, rfl⟩
    have hP0 : 0 < P := by rw [hPe]; exact Nat.pow_pos (by decide)
    rw [← hPe] at hP ⊢
    rw [Nat.pow_succ] at hP ⊢
    obtain ⟨Q, hQe⟩ : ∃ Q, Q = 256 ^ j := ⟨_, rfl⟩
    rw [← hQe] at hP hm hv ⊢
    obtain ⟨V, hVe⟩ : ∃ V, V = val (m ++ [x]) := ⟨_, rfl⟩
    rw [← hVe] at hv ⊢
    have hPQ : P * Q * 256 = 18446744073709551616 := by rw [← hP, Nat.mul_assoc]
    have hQx : Q * x ≤ Q * 255 := Nat.mul_le_mul_left _ (by omega)
    have hV1 : V + 1 ≤ Q * 256 := by omega
    have hPV : P * V + P ≤ P * Q * 256 := by
      have h1 := Nat.mul_le_mul_left P hV1
      rw [Nat.mul_add, ← Nat.mul_assoc] at h1
      omega
    have e1 : IntKind.u64.wrap ((V : Int) * (P : Int)) = (V : Int) * (P : Int) := by
      rw [← Int.natCast_mul, Nat.mul_comm]
      exact u64_wrap_id _ (by omega) (by omega)
    rw [e1, IntKind.wrap_i64, ← Int.natCast_mul, Nat.mul_comm]
    by_cases h128 : 128 ≤ x
    · have h1 : Q * 128 ≤ V := by
        have := Nat.mul_le_mul_left Q h128
        omega
      have h2 : P * Q * 128 ≤ P * V := by
        have := Nat.mul_le_mul_left P h1
        rw [← Nat.mul_assoc] at this
        exact this
      have e2 : (((P * V : Nat) : Int) + 9223372036854775808) % 18446744073709551616 - 9223372036854775808 = (P : Int) * ((V : Int) - ((Q * 256 : Nat) : Int)) := by
        rw [Int.mul_sub, ← Int.natCast_mul, ← Int.natCast_mul, ← Nat.mul_assoc]
        omega
      rw [e2, Int.mul_ediv_cancel_left _ (by omega), if_pos ⟨rfl, by simp, h128⟩]
    · have h1 : V + 1 ≤ Q * 128 := by
        have := Nat.mul_le_mul_left Q (show x ≤ 127 by omega)
        omega
      have h2 : P * V + P ≤ P * Q * 128 := by
        have := Nat.mul_le_mul_left P h1
        rw [Nat.mul_add, ← Nat.mul_assoc] at this
        omega
      have e2 : (((P * V : Nat) : Int) + 9223372036854775808) % 18446744073709551616 - 9223372036854775808 = (P : Int) * (V : Int) := by
        rw [← Int.natCast_mul]
        omega
      rw [e2, Int.mul_ediv_cancel_left _ (by omega), if_neg (fun h => h128 h.2.2)]
theorem numD_in64 {l : List Nat} (hb : Byt l) (hl : l.length ≤ 8) : In64 (numD true l) := by
  rw [← sgn_shift hb hl, IntKind.wrap_i64]
  unfold In64
  have hp : (0 : Int) < 2 ^ (64 - 8 * l.length) := Int.pow_pos (by decide)
  obtain ⟨X, hX⟩ : ∃ X : Int, X = (IntKind.u64.wrap ((val l : Int) * 2 ^ (64 - 8 * l.length)) + 9223372036854775808) % 18446744073709551616 - 9223372036854775808 := ⟨_, rfl⟩
  rw [← hX]
  have h1 : -9223372036854775808 ≤ X := by omega
  have h2 : X ≤ 9223372036854775807 := by omega
  constructor
  · refine Int.le_ediv_of_mul_le hp ?_
    have h3 : (9223372036854775808 : Int) * 1 ≤ 9223372036854775808 * 2 ^ (64 - 8 * l.length) := Int.mul_le_mul_of_nonneg_left (by omega) (by decide)
    omega
  · by_cases h0 : 0 ≤ X
    · have := Int.ediv_le_self (2 ^ (64 - 8 * l.length)) h0; omega
    · have := Int.ediv_neg_of_neg_of_pos (by omega : X < 0) hp; omega

/-- Where a number is put. -/
def SgT (S : Nat → Prop) (aW : Addr) (sign : Bool) (br : Nat) (a : Addr) (q : List Nat) (W W' : World) (e : Ending) : Prop :=
  (∃ l q' W2, SplN q l q' ∧ W.grownBy W2 (some br) ∧ RdV S br q' W2 ∧ W' = W2.setCell a (I (Ib.wrap64 (numD sign l))) ∧ e = .returned (unlE aW (decide (nmK sign (Ib.wrap64 (numD sign l)) = l.length)))) ∨
  ((¬ ∃ l q', SplN q l q') ∧ e = .returned (eV aW) ∧ W.grownBy W' (some br) ∧ ∃ q', RdV S br q' W')
theorem splN_byt {q l q' : List Nat} (hq : Byt q) (h : SplN q l q') : Byt l := fun x hx => hq x (by rw [h.1]; simp [hx])
set_option maxRecDepth 100000 in
set_option maxHeartbeats 1600000 in
theorem signed_q (S : Nat → Prop) (aM aW : Addr) (br : Nat) (a : Addr) (old : Value) (q : List Nat) (hq : Byt q) (w : World) (h : RdV S br q w) (hSl : ∀ k, S k → k < w.heap.size) (hs : Sen aM aW w) (hsb : SenL aM aW br) (ha : w.cell? a = some old) (hf : w.frozen? a = false) (hne : a.block ≠ br) (hSa : ¬ S a.block) (hna : ∀ k, k = 1 ∨ k = 0 ∨ k = aM.block ∨ k = aW.block → k ≠ a.block) :
    Calls Tryd.prog 63 #[.pointer (some ⟨br, 0, none⟩), .pointer (some a)] w fun e w' => SgT S aW true br a q w w' e := by
  have HC := Lib.hid (number_q S aM aW br q hq w h hSl hs hsb)
  have HA := Lib.hid (And.intro ha (And.intro hf (And.intro hne (And.intro hSa (And.intro hq (And.intro hs (And.intro hsb hna)))))))
  clear h hs ha hf hne hq hSl hsb hSa hna
  go_enter Tryd.func63, Tryd.ntmps63
  go_wp2_with fail
  refine HC.out.mono ?_
  rintro e w1 ⟨hg, (⟨l, q', hs, rfl, hrd⟩ | ⟨hno, rfl, hrd⟩)⟩
  · have hne' : some a.block ≠ some br := fun e => HA.out.2.2.1 (by injection e)
    have x0 := grown_cell hg HA.out.1 hne'
    have x1 := grown_free hg (lt_of_cell HA.out.1) HA.out.2.1 hne'
    have hbl := splN_byt HA.out.2.2.2.2.1 hs
    have hsh := sgn_shift hbl hs.2
    have hin := numD_in64 hbl hs.2
    obtain ⟨k, hk⟩ : ∃ k, k = l.length := ⟨_, rfl⟩
    obtain ⟨A, hA⟩ : ∃ A, A = 64 - 8 * k := ⟨_, rfl⟩
    have hk8 : k ≤ 8 := by rw [hk]; exact hs.2
    rw [← hk, ← hA] at hsh
    rw [← hk]
    have hAi : (64 : Int) - 8 * (k : Int) = (A : Int) := by omega
    obtain ⟨V, hV⟩ : ∃ V, V = val l := ⟨_, rfl⟩
    obtain ⟨D, hD⟩ : ∃ D, D = numD true l := ⟨_, rfl⟩
    rw [← hV, ← hD] at hsh
    rw [← hV]
    rw [← hD] at hin
    have hs1 : Sen aM aW (w1.setCell a (I D)) := HA.out.2.2.2.2.2.1.keep fun j hj => by
      have hj2 := HA.out.2.2.2.2.2.1.lts j hj
      have e1 := HA.out.2.2.2.2.2.2.1 j hj
      have h9 : j ≠ a.block := HA.out.2.2.2.2.2.2.2 j hj
      rw [Below.heap_setCell _ _ _ _ h9, hg.block j hj2 (fun e => by injection e with e; omega)]
    have HS := Lib.hid (ssize_any D hin (w1.setCell a (I D)))
    have HU := Lib.hid (fun b => unless_any b (w1.setCell a (I D)) hs1)
    have hk0 : (k : Int) ≤ 8 := by omega
    have HE := Lib.hid hAi
    have hsh' : RowKit.wrap64 (IntKind.u64.wrap ((V : Int) * 2 ^ min A 64)) / 2 ^ min A 64 = D := by
      rw [Nat.min_eq_left (by omega), ← IntWalk.i64_left]
      exact hsh
    have HSH := Lib.hid hsh'
    have FIN := Lib.hid (show SgT S aW true br a q w (w1.setCell a (I D)) (.returned (unlE aW (decide (sizeS D = k)))) from Or.inl ⟨l, q', w1, hs, hg, hrd, by rw [← hD, wrap64_id hin], by rw [← hD, wrap64_id hin, ← hk]; rfl⟩)
    clear hg hrd hbl hin hs1 hsh hsh' hAi hk8 hk hA hV hD hne' hs
    go_upto_region 5 with (fail)
    rw [HE.out]
    go_wp2_with fail
    rw [HSH.out]
    refine HS.out.mono ?_
    rintro e w2 ⟨rfl, rfl⟩
    obtain ⟨sz, hsz⟩ : ∃ sz, sz = sizeS D := ⟨_, rfl⟩
    rw [← hsz] at FIN ⊢
    by_cases hzk : sz = k
    · have g0 : ((sz : Int) == (k : Int)) = true := by simp [hzk]
      rw [decide_eq_true hzk] at FIN
      have HU1 := Lib.hid (HU.out true)
      clear hzk hsz
      go_wp2_with fail
      refine HU1.out.mono ?_
      rintro e w3 ⟨rfl, rfl⟩
      go_wp2_with fail
      go_ret
      exact FIN.out
    · have g0 : ((sz : Int) == (k : Int)) = false := by simp; omega
      rw [decide_eq_false hzk] at FIN
      have HU1 := Lib.hid (HU.out false)
      clear hzk hsz
      go_wp2_with fail
      refine HU1.out.mono ?_
      rintro e w3 ⟨rfl, rfl⟩
      go_wp2_with fail
      go_ret
      exact FIN.out
  · have FIN := Lib.hid (show SgT S aW true br a q w w1 (.returned (eV aW)) from Or.inr ⟨hno, rfl, hg, hrd⟩)
    clear hno hg hrd
    go_wp2_with fail
    go_ret
    exact FIN.out
set_option maxRecDepth 100000 in
set_option maxHeartbeats 1600000 in
theorem unsigned_q (S : Nat → Prop) (aM aW : Addr) (br : Nat) (a : Addr) (old : Value) (q : List Nat) (hq : Byt q) (w : World) (h : RdV S br q w) (hSl : ∀ k, S k → k < w.heap.size) (hs : Sen aM aW w) (hsb : SenL aM aW br) (ha : w.cell? a = some old) (hf : w.frozen? a = false) (hne : a.block ≠ br) (hSa : ¬ S a.block) (hna : ∀ k, k = 1 ∨ k = 0 ∨ k = aM.block ∨ k = aW.block → k ≠ a.block) :
    Calls Tryd.prog 64 #[.pointer (some ⟨br, 0, none⟩), .pointer (some a)] w fun e w' => SgT S aW false br a q w w' e := by
  have HC := Lib.hid (number_q S aM aW br q hq w h hSl hs hsb)
  have HA := Lib.hid (And.intro ha (And.intro hf (And.intro hne (And.intro hSa (And.intro hq (And.intro hs (And.intro hsb hna)))))))
  clear h hs ha hf hne hq hSl hsb hSa hna
  go_enter Tryd.func64, Tryd.ntmps64
  go_wp2_with fail
  refine HC.out.mono ?_
  rintro e w1 ⟨hg, (⟨l, q', hs, rfl, hrd⟩ | ⟨hno, rfl, hrd⟩)⟩
  · have hne' : some a.block ≠ some br := fun e => HA.out.2.2.1 (by injection e)
    have x0 := grown_cell hg HA.out.1 hne'
    have x1 := grown_free hg (lt_of_cell HA.out.1) HA.out.2.1 hne'
    have hbl := splN_byt HA.out.2.2.2.2.1 hs
    obtain ⟨k, hk⟩ : ∃ k, k = l.length := ⟨_, rfl⟩
    have hk8 : k ≤ 8 := by rw [hk]; exact hs.2
    rw [← hk]
    obtain ⟨V, hV⟩ : ∃ V, V = val l := ⟨_, rfl⟩
    rw [← hV]
    have hVb : V < 18446744073709551616 := by
      have h1 := val_lt l hbl
      have h2 := pow_le8 hs.2
      rw [hV]
      exact Nat.lt_of_lt_of_le h1 h2
    have hnd : numD false l = (V : Int) := by unfold numD; rw [if_neg (by simp), hV]
    obtain ⟨D, hD⟩ : ∃ D, D = Ib.wrap64 (V : Int) := ⟨_, rfl⟩
    have hcv : RowKit.wrap64 (V : Int) = D := by rw [hD]; simp only [RowKit.wrap64, Ib.wrap64]
    have hnk : nmK false D = sizeU V := by
      show sizeU (u64 D) = _
      rw [hD, u64_wrap, u64_nat hVb]
    have hs1 : Sen aM aW (w1.setCell a (I D)) := HA.out.2.2.2.2.2.1.keep fun j hj => by
      have hj2 := HA.out.2.2.2.2.2.1.lts j hj
      have e1 := HA.out.2.2.2.2.2.2.1 j hj
      have h9 : j ≠ a.block := HA.out.2.2.2.2.2.2.2 j hj
      rw [Below.heap_setCell _ _ _ _ h9, hg.block j hj2 (fun e => by injection e with e; omega)]
    have HS := Lib.hid (size_any V hVb (w1.setCell a (I D)))
    have HU := Lib.hid (fun b => unless_any b (w1.setCell a (I D)) hs1)
    have hk0 : (k : Int) ≤ 8 := by omega
    have HCV := Lib.hid hcv
    have FIN := Lib.hid (show SgT S aW false br a q w (w1.setCell a (I D)) (.returned (unlE aW (decide (sizeU V = k)))) from Or.inl ⟨l, q', w1, hs, hg, hrd, by rw [hnd, ← hD], by rw [hnd, ← hD, ← hk, hnk]⟩)
    clear hg hrd hbl hs1 hcv hnk hnd hVb hk8 hk hV hD hne' hs
    go_upto_region 5 with (fail)
    rw [HCV.out]
    go_wp2_with fail
    refine HS.out.mono ?_
    rintro e w2 ⟨rfl, rfl⟩
    obtain ⟨sz, hsz⟩ : ∃ sz, sz = sizeU V := ⟨_, rfl⟩
    rw [← hsz] at FIN ⊢
    by_cases hzk : sz = k
    · have g0 : ((sz : Int) == (k : Int)) = true := by simp [hzk]
      rw [decide_eq_true hzk] at FIN
      have HU1 := Lib.hid (HU.out true)
      clear hzk hsz
      go_wp2_with fail
      refine HU1.out.mono ?_
      rintro e w3 ⟨rfl, rfl⟩
      go_wp2_with fail
      go_ret
      exact FIN.out
    · have g0 : ((sz : Int) == (k : Int)) = false := by simp; omega
      rw [decide_eq_false hzk] at FIN
      have HU1 := Lib.hid (HU.out false)
      clear hzk hsz
      go_wp2_with fail
      refine HU1.out.mono ?_
      rintro e w3 ⟨rfl, rfl⟩
      go_wp2_with fail
      go_ret
      exact FIN.out
  · have FIN := Lib.hid (show SgT S aW false br a q w w1 (.returned (eV aW)) from Or.inr ⟨hno, rfl, hg, hrd⟩)
    clear hno hg hrd
    go_wp2_with fail
    go_ret
    exact FIN.out
end Go.Proofs.YtlblmnneikdpgaaDoor
