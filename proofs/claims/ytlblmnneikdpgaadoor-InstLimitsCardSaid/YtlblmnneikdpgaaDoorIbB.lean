/-
  Bits of numbers, as the walks spell them.
-/
import Derived.Test.YtlblmnneikdpgaaDoorIbQ
import Derived.Lib.Zigzag
namespace Go.Proofs.YtlblmnneikdpgaaDoor
open Go Ib

theorem ofInt_toNat (n : Int) : (BitVec.ofInt 64 n).toNat = u64 n := by
  rw [BitVec.toNat_ofInt]
  unfold u64
  congr 1
theorem bits_xor_i64 (a b : Int) : bits .xor .i64 a b = IntKind.i64.wrap ((u64 a ^^^ u64 b : Nat) : Int) := by
  show IntKind.i64.wrap ((BitVec.ofInt 64 a ^^^ BitVec.ofInt 64 b).toNat : Int) = _
  rw [BitVec.toNat_xor, ofInt_toNat, ofInt_toNat]
theorem bits_and_i64 (a b : Int) : bits .and .i64 a b = IntKind.i64.wrap ((u64 a &&& u64 b : Nat) : Int) := by
  show IntKind.i64.wrap ((BitVec.ofInt 64 a &&& BitVec.ofInt 64 b).toNat : Int) = _
  rw [BitVec.toNat_and, ofInt_toNat, ofInt_toNat]
theorem xorSign {n : Int} (h : In64 n) : IntKind.u64.wrap (bits .xor .i64 n (n / 9223372036854775808)) = (mag n : Int) := by
  unfold In64 at h
  rw [bits_xor_i64, IntKind.wrap_u64, IntKind.wrap_i64]
  by_cases h0 : 0 ≤ n
  · have e : n / 9223372036854775808 = 0 := by omega
    have e1 : u64 n = n.toNat := by unfold u64; omega
    rw [e, show u64 0 = 0 from rfl, Nat.xor_zero, e1]
    unfold mag
    rw [if_pos h0]
    omega
  · have e : n / 9223372036854775808 = -1 := by omega
    have e1 : u64 n = (n + 18446744073709551616).toNat := by unfold u64; omega
    rw [e, show u64 (-1) = 2 ^ 64 - 1 by decide, Nat.xor_comm, Lib.xor_ones64 _ (u64_lt n), e1]
    unfold mag
    rw [if_neg h0]
    omega
theorem and255 {n : Int} (_h : In64 n) : bits .and .i64 n 255 = n % 256 := by
  rw [bits_and_i64, IntKind.wrap_i64, show u64 255 = 2 ^ 8 - 1 by decide, Nat.and_two_pow_sub_one_eq_mod]
  unfold u64
  omega
end Go.Proofs.YtlblmnneikdpgaaDoor
