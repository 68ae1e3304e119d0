/-
  TreeDeep: the statement's own body says true at every number.
-/
import Derived.Test.YtoimhdejfeclpaaGreatDoorTDeepF
namespace Go.Proofs.YtoimhdejfeclpaaGreatDoor
open Go Go.RowKit Px
open Lx (Tok)

theorem bs_app (X Y : ByteArray) : Bs (X ++ Y) = Bs X ++ Bs Y := by simp
theorem bs_size (X : ByteArray) : X.size = (Bs X).length := by show X.data.size = X.data.toList.length; rw [Array.length_toList]

/-- What the loop has made: so many brackets, open ones and shut ones. -/
def DeepRel (N : Nat) (o s i : Value) : Prop := ∃ (j : Nat) (X Y : ByteArray), j ≤ N ∧ i = .int .i64 (j : Int) ∧ o = .string X ∧ s = .string Y ∧ Bs X = List.replicate j 40 ∧ Bs Y = List.replicate j 41

set_option maxRecDepth 100000 in
set_option maxHeartbeats 2000000 in
theorem treeDeep_any (n kd : Nat) (hn : n < 65536) (hk : kd < 256) (w : World) (hT : Tabs w.heap.size w) : Calls Tryz.prog 4 #[.int .u16 (n : Int), .int .u8 (kd : Int)] w fun e w' => e = .returned (.bool true) ∧ Below w.heap.size w w' := by
  have HT := Lib.hid hT
  clear hT
  go_enter Tryz.func4, Tryz.ntmps4
  go_wp2_with fail
  refine (awake_tree w HT.out).mono ?_
  rintro e w1 ⟨rfl, hb1⟩
  have HB1 := Lib.hid hb1
  clear hb1
  have hN : (n : Int) % 260 = ((n % 260 : Nat) : Int) := by omega
  obtain ⟨N, hNN⟩ : ∃ N, N = n % 260 := ⟨_, rfl⟩
  rw [← hNN] at hN
  have hN26 : N < 260 := by omega
  clear hNN
  go_wp2_with fail
  rw [hN]
  clear hN
  go_loop [6, 7, 19] (fun o s i => DeepRel N o s i) (fun _ _ i => N - (intOf i).toNat)
  case atStart => exact ⟨0, ⟨#[]⟩, ⟨#[]⟩, Nat.zero_le _, rfl, rfl, rfl, rfl, rfl⟩
  case round =>
    obtain ⟨j, X, Y, hj, rfl, rfl, rfl, hX, hY⟩ := hrel
    have HX := Lib.hid (And.intro hX hY)
    have hx1 : X.size ≤ 300 := by rw [bs_size, hX, List.length_replicate]; omega
    have hy1 : Y.size ≤ 300 := by rw [bs_size, hY, List.length_replicate]; omega
    clear hX hY
    by_cases hlt : j < N
    · go_wp2_with fail
      go_round
      case rel =>
        refine ⟨j + 1, _, _, by omega, by go_num, rfl, rfl, ?_, ?_⟩
        · rw [bs_app, HX.out.1, List.replicate_succ']
        · rw [bs_app, HX.out.2, List.replicate_succ']
      case measure => simp [intOf]; omega
    · obtain rfl : j = N := by omega
      have HT1 := Lib.hid ((HT.out.below HB1.out).mono HB1.out.size)
      clear hj hlt
      by_cases ho : kd % 2 = 1
      · skip
        have hk2 : (kd : Int) % 2 = 1 := by omega
        obtain ⟨S, hS⟩ : ∃ S : ByteArray, S = (⟨#[102, 110, 32, 109, 97, 105, 110, 40, 41, 58, 32, 105, 110, 116, 32, 123, 32, 97, 91]⟩ ++ X ++ ⟨#[55]⟩ ++ Y ++ ⟨#[93, 32, 61, 32, 49, 59, 32, 125]⟩ : ByteArray) := ⟨_, rfl⟩
        have hB : Bs S = txO j := by
          rw [hS, bs_app, bs_app, bs_app, bs_app, HX.out.1, HX.out.2]
          show ([102, 110, 32, 109, 97, 105, 110, 40, 41, 58, 32, 105, 110, 116, 32, 123, 32, 97, 91] : Bytes) ++ List.replicate j 40 ++ [55] ++ List.replicate j 41 ++ [93, 32, 61, 32, 49, 59, 32, 125] = headB ++ [97, 91] ++ (List.replicate j 40 ++ 55 :: (List.replicate j 41 ++ [93, 32, 61, 32, 49, 59, 32, 125]))
          rw [show headB ++ [97, 91] = [102, 110, 32, 109, 97, 105, 110, 40, 41, 58, 32, 105, 110, 116, 32, 123, 32, 97, 91] from rfl, List.append_assoc, List.append_assoc, List.append_assoc]
          rfl
        have hSs : S.size ≤ 9223372036854775806 := by
          rw [bs_size, hB]
          simp [txO]
          omega
        have HSE := Lib.hid hS
        clear hS ho
        by_cases hl : j ≤ 198
        · have HC := Lib.hid (parse_O j hl S hB hSs w1 HT1.out)
          clear hB hSs
          go_wp2_with fail
          rw [← HSE.out]
          refine HC.out.mono ?_
          rintro e w2 ⟨hb2, g0, c0, g1, c1, g2, m2, c2, rfl, e0, e1, e2, l0, l1, l2⟩
          have FIN := Lib.hid (HB1.out.trans (hb2.mono HB1.out.size))
          clear hb2
          go_wp2_with fail
          go_ret
          exact ⟨rfl, FIN.out.alloc FIN.out.size _⟩
        · have HC := Lib.hid (parse_O_deep j (by omega) hN26 S hB hSs w1 HT1.out)
          have hl' : 198 < j := by omega
          clear hB hSs hl
          go_wp2_with fail
          rw [← HSE.out]
          refine HC.out.mono ?_
          rintro e w2 ⟨rfl, hb2⟩
          have FIN := Lib.hid (HB1.out.trans (hb2.mono HB1.out.size))
          clear hb2
          go_wp2_with fail
          go_ret
          exact ⟨rfl, FIN.out.alloc FIN.out.size _⟩
      · skip
        have hk2 : (kd : Int) % 2 = 0 := by omega
        obtain ⟨S, hS⟩ : ∃ S : ByteArray, S = (⟨#[102, 110, 32, 109, 97, 105, 110, 40, 41, 58, 32, 105, 110, 116, 32, 123, 32, 114, 101, 116, 117, 114, 110, 32]⟩ ++ X ++ ⟨#[55]⟩ ++ Y ++ ⟨#[59, 32, 125]⟩ : ByteArray) := ⟨_, rfl⟩
        have hB : Bs S = txE j := by
          rw [hS, bs_app, bs_app, bs_app, bs_app, HX.out.1, HX.out.2]
          show ([102, 110, 32, 109, 97, 105, 110, 40, 41, 58, 32, 105, 110, 116, 32, 123, 32, 114, 101, 116, 117, 114, 110, 32] : Bytes) ++ List.replicate j 40 ++ [55] ++ List.replicate j 41 ++ [59, 32, 125] = headB ++ [114, 101, 116, 117, 114, 110, 32] ++ (List.replicate j 40 ++ 55 :: (List.replicate j 41 ++ [59, 32, 125]))
          rw [show headB ++ [114, 101, 116, 117, 114, 110, 32] = [102, 110, 32, 109, 97, 105, 110, 40, 41, 58, 32, 105, 110, 116, 32, 123, 32, 114, 101, 116, 117, 114, 110, 32] from rfl, List.append_assoc, List.append_assoc, List.append_assoc]
          rfl
        have hSs : S.size ≤ 9223372036854775806 := by
          rw [bs_size, hB]
          simp [txE]
          omega
        have HSE := Lib.hid hS
        clear hS ho
        by_cases hl : j ≤ 199
        · have HC := Lib.hid (parse_E j hl S hB hSs w1 HT1.out)
          clear hB hSs
          go_wp2_with fail
          rw [← HSE.out]
          refine HC.out.mono ?_
          rintro e w2 ⟨hb2, g0, c0, g1, c1, g2, m2, c2, rfl, e0, e1, e2, l0, l1, l2⟩
          have FIN := Lib.hid (HB1.out.trans (hb2.mono HB1.out.size))
          clear hb2
          go_wp2_with fail
          go_ret
          exact ⟨rfl, FIN.out.alloc FIN.out.size _⟩
        · have HC := Lib.hid (parse_E_deep j (by omega) hN26 S hB hSs w1 HT1.out)
          have hl' : 199 < j := by omega
          clear hB hSs hl
          go_wp2_with fail
          rw [← HSE.out]
          refine HC.out.mono ?_
          rintro e w2 ⟨rfl, hb2⟩
          have FIN := Lib.hid (HB1.out.trans (hb2.mono HB1.out.size))
          clear hb2
          go_wp2_with fail
          go_ret
          exact ⟨rfl, FIN.out.alloc FIN.out.size _⟩
end Go.Proofs.YtoimhdejfeclpaaGreatDoor
