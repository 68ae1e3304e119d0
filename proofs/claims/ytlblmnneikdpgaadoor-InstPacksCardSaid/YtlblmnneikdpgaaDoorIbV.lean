/-
  The document's own way to write a number, walked.
-/
import Derived.Test.YtlblmnneikdpgaaDoorIbW
import Derived.Test.YtlblmnneikdpgaaDoorCdM
import Derived.Test.YtlblmnneikdpgaaDoorIbA
import Derived.Deep.DeepCutAuto
import Derived.Deep.CutBlock
import Derived.Deep.CutRange
namespace Go.Proofs.YtlblmnneikdpgaaDoor
open Go Go.RowKit Ib

set_option maxRecDepth 100000 in
theorem low_any (n : Int) (h : In64 n) (w : World) : Calls Tryd.prog 65 #[I n] w fun e w' => e = .returned (.tuple #[B8 (u64 n % 256), I (n / 256)]) ∧ w = w' := by
  have h1 := and255 h
  have h2 : IntKind.u8.wrap (n % 256) = ((u64 n % 256 : Nat) : Int) := by
    have : n % 256 = ((u64 n % 256 : Nat) : Int) := by unfold u64; omega
    rw [this, wrapB, Nat.mod_mod]
  obtain ⟨b, hb⟩ : ∃ b, b = n % 256 := ⟨_, rfl⟩
  rw [← hb] at h1 h2
  unfold In64 at h
  have b0 : 0 ≤ b := by omega
  have b1 : b < 256 := by omega
  have b2 : -9223372036854775808 ≤ n - b := by omega
  have HB := Lib.hid hb
  clear hb
  go_enter Tryd.func65, Tryd.ntmps65
  go_wp2_with fail
  go_ret2
  have ht : (n - b).tdiv 256 = n / 256 := by
    rw [show n - b = 256 * (n / 256) by have := HB.out; omega]
    exact Int.mul_tdiv_cancel_left _ (by decide)
  refine ⟨?_, rfl⟩
  show Ending.returned (.tuple #[.int .u8 ((u64 n : Int) % 256), I ((n - b).tdiv 256)]) = _
  rw [ht, show ((u64 n : Int) % 256) = ((u64 n % 256 : Nat) : Int) by omega]

def lenOf : Value → Nat
  | .slice _ m _ => m
  | _ => 0
def NmR (w : World) (n : Int) (sign : Bool) (nv pv lv : Value) (W : World) : Prop := ∃ k : Nat, k ≤ nmK sign n ∧ nv = I (Nk n k) ∧ lv = B8 (lastK n k) ∧ W.ownsRow w.heap.size 5 1 pv k (bys (leB (u64 n) k)) ∧ Below w.heap.size w W
/-- A list of bytes of one's own. -/
def OwnB (w : World) (m : List Nat) (W : World) (e : Ending) : Prop := ∃ v, e = .returned v ∧ W.ownsRow w.heap.size 5 1 v m.length (bys m) ∧ Below w.heap.size w W
theorem Nk_in {n : Int} (h : In64 n) (k : Nat) : In64 (Nk n k) := by
  induction k with
  | zero => rw [Nk_zero]; exact h
  | succ k ih => rw [Nk_succ]; unfold In64 at *; omega
theorem own_start {w W : World} : W.ownsRow w.heap.size 5 1 (.slice none 0 0) 0 (bys []) := ⟨rfl, Or.inl ⟨rfl, rfl⟩⟩

def NmS (bs : Bool) (k q : Nat) (z : Int) : Prop := (z ≠ 0 ∧ z ≠ -1) ∨ (z = -1 ∧ (k = 0 ∨ q < 128)) ∨ (z = 0 ∧ bs = true ∧ 0 < k ∧ 127 < q)
set_option maxRecDepth 100000 in
set_option maxHeartbeats 3200000 in
theorem number_r (n : Int) (sign : Bool) (h : In64 n) (hs : sign = false → 0 ≤ n) (w : World) : Calls Tryd.prog 44 #[I n, .bool sign] w fun e w' => OwnB w (nmB sign n) w' e := by
  obtain ⟨i1, p1, p2, p3, p4⟩ := info_parts infoB
  have HM := Lib.hid (And.intro p1 (And.intro p2 (And.intro p3 p4)))
  clear p1 p2 p3 p4
  obtain ⟨K, hK⟩ : ∃ K, K = nmK sign n := ⟨_, rfl⟩
  have hK8 : K ≤ 8 := by rw [hK]; exact nmK_8 sign n h
  have HST := Lib.hid (show NmR w n sign (I n) (.slice none 0 0) (B8 0) w from ⟨0, Nat.zero_le _, by rw [Nk_zero], rfl, own_start, Below.refl _ _⟩)
  have HH := Lib.hid (And.intro h (And.intro hs (And.intro hK hK8)))
  clear h hs hK hK8
  go_enter Tryd.func44, Tryd.ntmps44
  go_wp2_with fail
  go_loopw [0, 5, 6] (fun nv pv lv W => NmR w n sign nv pv lv W) (fun _ pv _ _ => K - lenOf pv)
  case atStart => exact HST.out
  case round =>
    obtain ⟨k, hk, rfl, rfl, hown, hbe⟩ := hrel
    clear HST
    have hgo := Goes_iff HH.out.1 HH.out.2.1 (by have := HH.out.2.2.1; have := HH.out.2.2.2; omega : k ≤ 8)
    obtain ⟨a0, c0, hv⟩ : ∃ a c, u5 = .slice a k c := by
      rcases own_slice hown with ⟨e, e2⟩ | ⟨g, c, e⟩
      · exact ⟨none, 0, by rw [e, e2]⟩
      · exact ⟨_, _, e⟩
    subst hv
    obtain ⟨z, hz⟩ : ∃ z, z = Nk n k := ⟨_, rfl⟩
    obtain ⟨q, hq⟩ : ∃ q, q = lastK n k := ⟨_, rfl⟩
    rw [← hq] at hgo ⊢
    rw [← hz]
    have hgo' : NmS sign k q z ↔ k < K := by
      rw [HH.out.2.2.1, ← hgo, hz]
      exact Iff.rfl
    by_cases hkK : k < K
    · have hg := hgo'.2 hkK
      have HX := Lib.hid (And.intro hown (And.intro hbe (And.intro hz (And.intro hk hkK))))
      clear hgo hgo' hown hbe hz hq hk hkK
      unfold NmS at hg
      rcases hg with ⟨h0, h1⟩ | ⟨rfl, hg⟩ | ⟨rfl, rfl, h3, h4⟩
      · have g0 : (z != 0) = true := by simpa using h0
        have g1 : (z != -1) = true := by simpa using h1
        clear h0 h1
        have HL := Lib.hid (low_any z (by rw [HX.out.2.2.1]; exact Nk_in HH.out.1 k) wr)
        have hqb : u64 z % 256 = byteK n k := by
          have h1 := Nk_byte n k (by have := HH.out.2.2.2; have := HX.out.2.2.2.2; omega)
          rw [← HX.out.2.2.1] at h1
          have : ((u64 z % 256 : Nat) : Int) = z % 256 := by unfold u64; omega
          omega
        rw [hqb] at HL
        obtain ⟨q2, hq2⟩ : ∃ q2, q2 = byteK n k := ⟨_, rfl⟩
        rw [← hq2] at HL
        obtain ⟨z2, hz2⟩ : ∃ z2 : Int, z2 = z / 256 := ⟨_, rfl⟩
        rw [← hz2] at HL
        have hz3 : z2 = Nk n (k + 1) := by rw [hz2, Nk_succ, ← HX.out.2.2.1]
        have hl2 : q2 = lastK n (k + 1) := hq2
        have hle : leB (u64 n) (k + 1) = leB (u64 n) k ++ [q2] := by rw [leB_byteK, ← hq2]
        have HY := Lib.hid (And.intro hz3 (And.intro hl2 hle))
        clear hqb hq2 hz2 hz3 hl2 hle
        go_wp2_with (first | (at_builtin; refine Hid.out ?_) | (go_at_call 65; refine HL.out.mono ?_; rintro e w1 ⟨rfl, hw1⟩))
        unfold Hid
        subst hw1
        refine wpList_append_lies _ rfl (.tmp 47) (.tmp 49) 24 rfl w.heap.size 5 i1 (B8 0) 1 1 Tryd.underlying24 HM.out.1 HM.out.2.1 HM.out.2.2.1 HM.out.2.2.2 rfl (by decide) (.slice a0 k c0) k (bys (leB (u64 n) k)) rfl (HX.out.1.alloc _) ⟨wr.heap.size, 0, none⟩ 1 1 [B8 q2] rfl rfl (World.news_of_block (heap_alloc_new wr _)) (by simp [Value.oneCell']) (by decide) (by have := HH.out.2.2.2; have := HX.out.2.2.2.2; unfold maxLen; omega) (by have := HH.out.2.2.2; have := HX.out.2.2.2.2; omega) (by have := HX.out.2.1.size; simp; omega) _ rfl ?_
        intro g cg w3 hown hgr hat hlt
        have HN := Lib.hid (show NmR w n sign (I z2) (.slice (some ⟨g, 0, none⟩) (k + 1) cg) (B8 q2) w3 from ⟨k + 1, by rw [← HH.out.2.2.1]; exact HX.out.2.2.2.2, by rw [HY.out.1], by rw [HY.out.2.1], by rw [HY.out.2.2, show bys (leB (u64 n) k ++ [q2]) = bys (leB (u64 n) k) ++ [B8 q2] by simp]; exact hown, (HX.out.2.1.alloc HX.out.2.1.size _).grown hgr (by have := HX.out.2.1.size; simp; omega) (fun x hx => (HX.out.1.lt x hx).1)⟩)
        have HT := Lib.hid HX.out.2.2.2.2
        clear hown hgr hat hlt HY
        go_wp2_with fail
        exact ⟨HN.out, by have := HT.out; simp [lenOf]; omega⟩
      · by_cases hk0 : k = 0
        · subst hk0
          clear hg
          have HL := Lib.hid (low_any (-1) (by rw [HX.out.2.2.1]; exact Nk_in HH.out.1 0) wr)
          have hqb : u64 (-1) % 256 = byteK n 0 := by
            have h1 := Nk_byte n 0 (by have := HH.out.2.2.2; have := HX.out.2.2.2.2; omega)
            rw [← HX.out.2.2.1] at h1
            have : ((u64 (-1) % 256 : Nat) : Int) = (-1) % 256 := by unfold u64; omega
            omega
          rw [hqb] at HL
          obtain ⟨q2, hq2⟩ : ∃ q2, q2 = byteK n 0 := ⟨_, rfl⟩
          rw [← hq2] at HL
          obtain ⟨z2, hz2⟩ : ∃ z2 : Int, z2 = (-1) / 256 := ⟨_, rfl⟩
          rw [← hz2] at HL
          have hz3 : z2 = Nk n (0 + 1) := by rw [hz2, Nk_succ, ← HX.out.2.2.1]
          have hl2 : q2 = lastK n (0 + 1) := hq2
          have hle : leB (u64 n) (0 + 1) = leB (u64 n) 0 ++ [q2] := by rw [leB_byteK, ← hq2]
          have HY := Lib.hid (And.intro hz3 (And.intro hl2 hle))
          clear hqb hq2 hz2 hz3 hl2 hle
          go_wp2_with (first | (at_builtin; refine Hid.out ?_) | (go_at_call 65; refine HL.out.mono ?_; rintro e w1 ⟨rfl, hw1⟩))
          unfold Hid
          subst hw1
          refine wpList_append_lies _ rfl (.tmp 47) (.tmp 49) 24 rfl w.heap.size 5 i1 (B8 0) 1 1 Tryd.underlying24 HM.out.1 HM.out.2.1 HM.out.2.2.1 HM.out.2.2.2 rfl (by decide) (.slice a0 0 c0) 0 (bys (leB (u64 n) 0)) rfl (HX.out.1.alloc _) ⟨wr.heap.size, 0, none⟩ 1 1 [B8 q2] rfl rfl (World.news_of_block (heap_alloc_new wr _)) (by simp [Value.oneCell']) (by decide) (by have := HH.out.2.2.2; have := HX.out.2.2.2.2; unfold maxLen; omega) (by have := HH.out.2.2.2; have := HX.out.2.2.2.2; omega) (by have := HX.out.2.1.size; simp; omega) _ rfl ?_
          intro g cg w3 hown hgr hat hlt
          have HN := Lib.hid (show NmR w n sign (I z2) (.slice (some ⟨g, 0, none⟩) (0 + 1) cg) (B8 q2) w3 from ⟨0 + 1, by rw [← HH.out.2.2.1]; exact HX.out.2.2.2.2, by rw [HY.out.1], by rw [HY.out.2.1], by rw [HY.out.2.2, show bys (leB (u64 n) 0 ++ [q2]) = bys (leB (u64 n) 0) ++ [B8 q2] by simp]; exact hown, (HX.out.2.1.alloc HX.out.2.1.size _).grown hgr (by have := HX.out.2.1.size; simp; omega) (fun x hx => (HX.out.1.lt x hx).1)⟩)
          have HT := Lib.hid HX.out.2.2.2.2
          clear hown hgr hat hlt HY
          go_wp2_with fail
          exact ⟨HN.out, by have := HT.out; simp [lenOf]; omega⟩
        · have h5 : q < 128 := by omega
          have g0 : ((k : Int) == 0) = false := by simpa using hk0
          have g1 : decide ((q : Int) < 128) = true := by simp; omega
          clear hg hk0 h5
          have HL := Lib.hid (low_any (-1) (by rw [HX.out.2.2.1]; exact Nk_in HH.out.1 k) wr)
          have hqb : u64 (-1) % 256 = byteK n k := by
            have h1 := Nk_byte n k (by have := HH.out.2.2.2; have := HX.out.2.2.2.2; omega)
            rw [← HX.out.2.2.1] at h1
            have : ((u64 (-1) % 256 : Nat) : Int) = (-1) % 256 := by unfold u64; omega
            omega
          rw [hqb] at HL
          obtain ⟨q2, hq2⟩ : ∃ q2, q2 = byteK n k := ⟨_, rfl⟩
          rw [← hq2] at HL
          obtain ⟨z2, hz2⟩ : ∃ z2 : Int, z2 = (-1) / 256 := ⟨_, rfl⟩
          rw [← hz2] at HL
          have hz3 : z2 = Nk n (k + 1) := by rw [hz2, Nk_succ, ← HX.out.2.2.1]
          have hl2 : q2 = lastK n (k + 1) := hq2
          have hle : leB (u64 n) (k + 1) = leB (u64 n) k ++ [q2] := by rw [leB_byteK, ← hq2]
          have HY := Lib.hid (And.intro hz3 (And.intro hl2 hle))
          clear hqb hq2 hz2 hz3 hl2 hle
          go_wp2_with (first | (at_builtin; refine Hid.out ?_) | (go_at_call 65; refine HL.out.mono ?_; rintro e w1 ⟨rfl, hw1⟩))
          unfold Hid
          subst hw1
          refine wpList_append_lies _ rfl (.tmp 47) (.tmp 49) 24 rfl w.heap.size 5 i1 (B8 0) 1 1 Tryd.underlying24 HM.out.1 HM.out.2.1 HM.out.2.2.1 HM.out.2.2.2 rfl (by decide) (.slice a0 k c0) k (bys (leB (u64 n) k)) rfl (HX.out.1.alloc _) ⟨wr.heap.size, 0, none⟩ 1 1 [B8 q2] rfl rfl (World.news_of_block (heap_alloc_new wr _)) (by simp [Value.oneCell']) (by decide) (by have := HH.out.2.2.2; have := HX.out.2.2.2.2; unfold maxLen; omega) (by have := HH.out.2.2.2; have := HX.out.2.2.2.2; omega) (by have := HX.out.2.1.size; simp; omega) _ rfl ?_
          intro g cg w3 hown hgr hat hlt
          have HN := Lib.hid (show NmR w n sign (I z2) (.slice (some ⟨g, 0, none⟩) (k + 1) cg) (B8 q2) w3 from ⟨k + 1, by rw [← HH.out.2.2.1]; exact HX.out.2.2.2.2, by rw [HY.out.1], by rw [HY.out.2.1], by rw [HY.out.2.2, show bys (leB (u64 n) k ++ [q2]) = bys (leB (u64 n) k) ++ [B8 q2] by simp]; exact hown, (HX.out.2.1.alloc HX.out.2.1.size _).grown hgr (by have := HX.out.2.1.size; simp; omega) (fun x hx => (HX.out.1.lt x hx).1)⟩)
          have HT := Lib.hid HX.out.2.2.2.2
          clear hown hgr hat hlt HY
          go_wp2_with fail
          exact ⟨HN.out, by have := HT.out; simp [lenOf]; omega⟩
      · have g1 : decide ((127 : Int) < (q : Int)) = true := by simp; omega
        clear h4
        have HL := Lib.hid (low_any 0 (by rw [HX.out.2.2.1]; exact Nk_in HH.out.1 k) wr)
        have hqb : u64 0 % 256 = byteK n k := by
          have h1 := Nk_byte n k (by have := HH.out.2.2.2; have := HX.out.2.2.2.2; omega)
          rw [← HX.out.2.2.1] at h1
          have : ((u64 0 % 256 : Nat) : Int) = 0 % 256 := by unfold u64; omega
          omega
        rw [hqb] at HL
        obtain ⟨q2, hq2⟩ : ∃ q2, q2 = byteK n k := ⟨_, rfl⟩
        rw [← hq2] at HL
        obtain ⟨z2, hz2⟩ : ∃ z2 : Int, z2 = 0 / 256 := ⟨_, rfl⟩
        rw [← hz2] at HL
        have hz3 : z2 = Nk n (k + 1) := by rw [hz2, Nk_succ, ← HX.out.2.2.1]
        have hl2 : q2 = lastK n (k + 1) := hq2
        have hle : leB (u64 n) (k + 1) = leB (u64 n) k ++ [q2] := by rw [leB_byteK, ← hq2]
        have HY := Lib.hid (And.intro hz3 (And.intro hl2 hle))
        clear hqb hq2 hz2 hz3 hl2 hle
        go_wp2_with (first | (at_builtin; refine Hid.out ?_) | (go_at_call 65; refine HL.out.mono ?_; rintro e w1 ⟨rfl, hw1⟩))
        unfold Hid
        subst hw1
        refine wpList_append_lies _ rfl (.tmp 47) (.tmp 49) 24 rfl w.heap.size 5 i1 (B8 0) 1 1 Tryd.underlying24 HM.out.1 HM.out.2.1 HM.out.2.2.1 HM.out.2.2.2 rfl (by decide) (.slice a0 k c0) k (bys (leB (u64 n) k)) rfl (HX.out.1.alloc _) ⟨wr.heap.size, 0, none⟩ 1 1 [B8 q2] rfl rfl (World.news_of_block (heap_alloc_new wr _)) (by simp [Value.oneCell']) (by decide) (by have := HH.out.2.2.2; have := HX.out.2.2.2.2; unfold maxLen; omega) (by have := HH.out.2.2.2; have := HX.out.2.2.2.2; omega) (by have := HX.out.2.1.size; simp; omega) _ rfl ?_
        intro g cg w3 hown hgr hat hlt
        have HN := Lib.hid (show NmR w n true (I z2) (.slice (some ⟨g, 0, none⟩) (k + 1) cg) (B8 q2) w3 from ⟨k + 1, by rw [← HH.out.2.2.1]; exact HX.out.2.2.2.2, by rw [HY.out.1], by rw [HY.out.2.1], by rw [HY.out.2.2, show bys (leB (u64 n) k ++ [q2]) = bys (leB (u64 n) k) ++ [B8 q2] by simp]; exact hown, (HX.out.2.1.alloc HX.out.2.1.size _).grown hgr (by have := HX.out.2.1.size; simp; omega) (fun x hx => (HX.out.1.lt x hx).1)⟩)
        have HT := Lib.hid HX.out.2.2.2.2
        clear hown hgr hat hlt HY
        go_wp2_with fail
        exact ⟨HN.out, by have := HT.out; simp [lenOf]; omega⟩
    · have hg : ¬ NmS sign k q z := fun e => hkK (hgo'.1 e)
      have HX := Lib.hid (And.intro hown (And.intro hbe (And.intro hz (And.intro hk hkK))))
      clear hgo hgo' hown hbe hz hq hk hkK
      unfold NmS at hg
      by_cases h0 : z = 0
      · subst h0
        cases sign with
        | false =>
          clear hg
          have HY := Lib.hid (show k = nmK false n from by have := HX.out.2.2.2.2; have := HX.out.2.2.2.1; have := HH.out.2.2.1; omega)
          have hwb : IntKind.u8.wrap ((k : Nat) : Int) = ((k : Nat) : Int) := by rw [wrapB, Nat.mod_eq_of_lt (by have := HH.out.2.2.2; have := HH.out.2.2.1; have := HY.out; omega)]
          go_wp2_with (at_builtin; refine Hid.out ?_)
          unfold Hid
          refine wpList_append_b rfl (.tmp 54) (.tmp 55) rfl w.heap.size (.slice (some ⟨wr.heap.size, 0, none⟩) 1 1) (.slice a0 k c0) 1 [B8 k] rfl ((Blk.new wr #[B8 k] 5).owns HX.out.2.1.size (by decide) (by simp)) rfl (leB (u64 n) k) _ (own_bytes (HX.out.1.alloc _)) (Or.inl (by simp [Value.ownBlock])) (by rw [leB_len]; have := HH.out.2.2.2; have := HH.out.2.2.1; have := HY.out; omega) (by have := HX.out.2.1.size; simp; omega) ?_
          intro v3 w3 hown hgr hat
          have FIN := Lib.hid (show OwnB w (nmB false n) w3 (.returned v3) from ⟨v3, rfl, by
            have e : nmB false n = k :: leB (u64 n) k := by unfold nmB; rw [← HY.out]
            rw [e, List.length_cons, Nat.add_comm]
            rw [leB_len] at hown ⊢
            exact hown, (HX.out.2.1.alloc HX.out.2.1.size _).grown hgr (by have := HX.out.2.1.size; simp; omega) (fun x hx => by cases hx; exact HX.out.2.1.size)⟩)
          clear hown hgr hat
          go_wp2_with fail
          go_ret
          exact FIN.out
        | true =>
          by_cases hk0 : k = 0
          · subst hk0
            clear hg
            have HY := Lib.hid (show 0 = nmK true n from by have := HX.out.2.2.2.2; have := HX.out.2.2.2.1; have := HH.out.2.2.1; omega)
            have hwb : IntKind.u8.wrap ((0 : Nat) : Int) = ((0 : Nat) : Int) := by rw [wrapB, Nat.mod_eq_of_lt (by have := HH.out.2.2.2; have := HH.out.2.2.1; have := HY.out; omega)]
            go_wp2_with (at_builtin; refine Hid.out ?_)
            unfold Hid
            refine wpList_append_b rfl (.tmp 54) (.tmp 55) rfl w.heap.size (.slice (some ⟨wr.heap.size, 0, none⟩) 1 1) (.slice a0 0 c0) 1 [B8 0] rfl ((Blk.new wr #[B8 0] 5).owns HX.out.2.1.size (by decide) (by simp)) rfl (leB (u64 n) 0) _ (own_bytes (HX.out.1.alloc _)) (Or.inl (by simp [Value.ownBlock])) (by rw [leB_len]; have := HH.out.2.2.2; have := HH.out.2.2.1; have := HY.out; omega) (by have := HX.out.2.1.size; simp; omega) ?_
            intro v3 w3 hown hgr hat
            have FIN := Lib.hid (show OwnB w (nmB true n) w3 (.returned v3) from ⟨v3, rfl, by
              have e : nmB true n = 0 :: leB (u64 n) 0 := by unfold nmB; rw [← HY.out]
              rw [e, List.length_cons, Nat.add_comm]
              rw [leB_len] at hown ⊢
              exact hown, (HX.out.2.1.alloc HX.out.2.1.size _).grown hgr (by have := HX.out.2.1.size; simp; omega) (fun x hx => by cases hx; exact HX.out.2.1.size)⟩)
            clear hown hgr hat
            go_wp2_with fail
            go_ret
            exact FIN.out
          · have h3 : 0 < k := by omega
            have g1 : decide ((127 : Int) < (q : Int)) = false := by simp; simp at hg; omega
            clear hg hk0
            have HY := Lib.hid (show k = nmK true n from by have := HX.out.2.2.2.2; have := HX.out.2.2.2.1; have := HH.out.2.2.1; omega)
            have hwb : IntKind.u8.wrap ((k : Nat) : Int) = ((k : Nat) : Int) := by rw [wrapB, Nat.mod_eq_of_lt (by have := HH.out.2.2.2; have := HH.out.2.2.1; have := HY.out; omega)]
            go_wp2_with (at_builtin; refine Hid.out ?_)
            unfold Hid
            refine wpList_append_b rfl (.tmp 54) (.tmp 55) rfl w.heap.size (.slice (some ⟨wr.heap.size, 0, none⟩) 1 1) (.slice a0 k c0) 1 [B8 k] rfl ((Blk.new wr #[B8 k] 5).owns HX.out.2.1.size (by decide) (by simp)) rfl (leB (u64 n) k) _ (own_bytes (HX.out.1.alloc _)) (Or.inl (by simp [Value.ownBlock])) (by rw [leB_len]; have := HH.out.2.2.2; have := HH.out.2.2.1; have := HY.out; omega) (by have := HX.out.2.1.size; simp; omega) ?_
            intro v3 w3 hown hgr hat
            have FIN := Lib.hid (show OwnB w (nmB true n) w3 (.returned v3) from ⟨v3, rfl, by
              have e : nmB true n = k :: leB (u64 n) k := by unfold nmB; rw [← HY.out]
              rw [e, List.length_cons, Nat.add_comm]
              rw [leB_len] at hown ⊢
              exact hown, (HX.out.2.1.alloc HX.out.2.1.size _).grown hgr (by have := HX.out.2.1.size; simp; omega) (fun x hx => by cases hx; exact HX.out.2.1.size)⟩)
            clear hown hgr hat
            go_wp2_with fail
            go_ret
            exact FIN.out
      · have h1 : z = -1 := by omega
        subst h1
        have hk0 : ((k : Int) == 0) = false := by simp; omega
        have g1 : decide ((q : Int) < 128) = false := by simp; omega
        clear hg h0
        have HY := Lib.hid (show k = nmK sign n from by have := HX.out.2.2.2.2; have := HX.out.2.2.2.1; have := HH.out.2.2.1; omega)
        have hwb : IntKind.u8.wrap ((k : Nat) : Int) = ((k : Nat) : Int) := by rw [wrapB, Nat.mod_eq_of_lt (by have := HH.out.2.2.2; have := HH.out.2.2.1; have := HY.out; omega)]
        go_wp2_with (at_builtin; refine Hid.out ?_)
        unfold Hid
        refine wpList_append_b rfl (.tmp 54) (.tmp 55) rfl w.heap.size (.slice (some ⟨wr.heap.size, 0, none⟩) 1 1) (.slice a0 k c0) 1 [B8 k] rfl ((Blk.new wr #[B8 k] 5).owns HX.out.2.1.size (by decide) (by simp)) rfl (leB (u64 n) k) _ (own_bytes (HX.out.1.alloc _)) (Or.inl (by simp [Value.ownBlock])) (by rw [leB_len]; have := HH.out.2.2.2; have := HH.out.2.2.1; have := HY.out; omega) (by have := HX.out.2.1.size; simp; omega) ?_
        intro v3 w3 hown hgr hat
        have FIN := Lib.hid (show OwnB w (nmB sign n) w3 (.returned v3) from ⟨v3, rfl, by
          have e : nmB sign n = k :: leB (u64 n) k := by unfold nmB; rw [← HY.out]
          rw [e, List.length_cons, Nat.add_comm]
          rw [leB_len] at hown ⊢
          exact hown, (HX.out.2.1.alloc HX.out.2.1.size _).grown hgr (by have := HX.out.2.1.size; simp; omega) (fun x hx => by cases hx; exact HX.out.2.1.size)⟩)
        clear hown hgr hat
        go_wp2_with fail
        go_ret
        exact FIN.out
end Go.Proofs.YtlblmnneikdpgaaDoor
