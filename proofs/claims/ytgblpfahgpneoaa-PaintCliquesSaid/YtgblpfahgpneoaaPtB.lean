/-
  The best colour.
-/
import Derived.Test.YtgblpfahgpneoaaPtS
namespace Go.Proofs.Ytgblpfahgpneoaa
open Go Go.RowKit

/-- The best of the colours below j: the first with most. -/
structure BestP (free : Nat → Bool) (S : Nat → Int) (j : Nat) (b : Int) : Prop where
  lo : -1 ≤ b
  hi : b < j
  no : b = -1 → ∀ c, c < j → free c = false
  yes : ∀ m : Nat, b = (m : Int) → free m = true ∧ (∀ c, c < j → free c = true → S c ≤ S m) ∧ ∀ c, c < m → free c = true → S c < S m
theorem BestP.start (free : Nat → Bool) (S : Nat → Int) : BestP free S 0 (-1) := ⟨by omega, by omega, fun _ c hc => absurd hc (by omega), fun m h => by omega⟩
theorem BestP.skip {free : Nat → Bool} {S : Nat → Int} {j : Nat} {b : Int} (h : BestP free S j b) (hf : free j = false) : BestP free S (j + 1) b :=
  ⟨h.lo, by have := h.hi; omega, fun e c hc => by
    by_cases e2 : c = j
    · rw [e2]; exact hf
    · exact h.no e c (by omega), fun m e => ⟨(h.yes m e).1, fun c hc hfc => by
    by_cases e2 : c = j
    · rw [e2, hf] at hfc; cases hfc
    · exact (h.yes m e).2.1 c (by omega) hfc, (h.yes m e).2.2⟩⟩
theorem BestP.less {free : Nat → Bool} {S : Nat → Int} {j m : Nat} (h : BestP free S j (m : Int)) (hs : S j ≤ S m) : BestP free S (j + 1) (m : Int) :=
  ⟨h.lo, by have := h.hi; omega, fun e => by omega, fun m' e => by
    obtain rfl : m' = m := by omega
    exact ⟨(h.yes m' rfl).1, fun c hc hfc => by
      by_cases e2 : c = j
      · rw [e2]; exact hs
      · exact (h.yes m' rfl).2.1 c (by omega) hfc, (h.yes m' rfl).2.2⟩⟩
theorem BestP.more {free : Nat → Bool} {S : Nat → Int} {j : Nat} {b : Int} (h : BestP free S j b) (hf : free j = true) (hs : ∀ m : Nat, b = (m : Int) → S m < S j) : BestP free S (j + 1) (j : Int) :=
  ⟨by omega, by omega, fun e => by omega, fun m e => by
    obtain rfl : m = j := by omega
    have hlt : ∀ c, c < m → free c = true → S c < S m := fun c hc hfc => by
      by_cases e2 : b = -1
      · rw [h.no e2 c hc] at hfc; cases hfc
      · obtain ⟨q, hq⟩ : ∃ q : Nat, b = (q : Int) := ⟨b.toNat, by have := h.lo; omega⟩
        have h1 := (h.yes q hq).2.1 c hc hfc
        have h2 := hs q hq
        omega
    exact ⟨hf, fun c hc hfc => by
      by_cases e2 : c = m
      · rw [e2]; exact Int.le_refl _
      · have := hlt c (by omega) hfc; omega, hlt⟩⟩

def BestT (w : World) (T : Nat → Nat) (S : Nat → Int) (v k : Nat) (W : World) (e : Ending) : Prop := ∃ b, e = .returned (I b) ∧ BestP (fun c => !tk T v c) S k b ∧ Below w.heap.size w W
def Be1 (w : World) (T : Nat → Nat) (S : Nat → Int) (v k bs : Nat) (bv jv : Value) (W : World) : Prop := ∃ (j : Nat) (b : Int), j ≤ k ∧ jv = I (j : Int) ∧ bv = I b ∧ BestP (fun c => !tk T v c) S j b ∧ Blk bs (arrF 16 fun c => I (S c)) 56 W ∧ Below w.heap.size w W

set_option maxRecDepth 100000 in
set_option maxHeartbeats 1600000 in
theorem best_any {n : Nat} {nr lk : Nat → List Nat} {k base bp bc bw bt : Nat} {nv lv : Value} {C Wh : Nat → Int} {T : Nat → Nat} (v : Nat) (hv : v < n) (hok : PtOK n nr lk k C Wh T) (w : World) (h : Pain n nr lk k base bp bc bw bt nv lv C Wh T w) :
    Calls Try.prog 21 #[.pointer (some ⟨bp, 0, none⟩), I (v : Int)] w fun e w' => BestT w T (fun c => slS C T k (lk v) c - wnS C Wh (nr v) c) v k w' e := by
  obtain ⟨S, hS⟩ : ∃ S : Nat → Int, S = fun c => slS C T k (lk v) c - wnS C Wh (nr v) c := ⟨_, rfl⟩
  have HSU := Lib.hid (suits_any v hv hok w h)
  rw [← hS] at HSU ⊢
  have x2 := h.pb.get 2 (I (k : Int)) rfl
  have HH := Lib.hid (And.intro h (And.intro hok hv))
  have e4 : (k : Int) ≤ 16 := by have := hok.hk; omega
  clear h hok hv hS
  go_enter Try.func21, Try.ntmps21
  go_upto_region 2 with (go_at_call 23; refine (HSU.out).mono ?_; rintro e w2 ⟨rfl, hb2⟩; rw [arr16])
  obtain ⟨W, hW⟩ : ∃ W, W = (w2.alloc (.cells (arrF 16 fun c => I (S c)) 56)) := ⟨_, rfl⟩
  have HW0 := Lib.hid hW
  change Code.wp _ _ _ _ (w2.alloc (.cells (arrF 16 fun c => I (S c)) 56))
  rw [← HW0.out]
  have hbk : Blk w2.heap.size (arrF 16 fun c => I (S c)) 56 W := by
    rw [hW]
    exact Blk.new _ _ _
  have hbe : Below w2.heap.size w2 W := by
    rw [hW]
    exact (Below.refl _ _).alloc (Nat.le_refl _) _
  have hbw : Below w.heap.size w W := hb2.trans (hbe.mono hb2.size)
  obtain ⟨bs, hbs⟩ : ∃ b, b = w2.heap.size := ⟨_, rfl⟩
  rw [← hbs] at hbk
  have HBS := Lib.hid (show w.heap.size ≤ bs by rw [hbs]; exact hb2.size)
  rw [← hbs]
  have y2 := cell_below hbw HH.out.1.pb.lt x2
  have HS := Lib.hid (show Be1 w T S v k bs (I (-1)) (I 0) W from ⟨0, -1, Nat.zero_le _, rfl, rfl, BestP.start _ _, hbk, hbw⟩)
  clear hW hbk hbe hbw hbs x2 hb2 HW0
  go_wp2_with fail
  go_loopw [6, 15] (fun bv jv wr => Be1 w T S v k bs bv jv wr) (fun _ jv _ => k - (intOf jv).toNat)
  case atStart => exact HS.out
  case round =>
    obtain ⟨j, b, hj, rfl, rfl, hbp, hbk, hbe⟩ := hrel
    by_cases hlt : j < k
    · have hj16 : j < 16 := by have := HH.out.2.1.hk; omega
      have hpn := HH.out.1.below hbe
      have d4 : decide (j < k) = true := by simpa using hlt
      have d7 : (0 : Int) ≤ (j : Int) := by omega
      have d8 : (j : Int) < 16 := by omega
      have HM := Lib.hid (fun m => may_at v j HH.out.2.2 hj16 HH.out.2.1.hn HH.out.2.1.t wr hpn m)
      obtain ⟨sj, hsj⟩ : ∃ s, s = S j := ⟨_, rfl⟩
      have z1 := hbk.get j (I sj) (by rw [arrF_get _ hj16, hsj])
      have NEXT := Lib.hid (fun (b' : Int) (hb' : BestP (fun c => !tk T v c) S (j + 1) b') (q : Nat) => (show Be1 w T S v k bs (I b') (I ((j : Int) + 1)) (wr.drewN q) from ⟨j + 1, b', hlt, rfl, rfl, hb', hbk.drewN q, below_drewN hbe q⟩))
      have HQ := Lib.hid (And.intro hlt hbp)
      by_cases h3 : tk T v j = true
      · have HN := Lib.hid (NEXT.out b (hbp.skip (by simp [h3])))
        clear hbe hlt hpn hj16 hbp hbk hsj z1
        go_upto_region 6 with (fail)
        go_quiet ((go_at_call 24; have hm := HM.out; simp only [h3, Bool.not_true] at hm; exact hm _))
        go_wp2_with fail
        exact ⟨HN.out _, by have := HQ.out.1; simp [intOf]; omega⟩
      · have h3 : tk T v j = false := by simpa using h3
        by_cases h4 : b = -1
        · subst h4
          have HN := Lib.hid (NEXT.out j (hbp.more (by simp [h3]) (fun m e => by omega)))
          clear hbe hlt hpn hj16 hbp hbk hsj z1
          go_upto_region 6 with (fail)
          go_quiet ((go_at_call 24; have hm := HM.out; simp only [h3, Bool.not_false] at hm; exact hm _))
          go_wp2_with fail
          exact ⟨HN.out _, by have := HQ.out.1; simp [intOf]; omega⟩
        · obtain ⟨m, hm⟩ : ∃ m : Nat, b = (m : Int) := ⟨b.toNat, by have := hbp.lo; omega⟩
          subst hm
          have g1 : ((m : Int) == -1) = false := by simp
          have hmj := hbp.hi
          have hm16 : m < 16 := by omega
          obtain ⟨sm, hsm⟩ : ∃ s, s = S m := ⟨_, rfl⟩
          have z2 := hbk.get m (I sm) (by rw [arrF_get _ hm16, hsm])
          have d9 : (0 : Int) ≤ (m : Int) := by omega
          have d10 : (m : Int) < 16 := by omega
          by_cases h5 : sm < sj
          · have d11 : decide (sm < sj) = true := by simpa using h5
            have HN := Lib.hid (NEXT.out j (hbp.more (by simp [h3]) (fun m' e => by
              obtain rfl : m' = m := by omega
              rw [← hsj, ← hsm]; exact h5)))
            clear hbe hlt hpn hj16 hbp hbk hsj hsm hmj h4
            go_upto_region 6 with (fail)
            go_quiet ((go_at_call 24; have hm := HM.out; simp only [h3, Bool.not_false] at hm; exact hm _))
            go_wp2_with fail
            exact ⟨HN.out _, by have := HQ.out.1; simp [intOf]; omega⟩
          · have d11 : decide (sm < sj) = false := by simpa using h5
            have HN := Lib.hid (NEXT.out m (hbp.less (by rw [← hsj, ← hsm]; omega)))
            clear hbe hlt hpn hj16 hbp hbk hsj hsm hmj h4
            go_upto_region 6 with (fail)
            go_quiet ((go_at_call 24; have hm := HM.out; simp only [h3, Bool.not_false] at hm; exact hm _))
            go_wp2_with fail
            exact ⟨HN.out _, by have := HQ.out.1; simp [intOf]; omega⟩
    · have d4 : decide (j < k) = false := by simpa using hlt
      obtain rfl : j = k := by omega
      have FIN := Lib.hid (show BestT w T S v j wr (.returned (I b)) from ⟨b, rfl, hbp, hbe⟩)
      clear hbe hlt hbp hbk hj
      go_wp2_with fail
      go_ret
      exact FIN.out
end Go.Proofs.Ytgblpfahgpneoaa
