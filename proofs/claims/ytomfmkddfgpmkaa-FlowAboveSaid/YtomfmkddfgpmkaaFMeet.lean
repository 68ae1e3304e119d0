/-
  The nearest above: going up until it is met.
-/
import Derived.Test.YtomfmkddfgpmkaaFLow2
import Derived.Test.YtomfmkddfgpmkaaFNears
namespace Go.Proofs.Ytomfmkddfgpmkaa
open Go Go.RowKit Fl

theorem Fl.meet_step {near far : List Nat} {h F n : Nat} (hc : h < n) (hF : n < F) (hlt : near.getD n 0 < n) (hft : far.getD n 0 < n) :
    ∃ F', (if h < far.getD n 0 then far.getD n 0 else near.getD n 0) < F' ∧ meetF near far h F n = meetF near far h F' (if h < far.getD n 0 then far.getD n 0 else near.getD n 0) := by
  obtain ⟨F', rfl⟩ : ∃ F', F = F' + 1 := ⟨F - 1, by omega⟩
  refine ⟨F', by split <;> omega, ?_⟩
  show (if h < n then _ else _) = _
  rw [if_pos hc]
theorem Fl.meet_end {near far : List Nat} {h F n : Nat} (hc : ¬ h < n) : meetF near far h F n = n := by
  cases F with
  | zero => rfl
  | succ F => show (if h < n then _ else _) = _; rw [if_neg hc]

/-- Rows of which the boxes are known. -/
structure MeetW (fb nb f n m : Nat) (near far : List Nat) (w : World) : Prop where
  cf : w.cell? ⟨fb, 0, none⟩ = some (.slice (some ⟨f, 0, none⟩) m m)
  cn : w.cell? ⟨nb, 0, none⟩ = some (.slice (some ⟨n, 0, none⟩) m m)
  kf : Blk f (arrN far) 3 w
  kn : Blk n (arrN near) 3 w

set_option maxRecDepth 100000 in
set_option maxHeartbeats 2000000 in
theorem meet_any (fb nb f n m k : Nat) (near far : List Nat) (h v0 : Nat) (hm : m ≤ 60000) (hk : k ≤ m) (hv : v0 < k) (hok : NearOk m k near far) (w : World) (hw : MeetW fb nb f n m near far w) :
    Calls Try.prog 47 #[I (v0 : Int), I (h : Int), .pointer (some ⟨fb, 0, none⟩), .pointer (some ⟨nb, 0, none⟩)] w fun e w' => e = .returned (I ((meetF near far h (v0 + 1) v0 : Nat) : Int)) ∧ w = w' := by
  obtain ⟨M, hM⟩ : ∃ M, M = meetF near far h (v0 + 1) v0 := ⟨_, rfl⟩
  rw [← hM]
  have cf := hw.cf
  have cn := hw.cn
  have H := Lib.hid (And.intro hw (And.intro hok (And.intro hM (And.intro hv (And.intro hk hm)))))
  clear hw hok hM hv hk
  go_enter Try.func47, Try.ntmps47
  go_wp2_with fail
  go_loopw [0] (fun nv wr => ∃ v F : Nat, nv = I (v : Int) ∧ v < k ∧ v < F ∧ meetF near far h F v = M ∧ wr = w) (fun nv _ => (intOf nv).toNat)
  case atStart => exact ⟨v0, v0 + 1, rfl, H.out.2.2.2.1, by omega, H.out.2.2.1.symm, rfl⟩
  case round =>
    obtain ⟨v, F, rfl, hvk, hF, hMe, rfl⟩ := hrel
    by_cases hc : h < v
    · have d0 : decide (h < v) = true := by simpa using hc
      have hvp : 0 < v := by omega
      have hnl := H.out.2.1.nlt v hvp hvk
      have hfl := H.out.2.1.flt v hvp hvk
      obtain ⟨F', hF', e⟩ := Fl.meet_step (near := near) (far := far) hc hF hnl hfl
      have y1 := arrN_at H.out.1.kf (j := v) (by rw [H.out.2.1.fl]; have := H.out.2.2.2.2.1; omega)
      have y2 := arrN_at H.out.1.kn (j := v) (by rw [H.out.2.1.nl]; have := H.out.2.2.2.2.1; omega)
      rw [e] at hMe
      obtain ⟨q, hq⟩ : ∃ q, q = far.getD v 0 := ⟨_, rfl⟩
      obtain ⟨p, hp⟩ : ∃ p, p = near.getD v 0 := ⟨_, rfl⟩
      rw [← hq] at y1 hMe hF' hfl
      rw [← hp] at y2 hMe hF' hnl
      have d1 : (0 : Int) ≤ (v : Int) := by omega
      have d2 : (v : Int) < (m : Int) := by have := H.out.2.2.2.2.1; omega
      have HX := Lib.hid (And.intro hMe (And.intro hF' (And.intro hvk (And.intro hnl hfl))))
      clear hc hF hMe hF' e hvk hvp hq hp hnl hfl
      go_wp2_with fail
      · rename_i hlt
        refine ⟨⟨q, F', rfl, by have := HX.out.2.2.2.2; have := HX.out.2.2.1; omega, by have := HX.out.2.1; rw [if_pos hlt] at this; exact this, by have := HX.out.1; rw [if_pos hlt] at this; exact this, trivial⟩, ?_⟩
        have := HX.out.2.2.2.2
        simp [intOf]; omega
      · rename_i hlt
        refine ⟨⟨p, F', rfl, by have := HX.out.2.2.2.1; have := HX.out.2.2.1; omega, by have := HX.out.2.1; rw [if_neg hlt] at this; exact this, by have := HX.out.1; rw [if_neg hlt] at this; exact this, trivial⟩, ?_⟩
        have := HX.out.2.2.2.1
        simp [intOf]; omega
    · have d0 : decide (h < v) = false := by simpa using hc
      have e := Fl.meet_end (near := near) (far := far) (F := F) hc
      rw [e] at hMe
      subst hMe
      clear hc hF e hvk
      go_wp2_with fail
      go_ret
      exact ⟨rfl, rfl⟩
end Go.Proofs.Ytomfmkddfgpmkaa
