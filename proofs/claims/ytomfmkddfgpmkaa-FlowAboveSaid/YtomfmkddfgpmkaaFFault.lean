/-
  What is wrong with a graph; the order of any graph.
-/
import Derived.Test.YtomfmkddfgpmkaaFOrd
namespace Go.Proofs.Ytomfmkddfgpmkaa
open Go Go.RowKit Fl

/-- A graph in memory, of any numbers. -/
def RowZ (w : World) (v : Value) (l : List Int) : Prop := ∃ a c, v = .slice a l.length c ∧ ∀ j (h : j < l.length), ∃ g, a = some ⟨g, 0, none⟩ ∧ g < w.heap.size ∧ w.cell? ⟨g, j, none⟩ = some (I l[j])
structure GrZ (w : World) (bg : Nat) (Z : List (List Int)) : Prop where
  lt : bg < w.heap.size
  row : ∀ i (h : i < Z.length), ∃ v, w.cell? ⟨bg, i, none⟩ = some v ∧ RowZ w v Z[i]
namespace Fl
def inB (n : Nat) (x : Int) : Bool := decide (0 ≤ x ∧ x < (n : Int))
def errF (Z : List (List Int)) : Int := if 60000 < Z.length then 2 else if Z.all (fun l => l.all (inB Z.length)) then 0 else 3
def natG (Z : List (List Int)) : List (List Nat) := Z.map (fun l => l.map Int.toNat)
theorem errF_bad {Z : List (List Int)} (hn : ¬ 60000 < Z.length) {i j : Nat} (hi : i < Z.length) (hj : j < Z[i].length) (h : inB Z.length Z[i][j] = false) : errF Z = 3 := by
  unfold errF
  rw [if_neg hn, if_neg]
  intro ha
  have h1 := List.all_eq_true.1 ha _ (List.getElem_mem hi)
  have h2 := List.all_eq_true.1 h1 _ (List.getElem_mem hj)
  rw [h] at h2
  cases h2
theorem errF_ok {Z : List (List Int)} (hn : ¬ 60000 < Z.length) (h : ∀ i (hi : i < Z.length) j (hj : j < Z[i].length), inB Z.length Z[i][j] = true) : errF Z = 0 := by
  unfold errF
  rw [if_neg hn, if_pos]
  rw [List.all_eq_true]
  intro l hl
  obtain ⟨i, hi, rfl⟩ := List.getElem_of_mem hl
  rw [List.all_eq_true]
  intro x hx
  obtain ⟨j, hj, rfl⟩ := List.getElem_of_mem hx
  exact h i hi j hj
end Fl

theorem bad_in {Z : List (List Int)} {n i j : Nat} {x : Int} {hi : i < Z.length} {hj : j < Z[i].length} (hx : x = Z[i][j]) (hn : n = Z.length) (h : ¬ Fl.inB n x = true) : Fl.inB Z.length Z[i][j] = false := by
  have h9 : Fl.inB n x = false := by simpa using h
  rw [hx, hn] at h9
  exact h9

set_option maxRecDepth 100000 in
set_option maxHeartbeats 1600000 in
theorem fault_any (bg cap : Nat) (Z : List (List Int)) (hz : Z.length ≤ 9223372036854775807) (hrow : ∀ i (h : i < Z.length), Z[i].length ≤ 9223372036854775806) (w : World) (h : GrZ w bg Z) :
    Calls Try.prog 27 #[.slice (some ⟨bg, 0, none⟩) Z.length cap] w fun e w' => e = .returned (I (Fl.errF Z)) ∧ w = w' := by
  have H := Lib.hid h
  obtain ⟨n, hn⟩ : ∃ n, n = Z.length := ⟨_, rfl⟩
  rw [← hn] at hz ⊢
  by_cases hbig : 60000 < n
  · have hd : decide ((60000 : Int) < (n : Int)) = true := by simp; omega
    have HE := Lib.hid (show Fl.errF Z = 2 by unfold Fl.errF; rw [if_pos (by omega)])
    clear h hn hrow
    go_enter Try.func27, Try.ntmps27
    go_wp2_with fail
    go_ret
    exact ⟨by rw [HE.out]; rfl, rfl⟩
  · have hd : decide ((60000 : Int) < (n : Int)) = false := by simp; omega
    have HN := Lib.hid (And.intro hn (And.intro hbig hrow))
    clear h hn hrow hbig
    go_enter Try.func27, Try.ntmps27
    go_wp2_with fail
    go_loop [12] (fun iv => ∃ i : Nat, i ≤ n ∧ iv = I (i : Int) ∧ ∀ q, q < i → ∀ (hq : q < Z.length) j (hj : j < Z[q].length), Fl.inB Z.length Z[q][j] = true) (fun iv => n - (intOf iv).toNat)
    case atStart => exact ⟨0, Nat.zero_le _, rfl, fun q hq => absurd hq (by omega)⟩
    case round =>
      obtain ⟨i, hi, rfl, hq⟩ := hrel
      have HQ := Lib.hid hq
      clear hq
      by_cases hlt : i < n
      · have hiZ : i < Z.length := by have := HN.out.1; omega
        obtain ⟨rv, c0, ra, rc, hrv, hrw⟩ := H.out.row i hiZ
        subst hrv
        obtain ⟨L, hL⟩ : ∃ L, L = Z[i].length := ⟨_, rfl⟩
        rw [← hL] at c0
        have HR := Lib.hid (And.intro hrw hL)
        have hLb : (L : Int) ≤ 9223372036854775806 := by have := HN.out.2.2 i hiZ; omega
        have d1 : decide (i < n) = true := by simpa using hlt
        have HI := Lib.hid hlt
        have HZ := Lib.hid hiZ
        clear hrw hL hlt
        go_wp2_with fail
        go_loop [18] (fun jv => ∃ j : Nat, j ≤ L ∧ jv = I (j : Int) ∧ ∀ q, q < j → ∀ (hq : q < Z[i].length), Fl.inB Z.length Z[i][q] = true) (fun jv => L - (intOf jv).toNat)
        case atStart => exact ⟨0, Nat.zero_le _, rfl, fun q hq => absurd hq (by omega)⟩
        case round =>
          obtain ⟨j, hj, rfl, hjq⟩ := hrel
          have HJ := Lib.hid hjq
          clear hjq
          by_cases hjl : j < L
          · have hjZ : j < Z[i].length := by have := HR.out.2; omega
            obtain ⟨g, hra, hgl, c1⟩ := HR.out.1 j hjZ
            subst hra
            obtain ⟨x, hx⟩ : ∃ x, x = Z[i][j] := ⟨_, rfl⟩
            replace c1 : w.cell? ⟨g, j, none⟩ = some (I x) := by rw [hx]; exact c1
            have HX := Lib.hid (And.intro hx (And.intro hjl hjZ))
            have d2 : decide (j < L) = true := by simpa using hjl
            have hjI : (j : Int) < (L : Int) := by omega
            clear hx hgl
            by_cases hin : Fl.inB n x = true
            · have hb : 0 ≤ x ∧ x < (n : Int) := by unfold Fl.inB at hin; simpa using hin
              obtain ⟨hb1, hb2⟩ := hb
              have e1 : decide (x < 0) = false := by simp; omega
              have e2 : decide ((n : Int) ≤ x) = false := by simp; omega
              have HIN := Lib.hid hin
              clear hin
              go_wp2_with fail
              go_round
              case rel => exact ⟨j + 1, by have := HX.out.2.1; omega, by go_num, fun q hq hq2 => by
                rcases Nat.lt_or_ge q j with h | h
                · exact HJ.out q h hq2
                · obtain rfl : q = j := by omega
                  have h9 := HIN.out; rw [HX.out.1, HN.out.1] at h9; exact h9⟩
              case measure => have := HX.out.2.1; simp [intOf]; omega
            · have HIN := Lib.hid (show Fl.errF Z = 3 from Fl.errF_bad (by rw [← HN.out.1]; exact HN.out.2.1) HZ.out HX.out.2.2 (bad_in HX.out.1 HN.out.1 hin))
              by_cases hneg : x < 0
              · have e1 : decide (x < 0) = true := by simpa using hneg
                clear hin
                go_wp2_with fail
                go_ret
                exact ⟨by rw [HIN.out]; rfl, rfl⟩
              · have e1 : decide (x < 0) = false := by simpa using hneg
                have hge : (n : Int) ≤ x := by unfold Fl.inB at hin; simp at hin; omega
                have e2 : decide ((n : Int) ≤ x) = true := by simpa using hge
                clear hin
                go_wp2_with fail
                go_ret
                exact ⟨by rw [HIN.out]; rfl, rfl⟩
          · have d2 : decide (j < L) = false := by simpa using hjl
            have HD := Lib.hid (show ∀ q, q < i + 1 → ∀ (hq : q < Z.length) j (hj : j < Z[q].length), Fl.inB Z.length Z[q][j] = true from fun q hq hq2 j' hj' => by
              rcases Nat.lt_or_ge q i with h | h
              · exact HQ.out q h hq2 j' hj'
              · obtain rfl : q = i := by omega
                exact HJ.out j' (by have := HR.out.2; omega) hj')
            clear hjl
            go_wp2_with fail
            go_round
            case rel => exact ⟨i + 1, by have := HI.out; omega, by go_num, HD.out⟩
            case measure => have := HI.out; simp [intOf]; omega
      · have d1 : decide (i < n) = false := by simpa using hlt
        have HE := Lib.hid (show Fl.errF Z = 0 from Fl.errF_ok (by rw [← HN.out.1]; exact HN.out.2.1) (fun q hq j hj => HQ.out q (by have := HN.out.1; omega) hq j hj))
        clear hlt
        go_wp2_with fail
        go_ret
        exact ⟨by rw [HE.out]; rfl, rfl⟩
end Go.Proofs.Ytomfmkddfgpmkaa
