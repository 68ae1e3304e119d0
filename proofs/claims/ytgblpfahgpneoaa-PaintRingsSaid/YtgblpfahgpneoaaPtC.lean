/-
  The document's check of a call: walked.
-/
import Derived.Test.YtgblpfahgpneoaaPtA
namespace Go.Proofs.Ytgblpfahgpneoaa
open Go Go.RowKit

def Ck1 (n bq : Nat) (v1 v2 : Value) (l l2 : List P2) (w : World) (iv : Value) (W : World) : Prop := ∃ i : Nat, i ≤ 2 ∧ iv = I (i : Int) ∧ (0 < i → AreN n l) ∧ (1 < i → AreN n l2) ∧ Blk bq #[v1, v2] 22 W ∧ Below w.heap.size w W
def Ck2 (n bq : Nat) (v1 v2 : Value) (l : List P2) (w : World) (jv : Value) (W : World) : Prop := ∃ j : Nat, j ≤ l.length ∧ jv = I (j : Int) ∧ (∀ q, q < j → NodeP n (pr l q)) ∧ Blk bq #[v1, v2] 22 W ∧ Below w.heap.size w W
def CkT (n : Nat) (l l2 : List P2) (w W : World) (e : Ending) : Prop := Below w.heap.size w W ∧ ((AreN n l ∧ AreN n l2) ∧ e = .returned (I 0) ∨ ¬ (AreN n l ∧ AreN n l2) ∧ e = .returned (I 3))

set_option maxRecDepth 100000 in
set_option maxHeartbeats 1600000 in
theorem check_bad (n k : Int) (a a' : Option Addr) (m c m' c' : Nat) (h : n < 0 ∨ 60000 < n ∨ k < 0 ∨ 16 < k) (w : World) :
    Calls Try.prog 10 #[I n, .slice a m c, .slice a' m' c', I k] w fun e w' => e = .returned (I 1) ∧ w' = w := by
  go_enter Try.func10, Try.ntmps10
  go_wp2_with fail
  all_goals first
    | (exfalso; omega)
    | (go_ret
       exact ⟨rfl, rfl⟩)

set_option maxRecDepth 100000 in
set_option maxHeartbeats 3200000 in
theorem check_any (n k : Nat) (hn : n ≤ 60000) (hk : k ≤ 16) (a a' : Option Addr) (m c m' c' : Nat) (l l2 : List P2) (hm : m = l.length) (hl : m ≤ 4000) (hc : m ≤ c) (hm2 : m' = l2.length) (hl2 : m' ≤ 4000) (hc2 : m' ≤ c') (w : World) (h : PairZ w (.slice a m c) l) (h2 : PairZ w (.slice a' m' c') l2) :
    Calls Try.prog 10 #[I (n : Int), .slice a m c, .slice a' m' c', I (k : Int)] w fun e w' => CkT n l l2 w w' e := by
  have e1 : (n : Int) ≤ 60000 := by omega
  have e2 : (k : Int) ≤ 16 := by omega
  have e3 : (0 : Int) ≤ (n : Int) := by omega
  have e4 : (0 : Int) ≤ (k : Int) := by omega
  have HH := Lib.hid (And.intro hm (And.intro hl (And.intro hc (And.intro hm2 (And.intro hl2 (And.intro hc2 (And.intro h h2)))))))
  clear hm hl hc hm2 hl2 hc2 h h2 hn hk
  go_enter Try.func10, Try.ntmps10
  go_upto_region 4 with (fail)
  obtain ⟨W, hW⟩ : ∃ W, W = w.alloc (.cells #[.slice a m c, .slice a' m' c'] 22) := ⟨_, rfl⟩
  obtain ⟨bq, hbq⟩ : ∃ b, b = w.heap.size := ⟨_, rfl⟩
  have HS := Lib.hid (show Ck1 n bq (.slice a m c) (.slice a' m' c') l l2 w (I 0) W from ⟨0, by omega, rfl, fun h => absurd h (by omega), fun h => absurd h (by omega), by rw [hW, hbq]; exact Blk.new _ _ _, by rw [hW]; exact (Below.refl _ _).alloc (Nat.le_refl _) _⟩)
  have hlo : w.heap.size ≤ bq := by omega
  have HW := Lib.hid (And.intro hW (And.intro hbq hlo))
  change Code.wp _ _ _ _ (w.alloc (.cells #[.slice a m c, .slice a' m' c'] 22))
  rw [← HW.out.1]
  rw [← HW.out.2.1]
  clear hW hbq hlo
  go_loopw [31] (fun iv W => Ck1 n bq (.slice a m c) (.slice a' m' c') l l2 w iv W) (fun iv _ => 2 - (intOf iv).toNat)
  case atStart => exact HS.out
  case round =>
    obtain ⟨i, hi, rfl, hA1, hA2, hq, hbe⟩ := hrel
    by_cases hin : i < 2
    · obtain ⟨ai, mi, ci, li, hci, hmi, hli, hcc, hz, hnx, hbad⟩ : ∃ ai mi ci li, (#[.slice a m c, .slice a' m' c'] : Array Value)[i]? = some (.slice ai mi ci) ∧ mi = li.length ∧ mi ≤ 4000 ∧ mi ≤ ci ∧ PairZ w (.slice ai mi ci) li ∧ (AreN n li → ∀ W, Blk bq #[.slice a m c, .slice a' m' c'] 22 W → Below w.heap.size w W → Ck1 n bq (.slice a m c) (.slice a' m' c') l l2 w (I ((i : Int) + 1)) W) ∧ (¬ AreN n li → ¬ (AreN n l ∧ AreN n l2)) := by
        have e : i = 0 ∨ i = 1 := by omega
        rcases e with rfl | rfl
        · exact ⟨a, m, c, l, rfl, HH.out.1, HH.out.2.1, HH.out.2.2.1, HH.out.2.2.2.2.2.2.1, fun h W h1 h2 => ⟨1, by omega, rfl, fun _ => h, fun h => absurd h (by omega), h1, h2⟩, fun h1 h2 => h1 h2.1⟩
        · exact ⟨a', m', c', l2, rfl, HH.out.2.2.2.1, HH.out.2.2.2.2.1, HH.out.2.2.2.2.2.1, HH.out.2.2.2.2.2.2.2, fun h W h1 h2 => ⟨2, by omega, rfl, fun _ => hA1 (by omega), fun _ => h, h1, h2⟩, fun h1 h2 => h1 h2.2⟩
      have x0 := hq.get i _ hci
      have d0 : decide ((i : Int) < 2) = true := by rw [decide_eq_true_eq]; omega
      have d1 : (0 : Int) ≤ (i : Int) := by omega
      have d2 : (i : Int) < 2 := by omega
      have d3 : (mi : Int) ≤ 4000 := by omega
      have d4 : (mi : Int) ≤ (ci : Int) := by omega
      have HS2 := Lib.hid (show Ck2 n bq (.slice a m c) (.slice a' m' c') li w (I 0) wr from ⟨0, Nat.zero_le _, rfl, fun q hq => absurd hq (by omega), hq, hbe⟩)
      have H1 := Lib.hid (And.intro hmi (And.intro hli (And.intro hcc (And.intro hz (And.intro hnx (And.intro hbad hin))))))
      clear hA1 hA2 hq hbe hin hi hmi hli hcc hz hnx hbad hci
      go_wp2_with fail
      go_loopw [37] (fun jv W => Ck2 n bq (.slice a m c) (.slice a' m' c') li w jv W) (fun jv _ => mi - (intOf jv).toNat)
      case atStart => exact HS2.out
      case round =>
        obtain ⟨j, hj, rfl, hno, hq, hbe⟩ := hrel
        by_cases hjm : j < mi
        · have hil : j < li.length := by rw [← H1.out.1]; exact hjm
          obtain ⟨b, _, rfl, hbl, c0, e0⟩ := (H1.out.2.2.2.1.keep pairV_stays (S' := LtW wr) hbe.block (fun k hk => Nat.lt_of_lt_of_le hk hbe.size)).at j hil
          obtain rfl := e0
          rw [getD_pr hil] at c0
          obtain ⟨p, q, hx⟩ : ∃ a b, pr li j = (a, b) := ⟨_, _, rfl⟩
          rw [hx] at c0
          have x0 : wr.cell? (b.add (j * 2)) = some (I p) := c0.f0
          have x1 : wr.cell? ⟨(b.add (j * 2)).block, (b.add (j * 2)).off + 1, none⟩ = some (I q) := c0.f1
          have f0 : decide (j < mi) = true := by simpa using hjm
          have f1 : (0 : Int) ≤ (j : Int) := by omega
          have f2 : (j : Int) < (mi : Int) := by omega
          have f3 : (j : Int) ≤ (ci : Int) := by omega
          have hB1 : Below w.heap.size w (wr.alloc (.cells #[I p, I q] 29)) := hbe.alloc hbe.size _
          have hnd : NodeP n (pr li j) ↔ 0 ≤ p ∧ p < (n : Int) ∧ 0 ≤ q ∧ q < (n : Int) := by unfold NodeP; rw [hx]
          have HT := Lib.hid (And.intro hjm hnd)
          have HN := Lib.hid (fun h0 : NodeP n (pr li j) => show Ck2 n bq (.slice a m c) (.slice a' m' c') li w (I ((j : Int) + 1)) (wr.alloc (.cells #[I p, I q] 29)) from ⟨j + 1, hil, rfl, fun j' hj' => by
            by_cases e : j' = j
            · rw [e]; exact h0
            · exact hno j' (by omega), hq.alloc _, hB1⟩)
          have FIN := Lib.hid (fun h0 : ¬ NodeP n (pr li j) => show CkT n l l2 w (wr.alloc (.cells #[I p, I q] 29)) (.returned (I 3)) from ⟨hB1, Or.inr ⟨H1.out.2.2.2.2.2.1 (fun ha => absurd (ha _ (by rw [← getD_pr hil]; exact List.getElem_mem hil)) h0), rfl⟩⟩)
          clear hno hbe c0 hx hB1 hnd hil hj hjm hbl hq
          go_wp2_with fail
          all_goals first
            | (go_ret
               exact FIN.out (by rw [HT.out.2]; omega))
            | exact ⟨HN.out (by rw [HT.out.2]; omega), by have := HT.out.1; simp [intOf]; omega⟩
        · have f0 : decide (j < mi) = false := by simpa using hjm
          have HN := Lib.hid (H1.out.2.2.2.2.1 (areN_of fun q hq2 => hno q (by have := H1.out.1; omega)) wr hq hbe)
          clear hno hq hbe hj hjm x0
          go_wp2_with fail
          exact ⟨HN.out, by have := H1.out.2.2.2.2.2.2; simp [intOf]; omega⟩
    · have d0 : decide ((i : Int) < 2) = false := by rw [decide_eq_false_iff_not]; omega
      have FIN := Lib.hid (show CkT n l l2 w wr (.returned (I 0)) from ⟨hbe, Or.inl ⟨⟨hA1 (by omega), hA2 (by omega)⟩, rfl⟩⟩)
      clear hA1 hA2 hq hbe hi hin
      go_wp2_with fail
      go_ret
      exact FIN.out
end Go.Proofs.Ytgblpfahgpneoaa
