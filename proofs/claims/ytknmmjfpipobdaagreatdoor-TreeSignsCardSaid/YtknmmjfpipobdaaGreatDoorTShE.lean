/-
  Expressions written: numbers below a hundred, and signs of two between them, with brackets where they must be.
-/
import Derived.Test.YtknmmjfpipobdaaGreatDoorTPut
namespace Go.Proofs.YtknmmjfpipobdaaGreatDoor
open Go Go.RowKit Px

def kindOf : Ex → Nat
  | .mk k _ _ _ _ _ => k
def opOf : Ex → Nat
  | .mk _ op _ _ _ _ => op
def wrapT (a : Ex) (least : Nat) (t : Bytes) : Bytes := if kindOf a = 9 ∧ (signOf (opOf a)).2 < least then [40] ++ (t ++ [41]) else t

/-- Expressions that are written here: the text, and how many parts they are. -/
inductive SupE : Ex → Bytes → Nat → Prop
  | num (n pos : Nat) (h : n < 100) : SupE (.mk 1 0 [] n pos []) (Lib.decDigits n) 1
  | bin (op pos : Nat) (a b : Ex) (ta tb : Bytes) (ca cb : Nat) (h1 : 1 ≤ op) (h2 : op ≤ 18) (ha : SupE a ta ca) (hb : SupE b tb cb) :
    SupE (.mk 9 op [] 0 pos [a, b]) (wrapT a (signOf op).2 ta ++ (([32] ++ ((signOf op).1 ++ [32])) ++ wrapT b ((signOf op).2 + 1) tb)) (1 + ca + cb)

theorem ExC_cells {w : World} {ok : Nat → Prop} {k op : Nat} {nm : Bytes} {n pos : Nat} {args : List Ex} {k' op' : Nat} {nm' : Bytes} {n' pos' : Nat} {a : Option Addr} {m c : Nat} (h : ExC w ok (.mk k op nm n pos args) (exCells k' op' nm' n' pos' a m c).toList) :
    k' = k ∧ op' = op ∧ nm' = nm ∧ n' = n ∧ pos' = pos ∧ ((args = [] ∧ Value.slice a m c = .slice none 0 0) ∨ ∃ g cap xs, Value.slice a m c = .slice (some ⟨g, 0, none⟩) args.length cap ∧ ok g ∧ w.ownsRow 0 36 6 (.slice a m c) args.length xs ∧ ExsC w ok args xs) := by
  simp only [ExC] at h
  obtain ⟨sv, h1, h2⟩ := h
  simp only [List.cons.injEq, Value.int.injEq, Value.string.injEq, true_and, and_true, ByteArray.mk.injEq, Int.natCast_inj] at h1
  obtain ⟨e1, e2, e3, e4, e5, rfl⟩ := h1
  exact ⟨e1, e2, by simpa using e3, e4, e5, h2⟩

/-- An expression's writing. -/
def ExW (x : Ex) (t : Bytes) (cn : Nat) : Prop := ∀ (N b : Nat) (l : Bytes) (k : Int) (w : World) (kk op : Nat) (nm : Bytes) (n pos : Nat) (a : Option Addr) (m c : Nat), N ≤ b → N ≤ w.heap.size → WB N b l k w →
  ExC w (fun g => g < N) x (exCells kk op nm n pos a m c).toList → (cn : Int) ≤ k → k ≤ 100000 → l.length + t.length ≤ 1000000 →
  Calls Tryz.prog 103 #[.pointer (some ⟨b, 0, none⟩), .agg (exCells kk op nm n pos a m c)] w (WPost N b (l ++ t) (k - cn) w)
def OpW2 (x : Ex) (t : Bytes) (cn : Nat) : Prop := ∀ (N b : Nat) (l : Bytes) (k : Int) (w : World) (kk op : Nat) (nm : Bytes) (n pos : Nat) (a : Option Addr) (m c least : Nat), N ≤ b → N ≤ w.heap.size → WB N b l k w →
  ExC w (fun g => g < N) x (exCells kk op nm n pos a m c).toList → (cn : Int) ≤ k → k ≤ 100000 → l.length + (wrapT x least t).length ≤ 1000000 → least ≤ 20 →
  Calls Tryz.prog 125 #[.pointer (some ⟨b, 0, none⟩), .agg (exCells kk op nm n pos a m c), .int .i64 (least : Int)] w (WPost N b (l ++ wrapT x least t) (k - cn) w)

theorem ExC_down {N b : Nat} {w w' : World} {x : Ex} {cs : List Value} (h : ExC w (fun g => g < N) x cs) (hk : WK N b w w') : ExC w' (fun g => g < N) x cs :=
  h.stays fun g hg _ => ⟨hk.1.block g hg, hg⟩

set_option maxRecDepth 100000 in
set_option maxHeartbeats 1000000 in
theorem num_W (n pos : Nat) (hn : n < 100) : ExW (.mk 1 0 [] n pos []) (Lib.decDigits n) 1 := by
  intro N b l k w kk op nm n' pos' a m c hN hNw hb hx hk1 hk2 hlen
  obtain ⟨rfl, rfl, rfl, rfl, rfl, _⟩ := ExC_cells hx
  obtain ⟨W, hW⟩ : ∃ W, W = w.alloc (.cells (exCells 1 0 [] n' pos' a m c) 36) := ⟨_, rfl⟩
  have hbW : Below w.heap.size w W := by rw [hW]; exact (Below.refl _ _).alloc (Nat.le_refl _) _
  have hE : Blk w.heap.size (exCells 1 0 [] n' pos' a m c) 36 W := by rw [hW]; exact Blk.new _ _ _
  have HM := Lib.hid (more_any N b l k W hN ⟨by omega, by omega⟩ (hb.below hbW))
  have HH := Lib.hid (And.intro hbW (And.intro hE hb))
  have HWW := Lib.hid hW
  have hk0 : decide (1 ≤ k) = true := by simp; omega
  have HF := Lib.hid fun w1 => Tryz.strconv_FormatInt_10_small n' hn w1
  have hblt := hb.lt
  clear hx hbW hE hW hb
  generalize Lib.decDigits n' = t at *
  go_enter Tryz.func103, Tryz.ntmps103
  go_upto_region 1 with (fail)
  rw [← HWW.out]
  go_wp2_with fail
  refine HM.out.mono ?_
  rintro e w1 ⟨rfl, h1, h2⟩
  rw [hk0]
  have hE1 := h2.blk HH.out.2.1 (by omega) (by decide)
  have HW1 := Lib.hid (And.intro h1 ((WK.of_below hNw HH.out.1).trans h2))
  obtain ⟨c0, c1, c2, c3, c4, c5⟩ := hE1.get6
  clear h1 h2 hE1
  go_wp2_with fail
  refine (HF.out w1).mono ?_
  rintro e w1' ⟨rfl, rfl⟩
  have HP := Lib.hid (put1 N b t l (k - 1) w1' hN (Nat.le_trans hNw HW1.out.2.1.size) HW1.out.1 (by omega))
  clear c0 c1 c2 c3 c4 c5
  go_wp2_with fail
  refine HP.out.mono ?_
  rintro e w2 ⟨rfl, h1, h2⟩
  have FIN := Lib.hid (show WPost N b (l ++ t) (k - (1 : Nat)) w (.returned (.tuple #[])) w2 from ⟨rfl, h1, HW1.out.2.trans h2⟩)
  clear h1 h2
  go_wp2
  go_end0
  exact FIN.out

set_option maxRecDepth 100000 in
set_option maxHeartbeats 1000000 in
theorem operand_W (x : Ex) (t : Bytes) (cn : Nat) (hop : opOf x < 256) (hE : ExW x t cn) : OpW2 x t cn := by
  intro N b l k w kk op nm n pos a m c least hN hNw hb hx hk1 hk2 hlen hl20
  obtain ⟨k0, op0, nm0, n0, pos0, args0⟩ := x
  obtain ⟨rfl, rfl, rfl, rfl, rfl, _⟩ := ExC_cells hx
  change op < 256 at hop
  obtain ⟨W, hW⟩ : ∃ W, W = w.alloc (.cells (exCells kk op nm n pos a m c) 36) := ⟨_, rfl⟩
  have hbW : Below w.heap.size w W := by rw [hW]; exact (Below.refl _ _).alloc (Nat.le_refl _) _
  have hB : Blk w.heap.size (exCells kk op nm n pos a m c) 36 W := by rw [hW]; exact Blk.new _ _ _
  have hKW : WK N b w W := WK.of_below hNw hbW
  have HS := Lib.hid (signs_any op hop W)
  have HH := Lib.hid (And.intro hKW (And.intro hB (And.intro (hb.below hbW) (ExC_down hx hKW))))
  have HWW := Lib.hid hW
  have HX := Lib.hid fun l1 k1 w1 (h1 : N ≤ w1.heap.size) (h2 : WB N b l1 k1 w1) h3 h4 h5 h6 => hE N b l1 k1 w1 kk op nm n pos a m c hN h1 h2 h3 h4 h5 h6
  obtain ⟨c0, c1, c2, c3, c4, c5⟩ := hB.get6
  have hblt := hb.lt
  have hNW : N ≤ W.heap.size := Nat.le_trans hNw hbW.size
  clear hx hbW hB hW hb hE hKW
  by_cases hbr : kk = 9 ∧ (signOf op).2 < least
  · have HT := Lib.hid (show wrapT (.mk kk op nm n pos args0) least t = [40] ++ (t ++ [41]) by unfold wrapT; exact if_pos hbr)
    rw [HT.out] at hlen
    simp only [List.length_append, List.length_cons, List.length_nil] at hlen
    obtain ⟨rfl, hlt9⟩ := hbr
    have hd : decide (least ≤ (signOf op).2) = false := by simp; omega
    have HP1 := Lib.hid fun w1 (h1 : N ≤ w1.heap.size) (h2 : WB N b l k w1) => put1 N b [40] l k w1 hN h1 h2 (by simp; omega)
    have HP2 := Lib.hid fun l1 k1 w1 (h1 : N ≤ w1.heap.size) (h2 : WB N b l1 k1 w1) (h3 : l1.length ≤ 1000000) => put1 N b [41] l1 k1 w1 hN h1 h2 (by simp; omega)
    go_enter Tryz.func125, Tryz.ntmps125
    go_upto_region 1 with (fail)
    rw [← HWW.out]
    go_wp2_with fail
    refine HS.out.mono ?_
    rintro e W' ⟨rfl, rfl⟩
    unfold signV
    go_wp2_with fail
    refine (HP1.out W hNW HH.out.2.2.1).mono ?_
    rintro e w1 ⟨rfl, h1, h2⟩
    have hN1 : N ≤ w1.heap.size := Nat.le_trans hNW h2.1.size
    have hB1 := h2.blk HH.out.2.1 (by omega) (by decide)
    obtain ⟨d0, d1, d2, d3, d4, d5⟩ := hB1.get6
    have HC := Lib.hid (HX.out (l ++ [40]) k w1 hN1 h1 (ExC_down HH.out.2.2.2 h2) hk1 hk2 (by simp; omega))
    have HK1 := Lib.hid (HH.out.1.trans h2)
    clear h1 h2 hB1 c0 c1 c2 c3 c4 c5
    go_wp2_with fail
    refine HC.out.mono ?_
    rintro e w2 ⟨rfl, h1, h2⟩
    have hN2 : N ≤ w2.heap.size := Nat.le_trans hN1 h2.1.size
    have HC2 := Lib.hid (HP2.out _ _ w2 hN2 h1 (by simp; omega))
    have HK2 := Lib.hid (HK1.out.trans h2)
    clear h1 h2 d0 d1 d2 d3 d4 d5
    go_wp2_with fail
    refine HC2.out.mono ?_
    rintro e w3 ⟨rfl, h1, h2⟩
    have FIN := Lib.hid (show WPost N b (l ++ wrapT (.mk 9 op nm n pos args0) least t) (k - cn) w (.returned (.tuple #[])) w3 from ⟨rfl, by rw [HT.out]; simpa using h1, HK2.out.trans h2⟩)
    clear h1 h2
    go_wp2
    go_end0
    exact FIN.out
  · have HT := Lib.hid (show wrapT (.mk kk op nm n pos args0) least t = t by unfold wrapT; exact if_neg hbr)
    rw [HT.out] at hlen
    have HC := Lib.hid (HX.out l k W hNW HH.out.2.2.1 HH.out.2.2.2 hk1 hk2 (by omega))
    have hcases : kk ≠ 9 ∨ (kk = 9 ∧ least ≤ (signOf op).2) := by omega
    clear hbr
    rcases hcases with h9 | ⟨rfl, h9⟩
    · have h9' : ((kk : Int) == 9) = false := by rw [beq_eq_false_iff_ne]; omega
      have h9'' : ((kk : Int) != 9) = true := by rw [bne_iff_ne]; omega
      go_enter Tryz.func125, Tryz.ntmps125
      go_upto_region 1 with (fail)
      rw [← HWW.out]
      go_wp2_with fail
      refine HS.out.mono ?_
      rintro e W' ⟨rfl, rfl⟩
      unfold signV
      go_wp2_with fail
      refine HC.out.mono ?_
      rintro e w2 ⟨rfl, h1, h2⟩
      have FIN := Lib.hid (show WPost N b (l ++ wrapT (.mk kk op nm n pos args0) least t) (k - cn) w (.returned (.tuple #[])) w2 from ⟨rfl, by rw [HT.out]; exact h1, HH.out.1.trans h2⟩)
      clear h1 h2 c0 c1 c2 c3 c4 c5
      go_wp2
      go_end0
      exact FIN.out
    · have hd : decide (least ≤ (signOf op).2) = true := by simpa using h9
      go_enter Tryz.func125, Tryz.ntmps125
      go_upto_region 1 with (fail)
      rw [← HWW.out]
      go_wp2_with fail
      refine HS.out.mono ?_
      rintro e W' ⟨rfl, rfl⟩
      unfold signV
      go_wp2_with fail
      refine HC.out.mono ?_
      rintro e w2 ⟨rfl, h1, h2⟩
      have FIN := Lib.hid (show WPost N b (l ++ wrapT (.mk 9 op nm n pos args0) least t) (k - cn) w (.returned (.tuple #[])) w2 from ⟨rfl, by rw [HT.out]; exact h1, HH.out.1.trans h2⟩)
      clear h1 h2 c0 c1 c2 c3 c4 c5
      go_wp2
      go_end0
      exact FIN.out
end Go.Proofs.YtknmmjfpipobdaaGreatDoor
