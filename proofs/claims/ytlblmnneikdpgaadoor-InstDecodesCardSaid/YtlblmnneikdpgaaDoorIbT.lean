/-
  A number is read.
-/
import Derived.Test.YtlblmnneikdpgaaDoorIbR
import Derived.Test.YtlblmnneikdpgaaDoorIbB
import Derived.Lib.EndianBits
namespace Go.Proofs.YtlblmnneikdpgaaDoor
open Go Go.RowKit Ib

def SenL (aM aW : Addr) (b : Nat) : Prop := ∀ k, k = 1 ∨ k = 0 ∨ k = aM.block ∨ k = aW.block → k < b
theorem spl_cons {k : Nat} {q l q' : List Nat} (h : SplN (k :: q) l q') : k = l.length ∧ q = l ++ q' := by
  have h1 := h.1
  injection h1 with h1 h2
  exact ⟨h1, h2⟩
def NrT (S : Nat → Prop) (aW : Addr) (br : Nat) (q : List Nat) (W W' : World) (e : Ending) : Prop := W.grownBy W' (some br) ∧
  ((∃ l q', SplN q l q' ∧ e = .returned (.tuple #[.int .u64 (val l : Int), I (l.length : Int), .nilIface]) ∧ RdV S br q' W') ∨ ((¬ ∃ l q', SplN q l q') ∧ e = .returned (.tuple #[.int .u64 0, I 0, eV aW]) ∧ ∃ q', RdV S br q' W'))
def NuR (l : List Nat) (W0 : World) (lv iv : Value) (W : World) : Prop := ∃ i : Nat, i ≤ l.length ∧ lv = .int .u64 (val (l.take i) : Int) ∧ iv = I (i : Int) ∧ W = W0
theorem grownBy_tr {w w1 w2 : World} {row : Option Nat} (h : w.grownBy w1 row) (h' : w1.grownBy w2 row) : w.grownBy w2 row :=
  ⟨h'.os.trans h.os, h'.tape.trans h.tape, h'.output.trans h.output, Nat.le_trans h.size h'.size, fun k hk hn => (h'.block k (Nat.lt_of_lt_of_le hk h.size) hn).trans (h.block k hk hn)⟩
theorem grownBy_alloc' (w : World) (o : Obj) (row : Option Nat) : w.grownBy (w.alloc o) row := World.grownBy_alloc w o row
/-- Its own new block may be written. -/
theorem grownBy_new {w w1 : World} {row : Option Nat} (h : w.grownBy w1 row) {b : Nat} (hb : w.heap.size ≤ b) (j : Nat) (v : Value) : w.grownBy (w1.setCell ⟨b, j, none⟩ v) row :=
  ⟨h.os, h.tape, h.output, by have := h.size; simp [World.setCell]; exact this, fun k hk hn => (Below.heap_setCell _ _ _ _ (show k ≠ b by omega)).trans (h.block k hk hn)⟩
theorem or_shift {y b i : Nat} (hi : i < 8) (hy : y < 256 ^ i) (hb : b < 256) : bits .or .u64 (y : Int) ((b : Int) * 2 ^ (8 * i)) = ((y + b * 256 ^ i : Nat) : Int) := by
  have hp : (2 : Int) ^ (8 * i) = ((256 ^ i : Nat) : Int) := by
    rw [Int.natCast_pow, show ((256 : Nat) : Int) = 2 ^ 8 by decide, ← Int.pow_mul]
  have h8 : 256 ^ (i + 1) ≤ 18446744073709551616 := pow_le8 hi
  rw [Nat.pow_succ] at h8
  have hbi : b * 256 ^ i ≤ 255 * 256 ^ i := Nat.mul_le_mul_right _ (by omega)
  rw [bits_join_low .u64 64 (by decide) wraps_u64 (8 * i) (y : Int) ((b : Int) * 2 ^ (8 * i)) (by omega) (by rw [hp]; omega) (by
    have e : (2 : Int) ^ 64 = 18446744073709551616 := by decide
    rw [e]; omega) (by rw [hp]; exact Int.mul_nonneg (by omega) (by omega)) (by rw [Int.mul_emod_left]) (by
    have e : (2 : Int) ^ 64 = 18446744073709551616 := by decide
    rw [e, hp, ← Int.natCast_mul]; omega), hp]
  simp
theorem shift_wrap {b i : Nat} (hi : i < 8) (hb : b < 256) : IntKind.u64.wrap ((b : Int) * 2 ^ (8 * i)) = (b : Int) * 2 ^ (8 * i) := by
  have hp : (2 : Int) ^ (8 * i) = ((256 ^ i : Nat) : Int) := by
    rw [Int.natCast_pow, show ((256 : Nat) : Int) = 2 ^ 8 by decide, ← Int.pow_mul]
  have h8 : 256 ^ (i + 1) ≤ 18446744073709551616 := pow_le8 hi
  rw [Nat.pow_succ] at h8
  have hbi : b * 256 ^ i ≤ 255 * 256 ^ i := Nat.mul_le_mul_right _ (by omega)
  rw [hp, ← Int.natCast_mul]
  exact u64_wrap_id _ (by omega) (by omega)
theorem val_take_succ {l : List Nat} {i : Nat} (hi : i < l.length) : val (l.take (i + 1)) = val (l.take i) + l[i] * 256 ^ i := by
  rw [List.take_succ_eq_append_getElem hi, val_append, List.length_take, Nat.min_eq_left (by omega)]
  simp [val, Nat.mul_comm]

set_option maxRecDepth 100000 in
set_option maxHeartbeats 3200000 in
theorem number_q (S : Nat → Prop) (aM aW : Addr) (br : Nat) (q : List Nat) (hq : Byt q) (w : World) (h : RdV S br q w) (hSl : ∀ k, S k → k < w.heap.size) (hs : Sen aM aW w) (hsb : SenL aM aW br) :
    Calls Tryd.prog 89 #[.pointer (some ⟨br, 0, none⟩)] w fun e w' => NrT S aW br q w w' e := by
  obtain ⟨W1, hW1⟩ : ∃ W, W = w.alloc (.cells #[B8 0] 5) := ⟨_, rfl⟩
  obtain ⟨bz, hbz⟩ : ∃ g, g = w.heap.size := ⟨_, rfl⟩
  have hB1 : Below w.heap.size w W1 := by rw [hW1]; exact (Below.refl _ _).alloc (Nat.le_refl _) _
  have kz : Blk bz #[B8 0] 5 W1 := by rw [hW1, hbz]; exact Blk.new _ _ _
  have hrd1 : RdV S br q W1 := h.keep fun k hk => hB1.block k (by rcases hk with hk | rfl; exact hSl k hk; exact h.lt)
  have hs1 : Sen aM aW W1 := hs.below hB1 (fun k hk => hs.lts k hk)
  have hzb : bz ≠ br := by have := h.lt; omega
  have hg1 : w.grownBy W1 (some br) := by rw [hW1]; exact World.grownBy_alloc _ _ _
  have HC := Lib.hid (one_r S aM aW br ⟨bz, 0, none⟩ (B8 0) q W1 hrd1 hs1 (kz.get 0 _ rfl) (kz.free 0) hzb)
  have H1 := Lib.hid (And.intro hg1 (And.intro kz (And.intro hs1 (And.intro hzb (And.intro hq (And.intro hs (And.intro hSl (And.intro h hsb))))))))
  have HW1 := Lib.hid (And.intro hW1 hbz)
  clear hW1 hbz hB1 kz hrd1 hs1 hzb hg1 hq hs hSl h hsb
  go_enter Tryd.func89, Tryd.ntmps89
  go_upto_region 2 with (fail)
  rw [← HW1.out.2]
  change Code.wp _ _ _ _ (w.alloc (.cells #[B8 0] 5))
  rw [← HW1.out.1]
  go_wp2_with fail
  refine HC.out.mono ?_
  rintro e w2 (⟨x, q1, w1, rfl, rfl, hg, hrd, rfl⟩ | ⟨rfl, rfl, hg, hrd⟩)
  · have hzs : w.heap.size ≤ bz := by rw [HW1.out.2]; exact Nat.le_refl _
    have hne : some bz ≠ some br := fun e => H1.out.2.2.2.1 (by injection e)
    have kz1 : Blk bz #[B8 0] 5 w1 := H1.out.2.1.other hg hne
    obtain ⟨W2, hW2⟩ : ∃ W, W = w1.setCell ⟨bz, 0, none⟩ (B8 x) := ⟨_, rfl⟩
    have kz2 : Blk bz #[B8 x] 5 W2 := by rw [hW2]; exact kz1.set 0 (B8 x)
    have hg2 : w.grownBy W2 (some br) := by rw [hW2]; exact grownBy_new (grownBy_tr H1.out.1 hg) hzs _ _
    have hrd2 : RdV S br q1 W2 := by
      rw [hW2]
      refine hrd.keep fun k hk => Below.heap_setCell _ _ _ _ ?_
      intro e
      have e' : k = bz := e
      rcases hk with hk | hk
      · have := H1.out.2.2.2.2.2.2.1 k hk; omega
      · exact H1.out.2.2.2.1 (by omega)
    have hs2 : Sen aM aW W2 := H1.out.2.2.2.2.2.1.keep fun k hk => hg2.block k (H1.out.2.2.2.2.2.1.lts k hk) (fun e => by have := H1.out.2.2.2.2.2.2.2.2 k hk; injection e with e; omega)
    have z0 := kz2.get 0 (B8 x) rfl
    have hx8 : x < 256 := H1.out.2.2.2.2.1 x (by simp)
    have H2 := Lib.hid (And.intro hg2 (And.intro hrd2 (And.intro hs2 kz2)))
    have HW2 := Lib.hid hW2
    clear hg hrd kz1 hW2 kz2 hg2 hrd2 hs2 hne hzs
    dsimp only
    rw [← HW2.out]
    by_cases h8 : 8 < x
    · have g0 : decide ((8 : Int) < (x : Int)) = true := by simp; omega
      have c0 := H2.out.2.2.1.cW
      have FIN := Lib.hid (show ∀ nq, NrT S aW br (x :: q1) w (W2.drewN nq) (.returned (.tuple #[.int .u64 0, I 0, eV aW])) from fun nq => ⟨⟨H2.out.1.os, H2.out.1.tape, H2.out.1.output, H2.out.1.size, H2.out.1.block⟩, Or.inr ⟨(fun ⟨l, q', hs⟩ => by
        have h1 := (spl_cons hs).1
        have h2 := hs.2
        omega), rfl, q1, H2.out.2.1.keep fun _ _ => rfl⟩⟩)
      clear h8
      go_wp2_with fail
      go_quiet (fail)
      go_wp2_with fail
      go_ret3
      exact FIN.out _
    · have g0 : decide ((8 : Int) < (x : Int)) = false := by simp; omega
      have hT := fun (W : World) (hW : W = W2.drew) => take_any S aM aW br x q1 (by omega) W (by rw [hW]; exact H2.out.2.1.keep fun _ _ => rfl) (by rw [hW]; exact H2.out.2.2.1.keep fun _ _ => rfl)
      have HX := Lib.hid (show x ≤ 8 by omega)
      have hwx : IntKind.i64.wrap (x : Int) = (x : Int) := by rw [IntKind.wrap_i64]; have := HX.out; omega
      clear h8
      by_cases hxl : x ≤ q1.length
      · have HT := Lib.hid (fun (W : World) (hW : W = W2.drew) => (hT W hW).mono fun e w' (h : TkT S aW br x q1 W w' e) => (show W.grownBy w' (some br) ∧ ∃ v1, e = .returned (.tuple #[v1, .nilIface]) ∧ SlS S 1 ByteV w' v1 (q1.take x) ∧ RdV S br (q1.drop x) w' from ⟨h.1, by
          rcases h.2 with ⟨_, h2⟩ | ⟨h2, _⟩
          · exact h2
          · omega⟩))
        clear hT
        go_upto_region 7 with (fail)
        go_region_with (
          refine (HT.out _ rfl).mono ?_
          rintro e w3 ⟨hg3, v1, rfl, hsl, hrd3⟩
          obtain ⟨va, vc, hva⟩ := hsl.size
          have hlx : (q1.take x).length = x := by rw [List.length_take]; omega
          rw [hlx] at hva
          subst hva
          have hg3' : w.grownBy w3 (some br) := grownBy_tr H2.out.1 ⟨hg3.os, hg3.tape, hg3.output, hg3.size, hg3.block⟩
          have kz3 : Blk bz #[B8 x] 5 w3 := H2.out.2.2.2.other (w' := w3) (row := some br) ⟨hg3.os, hg3.tape, hg3.output, hg3.size, hg3.block⟩ (fun e => H1.out.2.2.2.1 (by injection e))
          have z3 : w3.cell? ⟨bz, 0, none⟩ = some (B8 x) := kz3.get 0 (B8 x) rfl
          obtain ⟨L, hL⟩ : ∃ L, L = q1.take x := ⟨_, rfl⟩
          rw [← hL] at hlx hsl
          have hLb : Byt L := fun y hy => H1.out.2.2.2.2.1 y (by rw [hL] at hy; exact List.mem_cons_of_mem _ (List.mem_of_mem_take hy))
          have H3 := Lib.hid (And.intro hg3' (And.intro hrd3 (And.intro hsl (And.intro hlx (And.intro hL hLb)))))
          have HST := Lib.hid (show NuR L w3 (.int .u64 0) (I 0) w3 from ⟨0, Nat.zero_le _, by simp [val], rfl, rfl⟩)
          have hx80 : (x : Int) ≤ 8 := by have := HX.out; omega
          clear hg3 hg3' hrd3 hsl hlx hL hLb kz3 hxl HT g0 z0)
        go_wp2_with fail
        go_loopw [9, 34] (fun lv iv W => NuR L w3 lv iv W) (fun _ iv _ => x - (intOf iv).toNat)
        case atStart => exact HST.out
        case round =>
          obtain ⟨i, hi, rfl, rfl, rfl⟩ := hrel
          clear HST
          by_cases hin : i < x
          · have hil : i < L.length := by have := H3.out.2.2.2.1; omega
            obtain ⟨b, rfl, _, hcb⟩ := ByteZ.cell H3.out.2.2.1 i hil
            obtain ⟨y, hy⟩ : ∃ y, y = L[i] := ⟨_, rfl⟩
            obtain ⟨V, hV⟩ : ∃ V, V = val (L.take i) := ⟨_, rfl⟩
            have hyb : y < 256 := by rw [hy]; exact H3.out.2.2.2.2.2 _ (List.getElem_mem hil)
            have hVb : V < 256 ^ i := by
              have h1 := val_lt (L.take i) (fun z hz => H3.out.2.2.2.2.2 z (List.mem_of_mem_take hz))
              rw [List.length_take, Nat.min_eq_left (by omega)] at h1
              rw [hV]
              exact h1
            have hns : val (L.take (i + 1)) = V + y * 256 ^ i := by rw [val_take_succ hil, ← hV, ← hy]
            have hor := or_shift (by have := HX.out; omega : i < 8) hVb hyb
            rw [← hy] at hcb
            rw [← hV]
            have d0 : decide (i < x) = true := by simpa using hin
            have d1 : (0 : Int) ≤ (i : Int) := by omega
            have d2 : (i : Int) < (x : Int) := by omega
            have d3 : (i : Int) < 8 := by have := HX.out; omega
            have d4 : (y : Int) < 256 := by omega
            have HY := Lib.hid (And.intro hor (And.intro hns (And.intro hin (And.intro hVb hyb))))
            clear hor hns hin hVb hyb hil hy hV hi
            go_wp2_with fail
            refine ⟨⟨i + 1, by have := HY.out.2.2.1; have := H3.out.2.2.2.1; omega, ?_, rfl, rfl⟩, by have := HY.out.2.2.1; simp [intOf]; omega⟩
            rw [shift_wrap (by have := HX.out; have := HY.out.2.2.1; omega) HY.out.2.2.2.2, HY.out.1, HY.out.2.1]
          · have d0 : decide (i < x) = false := by simpa using hin
            have hiL : i = L.length := by have := H3.out.2.2.2.1; omega
            rw [show val (L.take i) = val L by rw [hiL, List.take_length]]
            have hwv : q1 = L ++ q1.drop x := by rw [H3.out.2.2.2.2.1, List.take_append_drop]
            have FIN := Lib.hid (show ∀ nq, NrT S aW br (x :: q1) w (wr.drewN nq) (.returned (.tuple #[.int .u64 (val L : Int), I (x : Int), .nilIface])) from fun nq => ⟨⟨H3.out.1.os, H3.out.1.tape, H3.out.1.output, H3.out.1.size, H3.out.1.block⟩, Or.inl ⟨L, q1.drop x, ⟨by rw [← hwv, H3.out.2.2.2.1], by have := HX.out; have := H3.out.2.2.2.1; omega⟩, by rw [H3.out.2.2.2.1], H3.out.2.1.keep fun _ _ => rfl⟩⟩)
            clear hin hiL hwv hi
            go_wp2_with fail
            go_quiet (fail)
            go_wp2_with fail
            go_ret3
            exact FIN.out _
      · have HT := Lib.hid (fun (W : World) (hW : W = W2.drew) => (hT W hW).mono fun e w' (h : TkT S aW br x q1 W w' e) => (show W.grownBy w' (some br) ∧ e = .returned (.tuple #[.slice none 0 0, eV aW]) ∧ RdV S br q1 w' from ⟨h.1, by
          rcases h.2 with ⟨h2, _⟩ | ⟨_, h2⟩
          · omega
          · exact h2⟩))
        have HNX := Lib.hid (show ¬ ∃ l q', SplN (x :: q1) l q' from fun ⟨l, q', hs⟩ => by
          obtain ⟨e1, e2⟩ := spl_cons hs
          rw [e2, List.length_append] at hxl
          omega)
        clear hT hxl
        go_upto_region 7 with (fail)
        go_region_with (
          refine (HT.out _ rfl).mono ?_
          rintro e w3 ⟨hg3, rfl, hrd3⟩
          have hg3' : w.grownBy w3 (some br) := grownBy_tr H2.out.1 ⟨hg3.os, hg3.tape, hg3.output, hg3.size, hg3.block⟩
          have FIN := Lib.hid (show NrT S aW br (x :: q1) w w3 (.returned (.tuple #[.int .u64 0, I 0, eV aW])) from ⟨hg3', Or.inr ⟨HNX.out, rfl, q1, hrd3⟩⟩)
          clear hg3 hg3' hrd3 HT g0 z0)
        go_wp2_with fail
        go_ret3
        exact FIN.out
  · have FIN := Lib.hid (show NrT S aW br [] w w2 (.returned (.tuple #[.int .u64 0, I 0, eV aW])) from ⟨grownBy_tr H1.out.1 hg, Or.inr ⟨(fun ⟨l, q', hs⟩ => by have := hs.1; cases this), rfl, [], hrd⟩⟩)
    clear hg hrd
    go_wp2_with fail
    go_ret3
    exact FIN.out
end Go.Proofs.YtlblmnneikdpgaaDoor
