/-
  Texts that are put behind one another; a step to the right.
-/
import Derived.Test.YtknmmjfpipobdaaGreatDoorTWr
import Derived.Test.YtknmmjfpipobdaaGreatDoorShelf
namespace Go.Proofs.YtknmmjfpipobdaaGreatDoor
open Go Go.RowKit Px

def strsC (xs : List Bytes) : Array Value := (xs.map fun x => Value.string ⟨x.toArray⟩).toArray
/-- What a writing comes to. -/
def WPost (N b : Nat) (l : Bytes) (k : Int) (w : World) (e : Ending) (w' : World) : Prop := e = .returned (.tuple #[]) ∧ WB N b l k w' ∧ WK N b w w'

theorem WB.below {N b : Nat} {l : Bytes} {k : Int} {w w' : World} (h : WB N b l k w) (hb : Below w.heap.size w w') : WB N b l k w' := by
  obtain ⟨p, v, h1, h2, h3, h4⟩ := h
  refine ⟨p, v, h1.below hb h1.lt, ?_, h3, h4⟩
  obtain ⟨x1, x2⟩ := h2
  refine ⟨x1, ?_⟩
  rcases x2 with x2 | ⟨g, cap, cur, hv, hg, hc, r⟩
  · exact Or.inl x2
  · have hlt : g < w.heap.size := (Array.getElem?_eq_some_iff.1 hc).1
    exact Or.inr ⟨g, cap, cur, hv, hg, (hb.block g hlt).trans hc, r⟩
theorem WK.of_below {N b : Nat} {w w' : World} (hN : N ≤ w.heap.size) (hb : Below w.heap.size w w') : WK N b w w' :=
  ⟨hb.mono hN, fun k o hk _ _ => (hb.block k (Array.getElem?_eq_some_iff.1 hk).1).trans hk⟩
theorem WB.lt {N b : Nat} {l : Bytes} {k : Int} {w : World} (h : WB N b l k w) : b < w.heap.size := by
  obtain ⟨p, v, h1, _⟩ := h
  exact h1.lt

set_option maxRecDepth 100000 in
set_option maxHeartbeats 1000000 in
theorem put_any (N b tb c : Nat) (xs : List Bytes) (l : Bytes) (k : Int) (w : World) (hN : N ≤ b) (hNw : N ≤ w.heap.size) (h : WB N b l k w) (ht : Blk tb (strsC xs) 9 w) (htb : tb ≠ b) (hlen : l.length + xs.flatten.length ≤ 10000000) (hxs : xs.length ≤ 100) :
    Calls Tryz.prog 58 #[.pointer (some ⟨b, 0, none⟩), .slice (some ⟨tb, 0, none⟩) xs.length c] w (WPost N b (l ++ xs.flatten) k w) := by
  have HW := Lib.hid (And.intro h ht)
  have hx100 : (xs.length : Int) ≤ 100 := by omega
  have HLEN := Lib.hid hlen
  clear h ht hlen
  go_enter Tryz.func58, Tryz.ntmps58
  go_wp2_with fail
  go_loopw [8] (fun i wr => ∃ j : Nat, j ≤ xs.length ∧ i = .int .i64 j ∧ WB N b (l ++ (xs.take j).flatten) k wr ∧ WK N b w wr) (fun i _ => xs.length - (intOf i).toNat)
  case atStart => exact ⟨0, Nat.zero_le _, rfl, by simpa using HW.out.1, WK.refl _ _ _⟩
  case round =>
    obtain ⟨j, hj, rfl, hb, hk⟩ := hrel
    by_cases hlt : j < xs.length
    · have htr := hk.blk HW.out.2 htb (by decide)
      have hc : wr.cell? ⟨tb, j, none⟩ = some (.string ⟨(xs[j]'hlt).toArray⟩) := htr.get j _ (by simp [strsC, hlt])
      have hjl : (j : Int) < (xs.length : Int) := by omega
      have hsub : (l ++ (xs.take j).flatten).length + (xs[j]'hlt).length ≤ 10000000 := by
        have h1 := HLEN.out
        have h2 : (xs.take (j + 1)).flatten.length ≤ xs.flatten.length := by
          have := congrArg (fun t : List Bytes => t.flatten.length) (List.take_append_drop (j + 1) xs)
          simp only [List.flatten_append, List.length_append] at this
          omega
        rw [List.take_succ_eq_append_getElem hlt] at h2
        simp only [List.flatten_append, List.length_append, List.flatten_cons, List.flatten_nil, List.length_nil] at h2 ⊢
        omega
      have HC := Lib.hid (writeString_any N b (l ++ (xs.take j).flatten) (xs[j]'hlt) k wr hN (Nat.le_trans hNw hk.1.size) hb hsub)
      have HK := Lib.hid hk
      have HT := Lib.hid (show xs.take (j + 1) = xs.take j ++ [xs[j]'hlt] from List.take_succ_eq_append_getElem hlt)
      clear hb hk htr hsub
      generalize xs[j]'hlt = x at *
      go_wp2_with fail
      refine HC.out.mono ?_
      rintro e w1 ⟨rfl, h1, h2⟩
      have FIN := Lib.hid (And.intro h1 (HK.out.trans h2))
      clear h1 h2
      go_wp2
      go_roundw
      case rel => exact ⟨j + 1, by omega, by go_num, by rw [HT.out, List.flatten_append, ← List.append_assoc]; simpa using FIN.out.1, FIN.out.2⟩
      case measure => simp [intOf]; omega
    · obtain rfl : j = xs.length := by omega
      have FIN := Lib.hid (And.intro hb hk)
      clear hb hk
      go_wp2
      go_end0
      exact ⟨rfl, by have := FIN.out.1; rwa [List.take_length] at this, FIN.out.2⟩

set_option maxRecDepth 100000 in
set_option maxHeartbeats 1000000 in
theorem indent_any (N b d : Nat) (l : Bytes) (k : Int) (w : World) (hN : N ≤ b) (hNw : N ≤ w.heap.size) (h : WB N b l k w) (hd : d ≤ 1000) (hlen : l.length + (Lib.repeatL [32, 32] d).length ≤ 10000000) :
    Calls Tryz.prog 77 #[.pointer (some ⟨b, 0, none⟩), .int .i64 (d : Int)] w (WPost N b (l ++ Lib.repeatL [32, 32] d) k w) := by
  have HC := Lib.hid (show Calls Tryz.prog 92 #[.string ⟨#[32, 32]⟩, .int .i64 (d : Int)] w fun e w' => e = .returned (.string ⟨(Lib.repeatL [32, 32] d).toArray⟩) ∧ Below w.heap.size w w' from Tryz.strings_Repeat ⟨#[32, 32]⟩ d w (by omega) (by show 2 * d ≤ _; omega))
  generalize Lib.repeatL [32, 32] d = t at *
  have hlt := h.lt
  have HW := Lib.hid h
  clear h
  go_enter Tryz.func77, Tryz.ntmps77
  go_wp2_with fail
  refine HC.out.mono ?_
  rintro e w1 ⟨rfl, hb⟩
  obtain ⟨V, hV⟩ : ∃ V, V = w1.alloc (.cells #[.string ⟨t.toArray⟩] 9) := ⟨_, rfl⟩
  have hbV : Below w.heap.size w V := by rw [hV]; exact hb.alloc hb.size _
  have htV : Blk w1.heap.size (strsC [t]) 9 V := by rw [hV]; exact Blk.new _ _ _
  have HP := Lib.hid (put_any N b w1.heap.size 1 [t] l k V hN (Nat.le_trans hNw hbV.size) (HW.out.below hbV) htV (by have := hb.size; omega) (by simpa using hlen) (by simp))
  have HK := Lib.hid (WK.of_below (b := b) hNw hbV)
  have HVV := Lib.hid hV
  clear hb hbV htV hV
  go_wp2_with fail
  rw [← HVV.out]
  refine HP.out.mono ?_
  rintro e w2 ⟨rfl, h1, h2⟩
  have FIN := Lib.hid (show WPost N b (l ++ t) k w (.returned (.tuple #[])) w2 from ⟨rfl, by simpa using h1, HK.out.trans h2⟩)
  clear h1 h2
  go_wp2
  go_end0
  exact FIN.out

/-- Texts in a list that was just made. -/
theorem put_new (N b : Nat) (xs : List Bytes) (c : Nat) (l : Bytes) (k : Int) (w : World) (hN : N ≤ b) (hNw : N ≤ w.heap.size) (h : WB N b l k w) (hlen : l.length + xs.flatten.length ≤ 10000000) (hxs : xs.length ≤ 100) :
    Calls Tryz.prog 58 #[.pointer (some ⟨b, 0, none⟩), .slice (some ⟨w.heap.size, 0, none⟩) xs.length c] (w.alloc (.cells (strsC xs) 9)) (WPost N b (l ++ xs.flatten) k w) := by
  have hb : Below w.heap.size w (w.alloc (.cells (strsC xs) 9)) := (Below.refl _ _).alloc (Nat.le_refl _) _
  refine (put_any N b w.heap.size c xs l k _ hN (Nat.le_trans hNw hb.size) (h.below hb) (Blk.new w _ _) (by have := h.lt; omega) hlen hxs).mono ?_
  rintro e w' ⟨h1, h2, h3⟩
  exact ⟨h1, h2, (WK.of_below hNw hb).trans h3⟩
theorem put1 (N b : Nat) (x : Bytes) (l : Bytes) (k : Int) (w : World) (hN : N ≤ b) (hNw : N ≤ w.heap.size) (h : WB N b l k w) (hlen : l.length + x.length ≤ 10000000) :
    Calls Tryz.prog 58 #[.pointer (some ⟨b, 0, none⟩), .slice (some ⟨w.heap.size, 0, none⟩) 1 1] (w.alloc (.cells #[.string ⟨x.toArray⟩] 9)) (WPost N b (l ++ x) k w) := by
  have := put_new N b [x] 1 l k w hN hNw h (by simpa using hlen) (by simp)
  simpa [strsC] using this
theorem put2 (N b : Nat) (x y : Bytes) (l : Bytes) (k : Int) (w : World) (hN : N ≤ b) (hNw : N ≤ w.heap.size) (h : WB N b l k w) (hlen : l.length + (x ++ y).length ≤ 10000000) :
    Calls Tryz.prog 58 #[.pointer (some ⟨b, 0, none⟩), .slice (some ⟨w.heap.size, 0, none⟩) 2 2] (w.alloc (.cells #[.string ⟨x.toArray⟩, .string ⟨y.toArray⟩] 9)) (WPost N b (l ++ (x ++ y)) k w) := by
  have := put_new N b [x, y] 2 l k w hN hNw h (by simpa using hlen) (by simp)
  simpa [strsC] using this
theorem put3 (N b : Nat) (x y z : Bytes) (l : Bytes) (k : Int) (w : World) (hN : N ≤ b) (hNw : N ≤ w.heap.size) (h : WB N b l k w) (hlen : l.length + (x ++ (y ++ z)).length ≤ 10000000) :
    Calls Tryz.prog 58 #[.pointer (some ⟨b, 0, none⟩), .slice (some ⟨w.heap.size, 0, none⟩) 3 3] (w.alloc (.cells #[.string ⟨x.toArray⟩, .string ⟨y.toArray⟩, .string ⟨z.toArray⟩] 9)) (WPost N b (l ++ (x ++ (y ++ z))) k w) := by
  have := put_new N b [x, y, z] 3 l k w hN hNw h (by simpa using hlen) (by simp)
  simpa [strsC] using this

set_option maxRecDepth 100000 in
/-- The first of a list's expressions. -/
theorem part_any (gb cap n i : Nat) (hi : i < n) (hn : n ≤ 1000000) (k op : Nat) (nm : Bytes) (m pos : Nat) (a : Option Addr) (len c : Nat) (w : World)
    (h : ∀ j u, (exCells k op nm m pos a len c).toList[j]? = some u → w.cell? ⟨gb, i * 6 + j, none⟩ = some u) (hg : gb < w.heap.size) :
    Calls Tryz.prog 104 #[.slice (some ⟨gb, 0, none⟩) n cap, .int .i64 (i : Int)] w fun e w' => e = .returned (.agg (exCells k op nm m pos a len c)) ∧ Below w.heap.size w w' := by
  obtain ⟨W, hW⟩ : ∃ W, W = w.alloc ex0 := ⟨_, rfl⟩
  have hbW : Below w.heap.size w W := by rw [hW]; exact (Below.refl _ _).alloc (Nat.le_refl _) _
  have hz : Blk w.heap.size zEx 36 W := by rw [hW]; exact Blk.new _ _ _
  have c0 := (hbW.cell (p := ⟨gb, i * 6 + 0, none⟩) hg).trans (h 0 _ rfl)
  have c1 := (hbW.cell (p := ⟨gb, i * 6 + 1, none⟩) hg).trans (h 1 _ rfl)
  have c2 := (hbW.cell (p := ⟨gb, i * 6 + 2, none⟩) hg).trans (h 2 _ rfl)
  have c3 := (hbW.cell (p := ⟨gb, i * 6 + 3, none⟩) hg).trans (h 3 _ rfl)
  have c4 := (hbW.cell (p := ⟨gb, i * 6 + 4, none⟩) hg).trans (h 4 _ rfl)
  have c5 := (hbW.cell (p := ⟨gb, i * 6 + 5, none⟩) hg).trans (h 5 _ rfl)
  rw [Nat.add_zero] at c0
  obtain ⟨z0, z1, z2, z3, z4, z5⟩ := hz.get6
  obtain ⟨f0, f1, f2, f3, f4, f5⟩ := hz.free6
  have hil : (i : Int) < (n : Int) := by omega
  have hn' : (n : Int) ≤ 1000000 := by omega
  have FIN := Lib.hid (hz.set6 (.int .u8 (k : Int)) (.int .u8 (op : Int)) (.string ⟨nm.toArray⟩) (.int .i64 (m : Int)) (.int .i64 (pos : Int)) (.slice a len c)).get6
  have HBB := Lib.hid (show Below w.heap.size w (set6 W w.heap.size (.int .u8 (k : Int)) (.int .u8 (op : Int)) (.string ⟨nm.toArray⟩) (.int .i64 (m : Int)) (.int .i64 (pos : Int)) (.slice a len c)) from
    hbW.grown (grown_set6 _ _ _ _ _ _ _ _) hbW.size (fun g e => by cases e; exact Nat.le_refl _))
  have HWW := Lib.hid hW
  clear hW hbW hz h
  go_enter Tryz.func104, Tryz.ntmps104
  go_upto_region 1 with (fail)
  rw [← HWW.out]
  go_wp2
  rw [← set6_eq]
  obtain ⟨y0, y1, y2, y3, y4, y5⟩ := FIN.out
  clear z0 z1 z2 z3 z4 z5 f0 f1 f2 f3 f4 f5 c0 c1 c2 c3 c4 c5
  exact bodyPost_ret (v := .agg (exCells k op nm m pos a len c)) (by simp [results, Tryz.results104, go_sem, y0, y1, y2, y3, y4, y5]) rfl ⟨rfl, HBB.out⟩
end Go.Proofs.YtknmmjfpipobdaaGreatDoor
