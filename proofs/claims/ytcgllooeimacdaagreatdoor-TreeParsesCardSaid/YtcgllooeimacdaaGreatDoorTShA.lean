/-
  Joined: TWr, TPut, TShE, TShB, TShS, TShT, TShU, TShF, TShow.
-/
import Derived.Test.YtcgllooeimacdaaGreatDoorTParse
import Derived.Test.YtcgllooeimacdaaGreatDoorShelf
import Derived.Lib.AppendStr
import Derived.Lib.UnsafeStr
import Derived.Lib.Builder
import Derived.Lib.OthersKept
/-! The writer's buffer: a builder in a field: what is written stands behind what was written. -/

namespace Go.Proofs.YtcgllooeimacdaaGreatDoor
open Go Go.RowKit Px

/-- A writer: its buffer's bytes, how many parts are left. -/
def WB (N b : Nat) (l : Bytes) (k : Int) (w : World) : Prop :=
  ∃ p v, Blk b #[p, v, .int .i64 k] 111 w ∧ w.ownsRow N 5 1 v l.length (Lib.byteCells l) ∧ v.ownBlock ≠ some b ∧ (p = .pointer none ∨ p = .pointer (some ⟨b, 0, none⟩))
/-- The same, once it has been written. -/
def WU (N b : Nat) (l : Bytes) (k : Int) (w : World) : Prop :=
  ∃ v, Blk b #[.pointer (some ⟨b, 0, none⟩), v, .int .i64 k] 111 w ∧ w.ownsRow N 5 1 v l.length (Lib.byteCells l) ∧ v.ownBlock ≠ some b

/-- What a writing leaves: below the writer all is as it was; so are other blocks than the writer's, but for rows of bytes. -/
def WK (N b : Nat) (w w' : World) : Prop := Below N w w' ∧ Lib.OthersKept 5 (some b) w w'
theorem WK.refl (N b : Nat) (w : World) : WK N b w w := ⟨Below.refl _ _, Lib.OthersKept.refl _ _ _⟩
theorem WK.trans {N b : Nat} {w w1 w2 : World} (h : WK N b w w1) (k : WK N b w1 w2) : WK N b w w2 := ⟨h.1.trans k.1, h.2.trans k.2⟩
theorem WK.set {N b : Nat} {w w1 : World} (h : WK N b w w1) (hN : N ≤ b) (j : Nat) (v : Value) : WK N b w (w1.setCell ⟨b, j, none⟩ v) := ⟨h.1.setCell (p := ⟨b, j, none⟩) hN v, h.2.setCell _ rfl v⟩
theorem WK.blk {N b : Nat} {w w' : World} (h : WK N b w w') {g : Nat} {cs : Array Value} {T : TypeId} (hb : Blk g cs T w) (hg : g ≠ b) (hT : T ≠ 5) : Blk g cs T w' := h.2 g _ hb (by simpa using hg) (by rintro c fz e; cases e; exact hT rfl)

theorem noesc (x : Value) (w : World) : (callFunc 102 #[x]).run Tryz.prog w = .ok (.value x) w := by
  rw [run_callFunc_extern Tryz.func102 (by kernel_rfl) (by kernel_rfl) (by kernel_rfl) (e := Extern.AbiNoEscape.same) (by kernel_rfl)]
  rw [Lib.run_noEscape]
  rfl
theorem szB : (Tryz.prog.info? 109).map (·.size) = some 2 := by kernel_rfl
theorem liesB : liesAt Tryz.prog Tryz.prog.depth 111 (3 / Tryz.prog.cellsOf 111) 0 109 1 = true := by kernel_rfl

set_option maxRecDepth 100000 in
set_option maxHeartbeats 1000000 in
theorem copyCheck_any (N b : Nat) (l : Bytes) (k : Int) (w : World) (hN : N ≤ b) (h : WB N b l k w) :
    Calls Tryz.prog 90 #[.pointer (some ⟨b, 0, none⟩)] w fun e w' => e = .returned (.tuple #[]) ∧ WU N b l k w' ∧ WK N b w w' := by
  obtain ⟨p, v, hb, ho, hv, hp⟩ := h
  obtain ⟨j, hj, hj2⟩ := Option.map_eq_some_iff.1 szB
  have c0 := hb.get 0 p rfl
  have f0 := hb.free 0
  have hsh : w.shape? b = some (111, 3) := by unfold Blk at hb; simp [World.shape?, hb]
  have HB := Lib.hid (And.intro hb (And.intro ho hv))
  rcases hp with rfl | rfl
  · have h1 := Lib.run_to_unsafe (P := Tryz.prog) w ⟨b, 0, none⟩ Tryz.underlying107 Tryz.underlying150 hj (by rw [hj2]; decide) hsh (by show 0 < 3; decide)
    have h2 := Lib.run_from_unsafe (P := Tryz.prog) w ⟨b, 0, none⟩ Tryz.underlying150 Tryz.underlying107 hj hsh liesB
    have h3 := noesc
    have h4 := Lib.run_neq_ptr_same (P := Tryz.prog) (w.setCell ⟨b, 0, none⟩ (.pointer (some ⟨b, 0, none⟩))) ⟨b, 0, none⟩ Tryz.underlying107 hj
    have HU := Lib.hid (hb.set 0 (.pointer (some ⟨b, 0, none⟩)))
    have c0' := HU.out.get 0 _ rfl
    clear hb ho hv hsh hj hj2
    go_enter Tryz.func90, Tryz.ntmps90
    go_wp2
    go_end0
    obtain ⟨hb, ho, hv⟩ := HB.out
    exact ⟨rfl, ⟨v, HU.out, ho.kept (Lib.grownBy_setCell _ _ _ _) (by cases hu : v.ownBlock with | none => exact Or.inl rfl | some g => exact Or.inr (by rw [hu] at hv; exact hv)), hv⟩, (WK.refl N b w).set hN 0 _⟩
  · have h4 := Lib.run_neq_ptr_same (P := Tryz.prog) w ⟨b, 0, none⟩ Tryz.underlying107 hj
    clear hb ho hv hsh hj hj2
    go_enter Tryz.func90, Tryz.ntmps90
    go_wp2
    go_end0
    obtain ⟨hb, ho, hv⟩ := HB.out
    exact ⟨rfl, ⟨v, hb, ho, hv⟩, WK.refl _ _ _⟩

theorem infoU8 : (Tryz.prog.info? 5).map (fun i => (i.zero, i.size, i.bytes)) = some (some (.int .u8 0), 1, 1) := by kernel_rfl

set_option maxRecDepth 100000 in
set_option maxHeartbeats 1000000 in
theorem writeString_any (N b : Nat) (l x : Bytes) (k : Int) (w : World) (hN : N ≤ b) (hNw : N ≤ w.heap.size) (h : WB N b l k w) (hlen : l.length + x.length ≤ 10000000) :
    Calls Tryz.prog 75 #[.pointer (some ⟨b, 0, none⟩), .string ⟨x.toArray⟩] w fun e w' => e = .returned (.tuple #[.int .i64 (x.length : Int), .nilIface]) ∧ WB N b (l ++ x) k w' ∧ WK N b w w' := by
  have HC := Lib.hid (copyCheck_any N b l k w hN h)
  obtain ⟨i0, hi, hz0, hz1, hz2⟩ := info_parts infoU8
  have hxs : ByteArray.size ⟨x.toArray⟩ = x.length := rfl
  clear h
  go_enter Tryz.func75, Tryz.ntmps75
  go_wp2_with fail
  refine HC.out.mono ?_
  rintro e w1 ⟨rfl, ⟨v, hb, ho, hv⟩, hb1⟩
  have c1 := hb.get 1 v rfl
  have HB := Lib.hid (And.intro hb (And.intro ho (And.intro hv hb1)))
  have hNs : N ≤ w1.heap.size := Nat.le_trans hNw hb1.1.size
  have hm : l.length + ByteArray.size ⟨x.toArray⟩ ≤ maxLen := by rw [hxs]; unfold maxLen; omega
  have hm2 : l.length + ByteArray.size ⟨x.toArray⟩ ≤ 140737488355328 := by rw [hxs]; omega
  have HM := Lib.hid (And.intro hm hm2)
  clear hb ho hv hb1 hm hm2 hxs
  go_wp2_with (at_builtin; refine Hid.out ?_)
  unfold Hid
  refine Lib.wpList_append_own_string _ rfl _ _ 50 9 rfl N 5 i0 Tryz.underlying50 Tryz.underlying9 hi hz0 hz1 hz2 _ _ _ rfl HB.out.2.1 ⟨x.toArray⟩ rfl HM.out.1 HM.out.2 hNs ?_
  intro v' w2 ho2 hg2 hnil
  obtain ⟨hb, ho, hv, hb1⟩ := HB.out
  have hb2 : Blk b #[.pointer (some ⟨b, 0, none⟩), v, .int .i64 k] 111 w2 := hb.other hg2 (Ne.symm hv)
  have hv2 : v'.ownBlock ≠ some b := by
    intro e
    rcases own_slice ho2 with ⟨e1, _⟩ | ⟨gg, cc, e1⟩
    · rw [e1] at e; cases e
    · rw [e1] at e
      obtain rfl : gg = b := by simpa [Value.ownBlock] using e
      have h1 := ho2.2
      rcases h1 with ⟨e2, _⟩ | ⟨g3, c3, cur, e2, _, hc, _⟩
      · rw [e1] at e2; cases e2
      · rw [e1] at e2
        obtain ⟨rfl, _⟩ : gg = g3 ∧ cc = c3 := by simpa using e2
        unfold Blk at hb2
        rw [hb2] at hc
        simp at hc
  have hbw : WK N b w w2 := ⟨hb1.1.grown hg2 hNs (fun g e => (ho.lt g e).1), hb1.2.grown (show w1.grownBy w2 v.ownBlock from hg2) (fun g e => by
    rcases ho.2 with ⟨e1, _⟩ | ⟨g3, c3, cur, e1, _, hc, _⟩
    · rw [e1] at e; cases e
    · rw [e1] at e
      obtain rfl : g3 = g := by simpa [Value.ownBlock] using e
      exact ⟨cur, (0, 0), hc⟩)⟩
  have q1 := hb2.get 1 v rfl
  have qf := hb2.free 1
  have hb3 : Blk b #[.pointer (some ⟨b, 0, none⟩), v', .int .i64 k] 111 (w2.setCell ⟨b, 1, none⟩ v') := hb2.set 1 v'
  have ho3 : (w2.setCell ⟨b, 1, none⟩ v').ownsRow N 5 1 v' (l ++ x).length (Lib.byteCells (l ++ x)) := by
    have e : Lib.byteCells (l ++ x) = Lib.byteCells l ++ Lib.strCells ⟨x.toArray⟩ := by rw [Lib.byteCells_append]; rfl
    rw [e, List.length_append]
    exact ho2.kept (Lib.grownBy_setCell _ _ _ _) (by cases hu : v'.ownBlock with | none => exact Or.inl rfl | some g => exact Or.inr (by rw [hu] at hv2; exact hv2))
  have FIN := Lib.hid (And.intro (show WB N b (l ++ x) k (w2.setCell ⟨b, 1, none⟩ v') from ⟨_, v', hb3, ho3, hv2, Or.inr rfl⟩) (hbw.set hN 1 v'))
  obtain ⟨a', m', c', rfl⟩ : ∃ a m c, v' = .slice a m c := by
    rcases own_slice ho2 with ⟨e1, _⟩ | ⟨gg, cc, e1⟩
    · exact ⟨_, _, _, e1⟩
    · exact ⟨_, _, _, e1⟩
  clear ho2 hg2 hnil hb ho hv hb1 hb2 hv2 hbw hb3 ho3
  go_wp2
  go_ret2
  exact ⟨rfl, FIN.out⟩

set_option maxRecDepth 100000 in
set_option maxHeartbeats 1000000 in
theorem string_any (N b : Nat) (l : Bytes) (k : Int) (w : World) (hl : l ≠ []) (hlen : l.length ≤ 10000000) (h : WB N b l k w) :
    Calls Tryz.prog 43 #[.pointer (some ⟨b, 0, none⟩)] w fun e w' => e = .returned (.string ⟨l.toArray⟩) ∧ Below N w w' := by
  obtain ⟨p, v, hb, ho, hv, _⟩ := h
  have hl0 : l.length ≠ 0 := by simpa using hl
  obtain ⟨g, cap, cur, rfl, hbg, hg, hnc, hcm, hcs, htake⟩ : ∃ g cap cur, v = .slice (some ⟨g, 0, none⟩) l.length cap ∧ N ≤ g ∧ w.heap[g]? = some (.cells cur 5 (0, 0)) ∧ l.length ≤ cap ∧ cap ≤ maxLen ∧ cur.size = cap * 1 ∧ cur.toList.take (l.length * 1) = Lib.byteCells l := by
    rcases ho.2 with ⟨_, hz⟩ | ⟨g, cap, cur, hv, r⟩
    · exact absurd hz hl0
    · exact ⟨g, cap, cur, hv, r⟩
  have c1 : w.drew.cell? ⟨b, 1, none⟩ = some (.slice (some ⟨g, 0, none⟩) l.length cap) := hb.get 1 _ rfl
  have hSD : (Builtin.unsafeSliceData_ #[50] 127 #[.slice (some ⟨g, 0, none⟩) l.length cap]).run Tryz.prog w.drew = .ok (.pointer (some ⟨g, 0, none⟩)) w.drew :=
    Lib.run_unsafeSliceData_row _ _ _ _ _ _ (by omega)
  have hUS : (Builtin.unsafeString_ #[127, 3] 9 #[.pointer (some ⟨g, 0, none⟩), .int .i64 l.length]).run Tryz.prog w.drew = .ok (.string ⟨l.toArray⟩) (w.drew.freeze ⟨g, 0, none⟩ l.length) := by
    refine Lib.run_unsafeString_row w.drew 127 3 9 5 Tryz.underlying127 (by kernel_rfl) g cur.size (by have hg' : w.drew.heap[g]? = some (.cells cur 5 (0, 0)) := hg; simp [World.shape?, hg']) l hl (by omega) (by unfold maxLen at hcm; omega) ?_
    intro j x hx
    have := ho.cells (g := g) rfl j (.int .u8 x.toNat) (by simp [Lib.byteCells, hx])
    exact this
  have FIN := Lib.hid (Lib.below_freeze (Below.drew (Below.refl N w)) (p := ⟨g, 0, none⟩) hbg l.length)
  clear hb ho hv hg hnc hcm hcs htake hl hl0
  go_enter Tryz.func43, Tryz.ntmps43
  go_wp2
  go_region
  all_goals (go_wp2; go_ret; exact ⟨rfl, FIN.out⟩)

set_option maxRecDepth 100000 in
theorem more_any (N b : Nat) (l : Bytes) (k : Int) (w : World) (hN : N ≤ b) (hk : -1000000 ≤ k ∧ k ≤ 1000000) (h : WB N b l k w) :
    Calls Tryz.prog 41 #[.pointer (some ⟨b, 0, none⟩)] w fun e w' => e = .returned (.bool (decide (1 ≤ k))) ∧ WB N b l (k - 1) w' ∧ WK N b w w' := by
  obtain ⟨p, v, hb, ho, hv, hp⟩ := h
  have c2 := hb.get 2 _ rfl
  have f2 := hb.free 2
  obtain ⟨h1, h2⟩ := hk
  have FIN := Lib.hid (And.intro (show WB N b l (k - 1) (w.setCell ⟨b, 2, none⟩ (.int .i64 (k - 1))) from ⟨p, v, hb.set 2 _, ho.kept (Lib.grownBy_setCell _ _ _ _) (by cases hu : v.ownBlock with | none => exact Or.inl rfl | some g => exact Or.inr (by rw [hu] at hv; exact hv)), hv, hp⟩) ((WK.refl N b w).set hN 2 (.int .i64 (k - 1))))
  clear hb ho hv hp
  go_enter Tryz.func41, Tryz.ntmps41
  go_wp2
  go_ret
  refine ⟨?_, FIN.out⟩
  congr 2
end Go.Proofs.YtcgllooeimacdaaGreatDoor

/-! Texts that are put behind one another; a step to the right. -/

namespace Go.Proofs.YtcgllooeimacdaaGreatDoor
open Go Go.RowKit Px

def strsC (xs : List Bytes) : Array Value := (xs.map fun x => Value.string ⟨x.toArray⟩).toArray
/-- What a writing comes to. -/
def WPost (N b : Nat) (l : Bytes) (k : Int) (w : World) (e : Ending) (w' : World) : Prop := e = .returned (.tuple #[]) ∧ WB N b l k w' ∧ WK N b w w'

theorem WB.below {N b : Nat} {l : Bytes} {k : Int} {w w' : World} (h : WB N b l k w) (hb : Below w.heap.size w w') : WB N b l k w' := by
  obtain ⟨p, v, h1, h2, h3, h4⟩ := h
  refine ⟨p, v, h1.below hb h1.lt, ?_, h3, h4⟩
  obtain ⟨x1, x2⟩ := h2
  refine ⟨x1, ?_⟩
  rcases x2 with x2 | ⟨g, cap, cur, hv, hg, hc, r⟩
  · exact Or.inl x2
  · have hlt : g < w.heap.size := (Array.getElem?_eq_some_iff.1 hc).1
    exact Or.inr ⟨g, cap, cur, hv, hg, (hb.block g hlt).trans hc, r⟩
theorem WK.of_below {N b : Nat} {w w' : World} (hN : N ≤ w.heap.size) (hb : Below w.heap.size w w') : WK N b w w' :=
  ⟨hb.mono hN, fun k o hk _ _ => (hb.block k (Array.getElem?_eq_some_iff.1 hk).1).trans hk⟩
theorem WB.lt {N b : Nat} {l : Bytes} {k : Int} {w : World} (h : WB N b l k w) : b < w.heap.size := by
  obtain ⟨p, v, h1, _⟩ := h
  exact h1.lt

set_option maxRecDepth 100000 in
set_option maxHeartbeats 1000000 in
theorem put_any (N b tb c : Nat) (xs : List Bytes) (l : Bytes) (k : Int) (w : World) (hN : N ≤ b) (hNw : N ≤ w.heap.size) (h : WB N b l k w) (ht : Blk tb (strsC xs) 9 w) (htb : tb ≠ b) (hlen : l.length + xs.flatten.length ≤ 10000000) (hxs : xs.length ≤ 100) :
    Calls Tryz.prog 58 #[.pointer (some ⟨b, 0, none⟩), .slice (some ⟨tb, 0, none⟩) xs.length c] w (WPost N b (l ++ xs.flatten) k w) := by
  have HW := Lib.hid (And.intro h ht)
  have hx100 : (xs.length : Int) ≤ 100 := by omega
  have HLEN := Lib.hid hlen
  clear h ht hlen
  go_enter Tryz.func58, Tryz.ntmps58
  go_wp2_with fail
  go_loopw [8] (fun i wr => ∃ j : Nat, j ≤ xs.length ∧ i = .int .i64 j ∧ WB N b (l ++ (xs.take j).flatten) k wr ∧ WK N b w wr) (fun i _ => xs.length - (intOf i).toNat)
  case atStart => exact ⟨0, Nat.zero_le _, rfl, by simpa using HW.out.1, WK.refl _ _ _⟩
  case round =>
    obtain ⟨j, hj, rfl, hb, hk⟩ := hrel
    by_cases hlt : j < xs.length
    · have htr := hk.blk HW.out.2 htb (by decide)
      have hc : wr.cell? ⟨tb, j, none⟩ = some (.string ⟨(xs[j]'hlt).toArray⟩) := htr.get j _ (by simp [strsC, hlt])
      have hjl : (j : Int) < (xs.length : Int) := by omega
      have hsub : (l ++ (xs.take j).flatten).length + (xs[j]'hlt).length ≤ 10000000 := by
        have h1 := HLEN.out
        have h2 : (xs.take (j + 1)).flatten.length ≤ xs.flatten.length := by
          have := congrArg (fun t : List Bytes => t.flatten.length) (List.take_append_drop (j + 1) xs)
          simp only [List.flatten_append, List.length_append] at this
          omega
        rw [List.take_succ_eq_append_getElem hlt] at h2
        simp only [List.flatten_append, List.length_append, List.flatten_cons, List.flatten_nil, List.length_nil] at h2 ⊢
        omega
      have HC := Lib.hid (writeString_any N b (l ++ (xs.take j).flatten) (xs[j]'hlt) k wr hN (Nat.le_trans hNw hk.1.size) hb hsub)
      have HK := Lib.hid hk
      have HT := Lib.hid (show xs.take (j + 1) = xs.take j ++ [xs[j]'hlt] from List.take_succ_eq_append_getElem hlt)
      clear hb hk htr hsub
      generalize xs[j]'hlt = x at *
      go_wp2_with fail
      refine HC.out.mono ?_
      rintro e w1 ⟨rfl, h1, h2⟩
      have FIN := Lib.hid (And.intro h1 (HK.out.trans h2))
      clear h1 h2
      go_wp2
      go_roundw
      case rel => exact ⟨j + 1, by omega, by go_num, by rw [HT.out, List.flatten_append, ← List.append_assoc]; simpa using FIN.out.1, FIN.out.2⟩
      case measure => simp [intOf]; omega
    · obtain rfl : j = xs.length := by omega
      have FIN := Lib.hid (And.intro hb hk)
      clear hb hk
      go_wp2
      go_end0
      exact ⟨rfl, by have := FIN.out.1; rwa [List.take_length] at this, FIN.out.2⟩

set_option maxRecDepth 100000 in
set_option maxHeartbeats 1000000 in
theorem indent_any (N b d : Nat) (l : Bytes) (k : Int) (w : World) (hN : N ≤ b) (hNw : N ≤ w.heap.size) (h : WB N b l k w) (hd : d ≤ 1000) (hlen : l.length + (Lib.repeatL [32, 32] d).length ≤ 10000000) :
    Calls Tryz.prog 77 #[.pointer (some ⟨b, 0, none⟩), .int .i64 (d : Int)] w (WPost N b (l ++ Lib.repeatL [32, 32] d) k w) := by
  have HC := Lib.hid (show Calls Tryz.prog 92 #[.string ⟨#[32, 32]⟩, .int .i64 (d : Int)] w fun e w' => e = .returned (.string ⟨(Lib.repeatL [32, 32] d).toArray⟩) ∧ Below w.heap.size w w' from Tryz.strings_Repeat ⟨#[32, 32]⟩ d w (by omega) (by show 2 * d ≤ _; omega))
  generalize Lib.repeatL [32, 32] d = t at *
  have hlt := h.lt
  have HW := Lib.hid h
  clear h
  go_enter Tryz.func77, Tryz.ntmps77
  go_wp2_with fail
  refine HC.out.mono ?_
  rintro e w1 ⟨rfl, hb⟩
  obtain ⟨V, hV⟩ : ∃ V, V = w1.alloc (.cells #[.string ⟨t.toArray⟩] 9) := ⟨_, rfl⟩
  have hbV : Below w.heap.size w V := by rw [hV]; exact hb.alloc hb.size _
  have htV : Blk w1.heap.size (strsC [t]) 9 V := by rw [hV]; exact Blk.new _ _ _
  have HP := Lib.hid (put_any N b w1.heap.size 1 [t] l k V hN (Nat.le_trans hNw hbV.size) (HW.out.below hbV) htV (by have := hb.size; omega) (by simpa using hlen) (by simp))
  have HK := Lib.hid (WK.of_below (b := b) hNw hbV)
  have HVV := Lib.hid hV
  clear hb hbV htV hV
  go_wp2_with fail
  rw [← HVV.out]
  refine HP.out.mono ?_
  rintro e w2 ⟨rfl, h1, h2⟩
  have FIN := Lib.hid (show WPost N b (l ++ t) k w (.returned (.tuple #[])) w2 from ⟨rfl, by simpa using h1, HK.out.trans h2⟩)
  clear h1 h2
  go_wp2
  go_end0
  exact FIN.out

/-- Texts in a list that was just made. -/
theorem put_new (N b : Nat) (xs : List Bytes) (c : Nat) (l : Bytes) (k : Int) (w : World) (hN : N ≤ b) (hNw : N ≤ w.heap.size) (h : WB N b l k w) (hlen : l.length + xs.flatten.length ≤ 10000000) (hxs : xs.length ≤ 100) :
    Calls Tryz.prog 58 #[.pointer (some ⟨b, 0, none⟩), .slice (some ⟨w.heap.size, 0, none⟩) xs.length c] (w.alloc (.cells (strsC xs) 9)) (WPost N b (l ++ xs.flatten) k w) := by
  have hb : Below w.heap.size w (w.alloc (.cells (strsC xs) 9)) := (Below.refl _ _).alloc (Nat.le_refl _) _
  refine (put_any N b w.heap.size c xs l k _ hN (Nat.le_trans hNw hb.size) (h.below hb) (Blk.new w _ _) (by have := h.lt; omega) hlen hxs).mono ?_
  rintro e w' ⟨h1, h2, h3⟩
  exact ⟨h1, h2, (WK.of_below hNw hb).trans h3⟩
theorem put1 (N b : Nat) (x : Bytes) (l : Bytes) (k : Int) (w : World) (hN : N ≤ b) (hNw : N ≤ w.heap.size) (h : WB N b l k w) (hlen : l.length + x.length ≤ 10000000) :
    Calls Tryz.prog 58 #[.pointer (some ⟨b, 0, none⟩), .slice (some ⟨w.heap.size, 0, none⟩) 1 1] (w.alloc (.cells #[.string ⟨x.toArray⟩] 9)) (WPost N b (l ++ x) k w) := by
  have := put_new N b [x] 1 l k w hN hNw h (by simpa using hlen) (by simp)
  simpa [strsC] using this
theorem put2 (N b : Nat) (x y : Bytes) (l : Bytes) (k : Int) (w : World) (hN : N ≤ b) (hNw : N ≤ w.heap.size) (h : WB N b l k w) (hlen : l.length + (x ++ y).length ≤ 10000000) :
    Calls Tryz.prog 58 #[.pointer (some ⟨b, 0, none⟩), .slice (some ⟨w.heap.size, 0, none⟩) 2 2] (w.alloc (.cells #[.string ⟨x.toArray⟩, .string ⟨y.toArray⟩] 9)) (WPost N b (l ++ (x ++ y)) k w) := by
  have := put_new N b [x, y] 2 l k w hN hNw h (by simpa using hlen) (by simp)
  simpa [strsC] using this
theorem put3 (N b : Nat) (x y z : Bytes) (l : Bytes) (k : Int) (w : World) (hN : N ≤ b) (hNw : N ≤ w.heap.size) (h : WB N b l k w) (hlen : l.length + (x ++ (y ++ z)).length ≤ 10000000) :
    Calls Tryz.prog 58 #[.pointer (some ⟨b, 0, none⟩), .slice (some ⟨w.heap.size, 0, none⟩) 3 3] (w.alloc (.cells #[.string ⟨x.toArray⟩, .string ⟨y.toArray⟩, .string ⟨z.toArray⟩] 9)) (WPost N b (l ++ (x ++ (y ++ z))) k w) := by
  have := put_new N b [x, y, z] 3 l k w hN hNw h (by simpa using hlen) (by simp)
  simpa [strsC] using this

set_option maxRecDepth 100000 in
/-- The first of a list's expressions. -/
theorem part_any (gb cap n i : Nat) (hi : i < n) (hn : n ≤ 1000000) (k op : Nat) (nm : Bytes) (m pos : Nat) (a : Option Addr) (len c : Nat) (w : World)
    (h : ∀ j u, (exCells k op nm m pos a len c).toList[j]? = some u → w.cell? ⟨gb, i * 6 + j, none⟩ = some u) (hg : gb < w.heap.size) :
    Calls Tryz.prog 104 #[.slice (some ⟨gb, 0, none⟩) n cap, .int .i64 (i : Int)] w fun e w' => e = .returned (.agg (exCells k op nm m pos a len c)) ∧ Below w.heap.size w w' := by
  obtain ⟨W, hW⟩ : ∃ W, W = w.alloc ex0 := ⟨_, rfl⟩
  have hbW : Below w.heap.size w W := by rw [hW]; exact (Below.refl _ _).alloc (Nat.le_refl _) _
  have hz : Blk w.heap.size zEx 36 W := by rw [hW]; exact Blk.new _ _ _
  have c0 := (hbW.cell (p := ⟨gb, i * 6 + 0, none⟩) hg).trans (h 0 _ rfl)
  have c1 := (hbW.cell (p := ⟨gb, i * 6 + 1, none⟩) hg).trans (h 1 _ rfl)
  have c2 := (hbW.cell (p := ⟨gb, i * 6 + 2, none⟩) hg).trans (h 2 _ rfl)
  have c3 := (hbW.cell (p := ⟨gb, i * 6 + 3, none⟩) hg).trans (h 3 _ rfl)
  have c4 := (hbW.cell (p := ⟨gb, i * 6 + 4, none⟩) hg).trans (h 4 _ rfl)
  have c5 := (hbW.cell (p := ⟨gb, i * 6 + 5, none⟩) hg).trans (h 5 _ rfl)
  rw [Nat.add_zero] at c0
  obtain ⟨z0, z1, z2, z3, z4, z5⟩ := hz.get6
  obtain ⟨f0, f1, f2, f3, f4, f5⟩ := hz.free6
  have hil : (i : Int) < (n : Int) := by omega
  have hn' : (n : Int) ≤ 1000000 := by omega
  have FIN := Lib.hid (hz.set6 (.int .u8 (k : Int)) (.int .u8 (op : Int)) (.string ⟨nm.toArray⟩) (.int .i64 (m : Int)) (.int .i64 (pos : Int)) (.slice a len c)).get6
  have HBB := Lib.hid (show Below w.heap.size w (set6 W w.heap.size (.int .u8 (k : Int)) (.int .u8 (op : Int)) (.string ⟨nm.toArray⟩) (.int .i64 (m : Int)) (.int .i64 (pos : Int)) (.slice a len c)) from
    hbW.grown (grown_set6 _ _ _ _ _ _ _ _) hbW.size (fun g e => by cases e; exact Nat.le_refl _))
  have HWW := Lib.hid hW
  clear hW hbW hz h
  go_enter Tryz.func104, Tryz.ntmps104
  go_upto_region 1 with (fail)
  rw [← HWW.out]
  go_wp2
  rw [← set6_eq]
  obtain ⟨y0, y1, y2, y3, y4, y5⟩ := FIN.out
  clear z0 z1 z2 z3 z4 z5 f0 f1 f2 f3 f4 f5 c0 c1 c2 c3 c4 c5
  exact bodyPost_ret (v := .agg (exCells k op nm m pos a len c)) (by simp [results, Tryz.results104, go_sem, y0, y1, y2, y3, y4, y5]) rfl ⟨rfl, HBB.out⟩
end Go.Proofs.YtcgllooeimacdaaGreatDoor

/-! Expressions written: numbers below a hundred, and signs of two between them, with brackets where they must be. -/

namespace Go.Proofs.YtcgllooeimacdaaGreatDoor
open Go Go.RowKit Px

def kindOf : Ex → Nat
  | .mk k _ _ _ _ _ => k
def opOf : Ex → Nat
  | .mk _ op _ _ _ _ => op
def wrapT (a : Ex) (least : Nat) (t : Bytes) : Bytes := if kindOf a = 9 ∧ (signOf (opOf a)).2 < least then [40] ++ (t ++ [41]) else t

/-- Expressions that are written here: the text, and how many parts they are. -/
inductive SupE : Ex → Bytes → Nat → Prop
  | num (n pos : Nat) (h : n < 100) : SupE (.mk 1 0 [] n pos []) (Lib.decDigits n) 1
  | bin (op pos : Nat) (a b : Ex) (ta tb : Bytes) (ca cb : Nat) (h1 : 1 ≤ op) (h2 : op ≤ 18) (ha : SupE a ta ca) (hb : SupE b tb cb) :
    SupE (.mk 9 op [] 0 pos [a, b]) (wrapT a (signOf op).2 ta ++ (([32] ++ ((signOf op).1 ++ [32])) ++ wrapT b ((signOf op).2 + 1) tb)) (1 + ca + cb)

theorem ExC_cells {w : World} {ok : Nat → Prop} {k op : Nat} {nm : Bytes} {n pos : Nat} {args : List Ex} {k' op' : Nat} {nm' : Bytes} {n' pos' : Nat} {a : Option Addr} {m c : Nat} (h : ExC w ok (.mk k op nm n pos args) (exCells k' op' nm' n' pos' a m c).toList) :
    k' = k ∧ op' = op ∧ nm' = nm ∧ n' = n ∧ pos' = pos ∧ ((args = [] ∧ Value.slice a m c = .slice none 0 0) ∨ ∃ g cap xs, Value.slice a m c = .slice (some ⟨g, 0, none⟩) args.length cap ∧ ok g ∧ w.ownsRow 0 36 6 (.slice a m c) args.length xs ∧ ExsC w ok args xs) := by
  simp only [ExC] at h
  obtain ⟨sv, h1, h2⟩ := h
  simp only [List.cons.injEq, Value.int.injEq, Value.string.injEq, true_and, and_true, ByteArray.mk.injEq, Int.natCast_inj] at h1
  obtain ⟨e1, e2, e3, e4, e5, rfl⟩ := h1
  exact ⟨e1, e2, by simpa using e3, e4, e5, h2⟩

/-- An expression's writing. -/
def ExW (x : Ex) (t : Bytes) (cn : Nat) : Prop := ∀ (N b : Nat) (l : Bytes) (k : Int) (w : World) (kk op : Nat) (nm : Bytes) (n pos : Nat) (a : Option Addr) (m c : Nat), N ≤ b → N ≤ w.heap.size → WB N b l k w →
  ExC w (fun g => g < N) x (exCells kk op nm n pos a m c).toList → (cn : Int) ≤ k → k ≤ 100000 → l.length + t.length ≤ 1000000 →
  Calls Tryz.prog 103 #[.pointer (some ⟨b, 0, none⟩), .agg (exCells kk op nm n pos a m c)] w (WPost N b (l ++ t) (k - cn) w)
def OpW2 (x : Ex) (t : Bytes) (cn : Nat) : Prop := ∀ (N b : Nat) (l : Bytes) (k : Int) (w : World) (kk op : Nat) (nm : Bytes) (n pos : Nat) (a : Option Addr) (m c least : Nat), N ≤ b → N ≤ w.heap.size → WB N b l k w →
  ExC w (fun g => g < N) x (exCells kk op nm n pos a m c).toList → (cn : Int) ≤ k → k ≤ 100000 → l.length + (wrapT x least t).length ≤ 1000000 → least ≤ 20 →
  Calls Tryz.prog 125 #[.pointer (some ⟨b, 0, none⟩), .agg (exCells kk op nm n pos a m c), .int .i64 (least : Int)] w (WPost N b (l ++ wrapT x least t) (k - cn) w)

theorem ExC_down {N b : Nat} {w w' : World} {x : Ex} {cs : List Value} (h : ExC w (fun g => g < N) x cs) (hk : WK N b w w') : ExC w' (fun g => g < N) x cs :=
  h.stays fun g hg _ => ⟨hk.1.block g hg, hg⟩

set_option maxRecDepth 100000 in
set_option maxHeartbeats 1000000 in
theorem num_W (n pos : Nat) (hn : n < 100) : ExW (.mk 1 0 [] n pos []) (Lib.decDigits n) 1 := by
  intro N b l k w kk op nm n' pos' a m c hN hNw hb hx hk1 hk2 hlen
  obtain ⟨rfl, rfl, rfl, rfl, rfl, _⟩ := ExC_cells hx
  obtain ⟨W, hW⟩ : ∃ W, W = w.alloc (.cells (exCells 1 0 [] n' pos' a m c) 36) := ⟨_, rfl⟩
  have hbW : Below w.heap.size w W := by rw [hW]; exact (Below.refl _ _).alloc (Nat.le_refl _) _
  have hE : Blk w.heap.size (exCells 1 0 [] n' pos' a m c) 36 W := by rw [hW]; exact Blk.new _ _ _
  have HM := Lib.hid (more_any N b l k W hN ⟨by omega, by omega⟩ (hb.below hbW))
  have HH := Lib.hid (And.intro hbW (And.intro hE hb))
  have HWW := Lib.hid hW
  have hk0 : decide (1 ≤ k) = true := by simp; omega
  have HF := Lib.hid fun w1 => Tryz.strconv_FormatInt_10_small n' hn w1
  have hblt := hb.lt
  clear hx hbW hE hW hb
  generalize Lib.decDigits n' = t at *
  go_enter Tryz.func103, Tryz.ntmps103
  go_upto_region 1 with (fail)
  rw [← HWW.out]
  go_wp2_with fail
  refine HM.out.mono ?_
  rintro e w1 ⟨rfl, h1, h2⟩
  rw [hk0]
  have hE1 := h2.blk HH.out.2.1 (by omega) (by decide)
  have HW1 := Lib.hid (And.intro h1 ((WK.of_below hNw HH.out.1).trans h2))
  obtain ⟨c0, c1, c2, c3, c4, c5⟩ := hE1.get6
  clear h1 h2 hE1
  go_wp2_with fail
  refine (HF.out w1).mono ?_
  rintro e w1' ⟨rfl, rfl⟩
  have HP := Lib.hid (put1 N b t l (k - 1) w1' hN (Nat.le_trans hNw HW1.out.2.1.size) HW1.out.1 (by omega))
  clear c0 c1 c2 c3 c4 c5
  go_wp2_with fail
  refine HP.out.mono ?_
  rintro e w2 ⟨rfl, h1, h2⟩
  have FIN := Lib.hid (show WPost N b (l ++ t) (k - (1 : Nat)) w (.returned (.tuple #[])) w2 from ⟨rfl, h1, HW1.out.2.trans h2⟩)
  clear h1 h2
  go_wp2
  go_end0
  exact FIN.out

set_option maxRecDepth 100000 in
set_option maxHeartbeats 1000000 in
theorem operand_W (x : Ex) (t : Bytes) (cn : Nat) (hop : opOf x < 256) (hE : ExW x t cn) : OpW2 x t cn := by
  intro N b l k w kk op nm n pos a m c least hN hNw hb hx hk1 hk2 hlen hl20
  obtain ⟨k0, op0, nm0, n0, pos0, args0⟩ := x
  obtain ⟨rfl, rfl, rfl, rfl, rfl, _⟩ := ExC_cells hx
  change op < 256 at hop
  obtain ⟨W, hW⟩ : ∃ W, W = w.alloc (.cells (exCells kk op nm n pos a m c) 36) := ⟨_, rfl⟩
  have hbW : Below w.heap.size w W := by rw [hW]; exact (Below.refl _ _).alloc (Nat.le_refl _) _
  have hB : Blk w.heap.size (exCells kk op nm n pos a m c) 36 W := by rw [hW]; exact Blk.new _ _ _
  have hKW : WK N b w W := WK.of_below hNw hbW
  have HS := Lib.hid (signs_any op hop W)
  have HH := Lib.hid (And.intro hKW (And.intro hB (And.intro (hb.below hbW) (ExC_down hx hKW))))
  have HWW := Lib.hid hW
  have HX := Lib.hid fun l1 k1 w1 (h1 : N ≤ w1.heap.size) (h2 : WB N b l1 k1 w1) h3 h4 h5 h6 => hE N b l1 k1 w1 kk op nm n pos a m c hN h1 h2 h3 h4 h5 h6
  obtain ⟨c0, c1, c2, c3, c4, c5⟩ := hB.get6
  have hblt := hb.lt
  have hNW : N ≤ W.heap.size := Nat.le_trans hNw hbW.size
  clear hx hbW hB hW hb hE hKW
  by_cases hbr : kk = 9 ∧ (signOf op).2 < least
  · have HT := Lib.hid (show wrapT (.mk kk op nm n pos args0) least t = [40] ++ (t ++ [41]) by unfold wrapT; exact if_pos hbr)
    rw [HT.out] at hlen
    simp only [List.length_append, List.length_cons, List.length_nil] at hlen
    obtain ⟨rfl, hlt9⟩ := hbr
    have hd : decide (least ≤ (signOf op).2) = false := by simp; omega
    have HP1 := Lib.hid fun w1 (h1 : N ≤ w1.heap.size) (h2 : WB N b l k w1) => put1 N b [40] l k w1 hN h1 h2 (by simp; omega)
    have HP2 := Lib.hid fun l1 k1 w1 (h1 : N ≤ w1.heap.size) (h2 : WB N b l1 k1 w1) (h3 : l1.length ≤ 1000000) => put1 N b [41] l1 k1 w1 hN h1 h2 (by simp; omega)
    go_enter Tryz.func125, Tryz.ntmps125
    go_upto_region 1 with (fail)
    rw [← HWW.out]
    go_wp2_with fail
    refine HS.out.mono ?_
    rintro e W' ⟨rfl, rfl⟩
    unfold signV
    go_wp2_with fail
    refine (HP1.out W hNW HH.out.2.2.1).mono ?_
    rintro e w1 ⟨rfl, h1, h2⟩
    have hN1 : N ≤ w1.heap.size := Nat.le_trans hNW h2.1.size
    have hB1 := h2.blk HH.out.2.1 (by omega) (by decide)
    obtain ⟨d0, d1, d2, d3, d4, d5⟩ := hB1.get6
    have HC := Lib.hid (HX.out (l ++ [40]) k w1 hN1 h1 (ExC_down HH.out.2.2.2 h2) hk1 hk2 (by simp; omega))
    have HK1 := Lib.hid (HH.out.1.trans h2)
    clear h1 h2 hB1 c0 c1 c2 c3 c4 c5
    go_wp2_with fail
    refine HC.out.mono ?_
    rintro e w2 ⟨rfl, h1, h2⟩
    have hN2 : N ≤ w2.heap.size := Nat.le_trans hN1 h2.1.size
    have HC2 := Lib.hid (HP2.out _ _ w2 hN2 h1 (by simp; omega))
    have HK2 := Lib.hid (HK1.out.trans h2)
    clear h1 h2 d0 d1 d2 d3 d4 d5
    go_wp2_with fail
    refine HC2.out.mono ?_
    rintro e w3 ⟨rfl, h1, h2⟩
    have FIN := Lib.hid (show WPost N b (l ++ wrapT (.mk 9 op nm n pos args0) least t) (k - cn) w (.returned (.tuple #[])) w3 from ⟨rfl, by rw [HT.out]; simpa using h1, HK2.out.trans h2⟩)
    clear h1 h2
    go_wp2
    go_end0
    exact FIN.out
  · have HT := Lib.hid (show wrapT (.mk kk op nm n pos args0) least t = t by unfold wrapT; exact if_neg hbr)
    rw [HT.out] at hlen
    have HC := Lib.hid (HX.out l k W hNW HH.out.2.2.1 HH.out.2.2.2 hk1 hk2 (by omega))
    have hcases : kk ≠ 9 ∨ (kk = 9 ∧ least ≤ (signOf op).2) := by omega
    clear hbr
    rcases hcases with h9 | ⟨rfl, h9⟩
    · have h9' : ((kk : Int) == 9) = false := by rw [beq_eq_false_iff_ne]; omega
      have h9'' : ((kk : Int) != 9) = true := by rw [bne_iff_ne]; omega
      go_enter Tryz.func125, Tryz.ntmps125
      go_upto_region 1 with (fail)
      rw [← HWW.out]
      go_wp2_with fail
      refine HS.out.mono ?_
      rintro e W' ⟨rfl, rfl⟩
      unfold signV
      go_wp2_with fail
      refine HC.out.mono ?_
      rintro e w2 ⟨rfl, h1, h2⟩
      have FIN := Lib.hid (show WPost N b (l ++ wrapT (.mk kk op nm n pos args0) least t) (k - cn) w (.returned (.tuple #[])) w2 from ⟨rfl, by rw [HT.out]; exact h1, HH.out.1.trans h2⟩)
      clear h1 h2 c0 c1 c2 c3 c4 c5
      go_wp2
      go_end0
      exact FIN.out
    · have hd : decide (least ≤ (signOf op).2) = true := by simpa using h9
      go_enter Tryz.func125, Tryz.ntmps125
      go_upto_region 1 with (fail)
      rw [← HWW.out]
      go_wp2_with fail
      refine HS.out.mono ?_
      rintro e W' ⟨rfl, rfl⟩
      unfold signV
      go_wp2_with fail
      refine HC.out.mono ?_
      rintro e w2 ⟨rfl, h1, h2⟩
      have FIN := Lib.hid (show WPost N b (l ++ wrapT (.mk 9 op nm n pos args0) least t) (k - cn) w (.returned (.tuple #[])) w2 from ⟨rfl, by rw [HT.out]; exact h1, HH.out.1.trans h2⟩)
      clear h1 h2 c0 c1 c2 c3 c4 c5
      go_wp2
      go_end0
      exact FIN.out
end Go.Proofs.YtcgllooeimacdaaGreatDoor

/-! Expressions of two written; all that are written here. -/

namespace Go.Proofs.YtcgllooeimacdaaGreatDoor
open Go Go.RowKit Px

theorem SupE.op_le {x : Ex} {t : Bytes} {c : Nat} (h : SupE x t c) : opOf x < 256 := by
  cases h with
  | num n pos h => exact (by decide : 0 < 256)
  | bin op pos a b ta tb ca cb h1 h2 ha hb => exact (by show op < 256; omega)

theorem ExC_form {w : World} {ok : Nat → Prop} {x : Ex} {cs : List Value} (h : ExC w ok x cs) : ∃ (k op : Nat) (nm : Bytes) (n pos : Nat) (a : Option Addr) (m c : Nat), cs = (exCells k op nm n pos a m c).toList := by
  obtain ⟨k, op, nm, n, pos, args⟩ := x
  simp only [ExC] at h
  obtain ⟨sv, rfl, h2⟩ := h
  rcases h2 with ⟨_, rfl⟩ | ⟨g, cap, xs, rfl, _⟩
  · exact ⟨k, op, nm, n, pos, none, 0, 0, rfl⟩
  · exact ⟨k, op, nm, n, pos, some ⟨g, 0, none⟩, args.length, cap, rfl⟩

set_option maxRecDepth 100000 in
set_option maxHeartbeats 2000000 in
theorem bin_W (op pos : Nat) (xa xb : Ex) (ta tb : Bytes) (ca cb : Nat) (h1 : 1 ≤ op) (h2 : op ≤ 18) (hA : OpW2 xa ta ca) (hB : OpW2 xb tb cb) :
    ExW (.mk 9 op [] 0 pos [xa, xb]) (wrapT xa (signOf op).2 ta ++ (([32] ++ ((signOf op).1 ++ [32])) ++ wrapT xb ((signOf op).2 + 1) tb)) (1 + ca + cb) := by
  intro N b l k w kk op' nm n' pos' a m c hN hNw hb hx hk1 hk2 hlen
  obtain ⟨rfl, rfl, rfl, rfl, rfl, hrow⟩ := ExC_cells hx
  rcases hrow with ⟨h, _⟩ | ⟨g, cap, xs, hsl, hg, ho, hxs⟩
  · cases h
  simp only [ExsC] at hxs
  obtain ⟨ka, d, rfl, hxa, kb, d2, rfl, hxb, rfl⟩ := hxs
  obtain ⟨ak, ao, an, am, ap, aa, al, ac, rfl⟩ := ExC_form hxa
  obtain ⟨bk, bo, bn, bm, bp, ba, bl, bc, rfl⟩ := ExC_form hxb
  cases hsl
  obtain ⟨W, hW⟩ : ∃ W, W = w.alloc (.cells (exCells 9 op' [] 0 pos' (some ⟨g, 0, none⟩) 2 c) 36) := ⟨_, rfl⟩
  have hbW : Below w.heap.size w W := by rw [hW]; exact (Below.refl _ _).alloc (Nat.le_refl _) _
  have hE : Blk w.heap.size (exCells 9 op' [] 0 pos' (some ⟨g, 0, none⟩) 2 c) 36 W := by rw [hW]; exact Blk.new _ _ _
  have HM := Lib.hid (more_any N b l k W hN ⟨by omega, by omega⟩ (hb.below hbW))
  have hKW : WK N b w W := WK.of_below hNw hbW
  have hadd : ∀ j, (⟨g, 0, none⟩ : Addr).add j = ⟨g, j, none⟩ := by intro j; unfold Addr.add; split <;> simp_all
  have hcell : ∀ j u, ((exCells ak ao an am ap aa al ac).toList ++ (((exCells bk bo bn bm bp ba bl bc).toList) ++ []))[j]? = some u → w.cell? ⟨g, j, none⟩ = some u := fun j u hu => by
    have := ho.cells (g := g) rfl j u hu
    rwa [hadd] at this
  have hca : ∀ w1, WK N b w w1 → ∀ j u, (exCells ak ao an am ap aa al ac).toList[j]? = some u → w1.cell? ⟨g, 0 * 6 + j, none⟩ = some u := fun w1 hk j u hu =>
    (hk.1.cell (p := ⟨g, 0 * 6 + j, none⟩) hg).trans (hcell _ u (by
      have hj : j < 6 := by have := (List.getElem?_eq_some_iff.1 hu).1; simpa using this
      rw [show 0 * 6 + j = j from by omega, List.getElem?_append_left (by simpa using hj)]; exact hu))
  have hcb : ∀ w1, WK N b w w1 → ∀ j u, (exCells bk bo bn bm bp ba bl bc).toList[j]? = some u → w1.cell? ⟨g, 1 * 6 + j, none⟩ = some u := fun w1 hk j u hu =>
    (hk.1.cell (p := ⟨g, 1 * 6 + j, none⟩) hg).trans (hcell _ u (by
      rw [List.getElem?_append_right (by simp), List.append_nil, show 1 * 6 + j - ((exCells ak ao an am ap aa al ac).toList).length = j from by simp]; exact hu))
  have hsz : ∀ w1, WK N b w w1 → g < w1.heap.size := fun w1 hk => Nat.lt_of_lt_of_le hg (Nat.le_trans hNw hk.1.size)
  have HPA := Lib.hid fun w1 (hk : WK N b w w1) => part_any g c 2 0 (by omega) (by omega) ak ao an am ap aa al ac w1 (hca w1 hk) (hsz w1 hk)
  have HPB := Lib.hid fun w1 (hk : WK N b w w1) => part_any g c 2 1 (by omega) (by omega) bk bo bn bm bp ba bl bc w1 (hcb w1 hk) (hsz w1 hk)
  have HXA := Lib.hid fun w1 (hk : WK N b w w1) => ExC_down hxa hk
  have HXB := Lib.hid fun w1 (hk : WK N b w w1) => ExC_down hxb hk
  have HH := Lib.hid (And.intro hKW (And.intro hE hb))
  have HS := Lib.hid fun w1 => signs_any op' (by omega) w1
  have HA := Lib.hid fun l1 k1 w1 h1 h2 h3 h4 h5 h6 h7 => hA N b l1 k1 w1 ak ao an am ap aa al ac (signOf op').2 hN h1 h2 h3 h4 h5 h6 h7
  have HB := Lib.hid fun l1 k1 w1 h1 h2 h3 h4 h5 h6 h7 => hB N b l1 k1 w1 bk bo bn bm bp ba bl bc ((signOf op').2 + 1) hN h1 h2 h3 h4 h5 h6 h7
  have HP3 := Lib.hid fun l1 k1 w1 (h1 : N ≤ w1.heap.size) (h2 : WB N b l1 k1 w1) h3 => put3 N b [32] (signOf op').1 [32] l1 k1 w1 hN h1 h2 h3
  have hk0 : decide (1 ≤ k) = true := by simp; omega
  have hq12 := signOf_lt op'
  have hblt := hb.lt
  have HWW := Lib.hid hW
  have htl : (wrapT xa (signOf op').2 ta).length ≤ ta.length + 2 ∧ (wrapT xb ((signOf op').2 + 1) tb).length ≤ tb.length + 2 ∧ ta.length ≤ (wrapT xa (signOf op').2 ta).length ∧ tb.length ≤ (wrapT xb ((signOf op').2 + 1) tb).length := by
    unfold wrapT
    refine ⟨?_, ?_, ?_, ?_⟩ <;> (split <;> (simp; try omega))
  have HLEN := Lib.hid (And.intro htl hlen)
  clear hx hbW hE hW hb ho hxa hxb hcell hca hcb hsz hadd hKW hA hB htl hlen
  go_enter Tryz.func103, Tryz.ntmps103
  go_upto_region 1 with (fail)
  rw [← HWW.out]
  go_wp2_with fail
  refine HM.out.mono ?_
  rintro e w1 ⟨rfl, h1', h2'⟩
  rw [hk0]
  have hE1 := h2'.blk HH.out.2.1 (by omega) (by decide)
  have HW1 := Lib.hid (And.intro h1' (HH.out.1.trans h2'))
  obtain ⟨c0, c1, c2, c3, c4, c5⟩ := hE1.get6
  have HE1 := Lib.hid hE1
  clear h1' h2' hE1
  go_wp2_with fail
  refine (HS.out w1).mono ?_
  rintro e w1x ⟨rfl, rfl⟩
  unfold signV
  go_wp2_with fail
  refine (HPA.out w1 HW1.out.2).mono ?_
  rintro e w2 ⟨rfl, hb2⟩
  have hN1 : N ≤ w1.heap.size := Nat.le_trans hNw HW1.out.2.1.size
  have hk2' : WK N b w w2 := HW1.out.2.trans (WK.of_below hN1 hb2)
  have hN2 : N ≤ w2.heap.size := Nat.le_trans hN1 hb2.size
  have HK2 := Lib.hid hk2'
  have HWB2 := Lib.hid (HW1.out.1.below hb2)
  have HEb2 := Lib.hid (HE1.out.below hb2 HE1.out.lt)
  clear hb2 hk2' c0 c1 c2 c3 c4 c5
  have hlA : l.length + (wrapT xa (signOf op').2 ta).length ≤ 1000000 := by
    have x5 := HLEN.out.2
    simp only [List.length_append] at x5
    omega
  have HCA := Lib.hid (HA.out l (k - 1) w2 hN2 HWB2.out (HXA.out w2 HK2.out) (by omega) (by omega) hlA (by omega))
  go_wp2_with fail
  refine HCA.out.mono ?_
  rintro e w3 ⟨rfl, h1', h2'⟩
  have hE3 := h2'.blk HEb2.out (by omega) (by decide)
  obtain ⟨c0, c1, c2, c3, c4, c5⟩ := hE3.get6
  have hN3 : N ≤ w3.heap.size := Nat.le_trans hN2 h2'.1.size
  have HK3 := Lib.hid (HK2.out.trans h2')
  have HE3 := Lib.hid hE3
  have hl3 : (l ++ wrapT xa (signOf op').2 ta).length + ([32] ++ ((signOf op').1 ++ [32])).length ≤ 10000000 := by
    obtain ⟨⟨x1, _, _, _⟩, x5⟩ := HLEN.out
    simp only [List.length_append, List.length_cons, List.length_nil] at x5 ⊢
    omega
  have HP := Lib.hid (HP3.out _ _ w3 hN3 h1' hl3)
  clear h1' h2' hE3 hl3 hlA
  go_wp2_with fail
  refine HP.out.mono ?_
  rintro e w4 ⟨rfl, h1', h2'⟩
  have hE4 := h2'.blk HE3.out (by omega) (by decide)
  have hN4 : N ≤ w4.heap.size := Nat.le_trans hN3 h2'.1.size
  have HK4 := Lib.hid (HK3.out.trans h2')
  have HW4 := Lib.hid h1'
  clear c0 c1 c2 c3 c4 c5
  obtain ⟨c0, c1, c2, c3, c4, c5⟩ := hE4.get6
  have HPB4 := Lib.hid (HPB.out w4 HK4.out)
  clear h1' h2' hE4
  go_wp2_with fail
  refine HPB4.out.mono ?_
  rintro e w5 ⟨rfl, hb5⟩
  have hN5 : N ≤ w5.heap.size := Nat.le_trans hN4 hb5.size
  have HK5 := Lib.hid (HK4.out.trans (WK.of_below hN4 hb5))
  have hl5 : ((l ++ wrapT xa (signOf op').2 ta) ++ ([32] ++ ((signOf op').1 ++ [32]))).length + (wrapT xb ((signOf op').2 + 1) tb).length ≤ 1000000 := by
    have x5 := HLEN.out.2
    simp only [List.length_append] at x5 ⊢
    omega
  have HCB := Lib.hid (HB.out _ (k - 1 - ca) w5 hN5 (HW4.out.below hb5) (HXB.out w5 HK5.out) (by omega) (by omega) hl5 (by omega))
  rw [show (((signOf op').2 + 1 : Nat) : Int) = ((signOf op').2 : Int) + 1 from rfl] at HCB
  clear hb5 hl5 c0 c1 c2 c3 c4 c5
  go_wp2_with fail
  refine HCB.out.mono ?_
  rintro e w6 ⟨rfl, h1', h2'⟩
  have FIN := Lib.hid (show WPost N b (l ++ (wrapT xa (signOf op').2 ta ++ (([32] ++ ((signOf op').1 ++ [32])) ++ wrapT xb ((signOf op').2 + 1) tb))) (k - ((1 + ca + cb : Nat) : Int)) w (.returned (.tuple #[])) w6 from
    ⟨rfl, by rw [show k - ((1 + ca + cb : Nat) : Int) = k - 1 - ca - cb from by omega]; simpa [List.append_assoc] using h1', HK5.out.trans h2'⟩)
  clear h1' h2'
  go_wp2
  go_end0
  exact FIN.out

theorem sup_W {x : Ex} {t : Bytes} {c : Nat} (h : SupE x t c) : ExW x t c := by
  induction h with
  | num n pos h => exact num_W n pos h
  | bin op pos a b ta tb ca cb h1 h2 ha hb iha ihb => exact bin_W op pos a b ta tb ca cb h1 h2 (operand_W a ta ca ha.op_le iha) (operand_W b tb cb hb.op_le ihb)
end Go.Proofs.YtcgllooeimacdaaGreatDoor

/-! A statement written: a return with its value. -/

namespace Go.Proofs.YtcgllooeimacdaaGreatDoor
open Go Go.RowKit Px

abbrev retC (id pos g cap : Nat) (y z : Value) : Array Value := smCells 6 id [] 0 0 pos (.slice (some ⟨g, 0, none⟩) 1 cap) y z
abbrev retT (t : Bytes) : Bytes := [114, 101, 116, 117, 114, 110] ++ ([32] ++ t)

theorem one_row {w : World} {N g cap : Nat} {x : Ex} (h : ExRow w (fun g => g < N) [x] (.slice (some ⟨g, 0, none⟩) 1 cap)) :
    g < N ∧ ∃ (k op : Nat) (nm : Bytes) (n pos : Nat) (a : Option Addr) (m c : Nat), ExC w (fun g => g < N) x (exCells k op nm n pos a m c).toList ∧
      ∀ w', Below N w w' → ∀ j u, (exCells k op nm n pos a m c).toList[j]? = some u → w'.cell? ⟨g, j, none⟩ = some u := by
  rcases h with ⟨h, _⟩ | ⟨g', cap', xs, e, hg, ho, hxs⟩
  · cases h
  cases e
  simp only [ExsC] at hxs
  obtain ⟨ka, d, rfl, hxa, rfl⟩ := hxs
  obtain ⟨ak, ao, an, am, ap, aa, al, ac, rfl⟩ := ExC_form hxa
  refine ⟨hg, ak, ao, an, am, ap, aa, al, ac, hxa, ?_⟩
  intro w' hb j u hu
  have hadd : ∀ j, (⟨g, 0, none⟩ : Addr).add j = ⟨g, j, none⟩ := by intro j; unfold Addr.add; split <;> simp_all
  rw [hb.cell (p := ⟨g, j, none⟩) hg]
  have := ho.cells (g := g) rfl j u (by rw [List.append_nil]; exact hu)
  rwa [hadd] at this

set_option maxRecDepth 100000 in
set_option maxHeartbeats 2000000 in
theorem plain_any (x : Ex) (t : Bytes) (cn : Nat) (hE : ExW x t cn) (N b : Nat) (l : Bytes) (k : Int) (w : World) (id pos g cap : Nat) (y z : Value) (hN : N ≤ b) (hNw : N ≤ w.heap.size) (hb : WB N b l k w)
    (hx : ExRow w (fun g => g < N) [x] (.slice (some ⟨g, 0, none⟩) 1 cap)) (hk1 : (cn : Int) ≤ k) (hk2 : k ≤ 100000) (hlen : l.length + (retT t).length ≤ 1000000) :
    Calls Tryz.prog 105 #[.pointer (some ⟨b, 0, none⟩), .agg (retC id pos g cap y z)] w (WPost N b (l ++ retT t) (k - cn) w) := by
  obtain ⟨hg, ak, ao, an, am, ap, aa, al, ac, hxa, hcell⟩ := one_row hx
  obtain ⟨W, hW⟩ : ∃ W, W = w.alloc (.cells (retC id pos g cap y z) 39) := ⟨_, rfl⟩
  have hbW : Below w.heap.size w W := by rw [hW]; exact (Below.refl _ _).alloc (Nat.le_refl _) _
  have hB : Blk w.heap.size (retC id pos g cap y z) 39 W := by rw [hW]; exact Blk.new _ _ _
  have hKW : WK N b w W := WK.of_below hNw hbW
  have HP1 := Lib.hid (put1 N b [114, 101, 116, 117, 114, 110] l k W hN (Nat.le_trans hNw hbW.size) (hb.below hbW) (by simp at hlen ⊢; omega))
  have HP2 := Lib.hid fun l1 k1 w1 (h1 : N ≤ w1.heap.size) (h2 : WB N b l1 k1 w1) (h3 : l1.length ≤ 1000000) => put1 N b [32] l1 k1 w1 hN h1 h2 (by simp; omega)
  have HX := Lib.hid fun l1 k1 w1 (hk : WK N b w w1) (h2 : WB N b l1 k1 w1) h4 h5 h6 => hE N b l1 k1 w1 ak ao an am ap aa al ac hN (Nat.le_trans hNw hk.1.size) h2 (ExC_down hxa hk) h4 h5 h6
  have HH := Lib.hid (And.intro hKW (And.intro hB hb))
  have HC := Lib.hid hcell
  have HLEN := Lib.hid hlen
  have HWW := Lib.hid hW
  obtain ⟨c0, c1, c2, c3, c4, c5, c6, c7, c8⟩ := hB.get9
  have hblt := hb.lt
  clear hx hbW hW hb hB hKW hE hxa hcell hlen
  go_enter Tryz.func105, Tryz.ntmps105
  go_upto_region 1 with (fail)
  rw [← HWW.out]
  go_wp2_with fail
  refine HP1.out.mono ?_
  rintro e w1 ⟨rfl, h1', h2'⟩
  have hB1 := h2'.blk HH.out.2.1 (by omega) (by decide)
  have hK1 := HH.out.1.trans h2'
  have HB1 := Lib.hid hB1
  have HK1 := Lib.hid hK1
  clear c0 c1 c2 c3 c4 c5 c6 c7 c8
  obtain ⟨c0, c1, c2, c3, c4, c5, c6, c7, c8⟩ := hB1.get9
  have HQ2 := Lib.hid (HP2.out _ _ w1 (Nat.le_trans hNw hK1.1.size) h1' (by have := HLEN.out; simp at this ⊢; omega))
  clear h1' h2' hB1 hK1
  go_wp2_with fail
  refine HQ2.out.mono ?_
  rintro e w2 ⟨rfl, h1', h2'⟩
  have hB2 := h2'.blk HB1.out (by omega) (by decide)
  have hK2 := HK1.out.trans h2'
  have HK2 := Lib.hid hK2
  clear c0 c1 c2 c3 c4 c5 c6 c7 c8
  obtain ⟨c0, c1, c2, c3, c4, c5, c6, c7, c8⟩ := hB2.get9
  have d0 := HC.out w2 hK2.1 0 _ rfl
  have d1 := HC.out w2 hK2.1 1 _ rfl
  have d2 := HC.out w2 hK2.1 2 _ rfl
  have d3 := HC.out w2 hK2.1 3 _ rfl
  have d4 := HC.out w2 hK2.1 4 _ rfl
  have d5 := HC.out w2 hK2.1 5 _ rfl
  have HQ3 := Lib.hid (HX.out _ _ w2 hK2 h1' hk1 hk2 (by have := HLEN.out; simp at this ⊢; omega))
  clear h1' h2' hB2 hK2
  go_wp2_with fail
  refine HQ3.out.mono ?_
  rintro e w3 ⟨rfl, h1', h2'⟩
  have FIN := Lib.hid (show WPost N b (l ++ retT t) (k - cn) w (.returned (.tuple #[])) w3 from ⟨rfl, by simpa [List.append_assoc] using h1', HK2.out.trans h2'⟩)
  clear h1' h2' c0 c1 c2 c3 c4 c5 c6 c7 c8 d0 d1 d2 d3 d4 d5
  go_wp2
  go_end0
  exact FIN.out
end Go.Proofs.YtcgllooeimacdaaGreatDoor

/-! A statement, a block, a function written: one return with its value. -/

namespace Go.Proofs.YtcgllooeimacdaaGreatDoor
open Go Go.RowKit Px

theorem ExRow_down {N b : Nat} {w w' : World} {l : List Ex} {sv : Value} (h : ExRow w (fun g => g < N) l sv) (hk : WK N b w w') : ExRow w' (fun g => g < N) l sv :=
  h.stays fun g hg _ => ⟨hk.1.block g hg, hg⟩

set_option maxRecDepth 100000 in
set_option maxHeartbeats 2000000 in
theorem statement_W (x : Ex) (t : Bytes) (cn : Nat) (hE : ExW x t cn) (N b : Nat) (l : Bytes) (k : Int) (w : World) (id pos g cap d : Nat) (y z : Value) (hN : N ≤ b) (hNw : N ≤ w.heap.size) (hb : WB N b l k w)
    (hx : ExRow w (fun g => g < N) [x] (.slice (some ⟨g, 0, none⟩) 1 cap)) (hk1 : (cn : Int) ≤ k) (hk2 : k ≤ 100000) (hlen : l.length + (retT t).length ≤ 1000000) :
    Calls Tryz.prog 91 #[.pointer (some ⟨b, 0, none⟩), .agg (retC id pos g cap y z), .int .i64 (d : Int)] w (WPost N b (l ++ (retT t ++ [59])) (k - cn) w) := by
  obtain ⟨W, hW⟩ : ∃ W, W = w.alloc (.cells (retC id pos g cap y z) 39) := ⟨_, rfl⟩
  have hbW : Below w.heap.size w W := by rw [hW]; exact (Below.refl _ _).alloc (Nat.le_refl _) _
  have hB : Blk w.heap.size (retC id pos g cap y z) 39 W := by rw [hW]; exact Blk.new _ _ _
  have hKW : WK N b w W := WK.of_below hNw hbW
  have HQ := Lib.hid (plain_any x t cn hE N b l k W id pos g cap y z hN (Nat.le_trans hNw hbW.size) (hb.below hbW) (ExRow_down hx hKW) hk1 hk2 hlen)
  have HP2 := Lib.hid fun l1 k1 w1 (h1 : N ≤ w1.heap.size) (h2 : WB N b l1 k1 w1) (h3 : l1.length ≤ 1000000) => put1 N b [59] l1 k1 w1 hN h1 h2 (by simp; omega)
  have HH := Lib.hid (And.intro hKW (And.intro hB hb))
  have HLEN := Lib.hid hlen
  have HWW := Lib.hid hW
  obtain ⟨c0, c1, c2, c3, c4, c5, c6, c7, c8⟩ := hB.get9
  clear hx hbW hW hb hB hKW hE hlen
  go_enter Tryz.func91, Tryz.ntmps91
  go_upto_region 1 with (fail)
  rw [← HWW.out]
  go_wp2_with fail
  refine HQ.out.mono ?_
  rintro e w1 ⟨rfl, h1', h2'⟩
  have hK1 := HH.out.1.trans h2'
  have HK1 := Lib.hid hK1
  have HQ2 := Lib.hid (HP2.out _ _ w1 (Nat.le_trans hNw hK1.1.size) h1' (by have := HLEN.out; simp at this ⊢; omega))
  clear h1' h2' hK1 c0 c1 c2 c3 c4 c5 c6 c7 c8
  go_wp2_with fail
  refine HQ2.out.mono ?_
  rintro e w3 ⟨rfl, h1', h2'⟩
  have FIN := Lib.hid (show WPost N b (l ++ (retT t ++ [59])) (k - cn) w (.returned (.tuple #[])) w3 from ⟨rfl, by simpa [List.append_assoc] using h1', HK1.out.trans h2'⟩)
  clear h1' h2'
  go_wp2
  go_end0
  exact FIN.out

/-- One statement in a row. -/
theorem one_stm {w : World} {N g cap id pos : Nat} {x : Ex} (h : SmRow w (fun g => g < N) [.mk 6 id [] 0 0 pos [x] [] []] (.slice (some ⟨g, 0, none⟩) 1 cap)) :
    g < N ∧ ∃ (ge ce : Nat) (a2 : Option Addr) (m2 c2 : Nat) (a3 : Option Addr) (m3 c3 : Nat), ExRow w (fun g => g < N) [x] (.slice (some ⟨ge, 0, none⟩) 1 ce) ∧
      ∀ w', Below N w w' → ∀ j u, (retC id pos ge ce (.slice a2 m2 c2) (.slice a3 m3 c3)).toList[j]? = some u → w'.cell? ⟨g, j, none⟩ = some u := by
  rcases h with ⟨h, _⟩ | ⟨g', cap', xs, e, hg, ho, hxs⟩
  · cases h
  cases e
  simp only [SmsC, SmC] at hxs
  obtain ⟨ka, d, rfl, ⟨v1, v2, v3, rfl, h1, h2, h3⟩, rfl⟩ := hxs
  have h1' := h1
  rcases h1 with ⟨h, _⟩ | ⟨ge, ce, _, rfl, _⟩
  · cases h
  have h2' : ∃ (a : Option Addr) (m c : Nat), v2 = .slice a m c := by
    rcases h2 with ⟨_, rfl⟩ | ⟨_, _, _, rfl, _⟩
    · exact ⟨_, _, _, rfl⟩
    · exact ⟨_, _, _, rfl⟩
  have h3' : ∃ (a : Option Addr) (m c : Nat), v3 = .slice a m c := by
    rcases h3 with ⟨_, rfl⟩ | ⟨_, _, _, rfl, _⟩
    · exact ⟨_, _, _, rfl⟩
    · exact ⟨_, _, _, rfl⟩
  obtain ⟨a2, m2, c2, rfl⟩ := h2'
  obtain ⟨a3, m3, c3, rfl⟩ := h3'
  clear h2 h3
  refine ⟨hg, ge, ce, a2, m2, c2, a3, m3, c3, h1', ?_⟩
  intro w' hb j u hu
  have hadd : ∀ j, (⟨g, 0, none⟩ : Addr).add j = ⟨g, j, none⟩ := by intro j; unfold Addr.add; split <;> simp_all
  rw [hb.cell (p := ⟨g, j, none⟩) hg]
  have := ho.cells (g := g) rfl j u (by rw [List.append_nil]; exact hu)
  rwa [hadd] at this
end Go.Proofs.YtcgllooeimacdaaGreatDoor

/-! Statements, a block, a function written: one return with its value. -/

namespace Go.Proofs.YtcgllooeimacdaaGreatDoor
open Go Go.RowKit Px

abbrev retL (d : Nat) (t : Bytes) : Bytes := Lib.repeatL [32, 32] d ++ ((retT t ++ [59]) ++ [10])

set_option maxRecDepth 100000 in
set_option maxHeartbeats 2000000 in
theorem statements_W (x : Ex) (t : Bytes) (cn : Nat) (hE : ExW x t cn) (N b : Nat) (l : Bytes) (k : Int) (w : World) (id pos g cap d : Nat) (hN : N ≤ b) (hNw : N ≤ w.heap.size) (hb : WB N b l k w)
    (hx : SmRow w (fun g => g < N) [.mk 6 id [] 0 0 pos [x] [] []] (.slice (some ⟨g, 0, none⟩) 1 cap)) (hk1 : (cn : Int) + 1 ≤ k) (hk2 : k ≤ 100000) (hd : d ≤ 1000) (hlen : l.length + (retL d t).length ≤ 1000000) :
    Calls Tryz.prog 76 #[.pointer (some ⟨b, 0, none⟩), .slice (some ⟨g, 0, none⟩) 1 cap, .int .i64 (d : Int)] w (WPost N b (l ++ retL d t) (k - 1 - cn) w) := by
  obtain ⟨hg, ge, ce, a2, m2, e2, a3, m3, e3, hxe, hcell⟩ := one_stm hx
  have c0 := hcell w (Below.refl _ _) 0 _ rfl
  have c1 := hcell w (Below.refl _ _) 1 _ rfl
  have c2 := hcell w (Below.refl _ _) 2 _ rfl
  have c3 := hcell w (Below.refl _ _) 3 _ rfl
  have c4 := hcell w (Below.refl _ _) 4 _ rfl
  have c5 := hcell w (Below.refl _ _) 5 _ rfl
  have c6 := hcell w (Below.refl _ _) 6 _ rfl
  have c7 := hcell w (Below.refl _ _) 7 _ rfl
  have c8 := hcell w (Below.refl _ _) 8 _ rfl
  obtain ⟨W, hW⟩ : ∃ W, W = w.alloc (.cells (retC id pos ge ce (.slice a2 m2 e2) (.slice a3 m3 e3)) 39) := ⟨_, rfl⟩
  have hbW : Below w.heap.size w W := by rw [hW]; exact (Below.refl _ _).alloc (Nat.le_refl _) _
  have hB : Blk w.heap.size (retC id pos ge ce (.slice a2 m2 e2) (.slice a3 m3 e3)) 39 W := by rw [hW]; exact Blk.new _ _ _
  have hKW : WK N b w W := WK.of_below hNw hbW
  have HM := Lib.hid (more_any N b l k W hN ⟨by omega, by omega⟩ (hb.below hbW))
  have HI := Lib.hid fun l1 k1 w1 (hk : WK N b w w1) (h2 : WB N b l1 k1 w1) h3 => indent_any N b d l1 k1 w1 hN (Nat.le_trans hNw hk.1.size) h2 hd h3
  have HS := Lib.hid fun l1 k1 w1 (hk : WK N b w w1) (h2 : WB N b l1 k1 w1) h4 h5 h6 => statement_W x t cn hE N b l1 k1 w1 id pos ge ce d (.slice a2 m2 e2) (.slice a3 m3 e3) hN (Nat.le_trans hNw hk.1.size) h2 (ExRow_down hxe hk) h4 h5 h6
  have HP := Lib.hid fun l1 k1 w1 (hk : WK N b w w1) (h2 : WB N b l1 k1 w1) h3 => put1 N b [10] l1 k1 w1 hN (Nat.le_trans hNw hk.1.size) h2 h3
  have HH := Lib.hid (And.intro hKW (And.intro hB hb))
  have HLEN := Lib.hid hlen
  have HWW := Lib.hid (show W = w.alloc (.cells #[.int .u8 6, .int .i64 (id : Int), .string ⟨#[]⟩, .int .u8 0, .int .i64 0, .int .i64 (pos : Int), .slice (some ⟨ge, 0, none⟩) 1 ce, .slice a2 m2 e2, .slice a3 m3 e3] 39) from hW)
  have hk0 : decide (1 ≤ k) = true := by simp; omega
  have hblt := hb.lt
  clear hx hE hcell hxe hbW hB hKW hb hW hlen
  go_enter Tryz.func76, Tryz.ntmps76
  go_wp2_with fail
  refine wp_loop_rounds 2 ?_
  rw [rounds_succ]
  go_wp2_with fail
  rw [← HWW.out]
  refine HM.out.mono ?_
  rintro e w1 ⟨rfl, h1', h2'⟩
  rw [hk0]
  have hB1 := h2'.blk HH.out.2.1 (by omega) (by decide)
  have hK1 := HH.out.1.trans h2'
  have HB1 := Lib.hid hB1
  have HK1 := Lib.hid hK1
  clear c0 c1 c2 c3 c4 c5 c6 c7 c8
  have HQ := Lib.hid (HI.out _ _ w1 hK1 h1' (by have := HLEN.out; simp only [List.length_append] at this; omega))
  clear h1' h2' hB1 hK1
  go_wp2_with fail
  refine HQ.out.mono ?_
  rintro e w2 ⟨rfl, h1', h2'⟩
  have hB2 := h2'.blk HB1.out (by omega) (by decide)
  have hK2 := HK1.out.trans h2'
  have HK2 := Lib.hid hK2
  obtain ⟨c0, c1, c2, c3, c4, c5, c6, c7, c8⟩ := hB2.get9
  have HQ2 := Lib.hid (HS.out _ _ w2 hK2 h1' (by omega) (by omega) (by have := HLEN.out; simp only [List.length_append] at this ⊢; omega))
  clear h1' h2' hB2 hK2
  go_wp2_with fail
  refine HQ2.out.mono ?_
  rintro e w3 ⟨rfl, h1', h2'⟩
  have hK3 := HK2.out.trans h2'
  have HK3 := Lib.hid hK3
  have HQ3 := Lib.hid (HP.out _ _ w3 hK3 h1' (by have := HLEN.out; simp only [List.length_append, List.length_cons, List.length_nil] at this ⊢; omega))
  clear h1' h2' hK3 c0 c1 c2 c3 c4 c5 c6 c7 c8
  go_wp2_with fail
  refine HQ3.out.mono ?_
  rintro e w4 ⟨rfl, h1', h2'⟩
  have FIN := Lib.hid (show WPost N b (l ++ retL d t) (k - 1 - cn) w (.returned (.tuple #[])) w4 from ⟨rfl, by unfold retL; simpa [List.append_assoc] using h1', HK3.out.trans h2'⟩)
  clear h1' h2'
  go_wp2_with fail
  rw [rounds_succ]
  go_wp2
  go_end0
  exact FIN.out
end Go.Proofs.YtcgllooeimacdaaGreatDoor

/-! A block, a function, a program written: one return with its value. -/

namespace Go.Proofs.YtcgllooeimacdaaGreatDoor
open Go Go.RowKit Px

abbrev blkT (d : Nat) (t : Bytes) : Bytes := [32, 123, 10] ++ (retL (d + 1) t ++ (Lib.repeatL [32, 32] d ++ [125]))
abbrev retS (id pos : Nat) (x : Ex) : Sm := .mk 6 id [] 0 0 pos [x] [] []

theorem SmRow_down {N b : Nat} {w w' : World} {l : List Sm} {sv : Value} (h : SmRow w (fun g => g < N) l sv) (hk : WK N b w w') : SmRow w' (fun g => g < N) l sv :=
  h.stays fun g hg _ => ⟨hk.1.block g hg, hg⟩

set_option maxRecDepth 100000 in
set_option maxHeartbeats 2000000 in
theorem block_W (x : Ex) (t : Bytes) (cn : Nat) (hE : ExW x t cn) (N b : Nat) (l : Bytes) (k : Int) (w : World) (id pos g cap d : Nat) (hN : N ≤ b) (hNw : N ≤ w.heap.size) (hb : WB N b l k w)
    (hx : SmRow w (fun g => g < N) [retS id pos x] (.slice (some ⟨g, 0, none⟩) 1 cap)) (hk1 : (cn : Int) + 1 ≤ k) (hk2 : k ≤ 100000) (hd : d < 200) (hlen : l.length + (blkT d t).length ≤ 1000000) :
    Calls Tryz.prog 59 #[.pointer (some ⟨b, 0, none⟩), .slice (some ⟨g, 0, none⟩) 1 cap, .int .i64 (d : Int)] w (WPost N b (l ++ blkT d t) (k - 1 - cn) w) := by
  have HP1 := Lib.hid (put1 N b [32, 123, 10] l k w hN hNw hb (by simp at hlen ⊢; omega))
  have HS := Lib.hid fun l1 k1 w1 (hk : WK N b w w1) (h2 : WB N b l1 k1 w1) h4 h5 h6 => statements_W x t cn hE N b l1 k1 w1 id pos g cap (d + 1) hN (Nat.le_trans hNw hk.1.size) h2 (SmRow_down hx hk) h4 h5 (by omega) h6
  have HI := Lib.hid fun l1 k1 w1 (hk : WK N b w w1) (h2 : WB N b l1 k1 w1) h3 => indent_any N b d l1 k1 w1 hN (Nat.le_trans hNw hk.1.size) h2 (by omega) h3
  have HP := Lib.hid fun l1 k1 w1 (hk : WK N b w w1) (h2 : WB N b l1 k1 w1) h3 => put1 N b [125] l1 k1 w1 hN (Nat.le_trans hNw hk.1.size) h2 h3
  have HLEN := Lib.hid hlen
  have hdi : (d : Int) < 200 := by omega
  have hd0 : (0 : Int) ≤ d := by omega
  clear hx hE hb hlen
  go_enter Tryz.func59, Tryz.ntmps59
  go_wp2_with fail
  refine HP1.out.mono ?_
  rintro e w1 ⟨rfl, h1', hK1⟩
  have HK1 := Lib.hid hK1
  have HQ := Lib.hid (HS.out _ _ w1 hK1 h1' (by omega) (by omega) (by have := HLEN.out; unfold blkT at this; simp only [List.length_append] at this ⊢; omega))
  rw [show ((d + 1 : Nat) : Int) = (d : Int) + 1 from rfl] at HQ
  clear h1' hK1
  go_wp2_with fail
  refine HQ.out.mono ?_
  rintro e w2 ⟨rfl, h1', h2'⟩
  have hK2 := HK1.out.trans h2'
  have HK2 := Lib.hid hK2
  have HQ2 := Lib.hid (HI.out _ _ w2 hK2 h1' (by have := HLEN.out; unfold blkT at this; simp only [List.length_append] at this ⊢; omega))
  clear h1' h2' hK2
  go_wp2_with fail
  refine HQ2.out.mono ?_
  rintro e w3 ⟨rfl, h1', h2'⟩
  have hK3 := HK2.out.trans h2'
  have HK3 := Lib.hid hK3
  have HQ3 := Lib.hid (HP.out _ _ w3 hK3 h1' (by have := HLEN.out; unfold blkT at this; simp only [List.length_append, List.length_cons, List.length_nil] at this ⊢; omega))
  clear h1' h2' hK3
  go_wp2_with fail
  refine HQ3.out.mono ?_
  rintro e w4 ⟨rfl, h1', h2'⟩
  have FIN := Lib.hid (show WPost N b (l ++ blkT d t) (k - 1 - cn) w (.returned (.tuple #[])) w4 from ⟨rfl, by unfold blkT; simpa [List.append_assoc] using h1', HK3.out.trans h2'⟩)
  clear h1' h2'
  go_wp2
  go_end0
  exact FIN.out

abbrev fnT (nm : Bytes) (y : Nat) (t : Bytes) : Bytes := ([102, 110, 32] ++ (nm ++ [40])) ++ ([41] ++ (([58, 32] ++ nameOf y) ++ (blkT 0 t ++ [10])))
abbrev fnC (nm : Bytes) (y pos : Nat) (a1 : Option Addr) (c1 g cap : Nat) : Array Value := fuCells nm (.slice a1 0 c1) (.int .u8 (y : Int)) (.slice (some ⟨g, 0, none⟩) 1 cap) pos

set_option maxRecDepth 100000 in
set_option maxHeartbeats 2000000 in
theorem function_W (x : Ex) (t : Bytes) (cn : Nat) (hE : ExW x t cn) (N b : Nat) (l : Bytes) (k : Int) (w : World) (id pos g cap : Nat) (nm : Bytes) (y pf : Nat) (a1 : Option Addr) (c1 : Nat) (hy : 1 ≤ y) (hN : N ≤ b) (hNw : N ≤ w.heap.size) (hb : WB N b l k w)
    (hx : SmRow w (fun g => g < N) [retS id pos x] (.slice (some ⟨g, 0, none⟩) 1 cap)) (hk1 : (cn : Int) + 1 ≤ k) (hk2 : k ≤ 100000) (hlen : l.length + (fnT nm y t).length ≤ 1000000) :
    Calls Tryz.prog 42 #[.pointer (some ⟨b, 0, none⟩), .agg (fnC nm y pf a1 c1 g cap)] w (WPost N b (l ++ fnT nm y t) (k - 1 - cn) w) := by
  obtain ⟨W, hW⟩ : ∃ W, W = w.alloc (.cells (fnC nm y pf a1 c1 g cap) 42) := ⟨_, rfl⟩
  have hbW : Below w.heap.size w W := by rw [hW]; exact (Below.refl _ _).alloc (Nat.le_refl _) _
  have hB : Blk w.heap.size (fnC nm y pf a1 c1 g cap) 42 W := by rw [hW]; exact Blk.new _ _ _
  have hKW : WK N b w W := WK.of_below hNw hbW
  have HP1 := Lib.hid (put3 N b [102, 110, 32] nm [40] l k W hN (Nat.le_trans hNw hbW.size) (hb.below hbW) (by unfold fnT at hlen; simp only [List.length_append] at hlen ⊢; omega))
  have HP := Lib.hid fun z l1 k1 w1 (hk : WK N b w w1) (h2 : WB N b l1 k1 w1) h3 => put1 N b z l1 k1 w1 hN (Nat.le_trans hNw hk.1.size) h2 h3
  have HP2 := Lib.hid fun l1 k1 w1 (hk : WK N b w w1) (h2 : WB N b l1 k1 w1) h3 => put2 N b [58, 32] (nameOf y) l1 k1 w1 hN (Nat.le_trans hNw hk.1.size) h2 h3
  have HNm := Lib.hid fun w1 => name_any' y w1
  have HS := Lib.hid fun l1 k1 w1 (hk : WK N b w w1) (h2 : WB N b l1 k1 w1) h4 h5 h6 => block_W x t cn hE N b l1 k1 w1 id pos g cap 0 hN (Nat.le_trans hNw hk.1.size) h2 (SmRow_down hx hk) h4 h5 (by omega) h6
  have HH := Lib.hid (And.intro hKW (And.intro hB hb))
  have HLEN := Lib.hid hlen
  have HWW := Lib.hid hW
  have hy1 : (1 : Int) ≤ y := by omega
  have hblt := hb.lt
  obtain ⟨c0, c1, c2, c3, c4⟩ := hB.get5
  clear hx hbW hW hb hB hKW hE hlen
  go_enter Tryz.func42, Tryz.ntmps42
  go_upto_region 1 with (fail)
  rw [← HWW.out]
  go_wp2_with fail
  refine HP1.out.mono ?_
  rintro e w1 ⟨rfl, h1', h2'⟩
  have hB1 := h2'.blk HH.out.2.1 (by omega) (by decide)
  have hK1 := HH.out.1.trans h2'
  have HB1 := Lib.hid hB1
  have HK1 := Lib.hid hK1
  clear c0 c1 c2 c3 c4
  obtain ⟨c0, c1, c2, c3, c4⟩ := hB1.get5
  have HQ2 := Lib.hid (HP.out [41] _ _ w1 hK1 h1' (by have := HLEN.out; unfold fnT at this; simp only [List.length_append] at this ⊢; omega))
  clear h1' h2' hB1 hK1
  go_wp2_with fail
  refine wp_loop_rounds 1 ?_
  rw [rounds_succ]
  go_wp2_with fail
  refine HQ2.out.mono ?_
  rintro e w2 ⟨rfl, h1', h2'⟩
  have hB2 := h2'.blk HB1.out (by omega) (by decide)
  have hK2 := HK1.out.trans h2'
  have HB2 := Lib.hid hB2
  have HK2 := Lib.hid hK2
  clear c0 c1 c2 c3 c4
  obtain ⟨c0, c1, c2, c3, c4⟩ := hB2.get5
  have HQ3 := Lib.hid (HP2.out _ _ w2 hK2 h1' (by have := HLEN.out; unfold fnT at this; simp only [List.length_append] at this ⊢; omega))
  clear h1' h2' hB2 hK2
  go_wp2_with fail
  refine (HNm.out w2).mono ?_
  rintro e w2' ⟨rfl, rfl⟩
  go_wp2_with fail
  refine HQ3.out.mono ?_
  rintro e w3 ⟨rfl, h1', h2'⟩
  have hB3 := h2'.blk HB2.out (by omega) (by decide)
  have hK3 := HK2.out.trans h2'
  have HK3 := Lib.hid hK3
  clear c0 c1 c2 c3 c4
  obtain ⟨c0, c1, c2, c3, c4⟩ := hB3.get5
  have HQ4 := Lib.hid (HS.out _ _ w3 hK3 h1' (by omega) (by omega) (by have := HLEN.out; unfold fnT at this; simp only [List.length_append] at this ⊢; omega))
  clear h1' h2' hB3 hK3
  go_wp2_with fail
  refine HQ4.out.mono ?_
  rintro e w4 ⟨rfl, h1', h2'⟩
  have hK4 := HK3.out.trans h2'
  have HK4 := Lib.hid hK4
  have HQ5 := Lib.hid (HP.out [10] _ _ w4 hK4 h1' (by have := HLEN.out; unfold fnT at this; simp only [List.length_append] at this ⊢; omega))
  clear h1' h2' hK4 c0 c1 c2 c3 c4
  go_wp2_with fail
  refine HQ5.out.mono ?_
  rintro e w5 ⟨rfl, h1', h2'⟩
  have FIN := Lib.hid (show WPost N b (l ++ fnT nm y t) (k - 1 - cn) w (.returned (.tuple #[])) w5 from ⟨rfl, by unfold fnT; simpa [List.append_assoc] using h1', HK4.out.trans h2'⟩)
  clear h1' h2'
  go_wp2
  go_end0
  exact FIN.out
end Go.Proofs.YtcgllooeimacdaaGreatDoor

/-! A program of one function with one return is written. -/

namespace Go.Proofs.YtcgllooeimacdaaGreatDoor
open Go Go.RowKit Px

/-- One function in a row. -/
theorem one_fun {w : World} {ok : Nat → Prop} {a : Option Addr} {c id pos pf y : Nat} {nm : Bytes} {x : Ex} (hok : ∀ g, ok g → g < w.heap.size → g < w.heap.size) (h : FuRow w ok [⟨nm, [], y, [retS id pos x], pf⟩] (.slice a 1 c)) :
    ∃ g, a = some ⟨g, 0, none⟩ ∧ g < w.heap.size ∧ ∃ (a1 : Option Addr) (c1 gs cs : Nat), SmRow w (fun g => g < w.heap.size) [retS id pos x] (.slice (some ⟨gs, 0, none⟩) 1 cs) ∧
      ∀ j u, (fnC nm y pf a1 c1 gs cs).toList[j]? = some u → w.cell? ⟨g, j, none⟩ = some u := by
  have h := RowW.stays (w' := w) (ok' := fun g => g < w.heap.size) h (fun g _ hl => ⟨rfl, hl⟩) (fun xs hx => FusC.stays (w' := w) (ok' := fun g => g < w.heap.size) (fun g _ hl => ⟨rfl, hl⟩) _ xs hx)
  rcases h with ⟨h, _⟩ | ⟨g, cap', xs, e, hg, ho, hxs⟩
  · cases h
  cases e
  simp only [FusC, FuC] at hxs
  obtain ⟨ka, d, rfl, ⟨v1, v2, rfl, h1, h2⟩, rfl⟩ := hxs
  have h1' : ∃ (a : Option Addr) (c : Nat), v1 = .slice a 0 c := by
    rcases h1 with ⟨_, rfl⟩ | ⟨_, _, _, rfl, _⟩
    · exact ⟨_, _, rfl⟩
    · exact ⟨_, _, rfl⟩
  obtain ⟨a1, c1, rfl⟩ := h1'
  have h2' := h2
  rcases h2 with ⟨h, _⟩ | ⟨gs, cs, _, rfl, _⟩
  · cases h
  refine ⟨g, rfl, hg, a1, c1, gs, cs, h2', ?_⟩
  intro j u hu
  have hadd : ∀ j, (⟨g, 0, none⟩ : Addr).add j = ⟨g, j, none⟩ := by intro j; unfold Addr.add; split <;> simp_all
  have := ho.cells (g := g) rfl j u (by rw [List.append_nil]; exact hu)
  rwa [hadd] at this

abbrev zWr : Array Value := #[.pointer none, .slice none 0 0, .int .i64 20000]

set_option maxRecDepth 100000 in
set_option maxHeartbeats 2000000 in
theorem show_any (x : Ex) (t : Bytes) (cn : Nat) (hE : ExW x t cn) (w : World) (ok : Nat → Prop) (id pos y pf : Nat) (nm : Bytes) (a : Option Addr) (c : Nat) (hy : 1 ≤ y)
    (hx : FuRow w ok [⟨nm, [], y, [retS id pos x], pf⟩] (.slice a 1 c)) (hk1 : cn ≤ 10000) (hlen : (fnT nm y t).length ≤ 1000000) :
    Calls Tryz.prog 24 #[.agg #[.slice a 1 c]] w fun e w' => e = .returned (.string ⟨(fnT nm y t).toArray⟩) ∧ Below w.heap.size w w' := by
  obtain ⟨g, rfl, hg, a1, c1, gs, cs, hsm, hcell⟩ := one_fun (fun _ _ h => h) hx
  obtain ⟨W, hW⟩ : ∃ W, W = (w.alloc (.cells #[.slice (some ⟨g, 0, none⟩) 1 c] 24)).alloc (.cells zWr 111) := ⟨_, rfl⟩
  have hbW : Below w.heap.size w W := by rw [hW]; exact ((Below.refl _ _).alloc (Nat.le_refl _) _).alloc (by simp) _
  have hWs : W.heap.size = w.heap.size + 2 := by rw [hW]; simp
  have hP : Blk w.heap.size #[.slice (some ⟨g, 0, none⟩) 1 c] 24 W := by rw [hW]; exact (Blk.new w _ _).below ((Below.refl _ _).alloc (Nat.le_refl _) _) (by simp)
  have hQ : Blk (w.heap.size + 1) zWr 111 W := by rw [hW]; exact Blk.new' _ _ _ (by simp)
  have hwb : WB w.heap.size (w.heap.size + 1) [] 20000 W := ⟨_, _, hQ, ⟨rfl, Or.inl ⟨rfl, rfl⟩⟩, by simp [Value.ownBlock], Or.inl rfl⟩
  obtain ⟨V, hV⟩ : ∃ V, V = W.alloc (.cells (fnC nm y pf a1 c1 gs cs) 42) := ⟨_, rfl⟩
  have hbV : Below W.heap.size W V := by rw [hV]; exact (Below.refl _ _).alloc (Nat.le_refl _) _
  have hF : Blk W.heap.size (fnC nm y pf a1 c1 gs cs) 42 V := by rw [hV]; exact Blk.new _ _ _
  have hKV : WK w.heap.size (w.heap.size + 1) w V := (WK.of_below (Nat.le_refl _) hbW).trans (WK.of_below (by omega) hbV)
  have HM := Lib.hid (more_any w.heap.size (w.heap.size + 1) [] 20000 V (by omega) ⟨by omega, by omega⟩ (hwb.below hbV))
  have HFn := Lib.hid fun l1 k1 w1 (hk : WK w.heap.size (w.heap.size + 1) w w1) (h2 : WB w.heap.size (w.heap.size + 1) l1 k1 w1) h4 h5 h6 => function_W x t cn hE w.heap.size (w.heap.size + 1) l1 k1 w1 id pos gs cs nm y pf a1 c1 hy (by omega) hk.1.size h2 (SmRow_down hsm hk) h4 h5 h6
  have HS := Lib.hid fun l k w1 h1 h2 h3 => string_any w.heap.size (w.heap.size + 1) l k w1 h1 h2 h3
  have HH := Lib.hid (And.intro hKV hF)
  have HLEN := Lib.hid hlen
  have d0 := (hbW.cell (p := ⟨g, 0, none⟩) hg).trans (hcell 0 _ rfl)
  have d1 := (hbW.cell (p := ⟨g, 1, none⟩) hg).trans (hcell 1 _ rfl)
  have d2 := (hbW.cell (p := ⟨g, 2, none⟩) hg).trans (hcell 2 _ rfl)
  have d3 := (hbW.cell (p := ⟨g, 3, none⟩) hg).trans (hcell 3 _ rfl)
  have d4 := (hbW.cell (p := ⟨g, 4, none⟩) hg).trans (hcell 4 _ rfl)
  have p0 := hP.get 0 (.slice (some ⟨g, 0, none⟩) 1 c) rfl
  have HWW := Lib.hid hW
  have HVV := Lib.hid hV
  clear hx hbW hW hV hbV hF hKV hwb hP hQ hE hlen hcell hsm
  have HT0 := Lib.hid (show fnT nm y t ≠ [] by simp [fnT])
  generalize fnT nm y t = T at *
  go_enter Tryz.func24, Tryz.ntmps24
  go_upto_region 2 with (fail)
  rw [← HWW.out]
  go_wp2_with fail
  refine wp_loop_rounds 2 ?_
  rw [rounds_succ]
  go_wp2_with fail
  rw [← HVV.out]
  refine HM.out.mono ?_
  rintro e w1 ⟨rfl, h1', h2'⟩
  rw [show decide ((1 : Int) ≤ 20000) = true from rfl]
  have hF1 := h2'.blk HH.out.2 (by omega) (by decide)
  rw [hWs] at hF1
  have hK1 := HH.out.1.trans h2'
  have HK1 := Lib.hid hK1
  obtain ⟨c0, c1', c2, c3, c4⟩ := hF1.get5
  have HQ := Lib.hid (HFn.out _ _ w1 hK1 h1' (by omega) (by omega) (by have := HLEN.out; simpa using this))
  rw [List.nil_append] at HQ
  clear h1' h2' hF1 hK1
  go_wp2_with fail
  refine HQ.out.mono ?_
  rintro e w2 ⟨rfl, h1', h2'⟩
  have hK2 := HK1.out.trans h2'
  have HK2 := Lib.hid hK2
  have HQ2 := Lib.hid (HS.out _ _ w2 HT0.out (by have := HLEN.out; omega) h1')
  clear h1' h2' hK2 c0 c1' c2 c3 c4
  go_wp2_with fail
  rw [rounds_succ]
  go_wp2_with fail
  refine HQ2.out.mono ?_
  rintro e w3 ⟨rfl, hb3⟩
  have FIN := Lib.hid (HK2.out.1.trans hb3)
  clear hb3
  go_wp2
  go_ret
  exact ⟨rfl, FIN.out⟩
end Go.Proofs.YtcgllooeimacdaaGreatDoor
