/-
  The writer's buffer: a builder in a field: what is written stands behind what was written.
-/
import Derived.Test.YtknmmjfpipobdaaGreatDoorTParse
import Derived.Lib.AppendStr
import Derived.Lib.UnsafeStr
import Derived.Lib.Builder
import Derived.Lib.OthersKept
namespace Go.Proofs.YtknmmjfpipobdaaGreatDoor
open Go Go.RowKit Px

/-- A writer: its buffer's bytes, how many parts are left. -/
def WB (N b : Nat) (l : Bytes) (k : Int) (w : World) : Prop :=
  ∃ p v, Blk b #[p, v, .int .i64 k] 111 w ∧ w.ownsRow N 5 1 v l.length (Lib.byteCells l) ∧ v.ownBlock ≠ some b ∧ (p = .pointer none ∨ p = .pointer (some ⟨b, 0, none⟩))
/-- The same, once it has been written. -/
def WU (N b : Nat) (l : Bytes) (k : Int) (w : World) : Prop :=
  ∃ v, Blk b #[.pointer (some ⟨b, 0, none⟩), v, .int .i64 k] 111 w ∧ w.ownsRow N 5 1 v l.length (Lib.byteCells l) ∧ v.ownBlock ≠ some b
theorem WU.wb {N b : Nat} {l : Bytes} {k : Int} {w : World} (h : WU N b l k w) : WB N b l k w := by
  obtain ⟨v, h1, h2, h3⟩ := h
  exact ⟨_, v, h1, h2, h3, Or.inr rfl⟩

/-- What a writing leaves: below the writer all is as it was; so are other blocks than the writer's, but for rows of bytes. -/
def WK (N b : Nat) (w w' : World) : Prop := Below N w w' ∧ Lib.OthersKept 5 (some b) w w'
theorem WK.refl (N b : Nat) (w : World) : WK N b w w := ⟨Below.refl _ _, Lib.OthersKept.refl _ _ _⟩
theorem WK.trans {N b : Nat} {w w1 w2 : World} (h : WK N b w w1) (k : WK N b w1 w2) : WK N b w w2 := ⟨h.1.trans k.1, h.2.trans k.2⟩
theorem WK.drew {N b : Nat} {w w1 : World} (h : WK N b w w1) : WK N b w w1.drew := ⟨h.1.drew, h.2.drew⟩
theorem WK.alloc {N b : Nat} {w w1 : World} (h : WK N b w w1) (hN : N ≤ w1.heap.size) (o : Obj) : WK N b w (w1.alloc o) := ⟨h.1.alloc hN o, h.2.alloc o⟩
theorem WK.set {N b : Nat} {w w1 : World} (h : WK N b w w1) (hN : N ≤ b) (j : Nat) (v : Value) : WK N b w (w1.setCell ⟨b, j, none⟩ v) := ⟨h.1.setCell (p := ⟨b, j, none⟩) hN v, h.2.setCell _ rfl v⟩
theorem WK.blk {N b : Nat} {w w' : World} (h : WK N b w w') {g : Nat} {cs : Array Value} {T : TypeId} (hb : Blk g cs T w) (hg : g ≠ b) (hT : T ≠ 5) : Blk g cs T w' := h.2 g _ hb (by simpa using hg) (by rintro c fz e; cases e; exact hT rfl)

theorem noesc (x : Value) (w : World) : (callFunc 102 #[x]).run Tryz.prog w = .ok (.value x) w := by
  rw [run_callFunc_extern Tryz.func102 (by kernel_rfl) (by kernel_rfl) (by kernel_rfl) (e := Extern.AbiNoEscape.same) (by kernel_rfl)]
  rw [Lib.run_noEscape]
  rfl
theorem Tryz.infoB : (Tryz.prog.info? 111).isSome = true := by kernel_rfl
theorem szB : (Tryz.prog.info? 109).map (·.size) = some 2 := by kernel_rfl
theorem liesB : liesAt Tryz.prog Tryz.prog.depth 111 (3 / Tryz.prog.cellsOf 111) 0 109 1 = true := by kernel_rfl

set_option maxRecDepth 100000 in
set_option maxHeartbeats 1000000 in
theorem copyCheck_any (N b : Nat) (l : Bytes) (k : Int) (w : World) (hN : N ≤ b) (h : WB N b l k w) :
    Calls Tryz.prog 90 #[.pointer (some ⟨b, 0, none⟩)] w fun e w' => e = .returned (.tuple #[]) ∧ WU N b l k w' ∧ WK N b w w' := by
  obtain ⟨p, v, hb, ho, hv, hp⟩ := h
  obtain ⟨j, hj, hj2⟩ := Option.map_eq_some_iff.1 szB
  have c0 := hb.get 0 p rfl
  have f0 := hb.free 0
  have hsh : w.shape? b = some (111, 3) := by unfold Blk at hb; simp [World.shape?, hb]
  have HB := Lib.hid (And.intro hb (And.intro ho hv))
  rcases hp with rfl | rfl
  · have h1 := Lib.run_to_unsafe (P := Tryz.prog) w ⟨b, 0, none⟩ Tryz.underlying107 Tryz.underlying150 hj (by rw [hj2]; decide) hsh (by show 0 < 3; decide)
    have h2 := Lib.run_from_unsafe (P := Tryz.prog) w ⟨b, 0, none⟩ Tryz.underlying150 Tryz.underlying107 hj hsh liesB
    have h3 := noesc
    have h4 := Lib.run_neq_ptr_same (P := Tryz.prog) (w.setCell ⟨b, 0, none⟩ (.pointer (some ⟨b, 0, none⟩))) ⟨b, 0, none⟩ Tryz.underlying107 hj
    have HU := Lib.hid (hb.set 0 (.pointer (some ⟨b, 0, none⟩)))
    have c0' := HU.out.get 0 _ rfl
    clear hb ho hv hsh hj hj2
    go_enter Tryz.func90, Tryz.ntmps90
    go_wp2
    go_end0
    obtain ⟨hb, ho, hv⟩ := HB.out
    exact ⟨rfl, ⟨v, HU.out, ho.kept (Lib.grownBy_setCell _ _ _ _) (by cases hu : v.ownBlock with | none => exact Or.inl rfl | some g => exact Or.inr (by rw [hu] at hv; exact hv)), hv⟩, (WK.refl N b w).set hN 0 _⟩
  · have h4 := Lib.run_neq_ptr_same (P := Tryz.prog) w ⟨b, 0, none⟩ Tryz.underlying107 hj
    clear hb ho hv hsh hj hj2
    go_enter Tryz.func90, Tryz.ntmps90
    go_wp2
    go_end0
    obtain ⟨hb, ho, hv⟩ := HB.out
    exact ⟨rfl, ⟨v, hb, ho, hv⟩, WK.refl _ _ _⟩

theorem infoU8 : (Tryz.prog.info? 5).map (fun i => (i.zero, i.size, i.bytes)) = some (some (.int .u8 0), 1, 1) := by kernel_rfl
theorem fBld (p v x : Value) (w : World) : True := trivial

set_option maxRecDepth 100000 in
set_option maxHeartbeats 1000000 in
theorem writeString_any (N b : Nat) (l x : Bytes) (k : Int) (w : World) (hN : N ≤ b) (hNw : N ≤ w.heap.size) (h : WB N b l k w) (hlen : l.length + x.length ≤ 10000000) :
    Calls Tryz.prog 75 #[.pointer (some ⟨b, 0, none⟩), .string ⟨x.toArray⟩] w fun e w' => e = .returned (.tuple #[.int .i64 (x.length : Int), .nilIface]) ∧ WB N b (l ++ x) k w' ∧ WK N b w w' := by
  have HC := Lib.hid (copyCheck_any N b l k w hN h)
  obtain ⟨i0, hi, hz0, hz1, hz2⟩ := info_parts infoU8
  have hxs : ByteArray.size ⟨x.toArray⟩ = x.length := rfl
  clear h
  go_enter Tryz.func75, Tryz.ntmps75
  go_wp2_with fail
  refine HC.out.mono ?_
  rintro e w1 ⟨rfl, ⟨v, hb, ho, hv⟩, hb1⟩
  have c1 := hb.get 1 v rfl
  have HB := Lib.hid (And.intro hb (And.intro ho (And.intro hv hb1)))
  have hNs : N ≤ w1.heap.size := Nat.le_trans hNw hb1.1.size
  have hm : l.length + ByteArray.size ⟨x.toArray⟩ ≤ maxLen := by rw [hxs]; unfold maxLen; omega
  have hm2 : l.length + ByteArray.size ⟨x.toArray⟩ ≤ 140737488355328 := by rw [hxs]; omega
  have HM := Lib.hid (And.intro hm hm2)
  clear hb ho hv hb1 hm hm2 hxs
  go_wp2_with (at_builtin; refine Hid.out ?_)
  unfold Hid
  refine Lib.wpList_append_own_string _ rfl _ _ 50 9 rfl N 5 i0 Tryz.underlying50 Tryz.underlying9 hi hz0 hz1 hz2 _ _ _ rfl HB.out.2.1 ⟨x.toArray⟩ rfl HM.out.1 HM.out.2 hNs ?_
  intro v' w2 ho2 hg2 hnil
  obtain ⟨hb, ho, hv, hb1⟩ := HB.out
  have hb2 : Blk b #[.pointer (some ⟨b, 0, none⟩), v, .int .i64 k] 111 w2 := hb.other hg2 (Ne.symm hv)
  have hv2 : v'.ownBlock ≠ some b := by
    intro e
    rcases own_slice ho2 with ⟨e1, _⟩ | ⟨gg, cc, e1⟩
    · rw [e1] at e; cases e
    · rw [e1] at e
      obtain rfl : gg = b := by simpa [Value.ownBlock] using e
      have h1 := ho2.2
      rcases h1 with ⟨e2, _⟩ | ⟨g3, c3, cur, e2, _, hc, _⟩
      · rw [e1] at e2; cases e2
      · rw [e1] at e2
        obtain ⟨rfl, _⟩ : gg = g3 ∧ cc = c3 := by simpa using e2
        unfold Blk at hb2
        rw [hb2] at hc
        simp at hc
  have hbw : WK N b w w2 := ⟨hb1.1.grown hg2 hNs (fun g e => (ho.lt g e).1), hb1.2.grown (show w1.grownBy w2 v.ownBlock from hg2) (fun g e => by
    rcases ho.2 with ⟨e1, _⟩ | ⟨g3, c3, cur, e1, _, hc, _⟩
    · rw [e1] at e; cases e
    · rw [e1] at e
      obtain rfl : g3 = g := by simpa [Value.ownBlock] using e
      exact ⟨cur, (0, 0), hc⟩)⟩
  have q1 := hb2.get 1 v rfl
  have qf := hb2.free 1
  have hb3 : Blk b #[.pointer (some ⟨b, 0, none⟩), v', .int .i64 k] 111 (w2.setCell ⟨b, 1, none⟩ v') := hb2.set 1 v'
  have ho3 : (w2.setCell ⟨b, 1, none⟩ v').ownsRow N 5 1 v' (l ++ x).length (Lib.byteCells (l ++ x)) := by
    have e : Lib.byteCells (l ++ x) = Lib.byteCells l ++ Lib.strCells ⟨x.toArray⟩ := by rw [Lib.byteCells_append]; rfl
    rw [e, List.length_append]
    exact ho2.kept (Lib.grownBy_setCell _ _ _ _) (by cases hu : v'.ownBlock with | none => exact Or.inl rfl | some g => exact Or.inr (by rw [hu] at hv2; exact hv2))
  have FIN := Lib.hid (And.intro (show WB N b (l ++ x) k (w2.setCell ⟨b, 1, none⟩ v') from ⟨_, v', hb3, ho3, hv2, Or.inr rfl⟩) (hbw.set hN 1 v'))
  obtain ⟨a', m', c', rfl⟩ : ∃ a m c, v' = .slice a m c := by
    rcases own_slice ho2 with ⟨e1, _⟩ | ⟨gg, cc, e1⟩
    · exact ⟨_, _, _, e1⟩
    · exact ⟨_, _, _, e1⟩
  clear ho2 hg2 hnil hb ho hv hb1 hb2 hv2 hbw hb3 ho3
  go_wp2
  go_ret2
  exact ⟨rfl, FIN.out⟩

set_option maxRecDepth 100000 in
set_option maxHeartbeats 1000000 in
theorem string_any (N b : Nat) (l : Bytes) (k : Int) (w : World) (hl : l ≠ []) (hlen : l.length ≤ 10000000) (h : WB N b l k w) :
    Calls Tryz.prog 43 #[.pointer (some ⟨b, 0, none⟩)] w fun e w' => e = .returned (.string ⟨l.toArray⟩) ∧ Below N w w' := by
  obtain ⟨p, v, hb, ho, hv, _⟩ := h
  have hl0 : l.length ≠ 0 := by simpa using hl
  obtain ⟨g, cap, cur, rfl, hbg, hg, hnc, hcm, hcs, htake⟩ : ∃ g cap cur, v = .slice (some ⟨g, 0, none⟩) l.length cap ∧ N ≤ g ∧ w.heap[g]? = some (.cells cur 5 (0, 0)) ∧ l.length ≤ cap ∧ cap ≤ maxLen ∧ cur.size = cap * 1 ∧ cur.toList.take (l.length * 1) = Lib.byteCells l := by
    rcases ho.2 with ⟨_, hz⟩ | ⟨g, cap, cur, hv, r⟩
    · exact absurd hz hl0
    · exact ⟨g, cap, cur, hv, r⟩
  have c1 : w.drew.cell? ⟨b, 1, none⟩ = some (.slice (some ⟨g, 0, none⟩) l.length cap) := hb.get 1 _ rfl
  have hSD : (Builtin.unsafeSliceData_ #[50] 127 #[.slice (some ⟨g, 0, none⟩) l.length cap]).run Tryz.prog w.drew = .ok (.pointer (some ⟨g, 0, none⟩)) w.drew :=
    Lib.run_unsafeSliceData_row _ _ _ _ _ _ (by omega)
  have hUS : (Builtin.unsafeString_ #[127, 3] 9 #[.pointer (some ⟨g, 0, none⟩), .int .i64 l.length]).run Tryz.prog w.drew = .ok (.string ⟨l.toArray⟩) (w.drew.freeze ⟨g, 0, none⟩ l.length) := by
    refine Lib.run_unsafeString_row w.drew 127 3 9 5 Tryz.underlying127 (by kernel_rfl) g cur.size (by have hg' : w.drew.heap[g]? = some (.cells cur 5 (0, 0)) := hg; simp [World.shape?, hg']) l hl (by omega) (by unfold maxLen at hcm; omega) ?_
    intro j x hx
    have := ho.cells (g := g) rfl j (.int .u8 x.toNat) (by simp [Lib.byteCells, hx])
    exact this
  have FIN := Lib.hid (Lib.below_freeze (Below.drew (Below.refl N w)) (p := ⟨g, 0, none⟩) hbg l.length)
  clear hb ho hv hg hnc hcm hcs htake hl hl0
  go_enter Tryz.func43, Tryz.ntmps43
  go_wp2
  go_region
  all_goals (go_wp2; go_ret; exact ⟨rfl, FIN.out⟩)

set_option maxRecDepth 100000 in
theorem more_any (N b : Nat) (l : Bytes) (k : Int) (w : World) (hN : N ≤ b) (hk : -1000000 ≤ k ∧ k ≤ 1000000) (h : WB N b l k w) :
    Calls Tryz.prog 41 #[.pointer (some ⟨b, 0, none⟩)] w fun e w' => e = .returned (.bool (decide (1 ≤ k))) ∧ WB N b l (k - 1) w' ∧ WK N b w w' := by
  obtain ⟨p, v, hb, ho, hv, hp⟩ := h
  have c2 := hb.get 2 _ rfl
  have f2 := hb.free 2
  obtain ⟨h1, h2⟩ := hk
  have FIN := Lib.hid (And.intro (show WB N b l (k - 1) (w.setCell ⟨b, 2, none⟩ (.int .i64 (k - 1))) from ⟨p, v, hb.set 2 _, ho.kept (Lib.grownBy_setCell _ _ _ _) (by cases hu : v.ownBlock with | none => exact Or.inl rfl | some g => exact Or.inr (by rw [hu] at hv; exact hv)), hv, hp⟩) ((WK.refl N b w).set hN 2 (.int .i64 (k - 1))))
  clear hb ho hv hp
  go_enter Tryz.func41, Tryz.ntmps41
  go_wp2
  go_ret
  refine ⟨?_, FIN.out⟩
  congr 2
end Go.Proofs.YtknmmjfpipobdaaGreatDoor
