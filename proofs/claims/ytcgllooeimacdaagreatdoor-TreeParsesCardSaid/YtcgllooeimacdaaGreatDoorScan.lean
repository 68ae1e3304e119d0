/-
  The scanner: all tokens of a text, or the first fault, its place and its error.
-/
import Derived.Test.YtcgllooeimacdaaGreatDoorAll
import Derived.Test.YtcgllooeimacdaaGreatDoorCatch
namespace Go.Proofs.YtcgllooeimacdaaGreatDoor
open Go Go.RowKit Lx Go.Maps Go.WideMaps Go.WideShapes

/-- What a scan comes to, at its face. -/
def ScanPost (w : World) (r : Res) (e : Ending) (w' : World) : Prop :=
  Below w.heap.size w w' ∧ match r with
    | .error (p, n) => e = .returned (.tuple #[.slice none 0 0, .int .i64 (p : Int), .int .i64 (n : Int)])
    | .ok ts => ∃ v, e = .returned (.tuple #[v, .int .i64 0, .int .i64 0]) ∧ w'.ownsRow w.heap.size 55 4 v ts.length (toksCells ts)

/-- The world in which the reader begins: three results, the reader. -/
def faceW (w : World) (s : ByteArray) : World := (((w.alloc (.cells #[.slice none 0 0] 51)).alloc (.cells #[.int .i64 0] 3)).alloc (.cells #[.int .i64 0] 25)).alloc (.cells #[.int .u32 0, .int .i32 0, .int .u32 0, .map none, .string s, .int .i64 0] 100)

theorem face_facts (w : World) (s : ByteArray) : Below w.heap.size w (faceW w s) ∧ (faceW w s).heap.size = w.heap.size + 4 ∧ RS (w.heap.size + 1 + 1 + 1) s 0 (faceW w s) ∧
    (faceW w s).heap[w.heap.size]? = some (.cells #[.slice none 0 0] 51 (0, 0)) ∧ (faceW w s).heap[w.heap.size + 1]? = some (.cells #[.int .i64 0] 3 (0, 0)) ∧ (faceW w s).heap[w.heap.size + 2]? = some (.cells #[.int .i64 0] 25 (0, 0)) := by
  unfold faceW
  refine ⟨by go_grown, by simp, ?_, ?_, ?_, ?_⟩
  · refine ⟨_, _, _, ?_, Or.inl ⟨rfl, rfl, rfl⟩⟩
    have := heap_alloc_new (((w.alloc (.cells #[.slice none 0 0] 51)).alloc (.cells #[.int .i64 0] 3)).alloc (.cells #[.int .i64 0] 25)) (.cells #[.int .u32 0, .int .i32 0, .int .u32 0, .map none, .string s, .int .i64 0] 100)
    rw [show (((w.alloc (.cells #[.slice none 0 0] 51)).alloc (.cells #[.int .i64 0] 3)).alloc (.cells #[.int .i64 0] 25)).heap.size = w.heap.size + 1 + 1 + 1 from by simp] at this
    exact this
  · rw [Below.heap_alloc _ _ _ (by simp; omega), Below.heap_alloc _ _ _ (by simp; omega), Below.heap_alloc _ _ _ (by simp)]
    exact heap_alloc_new w _
  · rw [Below.heap_alloc _ _ _ (by simp), Below.heap_alloc _ _ _ (by simp)]
    have := heap_alloc_new (w.alloc (.cells #[.slice none 0 0] 51)) (.cells #[.int .i64 0] 3)
    simpa using this
  · rw [Below.heap_alloc _ _ _ (by simp)]
    have := heap_alloc_new ((w.alloc (.cells #[.slice none 0 0] 51)).alloc (.cells #[.int .i64 0] 3)) (.cells #[.int .i64 0] 25)
    simpa using this

theorem ownsRow_base {w : World} {base base' n : Nat} {v : Value} {xs : List Value} (h : w.ownsRow base 55 4 v n xs) (hb : base' ≤ base) : w.ownsRow base' 55 4 v n xs := by
  obtain ⟨h1, h2⟩ := h
  refine ⟨h1, ?_⟩
  rcases h2 with h2 | ⟨g, cap, cur, hv, hg, r⟩
  · exact Or.inl h2
  · exact Or.inr ⟨g, cap, cur, hv, by omega, r⟩

set_option maxRecDepth 100000 in
set_option maxHeartbeats 800000 in
theorem scan_any (s : ByteArray) (hs : s.size ≤ 9223372036854775806) (w : World) (hT : Tabs w.heap.size w) :
    Calls Tryz.prog 20 #[.string s] w (ScanPost w (scan (Bs s))) := by
  have hmf : ∀ (fn : Fn) (first cap : Array Value) (w : World), (Instr.makeFunc fn first cap).run Tryz.prog w = .ok (.func fn first cap) w := fun _ _ _ _ => rfl
  obtain ⟨f1, f2, f3, f4, f5, f6⟩ := face_facts w s
  have HALL := Lib.hid (all_any w.heap.size (w.heap.size + 1 + 1 + 1) s hs (faceW w s) (by omega) f1.size (hT.below f1) f3)
  have HF := Lib.hid (And.intro f1 (And.intro f2 (And.intro f4 (And.intro f5 f6))))
  clear f1 f2 f3 f4 f5 f6 hT
  go_enter_defers Tryz.func20, Tryz.ntmps20
  go_wp2_with fail
  refine HALL.out.mono ?_
  rintro e w1 ⟨hg, hp⟩
  have hsz := HF.out.2.1
  have q0 := (hg.block w.heap.size (by omega) (by simp; omega)).trans HF.out.2.2.1
  have q1 := (hg.block (w.heap.size + 1) (by omega) (by simp)).trans HF.out.2.2.2.1
  have q2 := (hg.block (w.heap.size + 2) (by omega) (by simp)).trans HF.out.2.2.2.2
  have hb1 : Below w.heap.size w w1 := HF.out.1.grown hg (by omega) (fun j e => by cases e; omega)
  have hs1 : w.heap.size + 2 < w1.heap.size := by have := hg.size; omega
  have c0 := cell_of_one q0
  have c1 := cell_of_one q1
  have c2 := cell_of_one q2
  have z0 := free_of_one q0
  have z1 := free_of_one q1
  have z2 := free_of_one q2
  cases hsc : scan (Bs s) with
  | error pn =>
    obtain ⟨p, n⟩ := pn
    rw [hsc] at hp
    obtain rfl := hp
    have HSC := Lib.hid hsc
    have HB := Lib.hid (And.intro hb1 (And.intro q0 (And.intro q1 q2)))
    clear hsc hb1 q0 q1 q2 hg
    unfold faultV
    go_wp2
    refine leaves_cons (f := 31) (args := #[.pointer (some ⟨w.heap.size, 0, none⟩), .pointer (some ⟨w.heap.size + 1, 0, none⟩), .pointer (some ⟨w.heap.size + 2, 0, none⟩)]) (by simp) (by simp [go_sem]) ?_
    refine (catch_fault w.heap.size p n _ _ _ [] w1 c0 c1 c2 z0 z1 z2 hs1).mono ?_
    rintro e u' w2 ⟨rfl, rfl, hc⟩
    have HC := Lib.hid hc
    have y0 := hc.2.1
    have y1 := hc.2.2.1
    have y2 : w2.cell? ⟨w.heap.size + 1 + 1, 0, none⟩ = some (.int .i64 (n : Int)) := hc.2.2.2
    clear hc c0 c1 c2 z0 z1 z2
    simp [Leaves, settle, results, Tryz.results20, go_sem, y0, y1, y2]
    exact ⟨HB.out.1.trans HC.out.1, rfl⟩
  | ok ts =>
    rw [hsc] at hp
    obtain ⟨v, rfl, ho⟩ := hp
    have HSC := Lib.hid hsc
    have hv : ∃ ao n cap, v = .slice ao n cap := by
      rcases ho.2 with ⟨rfl, _⟩ | ⟨g, cap, cur, rfl, _⟩
      · exact ⟨_, _, _, rfl⟩
      · exact ⟨_, _, _, rfl⟩
    obtain ⟨ao, n, cap, rfl⟩ := hv
    have HB := Lib.hid (And.intro hb1 (And.intro q0 (And.intro q1 (And.intro q2 (And.intro ho hg)))))
    clear hsc hb1 q0 q1 q2 hg ho
    go_wp2
    refine leaves_cons (f := 31) (args := #[.pointer (some ⟨w.heap.size, 0, none⟩), .pointer (some ⟨w.heap.size + 1, 0, none⟩), .pointer (some ⟨w.heap.size + 2, 0, none⟩)]) (by simp) (by simp [go_sem]) ?_
    refine (catch_idle ⟨w.heap.size, 0, none⟩ ⟨w.heap.size + 1, 0, none⟩ ⟨w.heap.size + 2, 0, none⟩ _).mono ?_
    rintro e u' w2 ⟨rfl, rfl, rfl⟩
    obtain ⟨hb1, q0, q1, q2, ho, hg⟩ := HB.out
    have FIN : Hid (Below w.heap.size w (((w1.setCell ⟨w.heap.size, 0, none⟩ (.slice ao n cap)).setCell ⟨w.heap.size + 1, 0, none⟩ (.int .i64 0)).setCell ⟨w.heap.size + 1 + 1, 0, none⟩ (.int .i64 0)) ∧
        (((w1.setCell ⟨w.heap.size, 0, none⟩ (.slice ao n cap)).setCell ⟨w.heap.size + 1, 0, none⟩ (.int .i64 0)).setCell ⟨w.heap.size + 1 + 1, 0, none⟩ (.int .i64 0)).ownsRow w.heap.size 55 4 (.slice ao n cap) ts.length (toksCells ts)) := by
      have hne : ∀ j, j < w.heap.size + 4 → (Value.slice ao n cap).ownBlock = none ∨ (Value.slice ao n cap).ownBlock ≠ some j := by
        intro j hj
        cases hu : (Value.slice ao n cap).ownBlock with
        | none => exact Or.inl rfl
        | some g => exact Or.inr (by have := (ho.lt g hu).1; intro e; cases e; omega)
      have o1 := ho.kept (Lib.grownBy_setCell w1 w.heap.size 0 (.slice ao n cap)) (hne _ (by omega))
      have o2 := o1.kept (Lib.grownBy_setCell _ (w.heap.size + 1) 0 (.int .i64 0)) (hne _ (by omega))
      have o3 := o2.kept (Lib.grownBy_setCell _ (w.heap.size + 1 + 1) 0 (.int .i64 0)) (hne _ (by omega))
      exact ⟨((hb1.setCell (Nat.le_refl _) _).setCell (by show w.heap.size ≤ w.heap.size + 1; omega) _).setCell (by show w.heap.size ≤ w.heap.size + 1 + 1; omega) _, ownsRow_base o3 (by omega)⟩
    have y0 : (((w1.setCell ⟨w.heap.size, 0, none⟩ (.slice ao n cap)).setCell ⟨w.heap.size + 1, 0, none⟩ (.int .i64 0)).setCell ⟨w.heap.size + 1 + 1, 0, none⟩ (.int .i64 0)).cell? ⟨w.heap.size, 0, none⟩ = some (.slice ao n cap) := by
      rw [World.cell?_setCell_other _ _ _ _ (by simp), World.cell?_setCell_other _ _ _ _ (by simp)]
      exact World.cell?_setCell_same _ _ _ c0
    have y1 : (((w1.setCell ⟨w.heap.size, 0, none⟩ (.slice ao n cap)).setCell ⟨w.heap.size + 1, 0, none⟩ (.int .i64 0)).setCell ⟨w.heap.size + 1 + 1, 0, none⟩ (.int .i64 0)).cell? ⟨w.heap.size + 1, 0, none⟩ = some (.int .i64 0) := by
      rw [World.cell?_setCell_other _ _ _ _ (by simp)]
      exact World.cell?_setCell_same _ _ _ ((World.cell?_setCell_other _ _ _ _ (by simp)).trans c1)
    have y2 : (((w1.setCell ⟨w.heap.size, 0, none⟩ (.slice ao n cap)).setCell ⟨w.heap.size + 1, 0, none⟩ (.int .i64 0)).setCell ⟨w.heap.size + 1 + 1, 0, none⟩ (.int .i64 0)).cell? ⟨w.heap.size + 1 + 1, 0, none⟩ = some (.int .i64 0) :=
      World.cell?_setCell_same _ _ _ ((World.cell?_setCell_other _ _ _ _ (by simp)).trans ((World.cell?_setCell_other _ _ _ _ (by simp)).trans c2))
    clear hb1 q0 q1 q2 ho hg c0 c1 c2 z0 z1 z2
    simp [Leaves, settle, results, Tryz.results20, go_sem, y0, y1, y2]
    rw [HSC.out]
    exact ⟨FIN.out.1, _, rfl, FIN.out.2⟩
end Go.Proofs.YtcgllooeimacdaaGreatDoor
