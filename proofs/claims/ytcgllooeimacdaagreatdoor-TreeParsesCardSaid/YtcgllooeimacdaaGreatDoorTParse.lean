/-
  Joined: TCatch, TParse.
-/
import Derived.Test.YtcgllooeimacdaaGreatDoorProg
import Derived.Test.YtcgllooeimacdaaGreatDoorTFun
import Derived.Test.YtcgllooeimacdaaGreatDoorScan
import Derived.WalkKit
import Derived.WalkLawsBesides
import Derived.Defers
import Derived.Recover
import Derived.RegionTactic
import Derived.BigRegion
import Derived.Laws.NewBlocks
import Derived.Lib.Hide
/-! The face of the parser: the deferred closure that catches a fault. -/

namespace Go.Proofs.YtcgllooeimacdaaGreatDoor
open Go Go.RowKit

theorem slotsP (x y z : Value) : (#[x, y, z] ++ Array.replicate (Tryz.f19.ntmps - #[x, y, z].size) undef) = #[x, y, z, undef, undef, undef, undef, undef, undef, undef, undef, undef, undef, undef, undef, undef, undef] := by kernel_rfl

set_option maxRecDepth 100000 in
theorem catchP_idle (pt pa pe : Addr) (w : World) :
    CallsD Tryz.prog 19 #[.pointer (some pt), .pointer (some pa), .pointer (some pe)] .returning w fun e u' w' => e = .returned (.tuple #[]) ∧ u' = .returning ∧ w' = w := by
  refine callsD_of_wpS Tryz.func19 rfl fun c₀ cs hu => ?_
  rw [slotsP]
  apply wpS_seq
  apply wpS_region
  simp [wpOpsS, go_sem, recoverD, hu, Exit.thenS]
  refine wpS_of_wp ?_
  go_wp2
  cases c₀
  simp_all [bodyPostS, results, Tryz.results19]

/-- What the closure leaves behind a fault: nothing, the place, the error; below the three variables nothing has turned. -/
def CatchPPost (N : Nat) (p n : Int) (w w' : World) : Prop := Below N w w' ∧ w'.cell? ⟨N, 0, none⟩ = some (.slice none 0 0) ∧ w'.cell? ⟨N + 1, 0, none⟩ = some (.int .i64 p) ∧ w'.cell? ⟨N + 2, 0, none⟩ = some (.int .i64 n)

set_option maxRecDepth 100000 in
set_option maxHeartbeats 800000 in
theorem catchP_fault (N : Nat) (p n : Int) (x0 x1 x2 : Value) (older : List PanicEntry) (w : World) (ht : w.cell? ⟨N, 0, none⟩ = some x0) (ha : w.cell? ⟨N + 1, 0, none⟩ = some x1) (he : w.cell? ⟨N + 2, 0, none⟩ = some x2)
    (ft : w.frozen? ⟨N, 0, none⟩ = false) (fa : w.frozen? ⟨N + 1, 0, none⟩ = false) (fe : w.frozen? ⟨N + 2, 0, none⟩ = false) (hN : N + 2 < w.heap.size) :
    CallsD Tryz.prog 19 #[.pointer (some ⟨N, 0, none⟩), .pointer (some ⟨N + 1, 0, none⟩), .pointer (some ⟨N + 2, 0, none⟩)] (.panicking ({ v := .iface 60 (.agg #[.int .i64 p, .int .i64 n]), recovered := false } :: older)) w fun e u' w' =>
      e = .returned (.tuple #[]) ∧ u' = .panicking ({ v := .iface 60 (.agg #[.int .i64 p, .int .i64 n]), recovered := true } :: older) ∧ CatchPPost N p n w w' := by
  refine callsD_of_wpS Tryz.func19 rfl fun c₀ cs hu => ?_
  rw [slotsP]
  apply wpS_seq
  apply wpS_region
  simp [wpOpsS, go_sem, recoverD, hu, Exit.thenS]
  refine wpS_of_wp ?_
  have a0 : (w.alloc (.cells #[.int .i64 p, .int .i64 n] 60)).cell? ⟨w.heap.size, 0, none⟩ = some (.int .i64 p) := by simp
  have a1 : (w.alloc (.cells #[.int .i64 p, .int .i64 n] 60)).cell? ⟨w.heap.size, 1, none⟩ = some (.int .i64 n) := by simp
  have b0 : (w.alloc (.cells #[.int .i64 p, .int .i64 n] 60)).cell? ⟨N, 0, none⟩ = some x0 := by rw [World.cell?_alloc_past _ _ _ (by show N < _; omega)]; exact ht
  have b1 : (w.alloc (.cells #[.int .i64 p, .int .i64 n] 60)).cell? ⟨N + 1, 0, none⟩ = some x1 := by rw [World.cell?_alloc_past _ _ _ (by show N + 1 < _; omega)]; exact ha
  have b2 : (w.alloc (.cells #[.int .i64 p, .int .i64 n] 60)).cell? ⟨N + 2, 0, none⟩ = some x2 := by rw [World.cell?_alloc_past _ _ _ (by show N + 2 < _; omega)]; exact he
  have d0 : (w.alloc (.cells #[.int .i64 p, .int .i64 n] 60)).frozen? ⟨N, 0, none⟩ = false := by rw [World.frozen?_alloc_past _ _ _ (by show N < _; omega)]; exact ft
  have d1 : (w.alloc (.cells #[.int .i64 p, .int .i64 n] 60)).frozen? ⟨N + 1, 0, none⟩ = false := by rw [World.frozen?_alloc_past _ _ _ (by show N + 1 < _; omega)]; exact fa
  have d2 : (w.alloc (.cells #[.int .i64 p, .int .i64 n] 60)).frozen? ⟨N + 2, 0, none⟩ = false := by rw [World.frozen?_alloc_past _ _ _ (by show N + 2 < _; omega)]; exact fe
  have hta : ∀ (v : Value) (w : World), (Instr.typeAssert (.iface 60 v) 20 60 true).run Tryz.prog w = .ok (.tuple #[v, .bool true]) w := fun _ _ => by kernel_rfl
  go_wp2
  go_region
  have hp : CatchPPost N p n w ((((w.alloc (.cells #[.int .i64 p, .int .i64 n] 60)).setCell ⟨N, 0, none⟩ (.slice none 0 0)).setCell ⟨N + 1, 0, none⟩ (.int .i64 p)).setCell ⟨N + 2, 0, none⟩ (.int .i64 n)).drew := by
    refine ⟨?_, ?_, ?_, ?_⟩
    · exact (((((Below.refl _ _).alloc (by omega) _).setCell (by show N ≤ N; omega) _).setCell (by show N ≤ N + 1; omega) _).setCell (by show N ≤ N + 2; omega) _).drew
    · rw [World.cell?_drew, World.cell?_setCell_other _ _ _ _ (by simp), World.cell?_setCell_other _ _ _ _ (by simp)]
      exact World.cell?_setCell_same _ _ _ b0
    · rw [World.cell?_drew, World.cell?_setCell_other _ _ _ _ (by simp)]
      exact World.cell?_setCell_same _ _ _ ((World.cell?_setCell_other _ _ _ _ (by simp)).trans b1)
    · rw [World.cell?_drew]
      exact World.cell?_setCell_same _ _ _ ((World.cell?_setCell_other _ _ _ _ (by simp)).trans ((World.cell?_setCell_other _ _ _ _ (by simp)).trans b2))
  have HP := Lib.hid hp
  clear hp a0 a1 b0 b1 b2 d0 d1 d2 ht ha he ft fa fe
  simp only [Exit.inBlock]
  show bodyPostS _ _ _ _ _ _ _ _ _
  simp only [bodyPostS]
  exact ⟨trivial, _, rfl, _, results_none rfl _ _ _, rfl, rfl, HP.out⟩
end Go.Proofs.YtcgllooeimacdaaGreatDoor

/-! The face of the parser: a text is read, or the first fault is told. -/

namespace Go.Proofs.YtcgllooeimacdaaGreatDoor
open Go Go.RowKit Px
open Lx (Tok)

theorem toksP_at : ∀ (ts : List Tok) (k : Nat) (h : k < ts.length) (j : Nat), j < 4 → (toksCells ts)[k * 4 + j]? = (tokCells (ts[k]'h))[j]? := by
  intro ts
  induction ts with
  | nil => intro k h; simp at h
  | cons t r ih =>
    intro k h j hj
    have e : toksCells (t :: r) = tokCells t ++ toksCells r := by simp [toksCells]
    have e4 : (tokCells t).length = 4 := rfl
    rw [e]
    match k with
    | 0 =>
      rw [List.getElem?_append_left (by omega)]
      simp
    | k + 1 =>
      rw [List.getElem?_append_right (by omega), e4, show (k + 1) * 4 + j - 4 = k * 4 + j by omega, ih k (by simpa using h) j hj]
      rfl

theorem tk_get (ts : List Tok) (k : Nat) (h : k < ts.length) : tk ts k = ts[k]'h := by
  unfold tk
  rw [List.getD_eq_getElem?_getD, List.getElem?_eq_getElem h]
  rfl

theorem toks_own {w : World} {base g cap : Nat} {ts : List Tok} (h : w.ownsRow base 55 4 (.slice (some ⟨g, 0, none⟩) ts.length cap) ts.length (toksCells ts)) : Toks g ts w := by
  have hadd : ∀ j, (⟨g, 0, none⟩ : Addr).add j = ⟨g, j, none⟩ := by intro j; unfold Addr.add; split <;> simp_all
  have hc : ∀ k (hk : k < ts.length) j u, j < 4 → (tokCells (tk ts k))[j]? = some u → w.cell? ⟨g, k * 4 + j, none⟩ = some u := by
    intro k hk j u hj hu
    rw [← hadd]
    exact h.cells (g := g) rfl (k * 4 + j) u (by rw [toksP_at ts k hk j hj, ← tk_get]; exact hu)
  exact ⟨(h.lt g rfl).2, fun k hk => hc k hk 0 _ (by omega) rfl, fun k hk => hc k hk 1 _ (by omega) rfl, fun k hk => hc k hk 2 _ (by omega) rfl, fun k hk => hc k hk 3 _ (by omega) rfl⟩

/-- What a text's parsing comes to. -/
def ParsePost (w : World) (r : R (List Fu)) (e : Ending) (w' : World) : Prop :=
  Below w.heap.size w w' ∧ match r with
    | .error pn => e = .returned (.tuple #[.agg #[.slice none 0 0], .int .i64 (pn.1 : Int), .int .i64 (pn.2 : Int)])
    | .ok (l, _) => ∃ a m c, e = .returned (.tuple #[.agg #[.slice a m c], .int .i64 0, .int .i64 0]) ∧ FuRow w' (fun h => w.heap.size ≤ h) l (.slice a m c)

/-- The tokens of a text end with the end, which stands nowhere else. -/
def WfT (ts : List Tok) : Prop := 0 < ts.length ∧ ts.length ≤ 30000 ∧ ∀ i, i < ts.length → (tk ts i).kind ≠ 0 ∨ (tk ts i).text ≠ [] → i + 1 < ts.length


set_option maxRecDepth 100000 in
set_option maxHeartbeats 2000000 in
theorem treeParse_ts (s : ByteArray) (hs : s.size ≤ 9223372036854775806) (ts : List Tok) (hsc : Lx.scan (Bs s) = .ok ts) (hwf : WfT ts) (F : Nat) (hF : F ≤ 1000000) (hne0 : fusF ts F [] ⟨0, 0, 0⟩ ≠ gone) (w : World) (hT : Tabs w.heap.size w) :
    Calls Tryz.prog 9 #[.string s] w (ParsePost w (fusF ts F [] ⟨0, 0, 0⟩)) := by
  obtain ⟨hl0, hl1, hfin⟩ := hwf
  obtain ⟨W, hW⟩ : ∃ W, W = ((w.alloc (.cells #[.slice none 0 0] 24)).alloc (.cells #[.int .i64 0] 3)).alloc (.cells #[.int .i64 0] 25) := ⟨_, rfl⟩
  have hbW : Below w.heap.size w W := by rw [hW]; go_grown
  have hWs : W.heap.size = w.heap.size + 3 := by rw [hW]; simp
  have q0 : Blk w.heap.size #[.slice none 0 0] 24 W := by rw [hW]; exact ((Blk.new w _ _).below ((Below.refl _ _).alloc (Nat.le_refl _) _) (by simp)).below ((Below.refl _ _).alloc (Nat.le_refl _) _) (by simp; omega)
  have q1 : Blk (w.heap.size + 1) #[.int .i64 0] 3 W := by rw [hW]; exact (Blk.new' _ _ _ (by simp)).below ((Below.refl _ _).alloc (Nat.le_refl _) _) (by simp)
  have q2 : Blk (w.heap.size + 2) #[.int .i64 0] 25 W := by rw [hW]; exact Blk.new' _ _ _ (by simp)
  have HS := Lib.hid (scan_any s hs W ((hT.below hbW).mono (by omega)))
  have HWW := Lib.hid hW
  have HQ := Lib.hid (And.intro hbW (And.intro q0 (And.intro q1 (And.intro q2 hWs))))
  have HSC := Lib.hid hsc
  have HFN := Lib.hid hfin
  have HNE := Lib.hid hne0
  have hmf : ∀ (fn : Fn) (first cap : Array Value) (w : World), (Instr.makeFunc fn first cap).run Tryz.prog w = .ok (.func fn first cap) w := fun _ _ _ _ => rfl
  clear hT hbW hWs q0 q1 q2 hW hsc hfin hne0
  go_enter_defers Tryz.func9, Tryz.ntmps9
  go_wp2_with fail
  rw [← HWW.out]
  refine HS.out.mono ?_
  rintro e w1 ⟨hb1, h1⟩
  rw [HSC.out] at h1
  obtain ⟨v, rfl, ho⟩ := h1
  have hv : ∃ g cap, v = .slice (some ⟨g, 0, none⟩) ts.length cap := by
    rcases ho.2 with ⟨_, h⟩ | ⟨g, cap, cur, rfl, _⟩
    · omega
    · exact ⟨g, cap, rfl⟩
  obtain ⟨g, cap, rfl⟩ := hv
  obtain ⟨V, hV⟩ : ∃ V, V = w1.alloc (.cells #[.slice (some ⟨g, 0, none⟩) ts.length cap, .int .i64 0, .int .i64 0, .int .i64 0] 66) := ⟨_, rfl⟩
  have hbV : Below w1.heap.size w1 V := by rw [hV]; exact (Below.refl _ _).alloc (Nat.le_refl _) _
  have hgl := (ho.lt g rfl).2
  have hpw : PW w1.heap.size g cap ts ⟨0, 0, 0⟩ V := by
    refine ⟨by rw [hV]; exact heap_alloc_new w1 _, (toks_own ho).stays (by rw [hV]; simp; omega) (hbV.block g hgl), by omega, hl0, hl1, by simp, by simp, by simp, HFN.out⟩
  have hs1 := hb1.size
  have HP := Lib.hid (program_any F hF w1.heap.size g cap ts ⟨0, 0, 0⟩ V hpw (by simp) HNE.out)
  obtain ⟨x1, x2, x3, x4, x5⟩ := HQ.out
  have hVs : V.heap.size = w1.heap.size + 1 := by rw [hV]; simp
  have HQ1 := Lib.hid (And.intro (x1.trans ((hb1.mono x1.size).trans (hbV.mono (Nat.le_trans x1.size hs1)))) (And.intro ((x2.below hb1 (by omega)).below hbV (by omega)) (And.intro ((x3.below hb1 (by omega)).below hbV (by omega)) ((x4.below hb1 (by omega)).below hbV (by omega)))))
  have hne : w.heap.size + 2 < w1.heap.size := by omega
  have HVV := Lib.hid hV
  clear hb1 ho hV hbV hpw x1 x2 x3 x4 x5 hgl
  go_wp2_with fail
  rw [← HVV.out]
  refine HP.out.mono ?_
  rintro e w2 h2
  rcases h2.elim with ⟨pn, hr, hg, rfl⟩ | ⟨l, s', hr, hg, ⟨a, m, c, rfl, hrow⟩, _⟩
  · have HRR := Lib.hid hr
    obtain ⟨y1, y2, y3, y4⟩ := HQ1.out
    have z0 := y2.other hg (by simp; omega)
    have z1 := y3.other hg (by simp; omega)
    have z2 := y4.other hg (by simp; omega)
    have hb2 : Below w.heap.size w w2 := y1.grown hg y1.size (fun k e => by cases e; omega)
    have c0 := z0.get 0 _ rfl
    have c1 := z1.get 0 _ rfl
    have c2 := z2.get 0 _ rfl
    have f0 := z0.free 0
    have f1 := z1.free 0
    have f2 := z2.free 0
    have hs2 : w.heap.size + 2 < w2.heap.size := z2.lt
    have HB2 := Lib.hid hb2
    obtain ⟨p, n⟩ := pn
    clear hr h2 hg y1 y2 y3 y4 z0 z1 z2 hb2
    unfold faultP
    go_wp2
    refine leaves_cons (f := 19) (args := #[.pointer (some ⟨w.heap.size, 0, none⟩), .pointer (some ⟨w.heap.size + 1, 0, none⟩), .pointer (some ⟨w.heap.size + 2, 0, none⟩)]) (by simp) (by simp [go_sem]) ?_
    refine (catchP_fault w.heap.size p n _ _ _ [] w2 c0 c1 c2 f0 f1 f2 hs2).mono ?_
    rintro e u' w3 ⟨rfl, rfl, hc⟩
    have HC := Lib.hid hc
    have y0 := hc.2.1
    have y1 := hc.2.2.1
    have y2 : w3.cell? ⟨w.heap.size + 1 + 1, 0, none⟩ = some (.int .i64 (n : Int)) := hc.2.2.2
    clear hc c0 c1 c2 f0 f1 f2
    simp [Leaves, settle, results, Tryz.results9, go_sem, y0, y1, y2]
    exact ⟨HB2.out.trans HC.out.1, by rw [HRR.out]⟩
  · have HRR := Lib.hid hr
    obtain ⟨y1, y2, y3, y4⟩ := HQ1.out
    have z0 := y2.other hg (by simp; omega)
    have z1 := y3.other hg (by simp; omega)
    have z2 := y4.other hg (by simp; omega)
    have hb2 : Below w.heap.size w w2 := y1.grown hg y1.size (fun k e => by cases e; omega)
    have c0 := z0.get 0 _ rfl
    have c1 := z1.get 0 _ rfl
    have c2 := z2.get 0 _ rfl
    have f0 := z0.free 0
    have f1 := z1.free 0
    have f2 := z2.free 0
    have hFIN : Below w.heap.size w (((w2.setCell ⟨w.heap.size, 0, none⟩ (.slice a m c)).setCell ⟨w.heap.size + 1, 0, none⟩ (.int .i64 0)).setCell ⟨w.heap.size + 1 + 1, 0, none⟩ (.int .i64 0)) ∧
        FuRow (((w2.setCell ⟨w.heap.size, 0, none⟩ (.slice a m c)).setCell ⟨w.heap.size + 1, 0, none⟩ (.int .i64 0)).setCell ⟨w.heap.size + 1 + 1, 0, none⟩ (.int .i64 0)) (fun h => w.heap.size ≤ h) l (.slice a m c) := by
      refine ⟨((hb2.setCell (Nat.le_refl _) _).setCell (by show w.heap.size ≤ w.heap.size + 1; omega) _).setCell (by show w.heap.size ≤ w.heap.size + 1 + 1; omega) _, ?_⟩
      have k1 : FuRow (w2.setCell ⟨w.heap.size, 0, none⟩ (.slice a m c)) (fun h => V.heap.size ≤ h) l (.slice a m c) := hrow.stays (stays_of_grown (Lib.grownBy_setCell _ _ _ _) fun h hh => ⟨by omega, hh⟩)
      have k2 : FuRow ((w2.setCell ⟨w.heap.size, 0, none⟩ (.slice a m c)).setCell ⟨w.heap.size + 1, 0, none⟩ (.int .i64 0)) (fun h => V.heap.size ≤ h) l (.slice a m c) := k1.stays (stays_of_grown (Lib.grownBy_setCell _ _ _ _) fun h hh => ⟨by omega, hh⟩)
      exact k2.stays (stays_of_grown (Lib.grownBy_setCell _ (w.heap.size + 1 + 1) _ _) fun h hh => ⟨by omega, by omega⟩)
    have y0 : (((w2.setCell ⟨w.heap.size, 0, none⟩ (.slice a m c)).setCell ⟨w.heap.size + 1, 0, none⟩ (.int .i64 0)).setCell ⟨w.heap.size + 1 + 1, 0, none⟩ (.int .i64 0)).cell? ⟨w.heap.size, 0, none⟩ = some (.slice a m c) := by
      rw [World.cell?_setCell_other _ _ _ _ (by simp), World.cell?_setCell_other _ _ _ _ (by simp)]
      exact World.cell?_setCell_same _ _ _ c0
    have y1 : (((w2.setCell ⟨w.heap.size, 0, none⟩ (.slice a m c)).setCell ⟨w.heap.size + 1, 0, none⟩ (.int .i64 0)).setCell ⟨w.heap.size + 1 + 1, 0, none⟩ (.int .i64 0)).cell? ⟨w.heap.size + 1, 0, none⟩ = some (.int .i64 0) := by
      rw [World.cell?_setCell_other _ _ _ _ (by simp)]
      exact World.cell?_setCell_same _ _ _ ((World.cell?_setCell_other _ _ _ _ (by simp)).trans c1)
    have y2 : (((w2.setCell ⟨w.heap.size, 0, none⟩ (.slice a m c)).setCell ⟨w.heap.size + 1, 0, none⟩ (.int .i64 0)).setCell ⟨w.heap.size + 1 + 1, 0, none⟩ (.int .i64 0)).cell? ⟨w.heap.size + 1 + 1, 0, none⟩ = some (.int .i64 0) :=
      World.cell?_setCell_same _ _ _ ((World.cell?_setCell_other _ _ _ _ (by simp)).trans ((World.cell?_setCell_other _ _ _ _ (by simp)).trans c2))
    have HY := Lib.hid (And.intro y0 (And.intro y1 y2))
    have FIN := Lib.hid hFIN
    clear hr h2 hg z0 z1 z2 hb2 y0 y1 y2 y3 y4 hFIN hrow
    go_wp2
    refine leaves_cons (f := 19) (args := #[.pointer (some ⟨w.heap.size, 0, none⟩), .pointer (some ⟨w.heap.size + 1, 0, none⟩), .pointer (some ⟨w.heap.size + 2, 0, none⟩)]) (by simp) (by simp [go_sem]) ?_
    refine (catchP_idle ⟨w.heap.size, 0, none⟩ ⟨w.heap.size + 1, 0, none⟩ ⟨w.heap.size + 2, 0, none⟩ _).mono ?_
    rintro e u' w3 ⟨rfl, rfl, rfl⟩
    obtain ⟨y0, y1, y2⟩ := HY.out
    clear c0 c1 c2 f0 f1 f2
    simp [Leaves, settle, results, Tryz.results9, go_sem, y0, y1, y2]
    refine ⟨FIN.out.1, ?_⟩
    rw [HRR.out]
    exact ⟨a, m, c, rfl, FIN.out.2⟩
end Go.Proofs.YtcgllooeimacdaaGreatDoor
