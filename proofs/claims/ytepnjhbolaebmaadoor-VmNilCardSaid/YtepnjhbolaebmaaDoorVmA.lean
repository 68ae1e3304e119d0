/-
  The machine of the document's example, in memory; what its instructions do.
-/
import Derived.Test.YtepnjhbolaebmaaDoorVmN
import Derived.Test.YtepnjhbolaebmaaDoorDrawn
import Derived.Deep.AppendLies
import Derived.Deep.AppendSrc
import Derived.Deep.RegionHeld3
import Derived.Deep.DeepCutAuto
import Derived.Deep.CutRange
import Derived.Laws.LoneSync
import Derived.BigQuiet
namespace Go.Proofs.YtepnjhbolaebmaaDoor
open Go Go.RowKit Ib

/-- What stays while a machine steps: all but its own block and its call's. -/
structure Fm (bm bc : Nat) (W W' : World) : Prop where
  os : W'.os = W.os
  tape : W'.tape = W.tape
  output : W'.output = W.output
  size : W.heap.size ≤ W'.heap.size
  block : ∀ k, k < W.heap.size → k ≠ bm → k ≠ bc → W'.heap[k]? = W.heap[k]?
theorem Fm.refl (bm bc : Nat) (W : World) : Fm bm bc W W := ⟨rfl, rfl, rfl, Nat.le_refl _, fun _ _ _ _ => rfl⟩
theorem Fm.trans {bm bc : Nat} {a b c : World} (h : Fm bm bc a b) (h' : Fm bm bc b c) : Fm bm bc a c :=
  ⟨h'.os.trans h.os, h'.tape.trans h.tape, h'.output.trans h.output, Nat.le_trans h.size h'.size, fun k hk h1 h2 => (h'.block k (Nat.lt_of_lt_of_le hk h.size) h1 h2).trans (h.block k hk h1 h2)⟩
theorem Fm.of_below (bm bc : Nat) {W W' : World} (h : Below W.heap.size W W') : Fm bm bc W W' := ⟨h.os, h.tape, h.output, h.size, fun k hk _ _ => h.block k hk⟩
theorem Fm.setM {bm bc : Nat} {W W' : World} (h : Fm bm bc W W') (j : Nat) (v : Value) : Fm bm bc W (W'.setCell ⟨bm, j, none⟩ v) :=
  ⟨h.os, h.tape, h.output, by have := h.size; simp [World.setCell]; exact this, fun k hk h1 h2 => (Below.heap_setCell _ _ _ _ h1).trans (h.block k hk h1 h2)⟩
theorem Fm.setC {bm bc : Nat} {W W' : World} (h : Fm bm bc W W') (j : Nat) (v : Value) : Fm bm bc W (W'.setCell ⟨bc, j, none⟩ v) :=
  ⟨h.os, h.tape, h.output, by have := h.size; simp [World.setCell]; exact this, fun k hk h1 h2 => (Below.heap_setCell _ _ _ _ h2).trans (h.block k hk h1 h2)⟩
theorem Fm.drewN {bm bc : Nat} {W W' : World} (h : Fm bm bc W W') (n : Nat) : Fm bm bc W (W'.drewN n) := ⟨h.os, h.tape, h.output, h.size, h.block⟩
theorem Fm.alloc {bm bc : Nat} {W W' : World} (h : Fm bm bc W W') (o : Obj) : Fm bm bc W (W'.alloc o) := h.trans (Fm.of_below bm bc ((Below.refl _ _).alloc (Nat.le_refl _) _))
theorem Fm.blk {bm bc b : Nat} {W W' : World} {cs : Array Value} {T : TypeId} (h : Fm bm bc W W') (hb : Blk b cs T W) (h1 : b ≠ bm) (h2 : b ≠ bc) : Blk b cs T W' := (h.block b hb.lt h1 h2).trans hb
theorem Fm.below {bm bc base : Nat} {W W' : World} (h : Fm bm bc W W') (h1 : base ≤ bm) (h2 : base ≤ bc) (h3 : base ≤ W.heap.size) : Below base W W' :=
  ⟨h.os, h.tape, h.output, h.size, fun k hk => h.block k (by omega) (by omega) (by omega)⟩

abbrev Mt : TypeId := 88
abbrev Ct : TypeId := 94
abbrev nilS : Value := .slice none 0 0
abbrev mcA (bw be ec bc : Nat) (st en ex at' mk : Int) (ov : Value) (cn : Nat) : Array Value :=
  #[.slice (some ⟨bw, 0, none⟩) 4 4, .slice (some ⟨be, 0, none⟩) 1 ec, I 0, nilS, I st, .int .u8 en, I ex, I at', I 0, I mk, ov, nilS, .slice (some ⟨bc, 0, none⟩) cn 1]
abbrev ccA (nx r0 : Int) : Array Value := #[I 0, I nx, I r0, I 0, I 0, I 0, I 0, I 0, I 0, I 0, I 0, I 0, I 0, I 0, I 0, I 0, I 0, I 0, nilS, nilS, nilS]
abbrev wagg (op im : Int) : Value := .agg #[.int .u8 op, .int .u8 0, .int .u8 0, .int .u8 0, .int .i64 im]
abbrev wcA : Array Value := #[.int .u8 30, .int .u8 0, .int .u8 0, .int .u8 0, .int .i64 7, .int .u8 42, .int .u8 0, .int .u8 0, .int .u8 0, .int .i64 0,
  .int .u8 44, .int .u8 0, .int .u8 0, .int .u8 0, .int .i64 0, .int .u8 47, .int .u8 0, .int .u8 0, .int .u8 0, .int .i64 0]

set_option maxRecDepth 100000 in
theorem add_any (a : Addr) (x : Int) (h0 : 0 ≤ x) (h1 : x ≤ 1000) (w : World) (hc : w.cell? a = some (I x)) (hz : w.frozen? a = false) :
    Calls Tryd.prog 86 #[.pointer (some a), I 1] w fun e w' => e = .returned (I (x + 1)) ∧ w' = w.setCell a (I (x + 1)) := by
  have hadd := run_call_add (P := Tryd.prog) Tryd.func103 (by kernel_rfl) (by kernel_rfl) (by kernel_rfl) .i64 (by kernel_rfl) (y := 1) (s := x + 1) hc hz (by
    have e : IntKind.i64.wrap (x + 1) = x + 1 := by rw [IntKind.wrap_i64]; omega
    simp [go_sem, e])
  go_enter Tryd.func86, Tryd.ntmps86
  go_wp2
  go_ret
  exact ⟨rfl, rfl⟩
set_option maxRecDepth 100000 in
theorem load_any (a : Addr) (x : Int) (w : World) (hc : w.cell? a = some (I x)) :
    Calls Tryd.prog 39 #[.pointer (some a)] w fun e w' => e = .returned (I x) ∧ w = w' := by
  have hl := run_call_load (P := Tryd.prog) Tryd.func59 (by kernel_rfl) (by kernel_rfl) (by kernel_rfl) .i64 (by kernel_rfl) hc
  go_enter Tryd.func39, Tryd.ntmps39
  go_wp2
  go_ret
  exact ⟨rfl, rfl⟩
theorem infoWd : (Tryd.prog.info? 69).map (·.size) = some 5 := by kernel_rfl
set_option maxRecDepth 100000 in
set_option maxHeartbeats 1600000 in
/-- The instruction at an address: one of the four. -/
theorem word_at (bm bw : Nat) (cs : Array Value) (i : Nat) (op im : Int) (hop : op = 30 ∨ op = 42 ∨ op = 44 ∨ op = 47) (w : World) (hm : Blk bm cs Mt w) (h0 : cs[0]? = some (.slice (some ⟨bw, 0, none⟩) 4 4)) (hi : i < 4) (hw : Blk bw wcA 69 w)
    (c0 : wcA[i * 5]? = some (.int .u8 op)) (c1 : wcA[i * 5 + 1]? = some (.int .u8 0)) (c2 : wcA[i * 5 + 2]? = some (.int .u8 0)) (c3 : wcA[i * 5 + 3]? = some (.int .u8 0)) (c4 : wcA[i * 5 + 4]? = some (.int .i64 im)) :
    Calls Tryd.prog 87 #[.pointer (some ⟨bm, 0, none⟩), I (i : Int)] w fun e w' => e = .returned (.tuple #[wagg op im, .bool true]) ∧ Below w.heap.size w w' := by
  have d0 := hm.get 0 _ h0
  have x0 := hw.get _ _ c0
  have x1 := hw.get _ _ c1
  have x2 := hw.get _ _ c2
  have x3 := hw.get _ _ c3
  have x4 := hw.get _ _ c4
  have hne : (op != 0) = true := by simp; omega
  have e0 : (0 : Int) ≤ (i : Int) := by omega
  have e1 : (i : Int) < 4 := by omega
  have q0 : bm < w.heap.size := hm.lt
  have q1 : bw < w.heap.size := hw.lt
  have q2 : ¬ bm = w.heap.size := by omega
  have q3 : ¬ bw = w.heap.size := by omega
  clear hm h0 hi hw c0 c1 c2 c3 c4 hop
  go_enter Tryd.func87, Tryd.ntmps87
  go_wp2_with fail
  go_region
  all_goals
    go_wp2_with fail
    refine bodyPost_ret (results_row2 rfl _ _ w.heap.size 69 #[.int .u8 op, .int .u8 0, .int .u8 0, .int .u8 0, .int .i64 im] (0, 0) _ rfl (show Blk w.heap.size _ _ _ from ((Blk.new w _ _).alloc _).drewN 1) Tryd.underlying69 rfl infoWd) rfl ?_
    exact ⟨rfl, below_drewN (((Below.refl _ _).alloc (Nat.le_refl _) _).alloc (by simp) _) 1⟩
set_option maxRecDepth 100000 in
set_option maxHeartbeats 1600000 in
/-- What a number's instruction puts. -/
theorem value_num (bm bc : Nat) (nx : Int) (w : World) (hc : Blk bc (ccA nx 0) Ct w) :
    Calls Tryd.prog 110 #[.pointer (some ⟨bm, 0, none⟩), .pointer (some ⟨bc, 0, none⟩), wagg 30 7] w fun e w' => e = .returned (.tuple #[I 7, .int .u8 0]) ∧ Below w.heap.size w w' := by
  have x2 := hc.get 2 (I 0) rfl
  have q0 : bc < w.heap.size := hc.lt
  have q2 : ¬ bc = w.heap.size := by omega
  clear hc
  go_enter Tryd.func110, Tryd.ntmps110
  go_wp2_with fail
  go_quiet (fail)
  go_wp2_with fail
  go_ret2
  exact ⟨rfl, below_drewN ((Below.refl _ _).alloc (Nat.le_refl _) _) _⟩
set_option maxRecDepth 100000 in
set_option maxHeartbeats 3200000 in
/-- A number's instruction, done. -/
theorem do_num (bm bc : Nat) (nx : Int) (cs : Array Value) (w : World) (hm : Blk bm cs Mt w) (hc : Blk bc (ccA nx 0) Ct w) (hne : bm ≠ bc) :
    Calls Tryd.prog 88 #[.pointer (some ⟨bm, 0, none⟩), .pointer (some ⟨bc, 0, none⟩), wagg 30 7] w fun e w' => e = .returned (.int .u8 0) ∧ Fm bm bc w w' ∧ Blk bm cs Mt w' ∧ Blk bc (ccA nx 7) Ct w' := by
  have hB : Below w.heap.size w (w.alloc (.cells #[.int .u8 30, .int .u8 0, .int .u8 0, .int .u8 0, .int .i64 7] 69)) := (Below.refl _ _).alloc (Nat.le_refl _) _
  obtain ⟨W1, hW1⟩ : ∃ W, W = w.alloc (.cells #[.int .u8 30, .int .u8 0, .int .u8 0, .int .u8 0, .int .i64 7] 69) := ⟨_, rfl⟩
  obtain ⟨b5, hb5⟩ : ∃ b, b = w.heap.size := ⟨_, rfl⟩
  rw [← hW1] at hB
  have k5 : Blk b5 #[.int .u8 30, .int .u8 0, .int .u8 0, .int .u8 0, .int .i64 7] 69 W1 := by rw [hW1, hb5]; exact Blk.new _ _ _
  have HV := Lib.hid (value_num bm bc nx W1 (hc.below hB hc.lt))
  have H1 := Lib.hid (And.intro hB (And.intro (hm.below hB hm.lt) (And.intro (hc.below hB hc.lt) (And.intro k5 hne))))
  have HW1 := Lib.hid (And.intro hW1 hb5)
  clear hB hm hc hW1 hb5 hne
  go_enter Tryd.func88, Tryd.ntmps88
  go_upto_region 1 with (fail)
  rw [← HW1.out.2]
  change Code.wp _ _ _ _ (w.alloc (.cells #[.int .u8 30, .int .u8 0, .int .u8 0, .int .u8 0, .int .i64 7] 69))
  rw [← HW1.out.1]
  have x0 := k5.get 0 _ rfl
  have x1 := k5.get 1 _ rfl
  have x2 := k5.get 2 _ rfl
  have x3 := k5.get 3 _ rfl
  have x4 := k5.get 4 _ rfl
  clear k5
  go_wp2_with fail
  refine HV.out.mono ?_
  rintro e w2 ⟨rfl, hb2⟩
  have kc := H1.out.2.2.1.below hb2 H1.out.2.2.1.lt
  have k5 := H1.out.2.2.2.1.below hb2 H1.out.2.2.2.1.lt
  clear x0 x1 x2 x3 x4
  have x1 := k5.get 1 (.int .u8 0) rfl
  have y2 := kc.get 2 (I 0) rfl
  have v2 := kc.free 2
  have HF := Lib.hid (show Fm bm bc w w2 ∧ Blk bm cs Mt w2 ∧ Blk bc (ccA nx 0) Ct w2 from ⟨Fm.of_below bm bc (below_tr H1.out.1 hb2), H1.out.2.1.below hb2 H1.out.2.1.lt, kc⟩)
  clear hb2 kc k5 HV
  go_wp2_with fail
  go_region
  all_goals
    go_wp2_with fail
    go_ret
    exact ⟨rfl, (HF.out.1.setC 2 (I 7)).drewN 1, (HF.out.2.1.setOther H1.out.2.2.2.2 2 (I 7)).drewN 1, (HF.out.2.2.set 2 (I 7)).drewN 1⟩
end Go.Proofs.YtepnjhbolaebmaaDoor
