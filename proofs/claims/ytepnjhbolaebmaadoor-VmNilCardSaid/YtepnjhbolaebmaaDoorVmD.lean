/-
  The four steps of the document's example, and its runs.
-/
import Derived.Test.YtepnjhbolaebmaaDoorVmC
namespace Go.Proofs.YtepnjhbolaebmaaDoor
open Go Go.RowKit Ib

set_option maxRecDepth 100000 in
theorem step_num (bm bw be bc ec : Nat) (w : World) (hm : Blk bm (mcA bw be ec bc 0 0 0 0 0 nilS 1) Mt w) (hc : Blk bc (ccA 0 0) Ct w) (hw : Blk bw wcA 69 w) (n1 : bm ≠ bc) (n2 : bw ≠ bm) (n3 : bw ≠ bc) :
    Calls Tryd.prog 58 #[.pointer (some ⟨bm, 0, none⟩)] w fun e w' => e = .returned (.tuple #[]) ∧ Fm bm bc w w' ∧ Blk bm (mcA bw be ec bc 1 0 0 0 0 nilS 1) Mt w' ∧ Blk bc (ccA 1 7) Ct w' := by
  refine (step_of bm bw be bc ec 0 0 0 0 nilS 0 30 7 (by omega) (by omega) ⟨by omega, by omega⟩ rfl rfl rfl rfl rfl w hm (by have e : ((0 : Nat) : Int) = 0 := rfl; rw [e]; exact hc) hw n1 n2 n3 (fun en W W' => en = 0 ∧ Fm bm bc W W' ∧ Blk bm (mcA bw be ec bc 1 0 0 0 0 nilS 1) Mt W' ∧ Blk bc (ccA 1 7) Ct W') (fun W h1 h2 h3 => ?_)).mono ?_
  · have e1 : ((0 : Nat) : Int) + 1 = 1 := rfl
    have e2 : (0 : Int) + 1 = 1 := rfl
    rw [e1] at h2
    rw [e2] at h1
    refine (do_num bm bc 1 _ W h1 h2 n1).mono ?_
    rintro e W' ⟨rfl, hf, hm', hc'⟩
    exact ⟨0, _, rfl, hm', rfl, rfl, hf, hm', hc'⟩
  · rintro e w' ⟨rfl, W, en, W', hf, ⟨rfl, hf2, hm', hc'⟩, rfl⟩
    exact ⟨rfl, (hf.trans hf2).setM 5 _, hm'.set 5 (.int .u8 0), hc'.setOther (Ne.symm n1) 5 _⟩
set_option maxRecDepth 100000 in
theorem step_print (bm bw be bc ec : Nat) (base : Nat) (w : World) (hm : Blk bm (mcA bw be ec bc 1 0 0 0 0 nilS 1) Mt w) (hc : Blk bc (ccA 1 7) Ct w) (hw : Blk bw wcA 69 w) (n1 : bm ≠ bc) (n2 : bw ≠ bm) (n3 : bw ≠ bc) (hbs : base ≤ w.heap.size) :
    Calls Tryd.prog 58 #[.pointer (some ⟨bm, 0, none⟩)] w fun e w' => e = .returned (.tuple #[]) ∧ Fm bm bc w w' ∧ ∃ g cap, base ≤ g ∧ g ≠ bm ∧ g ≠ bc ∧ 1 ≤ cap ∧ w'.cell? ⟨g, 0, none⟩ = some (I 7) ∧ Blk bm (mcA bw be ec bc 2 0 0 1 0 (.slice (some ⟨g, 0, none⟩) 1 cap) 1) Mt w' ∧ Blk bc (ccA 2 7) Ct w' := by
  refine (step_of bm bw be bc ec 1 0 0 7 nilS 1 42 0 (by omega) (by omega) ⟨by omega, by omega⟩ rfl rfl rfl rfl rfl w hm (by have e : ((1 : Nat) : Int) = 1 := rfl; rw [e]; exact hc) hw n1 n2 n3 (fun en W W' => en = 0 ∧ Fm bm bc W W' ∧ ∃ g cap, base ≤ g ∧ g ≠ bm ∧ g ≠ bc ∧ 1 ≤ cap ∧ W'.cell? ⟨g, 0, none⟩ = some (I 7) ∧ Blk bm (mcA bw be ec bc 2 0 0 1 0 (.slice (some ⟨g, 0, none⟩) 1 cap) 1) Mt W' ∧ Blk bc (ccA 2 7) Ct W') (fun W h1 h2 h3 => ?_)).mono ?_
  · have e1 : ((1 : Nat) : Int) + 1 = 2 := rfl
    have e2 : (1 : Int) + 1 = 2 := rfl
    have e3 : ((1 : Nat) : Int) = 1 := rfl
    rw [e1] at h2
    rw [e2, e3] at h1
    refine (do_print bm bc bw be ec base 2 1 2 W h1 h2 n1 (Nat.le_trans hbs h3.size)).mono ?_
    rintro e W' ⟨rfl, hf, g, cap, a1, a2, a3, a4, a5, hm', hc'⟩
    exact ⟨0, _, rfl, hm', rfl, rfl, hf, g, cap, a1, a2, a3, a4, a5, hm', hc'⟩
  · rintro e w' ⟨rfl, W, en, W', hf, ⟨rfl, hf2, g, cap, a1, a2, a3, a4, a5, hm', hc'⟩, rfl⟩
    refine ⟨rfl, (hf.trans hf2).setM 5 _, g, cap, a1, a2, a3, a4, ?_, hm'.set 5 (.int .u8 0), hc'.setOther (Ne.symm n1) 5 _⟩
    unfold World.cell? at a5 ⊢
    rw [Below.heap_setCell _ _ _ _ a2]
    exact a5
set_option maxRecDepth 100000 in
theorem step_mark (bm bw be bc ec : Nat) (ov : Value) (w : World) (hm : Blk bm (mcA bw be ec bc 2 0 0 1 0 ov 1) Mt w) (hc : Blk bc (ccA 2 7) Ct w) (hw : Blk bw wcA 69 w) (n1 : bm ≠ bc) (n2 : bw ≠ bm) (n3 : bw ≠ bc) :
    Calls Tryd.prog 58 #[.pointer (some ⟨bm, 0, none⟩)] w fun e w' => e = .returned (.tuple #[]) ∧ Fm bm bc w w' ∧ Blk bm (mcA bw be ec bc 3 0 0 2 1 ov 1) Mt w' ∧ Blk bc (ccA 3 7) Ct w' := by
  refine (step_of bm bw be bc ec 2 1 0 7 ov 2 44 0 (by omega) (by omega) ⟨by omega, by omega⟩ rfl rfl rfl rfl rfl w hm (by have e : ((2 : Nat) : Int) = 2 := rfl; rw [e]; exact hc) hw n1 n2 n3 (fun en W W' => en = 0 ∧ Fm bm bc W W' ∧ Blk bm (mcA bw be ec bc 3 0 0 2 1 ov 1) Mt W' ∧ Blk bc (ccA 3 7) Ct W') (fun W h1 h2 h3 => ?_)).mono ?_
  · have e1 : ((2 : Nat) : Int) + 1 = 3 := rfl
    have e2 : (2 : Int) + 1 = 3 := rfl
    have e3 : ((2 : Nat) : Int) = 2 := rfl
    rw [e1] at h2
    rw [e2, e3] at h1
    refine (do_mark bm bc bw be ec 3 2 3 7 ov W h1 h2 n1).mono ?_
    rintro e W' ⟨rfl, hf, hm', hc'⟩
    exact ⟨0, _, rfl, hm', rfl, rfl, hf, hm', hc'⟩
  · rintro e w' ⟨rfl, W, en, W', hf, ⟨rfl, hf2, hm', hc'⟩, rfl⟩
    exact ⟨rfl, (hf.trans hf2).setM 5 _, hm'.set 5 (.int .u8 0), hc'.setOther (Ne.symm n1) 5 _⟩
set_option maxRecDepth 100000 in
theorem step_ret (bm bw be bc ec : Nat) (ov : Value) (w : World) (hm : Blk bm (mcA bw be ec bc 3 0 0 2 1 ov 1) Mt w) (hc : Blk bc (ccA 3 7) Ct w) (hw : Blk bw wcA 69 w) (n1 : bm ≠ bc) (n2 : bw ≠ bm) (n3 : bw ≠ bc) :
    Calls Tryd.prog 58 #[.pointer (some ⟨bm, 0, none⟩)] w fun e w' => e = .returned (.tuple #[]) ∧ Fm bm bc w w' ∧ Blk bm (mcA bw be ec bc 4 1 7 3 1 ov 0) Mt w' := by
  refine (step_of bm bw be bc ec 3 2 1 7 ov 3 47 0 (by omega) (by omega) ⟨by omega, by omega⟩ rfl rfl rfl rfl rfl w hm (by have e : ((3 : Nat) : Int) = 3 := rfl; rw [e]; exact hc) hw n1 n2 n3 (fun en W W' => en = 1 ∧ Fm bm bc W W' ∧ Blk bm (mcA bw be ec bc 4 0 7 3 1 ov 0) Mt W') (fun W h1 h2 h3 => ?_)).mono ?_
  · have e1 : ((3 : Nat) : Int) + 1 = 4 := rfl
    have e2 : (3 : Int) + 1 = 4 := rfl
    have e3 : ((3 : Nat) : Int) = 3 := rfl
    rw [e1] at h2
    rw [e2, e3] at h1
    refine (do_ret bm bc bw be ec 4 3 1 4 ov W h1 h2 n1).mono ?_
    rintro e W' ⟨rfl, hf, hm'⟩
    exact ⟨1, _, rfl, hm', rfl, rfl, hf, hm'⟩
  · rintro e w' ⟨rfl, W, en, W', hf, ⟨rfl, hf2, hm'⟩, rfl⟩
    exact ⟨rfl, (hf.trans hf2).setM 5 _, hm'.set 5 (.int .u8 1)⟩

set_option maxRecDepth 100000 in
set_option maxHeartbeats 1600000 in
theorem run_two (bm bw be bc ec base : Nat) (w : World) (hm : Blk bm (mcA bw be ec bc 0 0 0 0 0 nilS 1) Mt w) (hc : Blk bc (ccA 0 0) Ct w) (hw : Blk bw wcA 69 w) (n1 : bm ≠ bc) (n2 : bw ≠ bm) (n3 : bw ≠ bc) (hbs : base ≤ w.heap.size) :
    Calls Tryd.prog 38 #[.pointer (some ⟨bm, 0, none⟩), I 2, I (-1)] w fun e w' => e = .returned (I 2) ∧ Fm bm bc w w' ∧ ∃ g cap, base ≤ g ∧ g ≠ bm ∧ g ≠ bc ∧ 1 ≤ cap ∧ w'.cell? ⟨g, 0, none⟩ = some (I 7) ∧ Blk bm (mcA bw be ec bc 2 0 0 1 0 (.slice (some ⟨g, 0, none⟩) 1 cap) 1) Mt w' ∧ Blk bc (ccA 2 7) Ct w' := by
  have HS := Lib.hid (step_num bm bw be bc ec w hm hc hw n1 n2 n3)
  have y5 := hm.get 5 (.int .u8 0) rfl
  have y9 := hm.get 9 (I 0) rfl
  have HN := Lib.hid (And.intro n1 (And.intro n2 (And.intro n3 (And.intro hbs hw))))
  clear hm hc hw n1 n2 n3 hbs
  go_enter Tryd.func38, Tryd.ntmps38
  go_wp2_with fail
  refine wp_loop_rounds 3 ?_
  rw [rounds_succ]
  go_wp2_with fail
  refine HS.out.mono ?_
  rintro e w1 ⟨rfl, hf1, hm1, hc1⟩
  have HS := Lib.hid (step_print bm bw be bc ec base w1 hm1 hc1 (hf1.blk HN.out.2.2.2.2 HN.out.2.1 HN.out.2.2.1) HN.out.1 HN.out.2.1 HN.out.2.2.1 (Nat.le_trans HN.out.2.2.2.1 hf1.size))
  clear y5 y9
  have y5 := hm1.get 5 (.int .u8 0) rfl
  have y9 := hm1.get 9 (I 0) rfl
  have HF1 := Lib.hid hf1
  clear hf1 hm1 hc1
  go_wp2_with fail
  rw [rounds_succ]
  go_wp2_with fail
  refine HS.out.mono ?_
  rintro e w2 ⟨rfl, hf2, hrest⟩
  have FIN := Lib.hid (And.intro (HF1.out.trans hf2) hrest)
  clear hf2 hrest y5 y9
  go_wp2_with fail
  rw [rounds_succ]
  go_wp2_with fail
  go_ret
  exact ⟨rfl, FIN.out⟩
set_option maxRecDepth 100000 in
set_option maxHeartbeats 1600000 in
theorem run_mark (bm bw be bc ec : Nat) (ov : Value) (w : World) (hm : Blk bm (mcA bw be ec bc 2 0 0 1 0 ov 1) Mt w) (hc : Blk bc (ccA 2 7) Ct w) (hw : Blk bw wcA 69 w) (n1 : bm ≠ bc) (n2 : bw ≠ bm) (n3 : bw ≠ bc) :
    Calls Tryd.prog 38 #[.pointer (some ⟨bm, 0, none⟩), I 9, I 1] w fun e w' => e = .returned (I 1) ∧ Fm bm bc w w' ∧ Blk bm (mcA bw be ec bc 3 0 0 2 1 ov 1) Mt w' ∧ Blk bc (ccA 3 7) Ct w' := by
  have HS := Lib.hid (step_mark bm bw be bc ec ov w hm hc hw n1 n2 n3)
  have y5 := hm.get 5 (.int .u8 0) rfl
  have y9 := hm.get 9 (I 0) rfl
  clear hm hc hw n1 n2 n3
  go_enter Tryd.func38, Tryd.ntmps38
  go_wp2_with fail
  refine wp_loop_rounds 2 ?_
  rw [rounds_succ]
  go_wp2_with fail
  refine HS.out.mono ?_
  rintro e w1 ⟨rfl, hf1, hm1, hc1⟩
  clear y5 y9
  have y5 := hm1.get 5 (.int .u8 0) rfl
  have y9 := hm1.get 9 (I 1) rfl
  have FIN := Lib.hid (And.intro hf1 (And.intro hm1 hc1))
  clear hf1 hm1 hc1
  go_wp2_with fail
  rw [rounds_succ]
  go_wp2_with fail
  go_ret
  exact ⟨rfl, FIN.out⟩
set_option maxRecDepth 100000 in
set_option maxHeartbeats 1600000 in
theorem run_end (bm bw be bc ec : Nat) (ov : Value) (w : World) (hm : Blk bm (mcA bw be ec bc 3 0 0 2 1 ov 1) Mt w) (hc : Blk bc (ccA 3 7) Ct w) (hw : Blk bw wcA 69 w) (n1 : bm ≠ bc) (n2 : bw ≠ bm) (n3 : bw ≠ bc) :
    Calls Tryd.prog 38 #[.pointer (some ⟨bm, 0, none⟩), I 9, I (-1)] w fun e w' => e = .returned (I 1) ∧ Fm bm bc w w' ∧ Blk bm (mcA bw be ec bc 4 1 7 3 1 ov 0) Mt w' := by
  have HS := Lib.hid (step_ret bm bw be bc ec ov w hm hc hw n1 n2 n3)
  have y5 := hm.get 5 (.int .u8 0) rfl
  have y9 := hm.get 9 (I 1) rfl
  clear hm hc hw n1 n2 n3
  go_enter Tryd.func38, Tryd.ntmps38
  go_wp2_with fail
  refine wp_loop_rounds 2 ?_
  rw [rounds_succ]
  go_wp2_with fail
  refine HS.out.mono ?_
  rintro e w1 ⟨rfl, hf1, hm1⟩
  clear y5 y9
  have y5 := hm1.get 5 (.int .u8 1) rfl
  have y9 := hm1.get 9 (I 1) rfl
  have FIN := Lib.hid (And.intro hf1 hm1)
  clear hf1 hm1
  go_wp2_with fail
  rw [rounds_succ]
  go_wp2_with fail
  go_ret
  exact ⟨rfl, FIN.out⟩
set_option maxRecDepth 100000 in
theorem Run_any (bm : Nat) (n : Int) (r : Int) (w : World) (R : World → Prop) (H : Calls Tryd.prog 38 #[.pointer (some ⟨bm, 0, none⟩), I n, I (-1)] w fun e w' => e = .returned (I r) ∧ R w') :
    Calls Tryd.prog 15 #[.pointer (some ⟨bm, 0, none⟩), I n] w fun e w' => e = .returned (I r) ∧ R w' := by
  have HH := Lib.hid H
  clear H
  go_enter Tryd.func15, Tryd.ntmps15
  go_wp2_with fail
  refine HH.out.mono ?_
  rintro e w1 ⟨rfl, hR⟩
  have FIN := Lib.hid hR
  clear hR
  go_wp2_with fail
  go_ret
  exact ⟨rfl, FIN.out⟩
set_option maxRecDepth 100000 in
theorem toMark_nine (bm bw be bc ec : Nat) (ov : Value) (w : World) (hm : Blk bm (mcA bw be ec bc 2 0 0 1 0 ov 1) Mt w) (hc : Blk bc (ccA 2 7) Ct w) (hw : Blk bw wcA 69 w) (n1 : bm ≠ bc) (n2 : bw ≠ bm) (n3 : bw ≠ bc) :
    Calls Tryd.prog 26 #[.pointer (some ⟨bm, 0, none⟩), I 9] w fun e w' => e = .returned (.bool true) ∧ Fm bm bc w w' ∧ Blk bm (mcA bw be ec bc 3 0 0 2 1 ov 1) Mt w' ∧ Blk bc (ccA 3 7) Ct w' := by
  have HH := Lib.hid (run_mark bm bw be bc ec ov w hm hc hw n1 n2 n3)
  have y9 := hm.get 9 (I 0) rfl
  clear hm hc hw n1 n2 n3
  go_enter Tryd.func26, Tryd.ntmps26
  go_wp2_with fail
  refine HH.out.mono ?_
  rintro e w1 ⟨rfl, hf1, hm1, hc1⟩
  clear y9
  have y9 := hm1.get 9 (I 1) rfl
  have FIN := Lib.hid (And.intro hf1 (And.intro hm1 hc1))
  clear hf1 hm1 hc1
  go_wp2_with fail
  go_ret
  exact ⟨rfl, FIN.out⟩
end Go.Proofs.YtepnjhbolaebmaaDoor
