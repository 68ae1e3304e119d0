/-
  A step of the document's example, over what its instruction does.
-/
import Derived.Test.YtepnjhbolaebmaaDoorVmB
namespace Go.Proofs.YtepnjhbolaebmaaDoor
open Go Go.RowKit Ib

theorem no_ret {fn : Func} (h : fn.results = #[]) : True := trivial
set_option maxRecDepth 100000 in
set_option maxHeartbeats 3200000 in
theorem step_of (bm bw be bc ec : Nat) (st at' mk r0 : Int) (ov : Value) (i : Nat) (op im : Int) (hop : op = 30 ∨ op = 42 ∨ op = 44 ∨ op = 47) (hi : i < 4) (hst : 0 ≤ st ∧ st ≤ 1000)
    (c0 : wcA[i * 5]? = some (.int .u8 op)) (c1 : wcA[i * 5 + 1]? = some (.int .u8 0)) (c2 : wcA[i * 5 + 2]? = some (.int .u8 0)) (c3 : wcA[i * 5 + 3]? = some (.int .u8 0)) (c4 : wcA[i * 5 + 4]? = some (.int .i64 im))
    (w : World) (hm : Blk bm (mcA bw be ec bc st 0 0 at' mk ov 1) Mt w) (hc : Blk bc (ccA (i : Int) r0) Ct w) (hw : Blk bw wcA 69 w) (n1 : bm ≠ bc) (n2 : bw ≠ bm) (n3 : bw ≠ bc)
    (Q : Int → World → World → Prop)
    (DO : ∀ W, Blk bm (mcA bw be ec bc (st + 1) 0 0 (i : Int) mk ov 1) Mt W → Blk bc (ccA ((i : Int) + 1) r0) Ct W → Fm bm bc w W → Calls Tryd.prog 88 #[.pointer (some ⟨bm, 0, none⟩), .pointer (some ⟨bc, 0, none⟩), wagg op im] W fun e W' => ∃ en cs, e = .returned (.int .u8 en) ∧ Blk bm cs Mt W' ∧ cs[5]? = some (.int .u8 0) ∧ Q en W W') :
    Calls Tryd.prog 58 #[.pointer (some ⟨bm, 0, none⟩)] w fun e w' => e = .returned (.tuple #[]) ∧ ∃ W en W', Fm bm bc w W ∧ Q en W W' ∧ w' = W'.setCell ⟨bm, 5, none⟩ (.int .u8 en) := by
  obtain ⟨W1, hW1⟩ : ∃ W, W = w.setCell ⟨bm, 4, none⟩ (I (st + 1)) := ⟨_, rfl⟩
  have HA := Lib.hid (add_any ⟨bm, 4, none⟩ st hst.1 hst.2 w (hm.get 4 _ rfl) (hm.free 4))
  have hm1 : Blk bm (mcA bw be ec bc (st + 1) 0 0 at' mk ov 1) Mt W1 := by rw [hW1]; exact hm.set 4 (I (st + 1))
  have hc1 : Blk bc (ccA (i : Int) r0) Ct W1 := by rw [hW1]; exact hc.setOther (Ne.symm n1) 4 _
  have hw1 : Blk bw wcA 69 W1 := by rw [hW1]; exact hw.setOther n2 4 _
  have hf1 : Fm bm bc w W1 := by rw [hW1]; exact (Fm.refl _ _ _).setM 4 _
  have H1 := Lib.hid (And.intro hm1 (And.intro hc1 (And.intro hw1 hf1)))
  have HDO := Lib.hid DO
  have HC := Lib.hid (And.intro c0 (And.intro c1 (And.intro c2 (And.intro c3 (And.intro c4 (And.intro hop (And.intro hi (And.intro n1 (And.intro n2 n3)))))))))
  have HW1 := Lib.hid hW1
  have y12 := hm1.get 12 _ rfl
  have y7 := hm1.get 7 (I at') rfl
  have v7 := hm1.free 7
  have z1 := hc1.get 1 (I (i : Int)) rfl
  have m1 : ¬ bc = bm := fun e => n1 e.symm
  have m2 : ¬ bm = bc := n1
  clear hm hc hw hW1 hm1 hc1 hw1 hf1 DO c0 c1 c2 c3 c4 hop n1 n2 n3 hst
  go_enter Tryd.func58, Tryd.ntmps58
  go_wp2_with fail
  refine HA.out.mono ?_
  rintro e w2 ⟨rfl, rfl⟩
  rw [← HW1.out]
  clear HA
  go_wp2_with fail
  go_quiet (fail)
  obtain ⟨W2, hW2⟩ : ∃ W, W = W1.drewN nq := ⟨_, rfl⟩
  obtain ⟨W3, hW3⟩ : ∃ W, W = W2.setCell ⟨bm, 7, none⟩ (I (i : Int)) := ⟨_, rfl⟩
  have hm2 : Blk bm (mcA bw be ec bc (st + 1) 0 0 at' mk ov 1) Mt W2 := by rw [hW2]; exact H1.out.1.drewN nq
  have hc2 : Blk bc (ccA (i : Int) r0) Ct W2 := by rw [hW2]; exact H1.out.2.1.drewN nq
  have hw2 : Blk bw wcA 69 W2 := by rw [hW2]; exact H1.out.2.2.1.drewN nq
  have hf2 : Fm bm bc w W2 := by rw [hW2]; exact H1.out.2.2.2.drewN nq
  have hm3 : Blk bm (mcA bw be ec bc (st + 1) 0 0 (i : Int) mk ov 1) Mt W3 := by rw [hW3]; exact hm2.set 7 (I (i : Int))
  have hc3 : Blk bc (ccA (i : Int) r0) Ct W3 := by rw [hW3]; exact hc2.setOther m1 7 _
  have hw3 : Blk bw wcA 69 W3 := by rw [hW3]; exact hw2.setOther HC.out.2.2.2.2.2.2.2.2.1 7 _
  have hf3 : Fm bm bc w W3 := by rw [hW3]; exact hf2.setM 7 _
  have HWd := Lib.hid (word_at bm bw _ i op im HC.out.2.2.2.2.2.1 W3 hm3 rfl HC.out.2.2.2.2.2.2.1 hw3 HC.out.1 HC.out.2.1 HC.out.2.2.1 HC.out.2.2.2.1 HC.out.2.2.2.2.1)
  have H3 := Lib.hid (And.intro hm3 (And.intro hc3 hf3))
  have HW3 := Lib.hid hW3
  change Exit.then _ _ _ _ (W1.drewN nq)
  rw [← hW2]
  clear y12 y7 v7 z1
  have y7 := hm2.get 7 (I at') rfl
  have v7 := hm2.free 7
  have z1 := hc2.get 1 (I (i : Int)) rfl
  have z1' := hc3.get 1 (I (i : Int)) rfl
  clear hW2 hW3 hm2 hc2 hw2 hf2 hm3 hc3 hw3 hf3
  go_upto_region 4 with (fail)
  rw [← HW3.out]
  clear y7 v7 z1
  go_wp2_with fail
  refine HWd.out.mono ?_
  rintro e w4 ⟨rfl, hb4⟩
  obtain ⟨W5, hW5⟩ : ∃ W, W = w4.alloc (.cells #[.int .u8 op, .int .u8 0, .int .u8 0, .int .u8 0, .int .i64 im] 69) := ⟨_, rfl⟩
  obtain ⟨b5, hb5⟩ : ∃ b, b = w4.heap.size := ⟨_, rfl⟩
  have hB5 : Below W3.heap.size W3 W5 := by rw [hW5]; exact hb4.alloc hb4.size _
  have k5 : Blk b5 #[.int .u8 op, .int .u8 0, .int .u8 0, .int .u8 0, .int .i64 im] 69 W5 := by rw [hW5, hb5]; exact Blk.new _ _ _
  have hm5 := H3.out.1.below hB5 H3.out.1.lt
  have hc5 := H3.out.2.1.below hB5 H3.out.2.1.lt
  have hf5 := H3.out.2.2.trans (Fm.of_below bm bc hB5)
  have n5 : b5 ≠ bc := by rw [hb5]; have := H3.out.2.1.lt; have := hb4.size; omega
  obtain ⟨W6, hW6⟩ : ∃ W, W = W5.setCell ⟨bc, 1, none⟩ (I ((i : Int) + 1)) := ⟨_, rfl⟩
  have k6 : Blk b5 #[.int .u8 op, .int .u8 0, .int .u8 0, .int .u8 0, .int .i64 im] 69 W6 := by rw [hW6]; exact k5.setOther n5 1 _
  have hm6 : Blk bm (mcA bw be ec bc (st + 1) 0 0 (i : Int) mk ov 1) Mt W6 := by rw [hW6]; exact hm5.setOther m2 1 _
  have hc6 : Blk bc (ccA ((i : Int) + 1) r0) Ct W6 := by rw [hW6]; exact hc5.set 1 (I ((i : Int) + 1))
  have hf6 : Fm bm bc w W6 := by rw [hW6]; exact hf5.setC 1 _
  have HD := Lib.hid (HDO.out W6 hm6 hc6 hf6)
  have HF6 := Lib.hid hf6
  have HW5 := Lib.hid (And.intro hW5 hb5)
  have HW6 := Lib.hid hW6
  have z1 := hc5.get 1 (I (i : Int)) rfl
  have v1 := hc5.free 1
  have x0 := k6.get 0 _ rfl
  have x1 := k6.get 1 _ rfl
  have x2 := k6.get 2 _ rfl
  have x3 := k6.get 3 _ rfl
  have x4 := k6.get 4 _ rfl
  have e0 : (0 : Int) ≤ (i : Int) := by omega
  have e1 : (i : Int) < 4 := by have := HC.out.2.2.2.2.2.2.1; omega
  clear hW5 hb5 hb4 hB5 k5 hm5 hc5 hf5 n5 hW6 k6 hm6 hc6 hf6 z1' HWd HDO
  go_upto_region 5 with (fail)
  rw [← HW5.out.2]
  change Code.wp _ _ _ _ (w4.alloc (.cells #[.int .u8 op, .int .u8 0, .int .u8 0, .int .u8 0, .int .i64 im] 69))
  rw [← HW5.out.1]
  go_upto_region 8 with (fail)
  rw [← HW6.out]
  clear z1 v1
  go_wp2_with fail
  refine HD.out.mono ?_
  rintro e w7 ⟨en, cs, rfl, hk, h5, hQ⟩
  have y5 := hk.get 5 _ h5
  have v5 := hk.free 5
  have HQ := Lib.hid hQ
  clear hk h5 hQ x0 x1 x2 x3 x4 HD
  go_wp2_with fail
  go_end0
  exact ⟨rfl, W6, en, w7, HF6.out, HQ.out, rfl⟩
end Go.Proofs.YtepnjhbolaebmaaDoor
