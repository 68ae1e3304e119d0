/-
  The document's own bytes of an instruction, walked.
-/
import Derived.Test.YtlblmnneikdpgaaDoorIbV
import Derived.Test.YtlblmnneikdpgaaDoorIbR
import Derived.Test.YtlblmnneikdpgaaDoorIbN
import Derived.Deep.RegionLaw
import Derived.Deep.RegionHeld3
namespace Go.Proofs.YtlblmnneikdpgaaDoor
open Go Go.RowKit Ib

/-- At a step of a region that draws: bytes, wherever they lie, behind bytes of one's own. -/
theorem step_append_b {ops : Array Oper} {w : World} {o : Oper} {a : Act} {K : Act → World → Prop} {Q : Exit → Act → World → Prop} {E : Prop} (hgd : o.guard = none) (s x : Operand) (ho : o.op = .call { callee := .builtin .append, args := #[s, x], argTypes := #[24, 24] })
    (base : Nat) (v u : Value) (n : Nat) (xs : List Value) (hs : a.eval s = v) (hown : w.ownsRow base 5 1 v n xs) (hx : a.eval x = u) (l : List Nat) (S : Nat → Prop) (hl : SlS S 1 ByteV w u l)
    (hnz : v.ownBlock ≠ none ∨ 0 < l.length) (hb : n + l.length ≤ 70000000000000) (hbase : base ≤ w.heap.size)
    (hv : ∀ v2 w2, w2.ownsRow base 5 1 v2 (n + l.length) (xs ++ bys l) → w.grownBy w2 v.ownBlock → (v2.ownBlock = v.ownBlock ∨ v2.ownBlock = some w.heap.size) → K (a.put o.dst v2) w2) :
    if Region.wanted o (yielded ops a.tmps) = true then Oper.wp Tryd.prog o a w K Q else E := by
  have hw : Region.wanted o (yielded ops a.tmps) = true := by simp [Region.wanted, hgd]
  rw [if_pos hw]
  exact wp_append_b s x ho base v u n xs hs hown hx l S hl hnz hb hbase hv

theorem encW_of {x : Wd} {n : Nat} {im : Bool} (h : names x.op = some (n, im)) : encW x = x.op :: (encR x n ++ if im then nmB (x.op == 30) x.imm else []) := by
  unfold encW
  rw [h]

/-- What stands ahead of the append, by the two orders. -/
theorem enc_row (w w1 : World) (b1 : Nat) (x : Wd) (n : Nat) (hn : n ≤ 3) (hb : Below w.heap.size w w1) (hk : Blk b1 #[B8 x.op, B8 x.a, B8 x.b, B8 x.c, I x.imm] 23 w1) :
    ((w1.alloc (.cells #[B8 x.op] 5)).alloc (.cells #[B8 x.a, B8 x.b, B8 x.c] 5)).drew.ownsRow w.heap.size 5 1 (.slice (some ⟨w1.heap.size, 0, none⟩) 1 1) 1 [B8 x.op] ∧
    SlS (LtW ((w1.alloc (.cells #[B8 x.op] 5)).alloc (.cells #[B8 x.a, B8 x.b, B8 x.c] 5)).drew) 1 ByteV ((w1.alloc (.cells #[B8 x.op] 5)).alloc (.cells #[B8 x.a, B8 x.b, B8 x.c] 5)).drew (.slice (some ⟨w1.heap.size + 1, 0, none⟩) n 3) (encR x n) ∧
    w.heap.size ≤ ((w1.alloc (.cells #[B8 x.op] 5)).alloc (.cells #[B8 x.a, B8 x.b, B8 x.c] 5)).drew.heap.size ∧
    (∀ w2, ((w1.alloc (.cells #[B8 x.op] 5)).alloc (.cells #[B8 x.a, B8 x.b, B8 x.c] 5)).drew.grownBy w2 (Value.slice (some ⟨w1.heap.size, 0, none⟩) 1 1).ownBlock → Below w.heap.size w w2) ∧
    (∀ w2, ((w1.alloc (.cells #[B8 x.op] 5)).alloc (.cells #[B8 x.a, B8 x.b, B8 x.c] 5)).drew.grownBy w2 (Value.slice (some ⟨w1.heap.size, 0, none⟩) 1 1).ownBlock → Blk b1 #[B8 x.op, B8 x.a, B8 x.b, B8 x.c, I x.imm] 23 w2) := by
  have h1 : Blk w1.heap.size #[B8 x.op] 5 ((w1.alloc (.cells #[B8 x.op] 5)).alloc (.cells #[B8 x.a, B8 x.b, B8 x.c] 5)).drew := (Blk.new w1 _ 5).alloc _
  have h2 : Blk (w1.heap.size + 1) #[B8 x.a, B8 x.b, B8 x.c] 5 ((w1.alloc (.cells #[B8 x.op] 5)).alloc (.cells #[B8 x.a, B8 x.b, B8 x.c] 5)).drew := Blk.new' _ _ _ (by simp)
  have h3 : Below w.heap.size w ((w1.alloc (.cells #[B8 x.op] 5)).alloc (.cells #[B8 x.a, B8 x.b, B8 x.c] 5)).drew := below_drewN ((hb.alloc hb.size _).alloc (by have := hb.size; simp; omega) _) 1
  have h4 : Blk b1 #[B8 x.op, B8 x.a, B8 x.b, B8 x.c, I x.imm] 23 ((w1.alloc (.cells #[B8 x.op] 5)).alloc (.cells #[B8 x.a, B8 x.b, B8 x.c] 5)).drew := (hk.alloc _).alloc _
  refine ⟨h1.owns hb.size (by decide) (by simp), ByteZ.take (l := [x.a, x.b, x.c]) (own_bytes (base := w.heap.size) (n := 3) (h2.owns (Nat.le_succ_of_le hb.size) (by decide) (by simp))) n (by simpa using hn), h3.size, fun w2 hg => h3.grown hg h3.size (fun k hk => by cases hk; exact hb.size), fun w2 hg => h4.other hg (by have := hk.lt; simp [Value.ownBlock]; omega)⟩
theorem enc_row' (w w1 : World) (b1 : Nat) (x : Wd) (n : Nat) (hn : n ≤ 3) (hb : Below w.heap.size w w1) (hk : Blk b1 #[B8 x.op, B8 x.a, B8 x.b, B8 x.c, I x.imm] 23 w1) :
    ((w1.alloc (.cells #[B8 x.a, B8 x.b, B8 x.c] 5)).alloc (.cells #[B8 x.op] 5)).drew.ownsRow w.heap.size 5 1 (.slice (some ⟨w1.heap.size + 1, 0, none⟩) 1 1) 1 [B8 x.op] ∧
    SlS (LtW ((w1.alloc (.cells #[B8 x.a, B8 x.b, B8 x.c] 5)).alloc (.cells #[B8 x.op] 5)).drew) 1 ByteV ((w1.alloc (.cells #[B8 x.a, B8 x.b, B8 x.c] 5)).alloc (.cells #[B8 x.op] 5)).drew (.slice (some ⟨w1.heap.size, 0, none⟩) n 3) (encR x n) ∧
    w.heap.size ≤ ((w1.alloc (.cells #[B8 x.a, B8 x.b, B8 x.c] 5)).alloc (.cells #[B8 x.op] 5)).drew.heap.size ∧
    (∀ w2, ((w1.alloc (.cells #[B8 x.a, B8 x.b, B8 x.c] 5)).alloc (.cells #[B8 x.op] 5)).drew.grownBy w2 (Value.slice (some ⟨w1.heap.size + 1, 0, none⟩) 1 1).ownBlock → Below w.heap.size w w2) ∧
    (∀ w2, ((w1.alloc (.cells #[B8 x.a, B8 x.b, B8 x.c] 5)).alloc (.cells #[B8 x.op] 5)).drew.grownBy w2 (Value.slice (some ⟨w1.heap.size + 1, 0, none⟩) 1 1).ownBlock → Blk b1 #[B8 x.op, B8 x.a, B8 x.b, B8 x.c, I x.imm] 23 w2) := by
  have h2 : Blk w1.heap.size #[B8 x.a, B8 x.b, B8 x.c] 5 ((w1.alloc (.cells #[B8 x.a, B8 x.b, B8 x.c] 5)).alloc (.cells #[B8 x.op] 5)).drew := (Blk.new w1 _ 5).alloc _
  have h1 : Blk (w1.heap.size + 1) #[B8 x.op] 5 ((w1.alloc (.cells #[B8 x.a, B8 x.b, B8 x.c] 5)).alloc (.cells #[B8 x.op] 5)).drew := Blk.new' _ _ _ (by simp)
  have h3 : Below w.heap.size w ((w1.alloc (.cells #[B8 x.a, B8 x.b, B8 x.c] 5)).alloc (.cells #[B8 x.op] 5)).drew := below_drewN ((hb.alloc hb.size _).alloc (by have := hb.size; simp; omega) _) 1
  have h4 : Blk b1 #[B8 x.op, B8 x.a, B8 x.b, B8 x.c, I x.imm] 23 ((w1.alloc (.cells #[B8 x.a, B8 x.b, B8 x.c] 5)).alloc (.cells #[B8 x.op] 5)).drew := (hk.alloc _).alloc _
  refine ⟨h1.owns (Nat.le_succ_of_le hb.size) (by decide) (by simp), ByteZ.take (l := [x.a, x.b, x.c]) (own_bytes (base := w.heap.size) (n := 3) (h2.owns hb.size (by decide) (by simp))) n (by simpa using hn), h3.size, fun w2 hg => h3.grown hg h3.size (fun k hk => by cases hk; exact Nat.le_succ_of_le hb.size), fun w2 hg => h4.other hg (by have := hk.lt; simp [Value.ownBlock]; omega)⟩

set_option maxRecDepth 100000 in
set_option maxHeartbeats 3200000 in
theorem refEncode_any (x : Wd) (hx : WfW x) (hf : FormW x) (w : World) : Calls Tryd.prog 19 #[wV x] w fun e w' => OwnB w (encW x) w' e := by
  obtain ⟨n, im, hnm, hreg, hlo, hhi⟩ := hf
  have hn3 := (names_le hnm).1
  obtain ⟨xo, xa, xb, xc, xi⟩ := x
  have hin : In64 xi := hx.2.2.2.2
  have ho : xo < 256 := hx.1
  obtain ⟨W0, hW0⟩ : ∃ W, W = w.alloc (.cells #[B8 xo, B8 xa, B8 xb, B8 xc, I xi] 23) := ⟨_, rfl⟩
  obtain ⟨b1, hb1⟩ : ∃ b, b = w.heap.size := ⟨_, rfl⟩
  have hB0 : Below w.heap.size w W0 := by rw [hW0]; exact (Below.refl _ _).alloc (Nat.le_refl _) _
  have k1 : Blk b1 #[B8 xo, B8 xa, B8 xb, B8 xc, I xi] 23 W0 := by rw [hW0, hb1]; exact Blk.new _ _ _
  have HC := Lib.hid (names_any xo ho W0)
  have x0 := k1.get 0 (B8 xo) rfl
  have HW0 := Lib.hid (And.intro hW0 hb1)
  have H0 := Lib.hid (And.intro hB0 (And.intro k1 (And.intro hin (And.intro hnm (And.intro hlo hn3)))))
  clear hW0 hb1 hB0 k1 hx hin ho hlo hhi hreg hn3
  go_enter Tryd.func19, Tryd.ntmps19
  go_upto_region 1 with (fail)
  rw [← HW0.out.2]
  change Code.wp _ _ _ _ (w.alloc (.cells #[B8 xo, B8 xa, B8 xb, B8 xc, I xi] 23))
  rw [← HW0.out.1]
  go_wp2_with fail
  refine HC.out.mono ?_
  rintro e w1 ⟨hsh, hb1⟩
  rcases hsh with ⟨hno, rfl⟩ | ⟨n', im', hnm', rfl⟩
  · exact absurd (hno.symm.trans H0.out.2.2.2.1) (by simp)
  obtain ⟨rfl, rfl⟩ : n' = n ∧ im' = im := by
    have h1 := hnm'.symm.trans H0.out.2.2.2.1
    simp only [Option.some.injEq, Prod.mk.injEq] at h1
    exact h1
  have k1 := H0.out.2.1.below hb1 H0.out.2.1.lt
  have x0 := k1.get 0 (B8 xo) rfl
  have x1 := k1.get 1 (B8 xa) rfl
  have x2 := k1.get 2 (B8 xb) rfl
  have x3 := k1.get 3 (B8 xc) rfl
  have x4 := k1.get 4 (I xi) rfl
  have hn0 : (n' : Int) ≤ 3 := by have := H0.out.2.2.2.2.2; omega
  have hn1 : (0 : Int) ≤ (n' : Int) := by omega
  have HB := Lib.hid (And.intro (below_tr H0.out.1 hb1) k1)
  have HS1 := Lib.hid (fun o => show (w1.alloc o).cell? ⟨b1, 0, none⟩ = some (B8 xo) ∧ (w1.alloc o).cell? ⟨b1, 1, none⟩ = some (B8 xa) ∧ (w1.alloc o).cell? ⟨b1, 2, none⟩ = some (B8 xb) ∧ (w1.alloc o).cell? ⟨b1, 3, none⟩ = some (B8 xc) from
    ⟨(k1.alloc o).get 0 _ rfl, (k1.alloc o).get 1 _ rfl, (k1.alloc o).get 2 _ rfl, (k1.alloc o).get 3 _ rfl⟩)
  have HS2 := Lib.hid (fun o o' => show ((w1.alloc o).alloc o').cell? ⟨b1, 0, none⟩ = some (B8 xo) ∧ ((w1.alloc o).alloc o').cell? ⟨b1, 1, none⟩ = some (B8 xa) ∧ ((w1.alloc o).alloc o').cell? ⟨b1, 2, none⟩ = some (B8 xb) ∧ ((w1.alloc o).alloc o').cell? ⟨b1, 3, none⟩ = some (B8 xc) from
    ⟨((k1.alloc o).alloc o').get 0 _ rfl, ((k1.alloc o).alloc o').get 1 _ rfl, ((k1.alloc o).alloc o').get 2 _ rfl, ((k1.alloc o).alloc o').get 3 _ rfl⟩)
  have HL := Lib.hid (show 1 + (encR ⟨xo, xa, xb, xc, xi⟩ n').length ≤ 70000000000000 from by rw [encR_len _ H0.out.2.2.2.2.2]; omega)
  have HA := Lib.hid (enc_row w w1 b1 ⟨xo, xa, xb, xc, xi⟩ n' H0.out.2.2.2.2.2 HB.out.1 HB.out.2)
  have HA' := Lib.hid (enc_row' w w1 b1 ⟨xo, xa, xb, xc, xi⟩ n' H0.out.2.2.2.2.2 HB.out.1 HB.out.2)
  clear hnm hnm' hb1 k1
  go_upto_region 2 with (fail)
  go_region_held3 (fun w' => w'.cell? ⟨b1, 0, none⟩ = some (B8 xo) ∧ w'.cell? ⟨b1, 1, none⟩ = some (B8 xa) ∧ w'.cell? ⟨b1, 2, none⟩ = some (B8 xb) ∧ w'.cell? ⟨b1, 3, none⟩ = some (B8 xc)) (first | exact hS4 | exact ⟨x0, x1, x2, x3⟩ | exact HS1.out _ | exact HS2.out _ _ | go_keep) (first
    | (refine step_append_b rfl (.tmp 14) (.tmp 23) rfl w.heap.size (.slice (some ⟨w1.heap.size, 0, none⟩) 1 1) (.slice (some ⟨w1.heap.size + 1, 0, none⟩) n' 3) 1 [B8 xo] rfl HA.out.1 rfl (encR ⟨xo, xa, xb, xc, xi⟩ n') _ HA.out.2.1 (Or.inl (by simp [Value.ownBlock])) HL.out HA.out.2.2.1 ?_
       intro v2 w2 hown hgr hat
       have HR := Lib.hid (And.intro hown (And.intro (HA.out.2.2.2.1 _ hgr) (HA.out.2.2.2.2 _ hgr)))
       have hS4 := And.intro (HR.out.2.2.get 0 (B8 xo) rfl) (And.intro (HR.out.2.2.get 1 (B8 xa) rfl) (And.intro (HR.out.2.2.get 2 (B8 xb) rfl) (HR.out.2.2.get 3 (B8 xc) rfl)))
       clear hown hgr hat HA HA' x0 x1 x2 x3 HS1 HS2
      )
    | (refine step_append_b rfl (.tmp 14) (.tmp 23) rfl w.heap.size (.slice (some ⟨w1.heap.size + 1, 0, none⟩) 1 1) (.slice (some ⟨w1.heap.size, 0, none⟩) n' 3) 1 [B8 xo] rfl HA'.out.1 rfl (encR ⟨xo, xa, xb, xc, xi⟩ n') _ HA'.out.2.1 (Or.inl (by simp [Value.ownBlock])) HL.out HA'.out.2.2.1 ?_
       intro v2 w2 hown hgr hat
       have HR := Lib.hid (And.intro hown (And.intro (HA'.out.2.2.2.1 _ hgr) (HA'.out.2.2.2.2 _ hgr)))
       have hS4 := And.intro (HR.out.2.2.get 0 (B8 xo) rfl) (And.intro (HR.out.2.2.get 1 (B8 xa) rfl) (And.intro (HR.out.2.2.get 2 (B8 xb) rfl) (HR.out.2.2.get 3 (B8 xc) rfl)))
       clear hown hgr hat HA HA' x0 x1 x2 x3 HS1 HS2
      ))
  all_goals
    have x0 := HR.out.2.2.get 0 (B8 xo) rfl
    have x4 := HR.out.2.2.get 4 (I xi) rfl
    cases im' with
    | false =>
      have FIN := Lib.hid (show OwnB w (encW ⟨xo, xa, xb, xc, xi⟩) w2 (.returned v2) from ⟨v2, rfl, by
        have e : encW ⟨xo, xa, xb, xc, xi⟩ = xo :: encR ⟨xo, xa, xb, xc, xi⟩ n' := by rw [encW_of H0.out.2.2.2.1]; simp
        rw [e, List.length_cons, Nat.add_comm]
        exact HR.out.1, HR.out.2.1⟩)
      go_wp2_with fail
      go_ret
      exact FIN.out
    | true =>
      have hbq : ((xo : Int) == 30) = (xo == 30) := by
        rw [Bool.eq_iff_iff]
        simp only [beq_iff_eq]
        omega
      have HN := Lib.hid (number_r xi ((xo : Int) == 30) H0.out.2.2.1 (fun h => by
        have h1 := H0.out.2.2.2.2.1
        rw [hbq] at h
        simp only [beq_eq_false_iff_ne] at h
        unfold least at h1
        rw [if_neg h] at h1
        split at h1 <;> omega) w2)
      have HQ := Lib.hid hbq
      clear hbq
      go_wp2_with (first | (at_builtin; refine Hid.out ?_) | (go_at_call 44; refine HN.out.mono ?_; rintro e w3 ⟨v3, rfl, hown3, hb3⟩))
      unfold Hid
      refine wpList_append_b rfl (.tmp 26) (.tmp 32) rfl w.heap.size v2 v3 (1 + (encR ⟨xo, xa, xb, xc, xi⟩ n').length) ([B8 xo] ++ bys (encR ⟨xo, xa, xb, xc, xi⟩ n')) rfl (own_below HR.out.1 hb3) rfl (nmB ((xo : Int) == 30) xi) _ (own_bytes hown3) (Or.inr (by unfold nmB; simp)) (by
        have h1 := HL.out
        have h2 := nmK_8 ((xo : Int) == 30) xi H0.out.2.2.1
        have h3 : (nmB ((xo : Int) == 30) xi).length ≤ 9 := by unfold nmB; rw [List.length_cons, leB_len]; omega
        rw [encR_len _ H0.out.2.2.2.2.2] at h1 ⊢
        have := H0.out.2.2.2.2.2
        omega) (below_tr HR.out.2.1 hb3).size ?_
      intro v4 w4 hown4 hgr4 hat4
      have FIN := Lib.hid (show OwnB w (encW ⟨xo, xa, xb, xc, xi⟩) w4 (.returned v4) from ⟨v4, rfl, by
        have e : encW ⟨xo, xa, xb, xc, xi⟩ = xo :: (encR ⟨xo, xa, xb, xc, xi⟩ n' ++ nmB ((xo : Int) == 30) xi) := by rw [encW_of H0.out.2.2.2.1, HQ.out]; simp
        have e2 : (xo :: (encR ⟨xo, xa, xb, xc, xi⟩ n' ++ nmB ((xo : Int) == 30) xi)).length = 1 + (encR ⟨xo, xa, xb, xc, xi⟩ n').length + (nmB ((xo : Int) == 30) xi).length := by simp; omega
        have e3 : bys (xo :: (encR ⟨xo, xa, xb, xc, xi⟩ n' ++ nmB ((xo : Int) == 30) xi)) = [B8 xo] ++ bys (encR ⟨xo, xa, xb, xc, xi⟩ n') ++ bys (nmB ((xo : Int) == 30) xi) := by simp
        rw [e, e2, e3]
        exact hown4, (below_tr HR.out.2.1 hb3).grown hgr4 (below_tr HR.out.2.1 hb3).size (fun k hk => (HR.out.1.lt k hk).1)⟩)
      clear hown3 hb3 hown4 hgr4 hat4
      go_wp2_with fail
      go_ret
      exact FIN.out
end Go.Proofs.YtlblmnneikdpgaaDoor
