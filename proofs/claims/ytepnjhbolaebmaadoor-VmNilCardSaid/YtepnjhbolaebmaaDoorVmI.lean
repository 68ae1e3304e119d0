/-
  What a nil machine answers; images that are copied, and refused.
-/
import Derived.Test.YtepnjhbolaebmaaDoorVmH
namespace Go.Proofs.YtepnjhbolaebmaaDoor
open Go Go.RowKit Ib

/-- A list of things of k cells each, of which nothing more is known. -/
def RawZ (k : Nat) (W : World) (a : Option Addr) (n : Nat) : Prop := (a = none ∧ n = 0) ∨ ∃ (b : Addr) (news : List Value), a = some b ∧ (n = 0 ∨ b.block < W.heap.size) ∧ news.length = n * k ∧ (∀ j u, news[j]? = some u → W.cell? (b.add j) = some u) ∧ ∀ u ∈ news, u.oneCell' = true
theorem cellA_keep {W W' : World} {a : Addr} {v : Value} (hk : W'.heap[a.block]? = W.heap[a.block]?) (h : W.cell? a = some v) : W'.cell? a = some v := by
  unfold World.cell? at h ⊢
  rw [hk]
  exact h
theorem RawZ.below {k : Nat} {W W' : World} {a : Option Addr} {n : Nat} (h : RawZ k W a n) (hb : Below W.heap.size W W') : RawZ k W' a n := by
  rcases h with h | ⟨b, news, rfl, h1, h2, h3, h4⟩
  · exact Or.inl h
  · rcases h1 with h1 | h1
    · refine Or.inr ⟨b, news, rfl, Or.inl h1, h2, fun j u hj => ?_, h4⟩
      have e : news = [] := List.length_eq_zero_iff.1 (by rw [h2, h1, Nat.zero_mul])
      rw [e] at hj
      cases hj
    · refine Or.inr ⟨b, news, rfl, Or.inr (Nat.lt_of_lt_of_le h1 hb.size), h2, fun j u hj => cellA_keep ?_ (h3 j u hj), h4⟩
      have e : (b.add j).block = b.block := by unfold Addr.add; split <;> rfl
      rw [e]
      exact hb.block _ h1
theorem wpList_append_r {w : World} {ops : Array Oper} {rest : List Oper} {o : Oper} {a : Act} {Q : Exit → Act → World → Prop} (hgd : o.guard = none) (s x : Operand) (t e : TypeId) (z : Value) (k bt : Nat) (ht : Tryd.prog.underlying t = some (.slice e))
    (hinf : (Tryd.prog.info? e).map (fun i => (i.zero, i.size, i.bytes)) = some (some z, k, bt)) (hzs : z.cells.size = k) (hk : 0 < k)
    (ho : o.op = .call { callee := .builtin .append, args := #[s, x], argTypes := #[t, t] }) (base g : Nat) (hs : a.eval s = .slice (some ⟨g, 0, none⟩) 0 0) (hg : Blk g #[] e w) (hbg : base ≤ g) (src : Option Addr) (n c : Nat) (hx : a.eval x = .slice src n c) (hr : RawZ k w src n) (hb : n * bt ≤ 140737488355328) (hn : n ≤ maxLen)
    (h : ∀ a' n' c' w', w.grownBy w' (some g) → wpList Tryd.prog ops Q rest (a.put o.dst (.slice a' n' c')) w') : wpList Tryd.prog ops Q (o :: rest) a w := by
  refine wpList_plain hgd fun K hK => ?_
  obtain ⟨i1, p1, p2, p3, p4⟩ := info_parts hinf
  have hown : w.ownsRow base e k (.slice (some ⟨g, 0, none⟩) 0 0) 0 [] := hg.owns hbg (by decide) (by simp)
  rcases hr with ⟨rfl, rfl⟩ | ⟨b, news, rfl, _, h2, h3, h4⟩
  · have hr := run_append_room_src (P := Tryd.prog) w t t o.type e i1 ht p1 g 0 0 0 (.slice none 0 c) 0 [] (Src.ofNil w ht c) (by omega) (by simp) (by simp)
    have e1 : w.setCells g (0 + 0 * i1.size) [] = w := rfl
    rw [e1] at hr
    unfold Oper.wp execOp
    simp only [ho, resolve, invoke, builtin, Sem.run_bind, Sem.run_pure, Result.andThen_ok, List.map_toArray, List.map_cons, List.map_nil, hs, hx, List.length_nil]
    rw [hr]
    exact hK _ _ (h _ _ _ _ ⟨rfl, rfl, rfl, Nat.le_refl _, fun _ _ _ => rfl⟩)
  · obtain ⟨v', w', hr, q2, q3, _, _⟩ := run_append_own_at (P := Tryd.prog) w base t o.type e i1 z k bt ht p1 p2 p3 p4 hzs hk (.slice (some ⟨g, 0, none⟩) 0 0) 0 [] hown b n c news h2 h3 h4 (by omega) (by rw [Nat.zero_add]; exact hb) (by have := hg.lt; omega)
    unfold Oper.wp execOp
    simp only [ho, resolve, invoke, builtin, Sem.run_bind, Sem.run_pure, Result.andThen_ok, List.map_toArray, List.map_cons, List.map_nil, hs, hx, hr]
    obtain ⟨a', n', c', rfl⟩ : ∃ a' n' c', v' = .slice a' n' c' := by
      rcases q2.2 with ⟨e0, _⟩ | ⟨_, _, _, e0, _⟩
      · exact ⟨_, _, _, e0⟩
      · exact ⟨_, _, _, e0⟩
    exact hK _ _ (h _ _ _ _ q3)
theorem infoU8 : (Tryd.prog.info? 5).map (fun i => (i.zero, i.size, i.bytes)) = some (some (.int .u8 0), 1, 1) := by kernel_rfl
theorem infoIm : (Tryd.prog.info? 26).map (·.size) = some 4 := by kernel_rfl
set_option maxRecDepth 100000 in
set_option maxHeartbeats 3200000 in
theorem twin_any (a0 a1 a3 : Option Addr) (n0 c0 n1 c1 n3 c3 : Nat) (mn : Int) (w : World) (h0 : RawZ 5 w a0 n0) (h1 : RawZ 2 w a1 n1) (h3 : RawZ 1 w a3 n3) (l0 : n0 * 16 ≤ 140737488355328) (l1 : n1 * 16 ≤ 140737488355328) (l3 : n3 * 1 ≤ 140737488355328) :
    Calls Tryd.prog 13 #[.agg #[.slice a0 n0 c0, .slice a1 n1 c1, I mn, .slice a3 n3 c3]] w fun e w' => ∃ b0 m0 d0 b1 m1 d1 b3 m3 d3, e = .returned (.agg #[.slice b0 m0 d0, .slice b1 m1 d1, I mn, .slice b3 m3 d3]) ∧ Below w.heap.size w w' := by
  obtain ⟨W1, hW1⟩ : ∃ W, W = (w.alloc (.cells #[.slice a0 n0 c0, .slice a1 n1 c1, I mn, .slice a3 n3 c3] 26)).alloc (.cells #[nilS, nilS, I 0, nilS] 26) := ⟨_, rfl⟩
  obtain ⟨b1, hb1⟩ : ∃ b, b = w.heap.size := ⟨_, rfl⟩
  obtain ⟨b2, hb2⟩ : ∃ b, b = w.heap.size + 1 := ⟨_, rfl⟩
  have hB1 : Below w.heap.size w W1 := by rw [hW1]; exact ((Below.refl _ _).alloc (Nat.le_refl _) _).alloc (by simp) _
  have k1 : Blk b1 #[.slice a0 n0 c0, .slice a1 n1 c1, I mn, .slice a3 n3 c3] 26 W1 := by rw [hW1, hb1]; exact (Blk.new _ _ _).alloc _
  have k2 : Blk b2 #[nilS, nilS, I 0, nilS] 26 W1 := by rw [hW1, hb2]; exact Blk.new' _ _ _ (by simp)
  have H1 := Lib.hid (And.intro hB1 (And.intro k1 (And.intro k2 (And.intro (h0.below hB1) (And.intro h1 (And.intro h3 (And.intro l0 (And.intro l1 l3))))))))
  have HL := Lib.hid (show w.heap.size ≤ b1 ∧ w.heap.size ≤ b2 ∧ b1 ≠ b2 by omega)
  have x0 := k1.get 0 (.slice a0 n0 c0) rfl
  have HW1 := Lib.hid (And.intro hW1 (And.intro hb1 hb2))
  clear h0 h1 h3 l0 l1 l3 hW1 hb1 hb2 hB1 k1 k2
  go_enter Tryd.func13, Tryd.ntmps13
  go_upto_region 1 with (fail)
  rw [← HW1.out.2.2, ← HW1.out.2.1]
  change Code.wp _ _ _ _ ((w.alloc (.cells #[.slice a0 n0 c0, .slice a1 n1 c1, I mn, .slice a3 n3 c3] 26)).alloc (.cells #[nilS, nilS, I 0, nilS] 26))
  rw [← HW1.out.1]
  have q1 : b1 < W1.heap.size := H1.out.2.1.lt
  have q2 : ¬ b1 = W1.heap.size := by omega
  go_wp2_with (at_builtin; refine Hid.out ?_)
  unfold Hid
  have hbA : Below W1.heap.size W1 (W1.alloc (.cells #[] 69)) := (Below.refl _ _).alloc (Nat.le_refl _) _
  refine wpList_append_r rfl (.tmp 3) (.tmp 5) 22 69 (.agg zW) 5 16 Tryd.underlying22 infoWo rfl (by decide) rfl w.heap.size W1.heap.size rfl (Blk.new W1 #[] 69) H1.out.1.size a0 n0 c0 rfl (H1.out.2.2.2.1.below hbA) H1.out.2.2.2.2.2.2.1 (by have := H1.out.2.2.2.2.2.2.1; unfold maxLen; omega) ?_
  intro b0 m0 d0 w2 hgr
  have hb2 : Below W1.heap.size W1 w2 := hbA.grown hgr hbA.size (fun k hk => by cases hk; exact Nat.le_refl _)
  obtain ⟨W2, hW2⟩ : ∃ W, W = w2.setCell ⟨b1, 0, none⟩ (.slice b0 m0 d0) := ⟨_, rfl⟩
  have k2' := H1.out.2.1.below hb2 H1.out.2.1.lt
  have y0 := k2'.get 0 (.slice a0 n0 c0) rfl
  have v0 := k2'.free 0
  have H2 := Lib.hid (show Below w.heap.size w W2 ∧ Blk b1 #[.slice b0 m0 d0, .slice a1 n1 c1, I mn, .slice a3 n3 c3] 26 W2 ∧ Blk b2 #[nilS, nilS, I 0, nilS] 26 W2 from by
    rw [hW2]; exact ⟨below1 HL.out.1 (below_tr H1.out.1 hb2) _, k2'.set 0 _, (H1.out.2.2.1.below hb2 H1.out.2.2.1.lt).setOther (Ne.symm HL.out.2.2) 0 _⟩)
  have HW2 := Lib.hid hW2
  clear hbA hgr hb2 hW2 k2' q1 q2 x0
  go_upto_region 2 with (fail)
  rw [← HW2.out]
  clear y0 v0
  have x1 := H2.out.2.1.get 1 (.slice a1 n1 c1) rfl
  have q1 : b1 < W2.heap.size := H2.out.2.1.lt
  have q2 : ¬ b1 = W2.heap.size := by omega
  go_wp2_with (at_builtin; refine Hid.out ?_)
  unfold Hid
  have hbA : Below W2.heap.size W2 (W2.alloc (.cells #[] 76)) := (Below.refl _ _).alloc (Nat.le_refl _) _
  refine wpList_append_r rfl (.tmp 8) (.tmp 10) 23 76 (.agg #[I 0, I 0]) 2 16 Tryd.underlying23 infoEn rfl (by decide) rfl w.heap.size W2.heap.size rfl (Blk.new W2 #[] 76) H2.out.1.size a1 n1 c1 rfl ((H1.out.2.2.2.2.1.below H2.out.1).below hbA) H1.out.2.2.2.2.2.2.2.1 (by have := H1.out.2.2.2.2.2.2.2.1; unfold maxLen; omega) ?_
  intro b1' m1 d1 w3 hgr
  have hb3 : Below W2.heap.size W2 w3 := hbA.grown hgr hbA.size (fun k hk => by cases hk; exact Nat.le_refl _)
  obtain ⟨W3, hW3⟩ : ∃ W, W = w3.setCell ⟨b1, 1, none⟩ (.slice b1' m1 d1) := ⟨_, rfl⟩
  have k3' := H2.out.2.1.below hb3 H2.out.2.1.lt
  have y1 := k3'.get 1 (.slice a1 n1 c1) rfl
  have v1 := k3'.free 1
  have H3 := Lib.hid (show Below w.heap.size w W3 ∧ Blk b1 #[.slice b0 m0 d0, .slice b1' m1 d1, I mn, .slice a3 n3 c3] 26 W3 ∧ Blk b2 #[nilS, nilS, I 0, nilS] 26 W3 from by
    rw [hW3]; exact ⟨below1 HL.out.1 (below_tr H2.out.1 hb3) _, k3'.set 1 _, (H2.out.2.2.below hb3 H2.out.2.2.lt).setOther (Ne.symm HL.out.2.2) 1 _⟩)
  have HW3 := Lib.hid hW3
  clear hbA hgr hb3 hW3 k3' q1 q2 x1
  go_upto_region 3 with (fail)
  rw [← HW3.out]
  clear y1 v1
  have x3 := H3.out.2.1.get 3 (.slice a3 n3 c3) rfl
  have q1 : b1 < W3.heap.size := H3.out.2.1.lt
  have q2 : ¬ b1 = W3.heap.size := by omega
  go_wp2_with (at_builtin; refine Hid.out ?_)
  unfold Hid
  have hbA : Below W3.heap.size W3 (W3.alloc (.cells #[] 5)) := (Below.refl _ _).alloc (Nat.le_refl _) _
  refine wpList_append_r rfl (.tmp 13) (.tmp 15) 24 5 (.int .u8 0) 1 1 Tryd.underlying24 infoU8 rfl (by decide) rfl w.heap.size W3.heap.size rfl (Blk.new W3 #[] 5) H3.out.1.size a3 n3 c3 rfl ((H1.out.2.2.2.2.2.1.below H3.out.1).below hbA) H1.out.2.2.2.2.2.2.2.2 (by have := H1.out.2.2.2.2.2.2.2.2; unfold maxLen; omega) ?_
  intro b3 m3 d3 w4 hgr
  have hb4 : Below W3.heap.size W3 w4 := hbA.grown hgr hbA.size (fun k hk => by cases hk; exact Nat.le_refl _)
  obtain ⟨W4, hW4⟩ : ∃ W, W = w4.setCell ⟨b1, 3, none⟩ (.slice b3 m3 d3) := ⟨_, rfl⟩
  have k4' := H3.out.2.1.below hb4 H3.out.2.1.lt
  have y3 := k4'.get 3 (.slice a3 n3 c3) rfl
  have v3 := k4'.free 3
  have H4 := Lib.hid (show Below w.heap.size w W4 ∧ Blk b1 #[.slice b0 m0 d0, .slice b1' m1 d1, I mn, .slice b3 m3 d3] 26 W4 ∧ Blk b2 #[nilS, nilS, I 0, nilS] 26 W4 from by
    rw [hW4]; exact ⟨below1 HL.out.1 (below_tr H3.out.1 hb4) _, k4'.set 3 _, (H3.out.2.2.below hb4 H3.out.2.2.lt).setOther (Ne.symm HL.out.2.2) 3 _⟩)
  have HW4 := Lib.hid hW4
  clear hbA hgr hb4 hW4 k4' q1 q2 x3
  go_upto_region 4 with (fail)
  rw [← HW4.out]
  clear y3 v3
  have x0 := H4.out.2.1.get 0 (.slice b0 m0 d0) rfl
  have x1 := H4.out.2.1.get 1 (.slice b1' m1 d1) rfl
  have x2 := H4.out.2.1.get 2 (I mn) rfl
  have x3 := H4.out.2.1.get 3 (.slice b3 m3 d3) rfl
  have z0 := H4.out.2.2.get 0 nilS rfl
  have z1 := H4.out.2.2.get 1 nilS rfl
  have z2 := H4.out.2.2.get 2 (I 0) rfl
  have z3 := H4.out.2.2.get 3 nilS rfl
  have v0 := H4.out.2.2.free 0
  have v1 := H4.out.2.2.free 1
  have v2 := H4.out.2.2.free 2
  have v3 := H4.out.2.2.free 3
  go_wp2_with fail
  have hk4 : Blk b2 #[.slice b0 m0 d0, .slice b1' m1 d1, I mn, .slice b3 m3 d3] 26 _ := (((H4.out.2.2.set 0 (.slice b0 m0 d0)).set 1 (.slice b1' m1 d1)).set 2 (I mn)).set 3 (.slice b3 m3 d3)
  refine bodyPost_ret (results_cell_row rfl _ _ b2 26 _ (0, 0) _ rfl hk4 Tryd.underlying26 rfl infoIm) rfl ?_
  exact ⟨b0, m0, d0, b1', m1, d1, b3, m3, d3, rfl, below1 HL.out.2.1 (below1 HL.out.2.1 (below1 HL.out.2.1 (below1 HL.out.2.1 H4.out.1 _) _) _) _⟩
set_option maxRecDepth 100000 in
theorem new_err (a0 a1 a3 : Option Addr) (n0 c0 n1 c1 n3 c3 : Nat) (w : World) : Calls Tryd.prog 12 #[.agg #[.slice a0 n0 c0, .slice a1 n1 c1, I (-1), .slice a3 n3 c3], nilS] w fun e w' => e = .returned (.tuple #[.pointer none, I 3]) ∧ Below w.heap.size w w' := by
  go_enter Tryd.func12, Tryd.ntmps12
  go_wp2_with fail
  go_ret2
  exact ⟨rfl, (Below.refl _ _).alloc (Nat.le_refl _) _⟩
set_option maxRecDepth 100000 in
theorem load_err (a0 a1 a3 : Option Addr) (n0 c0 n1 c1 n3 c3 : Nat) (p : Value) (w : World) : Calls Tryd.prog 19 #[.agg #[.slice a0 n0 c0, .slice a1 n1 c1, I (-1), .slice a3 n3 c3], nilS, p] w fun e w' => e = .returned (.tuple #[.pointer none, I 3]) ∧ Below w.heap.size w w' := by
  have HN := Lib.hid (fun W => new_err a0 a1 a3 n0 c0 n1 c1 n3 c3 W)
  go_enter Tryd.func19, Tryd.ntmps19
  go_wp2_with fail
  refine (HN.out _).mono ?_
  rintro e w2 ⟨rfl, hb2⟩
  have FIN := Lib.hid (below_tr ((Below.refl w.heap.size w).alloc (Nat.le_refl _) _) hb2)
  clear hb2
  go_wp2_with fail
  go_ret2
  exact ⟨rfl, FIN.out⟩
set_option maxRecDepth 100000 in
theorem run_nil (n : Int) (w : World) : Calls Tryd.prog 15 #[.pointer none, I n] w fun e w' => e = .returned (I 0) ∧ w = w' := by
  go_enter Tryd.func15, Tryd.ntmps15
  go_wp2_with fail
  go_ret
  exact ⟨rfl, rfl⟩
set_option maxRecDepth 100000 in
theorem toMark_nil (n : Int) (w : World) : Calls Tryd.prog 26 #[.pointer none, I n] w fun e w' => e = .returned (.bool false) ∧ w = w' := by
  go_enter Tryd.func26, Tryd.ntmps26
  go_wp2_with fail
  go_ret
  exact ⟨rfl, rfl⟩
set_option maxRecDepth 100000 in
theorem calls_nil (w : World) : Calls Tryd.prog 23 #[.pointer none] w fun e w' => e = .returned nilS ∧ w = w' := by
  go_enter Tryd.func23, Tryd.ntmps23
  go_wp2_with fail
  go_ret
  exact ⟨rfl, rfl⟩
set_option maxRecDepth 100000 in
theorem heap_nil (w : World) : Calls Tryd.prog 25 #[.pointer none] w fun e w' => e = .returned nilS ∧ w = w' := by
  go_enter Tryd.func25, Tryd.ntmps25
  go_wp2_with fail
  go_ret
  exact ⟨rfl, rfl⟩
set_option maxRecDepth 100000 in
theorem save_nil (w : World) : Calls Tryd.prog 17 #[.pointer none] w fun e w' => e = .returned nilS ∧ w = w' := by
  go_enter Tryd.func17, Tryd.ntmps17
  go_wp2_with fail
  go_ret
  exact ⟨rfl, rfl⟩
abbrev zSt : Array Value := #[.int .u8 0, I 0, nilS, I 0, I 0, I 0, I 0]
set_option maxRecDepth 100000 in
theorem status_nil (w : World) : Calls Tryd.prog 16 #[.pointer none] w fun e w' => e = .returned (.agg zSt) ∧ Below w.heap.size w w' := by
  go_enter Tryd.func16, Tryd.ntmps16
  go_wp2_with fail
  refine bodyPost_ret (results_cell_row rfl _ _ w.heap.size 39 zSt (0, 0) _ rfl (show Blk w.heap.size zSt 39 _ from Blk.new _ _ _) Tryd.underlying39 rfl infoSt) rfl ?_
  exact ⟨rfl, (Below.refl _ _).alloc (Nat.le_refl _) _⟩
set_option maxRecDepth 100000 in
set_option maxHeartbeats 1600000 in
theorem sameSt_zero (w : World) : Calls Tryd.prog 20 #[.agg zSt, .agg zSt] w fun e w' => e = .returned (.bool true) ∧ Below w.heap.size w w' := by
  have HN := Lib.hid same_nil
  go_enter Tryd.func20, Tryd.ntmps20
  go_wp2_with fail
  refine (HN.out _).mono ?_
  rintro e w2 ⟨rfl, rfl⟩
  go_wp2_with fail
  go_ret
  exact ⟨rfl, ((Below.refl _ _).alloc (Nat.le_refl _) _).alloc (by simp) _⟩
end Go.Proofs.YtepnjhbolaebmaaDoor
