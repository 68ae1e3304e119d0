/-
  Joined: CPlain, Lift.
-/
import Derived.Test.YtjlmkcamefaodaaJ48
import Derived.Test.YtjlmkcamefaodaaRows
import Derived.OpenShut
import Derived.MakeChecks
import Derived.SizedLaws
import Derived.LaidMore
import Derived.Stop.Joined
import Derived.ProofKit
import Derived.KernelRfl
/-! CPlain: Code of one function of one block with one number: it is plain; empty code isn't right; the statements' examples. -/

namespace Go.Proofs.Ytjlmkcamefaodaa
open Go Go.RowKit Go.Maps Cd

abbrev ks1 : Nat → Nat := fun _ => 30
abbrev ks2 : Nat → Nat := fun j => if j = 0 then 30 else 31
theorem note1_ok (vals : Int) (hv : 1 ≤ vals) : ∀ j, j < 1 → ks1 j ≠ 40 → noteF ks1 j (dstOf (ks1 j)) = none ∧ 0 ≤ dstOf (ks1 j) ∧ dstOf (ks1 j) ≤ vals - 1 := by
  intro j hj _
  obtain rfl : j = 0 := by omega
  refine ⟨rfl, by decide, ?_⟩
  show (0 : Int) ≤ vals - 1
  omega
theorem note1_zero (x : Int) : ((noteF ks1 1 x).getD (0, 0)).1 = 0 := by
  show ((if x = 0 then some ((0 : Int), (0 : Int)) else none).getD (0, 0)).1 = 0
  split <;> rfl
theorem note2_ok : ∀ j, j < 2 → ks2 j ≠ 40 → noteF ks2 j (dstOf (ks2 j)) = none ∧ 0 ≤ dstOf (ks2 j) ∧ dstOf (ks2 j) ≤ (3 : Int) - 1 := by decide
theorem note2_zero (x : Int) : ((noteF ks2 2 x).getD (0, 0)).1 = 0 := by
  show ((if x = 1 then some ((0 : Int), ((1 : Nat) : Int)) else if x = 0 then some ((0 : Int), ((0 : Nat) : Int)) else none).getD (0, 0)).1 = 0
  repeat' split
  all_goals rfl
theorem check1 : checkI ks1 1 3 = 0 := by decide
theorem check2 : checkI ks2 2 3 = 3 := by decide

set_option maxRecDepth 100000 in
theorem asks_const (dst imm : Int) (w : World) : Calls Try.prog 22 #[instV 30 dst (.slice none 0 0) imm] w fun e w' => e = .returned (.bool false) ∧ Below w.heap.size w w' := by
  have HB := Lib.hid ((Below.refl w.heap.size w).alloc (Nat.le_refl _) (instC 30 dst (.slice none 0 0) imm))
  go_enter Try.func22, Try.ntmps22
  go_wp2_with fail
  go_ret
  exact ⟨rfl, HB.out⟩

set_option maxRecDepth 100000 in
set_option maxHeartbeats 1600000 in
theorem plain_one (B bf bb bi cap : Nat) (w : World) (h : Cod B bf bb bi 1 cap ks1 3 w) :
    Calls Try.prog 10 #[codV bf] w fun e w' => e = .returned (.bool true) ∧ Below w.heap.size w w' := by
  obtain ⟨W, hW⟩ : ∃ W, W = w.alloc (codC bf) := ⟨_, rfl⟩
  obtain ⟨p1, hp1⟩ : ∃ p, p = w.heap.size := ⟨_, rfl⟩
  have e1 : Below w.heap.size w W := by rw [hW]; exact (Below.refl _ _).alloc (Nat.le_refl _) _
  have k1 : Blk p1 #[.slice (some ⟨bf, 0, none⟩) 1 1, .slice none 0 0, I 0] 25 W := by rw [hW, hp1]; exact Blk.new _ _ _
  have h1 := h.below e1
  have H1 := Lib.hid (And.intro e1 (And.intro h1 k1))
  have HW := Lib.hid (And.intro hW hp1)
  have x0 := k1.get 0 (.slice (some ⟨bf, 0, none⟩) 1 1) rfl
  have x1 := k1.get 1 (.slice none 0 0) rfl
  have x2 := k1.get 2 (I 0) rfl
  clear h h1 e1 k1 hW hp1
  go_enter Try.func10, Try.ntmps10
  go_upto_region 1 with (fail)
  rw [← HW.out.2]
  change Code.wp _ _ _ _ (w.alloc (codC bf))
  rw [← HW.out.1]
  go_wp2_with fail
  refine (check_one B bf bb bi 1 cap ks1 3 W H1.out.2.1 (fun _ => note1_ok 3 (by decide)) note1_zero).mono ?_
  rintro e w1 ⟨rfl, b1⟩
  rw [check1]
  have h2 := H1.out.2.1.below b1
  have k2 := H1.out.2.2.below b1 H1.out.2.2.lt
  have H2 := Lib.hid (And.intro (H1.out.1.trans (b1.mono H1.out.1.size)) h2)
  have x0 := k2.get 0 (.slice (some ⟨bf, 0, none⟩) 1 1) rfl
  obtain ⟨_, av, d0, d1, d2, d3, d4, d5, d6⟩ := h2.ins 0 (by decide)
  obtain rfl : av = .slice none 0 0 := by
    rcases d6 with ⟨_, h⟩ | ⟨h, _⟩
    · exact h
    · rcases h with h | h <;> exact absurd h (by decide)
  have f0 := h2.fn.get 0 (I 0) rfl
  have f1 := h2.fn.get 1 (I 0) rfl
  have f2 := h2.fn.get 2 (I 3) rfl
  have f3 := h2.fn.get 3 (.slice (some ⟨bb, 0, none⟩) 1 1) rfl
  have b0 := h2.bl.get 0 (.slice none 0 0) rfl
  have b1' := h2.bl.get 1 (.slice (some ⟨bi, 0, none⟩) 1 cap) rfl
  have b2 := h2.bl.get 2 (.int .u8 3) rfl
  have b3 := h2.bl.get 3 (I 0) rfl
  have b4 := h2.bl.get 4 (I 0) rfl
  have b5 := h2.bl.get 5 (I 0) rfl
  have l1 : bb < w1.heap.size := h2.bl.lt
  have l2 : bb < w1.heap.size + 1 := by omega
  have l3 : ¬ bb = w1.heap.size := by omega
  have l4 : bi < w1.heap.size := Nat.lt_of_lt_of_le (h2.ins 0 (by decide)).1 h2.hB
  have l5 : bi < w1.heap.size + 1 := by omega
  have l6 : ¬ bi = w1.heap.size := by omega
  have l7 : ¬ bi = w1.heap.size + 1 := by omega
  have HB := Lib.hid ((((Below.refl w1.heap.size w1).alloc (Nat.le_refl _) (funC bb 3)).alloc (by simp) (blkC bi 1 cap)).alloc (by simp; omega) (instC 30 (dstOf 30) (.slice none 0 0) (immOf 30)))
  clear h2 k2 b1 d6
  go_wp2_with fail
  refine wp_loop_rounds 2 ?_
  rw [rounds_succ]
  go_wp2_with fail
  refine wp_loop_rounds 2 ?_
  rw [rounds_succ]
  go_wp2_with fail
  refine wp_loop_rounds 2 ?_
  rw [rounds_succ]
  go_wp2_with fail
  refine (asks_const _ _ _).mono ?_
  rintro e w2 ⟨rfl, b2⟩
  have FIN := Lib.hid (H2.out.1.trans (Below.mono (HB.out.trans (b2.mono HB.out.size)) H2.out.1.size))
  clear b2
  go_wp2_with fail
  rw [rounds_succ]
  go_wp2_with fail
  rw [rounds_succ]
  go_wp2_with fail
  rw [rounds_succ]
  go_wp2_with fail
  go_ret
  exact ⟨rfl, FIN.out⟩

abbrev cod0 : Value := .agg #[.slice none 0 0, .slice none 0 0, I 0]
abbrev cod0C : Obj := .cells #[.slice none 0 0, .slice none 0 0, I 0] 25
set_option maxRecDepth 100000 in
set_option maxHeartbeats 800000 in
theorem size_none (w : World) : Calls Try.prog 12 #[cod0] w fun e w' => e = .returned (I 0) ∧ Below w.heap.size w w' := by
  have HB := Lib.hid ((Below.refl w.heap.size w).alloc (Nat.le_refl _) cod0C)
  go_enter Try.func12, Try.ntmps12
  go_wp2_with fail
  refine wp_loop_rounds 1 ?_
  rw [rounds_succ]
  go_wp2_with fail
  go_ret
  exact ⟨rfl, HB.out⟩
set_option maxRecDepth 100000 in
set_option maxHeartbeats 800000 in
theorem isRight_none (w : World) : Calls Try.prog 20 #[cod0] w fun e w' => e = .returned (.bool false) ∧ Below w.heap.size w w' := by
  have HB := Lib.hid ((Below.refl w.heap.size w).alloc (Nat.le_refl _) cod0C)
  go_enter Try.func20, Try.ntmps20
  go_wp2_with fail
  go_ret
  exact ⟨rfl, HB.out⟩
set_option maxRecDepth 100000 in
set_option maxHeartbeats 800000 in
theorem check_none (w : World) : Calls Try.prog 8 #[cod0] w fun e w' => e = .returned (I 3) ∧ Below w.heap.size w w' := by
  obtain ⟨W, hW⟩ : ∃ W, W = w.alloc cod0C := ⟨_, rfl⟩
  obtain ⟨p1, hp1⟩ : ∃ p, p = w.heap.size := ⟨_, rfl⟩
  have e1 : Below w.heap.size w W := by rw [hW]; exact (Below.refl _ _).alloc (Nat.le_refl _) _
  have k1 : Blk p1 #[.slice none 0 0, .slice none 0 0, I 0] 25 W := by rw [hW, hp1]; exact Blk.new _ _ _
  have H1 := Lib.hid (And.intro e1 k1)
  have HW := Lib.hid (And.intro hW hp1)
  have x0 := k1.get 0 (.slice none 0 0) rfl
  have x1 := k1.get 1 (.slice none 0 0) rfl
  have x2 := k1.get 2 (I 0) rfl
  clear e1 k1 hW hp1
  go_enter Try.func8, Try.ntmps8
  go_upto_region 1 with (fail)
  rw [← HW.out.2]
  change Code.wp _ _ _ _ (w.alloc cod0C)
  rw [← HW.out.1]
  go_wp2_with fail
  refine (size_none W).mono ?_
  rintro e w1 ⟨rfl, b1⟩
  have k2 := H1.out.2.below b1 H1.out.2.lt
  have H2 := Lib.hid (H1.out.1.trans (b1.mono H1.out.1.size))
  have x0 := k2.get 0 (.slice none 0 0) rfl
  have x1 := k2.get 1 (.slice none 0 0) rfl
  have x2 := k2.get 2 (I 0) rfl
  clear b1 k2
  go_wp2_with fail
  refine (isRight_none w1).mono ?_
  rintro e w2 ⟨rfl, b2⟩
  have FIN := Lib.hid (H2.out.trans (b2.mono H2.out.size))
  clear b2
  go_wp2_with fail
  go_ret
  exact ⟨rfl, FIN.out⟩

set_option maxRecDepth 100000 in
set_option maxHeartbeats 1600000 in
theorem awake_code (w : World) : Calls Try.prog 5 #[] w fun e w' => e = .returned (.bool true) ∧ Below w.heap.size w w' := by
  go_enter Try.func5, Try.ntmps5
  go_wp2_with fail
  refine (shape_any 34 w).mono ?_
  rintro e w' ⟨rfl, rfl⟩
  unfold shapeV
  go_wp2_with fail
  refine (little_none w).mono ?_
  rintro e w1 ⟨bf, bb, bi, cap, rfl, cd, b1, _⟩
  have H1 := Lib.hid (And.intro cd b1)
  clear cd b1
  go_wp2_with fail
  refine (check_one _ bf bb bi 1 cap ks1 3 w1 H1.out.1 (fun _ => note1_ok 3 (by decide)) note1_zero).mono ?_
  rintro e w2 ⟨rfl, b2⟩
  rw [check1]
  have H2 := Lib.hid (H1.out.2.trans (b2.mono H1.out.2.size))
  clear b2
  go_wp2_with fail
  refine (little_none w2).mono ?_
  rintro e w3 ⟨bf, bb, bi, cap, rfl, cd, b1, _⟩
  have H3 := Lib.hid (And.intro cd (H2.out.trans (b1.mono H2.out.size)))
  clear cd b1
  go_wp2_with fail
  refine (plain_one _ bf bb bi cap w3 H3.out.1).mono ?_
  rintro e w4 ⟨rfl, b2⟩
  obtain ⟨ba, hba⟩ : ∃ p, p = w4.heap.size := ⟨_, rfl⟩
  obtain ⟨bq, hbq⟩ : ∃ p, p = w4.heap.size + 1 := ⟨_, rfl⟩
  obtain ⟨W, hW⟩ : ∃ W, W = (w4.alloc (.cells #[I 1] 3)).alloc (instC 31 1 (.slice (some ⟨ba, 0, none⟩) 1 1) 0) := ⟨_, rfl⟩
  have ka : Blk ba #[I 1] 3 W := by rw [hW, hba]; exact (Blk.new _ _ _).alloc _
  have kq : Blk bq #[.int .u8 31, I 1, .slice (some ⟨ba, 0, none⟩) 1 1, I 0, I 0, .slice none 0 0] 44 W := by rw [hW, hbq]; exact Blk.new' _ _ _ (by simp)
  have hb4 : Below w.heap.size w w4 := H3.out.2.trans (b2.mono H3.out.2.size)
  have hbW : Below w.heap.size w W := by rw [hW]; exact (hb4.alloc hb4.size _).alloc (by have := hb4.size; simp; omega) _
  have H4 := Lib.hid (And.intro ka (And.intro kq hbW))
  have HW := Lib.hid (And.intro hW (And.intro hba hbq))
  clear b2 ka kq hb4 hbW hW hba hbq
  go_wp2_with fail
  rw [← HW.out.2.2, ← HW.out.2.1]
  change Calls _ _ _ ((w4.alloc (.cells #[I 1] 3)).alloc (instC 31 1 (.slice (some ⟨ba, 0, none⟩) 1 1) 0)) _
  rw [← HW.out.1]
  refine (little_one bq ba W H4.out.2.1 H4.out.1).mono ?_
  rintro e w5 ⟨bf, bb, bi, cap, rfl, cd, b1, _⟩
  have H5 := Lib.hid (And.intro cd (H4.out.2.2.trans (b1.mono H4.out.2.2.size)))
  clear cd b1
  go_wp2_with fail
  refine (check_one _ bf bb bi 2 cap ks2 3 w5 H5.out.1 (fun _ => note2_ok) note2_zero).mono ?_
  rintro e w6 ⟨rfl, b2⟩
  rw [check2]
  have H6 := Lib.hid (H5.out.2.trans (b2.mono H5.out.2.size))
  clear b2
  go_wp2_with fail
  refine (check_none w6).mono ?_
  rintro e w7 ⟨rfl, b2⟩
  have H7 := Lib.hid (H6.out.trans (b2.mono H6.out.size))
  clear b2
  go_wp2_with fail
  refine (pure_any 4 w7).mono ?_
  rintro e w' ⟨rfl, rfl⟩
  go_wp2_with fail
  go_ret
  exact ⟨rfl, H7.out⟩
end Go.Proofs.Ytjlmkcamefaodaa

/-! Lift: From the walk of a statement's body to its row: whatever the arguments' types, a call that returns true and turns nothing that was there meets the row. -/

namespace Go.Proofs.Ytjlmkcamefaodaa.Lift
open Go Go.ChangeShapes Go.WideShapes Go.ChangeAt Go.WideMaps Go.WideElems Go.RowKit

section
variable {H : Type} {enc : TypeId × Value → H} {P : Program}

theorem trodAll_below (hl : laidOutB P = true) {W W' : World} (hb : Below W.heap.size W W') : ∀ (ts : List TypeId) (vs : List Value) (ds : List (DataW H)) (ps : List MemPlace),
    (∀ t ∈ ts, P.readableRec t = true ∧ t < P.types.size) → DataW.TrodAll enc P W 0 (fun _ => true) true ts vs ds ps → (∀ x ∈ ps, x.block < W.heap.size) →
    DataW.TrodAll enc P W' 0 (fun b => decide (b < W.heap.size)) true ts vs ds ps
  | [], [], [], _, _, h, _ => h
  | [], [], _ :: _, _, _, h, _ => h.elim
  | [], _ :: _, _, _, _, h, _ => h.elim
  | _ :: _, [], _, _, _, h, _ => h.elim
  | _ :: _, _ :: _, [], _, _, h, _ => h.elim
  | t :: ts, v :: vs, d :: ds, ps, hr, h, hlt => by
    obtain ⟨p, q, h1, h2, rfl⟩ := h
    have ht := hr t List.mem_cons_self
    exact ⟨p, q, Below.trod hl ht.1 ht.2 h1 hb (fun x hx => hlt x (List.mem_append_left _ hx)),
      trodAll_below hl hb ts vs ds q (fun t ht => hr t (List.mem_cons_of_mem _ ht)) h2 (fun x hx => hlt x (List.mem_append_right _ hx)), rfl⟩

theorem trodAll_length {w : World} {base : Nat} {spare : Nat → Bool} {held : Bool} : ∀ {ts : List TypeId} {vs : List Value} {ds : List (DataW H)} {ps : List MemPlace}, DataW.TrodAll enc P w base spare held ts vs ds ps → ds.length = ts.length
  | [], [], [], _, _ => rfl
  | [], [], _ :: _, _, h => h.elim
  | [], _ :: _, _, _, h => h.elim
  | _ :: _, [], _, _, h => h.elim
  | _ :: _, _ :: _, [], _, h => h.elim
  | t :: ts, v :: vs, d :: ds, ps, h => by
    obtain ⟨p, q, h1, h2, _⟩ := h
    simp only [List.length_cons, trodAll_length h2]
end

/-- The row's statement, lifted, out of the walk. -/
theorem law_lifted {C : Checked} {os : Os} {f : FuncId} {fn : Func} {s : ChangeSpec} {tb : TypeId} {H : Type} {enc : TypeId × Value → H} {X : World → Array Value → Prop}
    (hX : ∀ (w w' : World) (args : Array Value), w.heap = w'.heap → X w args → X w' args)
    (own : ownKnob C.prog.godebug = none) (started : os.Started) (noInit : C.prog.inits.idxOf? f = none) (hfn : C.prog.funcs[f]? = some fn)
    (hlaid : laidOutB C.prog = true) (hb : C.prog.underlying tb = some .bool) (hvars : s.vars = []) (hres : fn.resultTypes = #[tb])
    (hspec : ∀ ds : List (DataW H), ds.length = fn.params.size → s.fn H ds = { results := [.lit (.bool true)], args := ds, vars := [] })
    (hread : ∀ t ∈ fn.params.toList, C.prog.readableRec t = true ∧ t < C.prog.types.size)
    (witness : ∃ (w : World) (tape : Tape) (i : Input), w.os = os ∧ (w.forCall tape i).Shaped C.prog ∧ i.vars = [] ∧ Input.okWide C.prog (w.forCall tape i) .any w.heap.size f i ∧
      ((s.pre enc C.prog fn [] false (w.forCall tape i).memory i.args ∧ X (w.forCall tape i).memory i.args) ∧ sizedMet enc C.prog fn (OpenSpec.ofChange s) false (w.forCall tape i).memory i.args) ∧ ({} : Assume).holds C.prog (lone (Frame.enter C.prog f i.args .normal) [] (w.forCall tape i)))
    (contract : ∀ (W : World) (base : Nat) (args : Array Value) (ds : List (DataW H)) (ps : List MemPlace),
      (∀ (j : Nat) t v, fn.params[j]? = some t → args[j]? = some v → Value.okWide C.prog W .any base t v) →
      DataW.TrodAll enc C.prog W 0 (fun _ => true) true fn.params.toList args.toList ds ps → (∀ x ∈ ps, x.block < W.heap.size) →
      (DataW.weightsEach C.prog fn.params.toList ds).all (· ≤ reachBytes) = true → X W args →
      Calls C.prog f args W fun e W' => e = .returned (.bool true) ∧ Below W.heap.size W W') :
    ReturnsInHanded {} C os f .any (fun w args => (s.pre enc C.prog fn [] false w args ∧ X w args) ∧ sizedMet enc C.prog fn (OpenSpec.ofChange s) false w args) (s.post enc C.prog fn false true false false) := by
  refine returnsInHanded_of_change_and hX own started noInit hfn witness ?_
  intro W base args ds gs before hval hW _ hwt hx _
  have hW' := hW
  obtain ⟨p, q, hA, hV, rfl, hfz, hnd⟩ := hW
  have hV0 := hV
  rw [hvars] at hV
  obtain ⟨rfl, rfl⟩ := trodVars_none hV
  have hvt : s.plain.varTypes C.prog = [] := by
    have : s.plain.vars = [] := hvars
    unfold DataSpec.varTypes
    rw [this]
    rfl
  have hlen : ds.length = fn.params.size := by rw [trodAll_length hA]; simp
  have hlt : ∀ x ∈ p, x.block < W.heap.size := fun x hx => hW'.lt x (List.mem_append_left _ hx)
  refine (contract W base args ds p hval hA hlt ?_ hx).mono fun e W' ⟨he, hbel⟩ => ?_
  · simpa [hvt] using hwt
  · subst he
    refine ⟨_, rfl, ds, [], p ++ [], [], p, [], hW', ?_, ?_, ?_, hbel.frame _, fun h => by cases h⟩
    · rw [List.append_nil, hspec ds hlen, hres]
      exact trodAll_mk1 (shut_bool hb _)
    · rw [List.append_nil, hspec ds hlen]
      exact trodAll_below hlaid hbel _ _ _ _ hread hA hlt
    · rw [List.append_nil, hspec ds hlen, hvars]
      rfl
end Go.Proofs.Ytjlmkcamefaodaa.Lift
