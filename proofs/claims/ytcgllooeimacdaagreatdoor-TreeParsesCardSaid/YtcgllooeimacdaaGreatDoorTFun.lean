/-
  Joined: TPm, TFun, TWhole.
-/
import Derived.Test.YtcgllooeimacdaaGreatDoorTCall
import Derived.Test.YtcgllooeimacdaaGreatDoorTBal
import Derived.Test.YtcgllooeimacdaaGreatDoorTBlk
import Derived.LoopN
/-! A parameter; parameters, one by one. -/

namespace Go.Proofs.YtcgllooeimacdaaGreatDoor
open Go Go.RowKit Px
open Lx (Tok)

abbrev zPm : Array Value := #[.string ⟨#[]⟩, .int .u8 0, .int .i64 0]
/-- A parameter that is answered. -/
def pmE (x : Pm) (e : Ending) (_ : World) : Prop := e = .returned (.agg #[.string ⟨x.name.toArray⟩, .int .u8 (x.typ : Int), .int .i64 (x.pos : Int)])

set_option maxRecDepth 100000 in
set_option maxHeartbeats 2000000 in
theorem param_any (b g cap : Nat) (ts : List Tok) (s : St) (w : World) (hw : PW b g cap ts s w) :
    Calls Tryz.prog 52 #[.pointer (some ⟨b, 0, none⟩)] w (RPost b g cap ts w pmE (pmF ts s)) := by
  obtain ⟨W, hW⟩ : ∃ W, W = w.alloc (.cells zPm 76) := ⟨_, rfl⟩
  have hbW : Below w.heap.size w W := by rw [hW]; exact (Below.refl _ _).alloc (Nat.le_refl _) _
  have hzW : Blk w.heap.size zPm 76 W := by rw [hW]; exact Blk.new _ _ _
  have HK := Lib.hid (kind_any b g cap ts s 1 (by decide) W (hw.below hbW))
  have HX := Lib.hid fun s' w1 (h1 : PW b g cap ts s' w1) => expect_any b g cap ts s' [58] (by simp) w1 h1
  have HTy := Lib.hid fun s' w1 kb (h1 : PW b g cap ts s' w1) (h2 : kb < w1.heap.size) (h3 : kb ≠ b) h4 => type_any b g cap kb 3 [1, 2, 3] (by decide) (by decide) ts s' w1 h1 h2 h3 h4
  have HR0 := Lib.hid (show pmF ts s = bindR (kindR 1 ts s) fun t s => bindR (expectR [58] ts s) fun _ s => bindR (typeR ts [1, 2, 3] s) fun y s => .ok (⟨t.text, y, t.pos⟩, s) from rfl)
  have HB := Lib.hid (And.intro hbW hzW)
  have HWW := Lib.hid hW
  have lb := hw.blk.lt
  have lg := hw.toks.lt
  have hsW := hzW.lt
  clear hw hbW hzW hW
  go_enter Tryz.func52, Tryz.ntmps52
  go_wp2_with fail
  rw [← HWW.out]
  refine HK.out.mono ?_
  rintro e w1 hq
  rcases hq.elim with ⟨pn, hr, hg, rfl⟩ | ⟨⟨t0, t1, t2, t3⟩, s1, hr, hg, rfl, hp⟩
  · have FIN := Lib.hid (RPost.err (α := Pm) (g := g) (cap := cap) (ts := ts) (V := pmE) (HR0.out.trans (by rw [hr]; rfl)) (gtrans (row := some b) (grown_of_below HB.out.1) hg))
    clear hr hg hq
    go_wp2
    exact ⟨rfl, FIN.out⟩
  · have HR1 := Lib.hid (HR0.out.trans (by rw [hr, bindR_ok]))
    obtain ⟨V, hV⟩ : ∃ V, V = w1.alloc (.cells #[.int .u8 (t0 : Int), .int .i64 (t1 : Int), .string ⟨t2.toArray⟩, .int .i64 (t3 : Int)] 55) := ⟨_, rfl⟩
    have hbV : Below w1.heap.size w1 V := by rw [hV]; exact (Below.refl _ _).alloc (Nat.le_refl _) _
    have hs1 := hg.size
    have H1 := Lib.hid (And.intro (gtrans (gtrans (row := some b) (grown_of_below HB.out.1) hg) (grown_of_below hbV)) (And.intro ((HB.out.2.other hg (by simp; omega)).below hbV (by omega)) (And.intro (show Blk w1.heap.size #[.int .u8 (t0 : Int), .int .i64 (t1 : Int), .string ⟨t2.toArray⟩, .int .i64 (t3 : Int)] 55 V by rw [hV]; exact Blk.new _ _ _) (hp.below hbV))))
    have HVV := Lib.hid hV
    have hM : w.heap.size < w1.heap.size := by omega
    have HC := Lib.hid (HX.out s1 V H1.out.2.2.2)
    clear hr hg hq hp hV hbV HK hs1
    unfold tokV'
    go_upto_region 2 with (fail)
    rw [← HVV.out]
    clear HVV
    generalize w1.heap.size = M at *
    go_wp2_with fail
    refine HC.out.mono ?_
    rintro e w2 hq
    rcases hq.elim with ⟨pn, hr, hg, rfl⟩ | ⟨⟨q0, q1, q2, q3⟩, s2, hr, hg, rfl, hp⟩
    · have FIN := Lib.hid (RPost.err (α := Pm) (g := g) (cap := cap) (ts := ts) (V := pmE) (HR1.out.trans (by rw [hr]; rfl)) (gtrans (row := some b) H1.out.1 hg))
      clear hr hg hq
      go_wp2
      exact ⟨rfl, FIN.out⟩
    · have HR2 := Lib.hid (HR1.out.trans (by rw [hr, bindR_ok]))
      have H2 := Lib.hid (And.intro (gtrans (row := some b) H1.out.1 hg) (And.intro (H1.out.2.1.other hg (by simp; omega)) (And.intro (H1.out.2.2.1.other hg (by simp; omega)) hp)))
      clear hr hg hq hp HC
      unfold tokV'
      go_upto_region 3 with (fail)
      have c1 := H2.out.2.2.1.get 1 (.int .i64 (t1 : Int)) rfl
      have c2 := H2.out.2.2.1.get 2 (.string ⟨t2.toArray⟩) rfl
      have hS : (fun w' : World => w'.cell? ⟨M, 1, none⟩ = some (.int .i64 (t1 : Int)) ∧ w'.cell? ⟨M, 2, none⟩ = some (.string ⟨t2.toArray⟩)) w2.drew := ⟨c1, c2⟩
      refine wp_region_dep (S := fun w' => w'.cell? ⟨M, 1, none⟩ = some (.int .i64 (t1 : Int)) ∧ w'.cell? ⟨M, 2, none⟩ = some (.string ⟨t2.toArray⟩)) (dep := [8]) (by kernel_rfl) ?_
      change wpAnyD _ _ _ _ _ _ _ _ _ (World.drew _)
      refine wpAnyD_take (i := 0) (v := ?_) rfl (by kernel_rfl) (by kernel_rfl) (by kernel_rfl) (by kernel_rfl) (by kernel_rfl) (fun _ _ _ h => h) hS (Or.inl ⟨by rfl, ?_⟩) ?_
      rotate_left
      · intro w hSw; obtain ⟨hSw, hSw2⟩ := hSw; go_simp
        try with_reducible rfl
      try simp only [Act.put, List.setIfInBounds_toArray, List.set_cons_zero, List.set_cons_succ]
      refine wpAnyD_take (i := 1) (v := ?_) rfl (by kernel_rfl) (by kernel_rfl) (by kernel_rfl) (by kernel_rfl) (by kernel_rfl) (fun _ _ _ h => h) hS (Or.inl ⟨by rfl, ?_⟩) ?_
      rotate_left
      · intro w hSw; obtain ⟨hSw, hSw2⟩ := hSw; go_simp
        try with_reducible rfl
      try simp only [Act.put, List.setIfInBounds_toArray, List.set_cons_zero, List.set_cons_succ]
      refine wpAnyD_take (i := 2) (v := ?_) rfl (by kernel_rfl) (by kernel_rfl) (by kernel_rfl) (by kernel_rfl) (by kernel_rfl) (fun _ _ _ h => h) hS (Or.inl ⟨by rfl, ?_⟩) ?_
      rotate_left
      · intro w hSw; obtain ⟨hSw, hSw2⟩ := hSw; go_simp
        try with_reducible rfl
      try simp only [Act.put, List.setIfInBounds_toArray, List.set_cons_zero, List.set_cons_succ]
      refine wpAnyD_take (i := 5) (v := ?_) rfl (by kernel_rfl) (by kernel_rfl) (by kernel_rfl) (by kernel_rfl) (by kernel_rfl) (fun _ _ _ h => h) hS (Or.inl ⟨by rfl, ?_⟩) ?_
      rotate_left
      · intro w hSw; obtain ⟨hSw, hSw2⟩ := hSw; go_simp
        try with_reducible rfl
      try simp only [Act.put, List.setIfInBounds_toArray, List.set_cons_zero, List.set_cons_succ]
      refine wpAnyD_take (i := 6) (v := ?_) rfl (by kernel_rfl) (by kernel_rfl) (by kernel_rfl) (by kernel_rfl) (by kernel_rfl) (fun _ _ _ h => h) hS (Or.inl ⟨by rfl, ?_⟩) ?_
      rotate_left
      · intro w hSw; obtain ⟨hSw, hSw2⟩ := hSw; go_simp
        try with_reducible rfl
      try simp only [Act.put, List.setIfInBounds_toArray, List.set_cons_zero, List.set_cons_succ]
      clear hS c1 c2
      have hbY : Below w2.heap.size w2 (w2.drew.alloc (.cells #[.int .u8 1, .int .u8 2, .int .u8 3] 5)) := ((Below.refl w2.heap.size w2).drew).alloc (Nat.le_refl _) _
      have hky : Blk w2.heap.size #[.int .u8 1, .int .u8 2, .int .u8 3] 5 (w2.drew.alloc (.cells #[.int .u8 1, .int .u8 2, .int .u8 3] 5)) := Blk.new w2.drew _ _
      have hs2 := H2.out.1.size
      have hM2 := H2.out.2.2.1.lt
      refine wpAnyD_one (i := 3) rfl (by kernel_rfl) rfl (fun K hK => ?_)
      go_simp
      have H3 := Lib.hid (And.intro (gtrans (row := some b) H2.out.1 (grown_of_below hbY)) (And.intro (H2.out.2.1.below hbY H2.out.2.1.lt) (And.intro (H2.out.2.2.1.below hbY hM2) (H2.out.2.2.2.below hbY))))
      refine hK _ _ (Or.inr ⟨H3.out.2.2.1.get 1 (.int .i64 (t1 : Int)) rfl, H3.out.2.2.1.get 2 (.string ⟨t2.toArray⟩) rfl⟩) ?_
      clear hK K
      try simp only [Act.put, List.setIfInBounds_toArray, List.set_cons_zero, List.set_cons_succ]
      change wpAnyD _ _ _ _ _ _ _ _ _ (w2.drew.alloc (.cells #[.int .u8 1, .int .u8 2, .int .u8 3] 5))
      generalize w2.drew.alloc (.cells #[.int .u8 1, .int .u8 2, .int .u8 3] 5) = Y at *
      have HC := Lib.hid (HTy.out s2 Y w2.heap.size H3.out.2.2.2 hky.lt (by omega) (fun j hj => by
        have : j = 0 ∨ j = 1 ∨ j = 2 := by simp at hj; omega
        rcases this with rfl | rfl | rfl
        · exact hky.get 0 _ rfl
        · exact hky.get 1 _ rfl
        · exact hky.get 2 _ rfl))
      clear hbY hky
      refine wpAnyD_one (i := 4) rfl (by kernel_rfl) rfl (fun K hK => ?_)
      go_simp
      refine HC.out.mono ?_
      rintro e w4 hq
      rcases hq.elim with ⟨pn, hr, hg, rfl⟩ | ⟨y, s4, hr, hg, rfl, hp⟩
      · exact ⟨rfl, RPost.err (HR2.out.trans (by rw [hr]; rfl)) (gtrans (row := some b) H3.out.1 hg)⟩
      · have HR4 := Lib.hid (HR2.out.trans (by rw [hr, bindR_ok]))
        have hz4 := H3.out.2.1.other hg (by simp; omega)
        have ht4 := H3.out.2.2.1.other hg (by simp; omega)
        obtain ⟨U, hU⟩ : ∃ U, U = ((w4.setCell ⟨w.heap.size, 0, none⟩ (.string ⟨t2.toArray⟩)).setCell ⟨w.heap.size, 1, none⟩ (.int .u8 (y : Int))).setCell ⟨w.heap.size, 2, none⟩ (.int .i64 (t1 : Int)) := ⟨_, rfl⟩
        have hgU : w4.grownBy U (some w.heap.size) := by rw [hU]; exact gtrans (gtrans (Lib.grownBy_setCell _ _ _ _) (Lib.grownBy_setCell _ _ _ _)) (Lib.grownBy_setCell _ _ _ _)
        have hbU : Blk w.heap.size #[.string ⟨t2.toArray⟩, .int .u8 (y : Int), .int .i64 (t1 : Int)] 76 U := by rw [hU]; exact ((hz4.set 0 _).set 1 _).set 2 _
        have FIN := Lib.hid (And.intro hbU (RPost.ok (α := Pm) (b := b) (g := g) (cap := cap) (ts := ts) (w := w) (V := pmE) (e := .returned (.agg #[.string ⟨t2.toArray⟩, .int .u8 (y : Int), .int .i64 (t1 : Int)])) HR4.out (gnew (gtrans (row := some b) H3.out.1 hg) (Nat.le_refl _) hgU) rfl (hp.other hgU (by simp; omega) (by simp; omega))))
        have HUU := Lib.hid hU
        have z0 := hz4.get 0 (.string ⟨#[]⟩) rfl
        have z1 := hz4.get 1 (.int .u8 0) rfl
        have z2 := hz4.get 2 (.int .i64 0) rfl
        have f0 := hz4.free 0
        have f1 := hz4.free 1
        have f2 := hz4.free 2
        have c1 := ht4.get 1 (.int .i64 (t1 : Int)) rfl
        have c2 := ht4.get 2 (.string ⟨t2.toArray⟩) rfl
        clear hr hg hq hp hz4 ht4 hU hgU hbU HC
        refine hK _ _ (Or.inr ⟨c1, c2⟩) ?_
        clear hK K
        try simp only [Act.put, List.setIfInBounds_toArray, List.set_cons_zero, List.set_cons_succ]
        refine wpAnyD_one (i := 7) rfl (by kernel_rfl) rfl (fun K hK => ?_)
        go_simp
        refine hK _ _ (Or.inr ⟨c1, c2⟩) ?_
        clear hK K
        try simp only [Act.put, List.setIfInBounds_toArray, List.set_cons_zero, List.set_cons_succ]
        refine wpAnyD_one (i := 8) rfl (by kernel_rfl) rfl (fun K hK => ?_)
        go_simp
        rw [← HUU.out]
        refine hK _ _ (Or.inl rfl) ?_
        clear hK K z0 z1 z2 f0 f1 f2 c1 c2
        try simp only [Act.put, List.setIfInBounds_toArray, List.set_cons_zero, List.set_cons_succ]
        refine wpAnyD_done (by kernel_rfl) ?_ _
        have y0 := FIN.out.1.get 0 _ rfl
        have y1 := FIN.out.1.get 1 _ rfl
        have y2 := FIN.out.1.get 2 _ rfl
        go_wp2_with fail
        exact bodyPost_ret (v := .agg #[.string ⟨t2.toArray⟩, .int .u8 (y : Int), .int .i64 (t1 : Int)]) (by simp [results, Tryz.results52, go_sem, y0, y1, y2]) rfl FIN.out.2

/-- Parameters that were read. -/
structure PmF (b g : Nat) (w0 : World) (B fb pb : Nat) (nm : Bytes) (pos : Nat) (l : List Pm) (a : Option Addr) (c : Nat) (w' : World) : Prop where
  grown : w0.grownBy w' (some b)
  pbx : Blk pb #[.pointer (some ⟨b, 0, none⟩)] 102 w'
  box : Blk fb #[.string ⟨nm.toArray⟩, .slice a l.length c, .int .u8 0, .slice none 0 0, .int .i64 (pos : Int)] 42 w'
  own : w'.ownsRow B 76 3 (.slice a l.length c) l.length (l.flatMap PmC)
  top : B ≤ w'.heap.size
  lc : w0.heap.size ≤ fb
  lp : pb ≠ b
  cB : fb < B
  pB : pb < B
  cp : fb ≠ pb
  lb : b < w0.heap.size
  lg : g < w0.heap.size
def PmI (b g : Nat) (w0 : World) (B fb pb : Nat) (nm : Bytes) (pos : Nat) (l : List Pm) (w' : World) : Prop := ∃ a c, PmF b g w0 B fb pb nm pos l a c w'
section
variable {b g B fb pb pos : Nat} {w0 w w' : World} {nm : Bytes} {l : List Pm} {a : Option Addr} {c : Nat}
theorem PmF.stays (h : PmF b g w0 B fb pb nm pos l a c w) (hg : w.grownBy w' (some b)) : PmF b g w0 B fb pb nm pos l a c w' := by
  have e1 := h.lc
  have e2 := h.lp
  have e3 := h.cB
  have e4 := h.lb
  have e5 := hg.size
  refine ⟨gtrans h.grown hg, h.pbx.other hg (by simp; omega), h.box.other hg (by simp; omega), ?_, Nat.le_trans h.top e5, e1, e2, e3, h.pB, h.cp, e4, h.lg⟩
  refine h.own.kept hg ?_
  cases hu : (Value.slice a l.length c).ownBlock with
  | none => exact Or.inl rfl
  | some j =>
    have := (h.own.lt j hu).1
    exact Or.inr (by simp; omega)
theorem PmI.stays (h : PmI b g w0 B fb pb nm pos l w) (hg : w.grownBy w' (some b)) : PmI b g w0 B fb pb nm pos l w' := by
  obtain ⟨a, c, h⟩ := h
  exact ⟨a, c, h.stays hg⟩
theorem PmI.grown (h : PmI b g w0 B fb pb nm pos l w) : w0.grownBy w (some b) := by
  obtain ⟨a, c, h⟩ := h
  exact h.grown
end
theorem Tryz.infoPm : (Tryz.prog.info? 76).map (fun i => (i.zero, i.size, i.bytes)) = some (some (.agg zPm), 3, 32) := by kernel_rfl
theorem pm_one (x : Pm) : ∀ u ∈ PmC x, u.oneCell' = true := by
  intro u hu
  simp only [PmC, List.mem_cons, List.not_mem_nil, or_false] at hu
  rcases hu with rfl | rfl | rfl <;> rfl
theorem pm_fin {b g cap B fb pb pos : Nat} {ts : List Tok} {w0 W8 w9 : World} {nm : Bytes} {l : List Pm} {a : Option Addr} {c gg cg : Nat} {y : Pm}
    (h8 : PmF b g w0 B fb pb nm pos l a c W8)
    (hown : w9.ownsRow B 76 3 (.slice (some ⟨gg, 0, none⟩) (l.length + 1) cg) (l.length + 1) (l.flatMap PmC ++ PmC y)) (hgrow : W8.grownBy w9 (Value.slice a l.length c).ownBlock) :
    Blk fb #[.string ⟨nm.toArray⟩, .slice a l.length c, .int .u8 0, .slice none 0 0, .int .i64 (pos : Int)] 42 w9 ∧ w9.cell? ⟨pb, 0, none⟩ = some (.pointer (some ⟨b, 0, none⟩)) ∧ PmI b g w0 B fb pb nm pos (l ++ [y]) (w9.setCell ⟨fb, 1, none⟩ (.slice (some ⟨gg, 0, none⟩) (l.length + 1) cg)) ∧ ∀ s', PW b g cap ts s' W8 → PW b g cap ts s' (w9.setCell ⟨fb, 1, none⟩ (.slice (some ⟨gg, 0, none⟩) (l.length + 1) cg)) := by
  obtain ⟨hg8, hp8, hc8, ho8, hBW, lc, lp, cB, pB, cp, lb, lg⟩ := h8
  have hj : ∀ j, (Value.slice a l.length c).ownBlock = some j → B ≤ j := fun j h => (ho8.lt j h).1
  have hfb : some fb ≠ (Value.slice a l.length c).ownBlock := fun e => by have := hj fb e.symm; omega
  have hpb : some pb ≠ (Value.slice a l.length c).ownBlock := fun e => by have := hj pb e.symm; omega
  have hb : some b ≠ (Value.slice a l.length c).ownBlock := fun e => by have := hj b e.symm; omega
  have hg : some g ≠ (Value.slice a l.length c).ownBlock := fun e => by have := hj g e.symm; omega
  have hc9 := hc8.other hgrow hfb
  have hp9 := hp8.other hgrow hpb
  have hg9 : w0.grownBy w9 (some b) := ⟨hgrow.os.trans hg8.os, hgrow.tape.trans hg8.tape, hgrow.output.trans hg8.output, Nat.le_trans hg8.size hgrow.size, fun i hi hne => (hgrow.block i (Nat.lt_of_lt_of_le hi hg8.size) (fun e => by have := hj i e.symm; omega)).trans (hg8.block i hi hne)⟩
  have hgg := (hown.lt gg rfl).1
  have g2 : w9.grownBy (w9.setCell ⟨fb, 1, none⟩ (.slice (some ⟨gg, 0, none⟩) (l.length + 1) cg)) (some fb) := Lib.grownBy_setCell _ _ _ _
  refine ⟨hc9, hp9.get 0 _ rfl, ⟨some ⟨gg, 0, none⟩, cg, gnew hg9 lc g2, hp9.other g2 (by simpa using Ne.symm cp), by rw [List.length_append]; exact hc9.set 1 _, ?_, Nat.le_trans hBW (Nat.le_trans hgrow.size g2.size), lc, lp, cB, pB, cp, lb, lg⟩, fun s' hp => (hp.other hgrow hb hg).other g2 (by simp; omega) (by simp; omega)⟩
  have := owns_other hown g2 (by simp; omega)
  rw [List.length_append, List.flatMap_append]
  simpa using this

set_option maxRecDepth 100000 in
set_option maxHeartbeats 2000000 in
theorem pm_item (b g cap : Nat) (ts : List Tok) (w0 : World) (B fb pb : Nat) (nm : Bytes) (pos : Nat) (l : List Pm) (s : St) (w : World) (hl : l.length < s.i) (hI : PmI b g w0 B fb pb nm pos l w) (hw : PW b g cap ts s w) :
    Calls Tryz.prog 51 #[.pointer (some ⟨fb, 0, none⟩), .pointer (some ⟨pb, 0, none⟩)] w (ItPost b g cap ts (PmI b g w0 B fb pb nm pos) (fun w' => w0.grownBy w' (some b)) l (pmF ts s)) := by
  obtain ⟨a, c, hF⟩ := hI
  have hlen := hw.len
  have hlt := hw.lt
  have HBD := Lib.hid (And.intro (show l.length + 1 ≤ maxLen by unfold maxLen; omega) (show (l.length + 1) * 32 ≤ 140737488355328 by omega))
  have HP := Lib.hid fun w1 (h1 : PW b g cap ts s w1) => param_any b g cap ts s w1 h1
  have HF0 := Lib.hid hF
  have HW := Lib.hid hw
  obtain ⟨i0, hi, hz0, hz1, hz2⟩ := info_parts Tryz.infoPm
  have p0 := hF.pbx.get 0 (.pointer (some ⟨b, 0, none⟩)) rfl
  have c5 := hF.box.get 1 (.slice a l.length c) rfl
  clear hF hw hl hlen hlt
  go_enter Tryz.func51, Tryz.ntmps51
  have hS : (fun w' : World => w'.cell? ⟨fb, 1, none⟩ = some (.slice a l.length c) ∧ w'.cell? ⟨pb, 0, none⟩ = some (.pointer (some ⟨b, 0, none⟩))) w.drew := ⟨c5, p0⟩
  refine wp_region_dep (S := fun w' => w'.cell? ⟨fb, 1, none⟩ = some (.slice a l.length c) ∧ w'.cell? ⟨pb, 0, none⟩ = some (.pointer (some ⟨b, 0, none⟩))) (dep := [6, 7]) (by kernel_rfl) ?_
  change wpAnyD _ _ _ _ _ _ _ _ _ (World.drew _)
  refine wpAnyD_take (i := 0) (v := ?_) rfl (by kernel_rfl) (by kernel_rfl) (by kernel_rfl) (by kernel_rfl) (by kernel_rfl) (fun _ _ _ h => h) hS (Or.inl ⟨by rfl, ?_⟩) ?_
  rotate_left
  · intro w hSw; obtain ⟨hSw, hSw2⟩ := hSw; go_simp
    try with_reducible rfl
  try simp only [Act.put, List.setIfInBounds_toArray, List.set_cons_zero, List.set_cons_succ]
  refine wpAnyD_take (i := 1) (v := ?_) rfl (by kernel_rfl) (by kernel_rfl) (by kernel_rfl) (by kernel_rfl) (by kernel_rfl) (fun _ _ _ h => h) hS (Or.inl ⟨by rfl, ?_⟩) ?_
  rotate_left
  · intro w hSw; obtain ⟨hSw, hSw2⟩ := hSw; go_simp
    try with_reducible rfl
  try simp only [Act.put, List.setIfInBounds_toArray, List.set_cons_zero, List.set_cons_succ]
  refine wpAnyD_take (i := 2) (v := ?_) rfl (by kernel_rfl) (by kernel_rfl) (by kernel_rfl) (by kernel_rfl) (by kernel_rfl) (fun _ _ _ h => h) hS (Or.inl ⟨by rfl, ?_⟩) ?_
  rotate_left
  · intro w hSw; obtain ⟨hSw, hSw2⟩ := hSw; go_simp
    try with_reducible rfl
  try simp only [Act.put, List.setIfInBounds_toArray, List.set_cons_zero, List.set_cons_succ]
  clear hS c5 p0
  have HC := Lib.hid (HP.out w.drew (HW.out.below (Below.refl _ _).drew))
  refine wpAnyD_one (i := 3) rfl (by kernel_rfl) rfl (fun K hK => ?_)
  go_simp
  refine HC.out.mono ?_
  rintro e w7 h7
  rcases h7.elim with ⟨pn, hr, hg, rfl⟩ | ⟨y, s4, hr, hg, hy, hp⟩
  · exact ⟨rfl, ItPost.err hr (gtrans HF0.out.grown (gtrans (grown_of_below (Below.refl _ _).drew) hg))⟩
  · unfold pmE at hy
    subst hy
    have hF7 := (HF0.out.stays (grown_of_below (Below.refl _ _).drew)).stays hg
    have HR7 := Lib.hid hr
    have hbZ : Below w7.heap.size w7 (w7.alloc (.cells #[.string ⟨y.name.toArray⟩, .int .u8 (y.typ : Int), .int .i64 (y.pos : Int)] 76)) := (Below.refl _ _).alloc (Nat.le_refl _) _
    have F8 := Lib.hid (hF7.stays (grown_of_below hbZ))
    have HP8 := Lib.hid (hp.below hbZ)
    have c5 := hF7.box.get 1 (.slice a l.length c) rfl
    have p0 := hF7.pbx.get 0 (.pointer (some ⟨b, 0, none⟩)) rfl
    have c5' := F8.out.box.get 1 (.slice a l.length c) rfl
    have p0' := F8.out.pbx.get 0 (.pointer (some ⟨b, 0, none⟩)) rfl
    clear hr hg h7 hp hF7 hbZ HC
    refine hK _ _ (Or.inr ⟨c5, p0⟩) ?_
    clear hK K
    try simp only [Act.put, List.setIfInBounds_toArray, List.set_cons_zero, List.set_cons_succ]
    refine wpAnyD_one (i := 4) rfl (by kernel_rfl) rfl (fun K hK => ?_)
    go_simp
    refine hK _ _ (Or.inr ⟨c5', p0'⟩) ?_
    clear hK K c5 c5' p0 p0'
    try simp only [Act.put, List.setIfInBounds_toArray, List.set_cons_zero, List.set_cons_succ]
    refine wpAnyD_one (i := 5) rfl (by kernel_rfl) rfl (fun K hK => ?_)
    refine wp_append_lies _ (.tmp 3) (.tmp 6) 40 rfl B 76 i0 _ 3 32 Tryz.underlying40 hi hz0 hz1 hz2 rfl (by omega) (.slice a l.length c) l.length (l.flatMap PmC) rfl F8.out.own ⟨w7.heap.size, 0, none⟩ 1 1 (PmC y) rfl rfl (World.news_of_block (heap_alloc_new w7 _)) (pm_one y) (by omega) HBD.out.1 HBD.out.2 F8.out.top _ rfl ?_
    intro gg cg w9 hown hgrow hat hlt9
    have HF := Lib.hid (pm_fin (cap := cap) (ts := ts) (y := y) F8.out hown hgrow)
    clear hown hgrow hat
    refine hK _ _ (Or.inr ⟨HF.out.1.get 1 (.slice a l.length c) rfl, HF.out.2.1⟩) ?_
    clear hK K
    try simp only [Act.put, List.setIfInBounds_toArray, List.set_cons_zero, List.set_cons_succ]
    refine wpAnyD_free (i := 6) (v := ?_) rfl (by kernel_rfl) (by kernel_rfl) (by kernel_rfl) (by kernel_rfl) (fun _ _ _ h => h) (Or.inl ⟨by rfl, ?_⟩) ?_
    rotate_left
    · intro w hSw; clear hSw; go_simp
      try with_reducible rfl
    try simp only [Act.put, List.setIfInBounds_toArray, List.set_cons_zero, List.set_cons_succ]
    have c5 := HF.out.1.get 1 (.slice a l.length c) rfl
    have k5 := HF.out.1.free 1
    refine wpAnyD_one (i := 7) rfl (by kernel_rfl) rfl (fun K hK => ?_)
    go_simp
    refine hK _ _ (Or.inl rfl) ?_
    clear hK K
    try simp only [Act.put, List.setIfInBounds_toArray, List.set_cons_zero, List.set_cons_succ]
    refine wpAnyD_done (by kernel_rfl) ?_ _
    have FIN := Lib.hid (ItPost.ok (E := fun w' => w0.grownBy w' (some b)) HR7.out HF.out.2.2.1 (HF.out.2.2.2 _ HP8.out))
    clear c5 k5 HF
    go_end0
    exact FIN.out
end Go.Proofs.YtcgllooeimacdaaGreatDoor

/-! A function, whole. -/

namespace Go.Proofs.YtcgllooeimacdaaGreatDoor
open Go Go.RowKit Px
open Lx (Tok)

namespace Px
theorem fuF_eq (ts : List Tok) (f : Nat) (s : St) : fuF ts f s = bindR (expectR [102, 110] ts s) fun t s => bindR (kindR 1 ts s) fun u s => bindR (listB ts (pmF ts) f s) fun l s =>
  bindR (if (tk ts s.i).text = [58] then bindR (takeR ts s) fun _ s => typeR ts [1, 2] s else .ok (0, s)) fun y s => bindR (blockF ts f s) fun b s => .ok (⟨u.text, l, y, b, t.pos⟩, s) := rfl
theorem typeR_n {ts : List Tok} : ∀ (ks : List Nat) {s s' : St} {y : Nat}, typeR ts ks s = .ok (y, s') → s'.n = s.n
  | [], s, s', y, h => by unfold typeR wrongR at h; cases h
  | k :: ks, s, s', y, h => by
    unfold typeR at h
    split at h
    · obtain ⟨a, s1, e1, e2⟩ := bindR_inv h
      cases e2; exact takeR_n e1
    · exact typeR_n ks h
theorem pmF_adv {ts : List Tok} {s s' : St} {x : Pm} (h : pmF ts s = .ok (x, s')) : Adv s s' := by
  unfold pmF at h
  obtain ⟨a, s1, e1, e2⟩ := bindR_inv h
  obtain ⟨a', s2, e3, e4⟩ := bindR_inv e2
  obtain ⟨y, s3, e5, e6⟩ := bindR_inv e4
  cases e6
  have h1 := kindR_adv e1
  have h2 := expectR_adv e3
  have h3 := typeR_n _ e5
  have h4 := typeR_bal _ e5
  unfold Adv at *; unfold Bal at h4; omega
theorem pms_bal {ts : List Tok} {n : Nat} {s s' : St} {l : List Pm} (h : listB ts (pmF ts) n s = .ok (l, s')) : Bal 0 s s' := (listB_adv (fun _ _ _ h => pmF_adv h) h).bal
theorem fuF_bal {ts : List Tok} {f : Nat} {s s' : St} {x : Fu} (h : fuF ts f s = .ok (x, s')) : Bal 1 s s' := by
  rw [fuF_eq] at h
  obtain ⟨a, s1, e1, e2⟩ := bindR_inv h
  obtain ⟨a', s2, e3, e4⟩ := bindR_inv e2
  obtain ⟨l, s3, e5, e6⟩ := bindR_inv e4
  obtain ⟨y, s4, e7, e8⟩ := bindR_inv e6
  obtain ⟨bd, s5, e9, e10⟩ := bindR_inv e8
  cases e10
  have hy : Bal 0 s3 s4 := by
    split at e7
    · obtain ⟨c, s6, f1, f2⟩ := bindR_inv e7
      exact ((takeR_bal f1).trans (typeR_bal _ f2)).le (by omega)
    · cases e7; exact Bal.refl _
  exact (((((expectR_bal e1).trans (kindR_bal e3)).trans (pms_bal e5)).trans hy).trans ((stmts_bal ts f).1 _ _ _ e9)).le (by omega)
end Px

abbrev fuCells (nm : Bytes) (v1 vy v2 : Value) (pos : Nat) : Array Value := #[.string ⟨nm.toArray⟩, v1, vy, v2, .int .i64 (pos : Int)]
/-- A function that is answered. -/
def fuE (B : Nat) (x : Fu) (e : Ending) (w' : World) : Prop := ∃ (nm : Bytes) (y pos : Nat) (pa : Option Addr) (pm pc : Nat) (a : Option Addr) (m c : Nat),
  e = .returned (.agg (fuCells nm (.slice pa pm pc) (.int .u8 (y : Int)) (.slice a m c) pos)) ∧ FuC w' (fun g => B ≤ g) x (fuCells nm (.slice pa pm pc) (.int .u8 (y : Int)) (.slice a m c) pos).toList

abbrev zFu : Array Value := #[.string ⟨#[]⟩, .slice none 0 0, .int .u8 0, .slice none 0 0, .int .i64 0]

section
variable {b : Nat} {T : TypeId} {w : World}
theorem Blk.get5 {v0 v1 v2 v3 v4 : Value} (h : Blk b #[v0, v1, v2, v3, v4] T w) : w.cell? ⟨b, 0, none⟩ = some v0 ∧ w.cell? ⟨b, 1, none⟩ = some v1 ∧ w.cell? ⟨b, 2, none⟩ = some v2 ∧ w.cell? ⟨b, 3, none⟩ = some v3 ∧ w.cell? ⟨b, 4, none⟩ = some v4 :=
  ⟨h.get 0 v0 rfl, h.get 1 v1 rfl, h.get 2 v2 rfl, h.get 3 v3 rfl, h.get 4 v4 rfl⟩
theorem Blk.free5 {cs : Array Value} (h : Blk b cs T w) : w.frozen? ⟨b, 0, none⟩ = false ∧ w.frozen? ⟨b, 1, none⟩ = false ∧ w.frozen? ⟨b, 2, none⟩ = false ∧ w.frozen? ⟨b, 3, none⟩ = false ∧ w.frozen? ⟨b, 4, none⟩ = false := ⟨h.free 0, h.free 1, h.free 2, h.free 3, h.free 4⟩
def set5 (w : World) (b : Nat) (u0 u1 u2 u3 u4 : Value) : World := ((((w.setCell ⟨b, 0, none⟩ u0).setCell ⟨b, 1, none⟩ u1).setCell ⟨b, 2, none⟩ u2).setCell ⟨b, 3, none⟩ u3).setCell ⟨b, 4, none⟩ u4
theorem set5_eq (w : World) (b : Nat) (u0 u1 u2 u3 u4 : Value) : set5 w b u0 u1 u2 u3 u4 = ((((w.setCell ⟨b, 0, none⟩ u0).setCell ⟨b, 1, none⟩ u1).setCell ⟨b, 2, none⟩ u2).setCell ⟨b, 3, none⟩ u3).setCell ⟨b, 4, none⟩ u4 := rfl
theorem Blk.set5 {v0 v1 v2 v3 v4 : Value} (h : Blk b #[v0, v1, v2, v3, v4] T w) (u0 u1 u2 u3 u4 : Value) : Blk b #[u0, u1, u2, u3, u4] T (set5 w b u0 u1 u2 u3 u4) := ((((h.set 0 u0).set 1 u1).set 2 u2).set 3 u3).set 4 u4
theorem grown_set5 (w : World) (b : Nat) (u0 u1 u2 u3 u4 : Value) : w.grownBy (Proofs.YtcgllooeimacdaaGreatDoor.set5 w b u0 u1 u2 u3 u4) (some b) := gtrans (gtrans (gtrans (gtrans (Lib.grownBy_setCell _ _ _ _) (Lib.grownBy_setCell _ _ _ _)) (Lib.grownBy_setCell _ _ _ _)) (Lib.grownBy_setCell _ _ _ _)) (Lib.grownBy_setCell _ _ _ _)
end

/-- The boxes of a function: the parser's, the result's, the function's that is being made. -/
structure FnW (b g cap : Nat) (ts : List Tok) (s : St) (w : World) (M : Nat) (cs : Array Value) (w' : World) : Prop where
  grown : w.grownBy w' (some b)
  pbox : Blk w.heap.size #[.pointer (some ⟨b, 0, none⟩)] 102 w'
  res : Blk (w.heap.size + 1) zFu 42 w'
  box : Blk M cs 42 w'
  pw : PW b g cap ts s w'
  lt : w.heap.size + 1 < M
theorem FnW.below {b g cap : Nat} {ts : List Tok} {s : St} {w w1 w2 : World} {M : Nat} {cs : Array Value} (h : FnW b g cap ts s w M cs w1) (hb : Below w1.heap.size w1 w2) : FnW b g cap ts s w M cs w2 :=
  ⟨gtrans h.grown (grown_of_below hb), h.pbox.below hb h.pbox.lt, h.res.below hb h.res.lt, h.box.below hb h.box.lt, h.pw.below hb, h.lt⟩
theorem FnW.other {b g cap : Nat} {ts : List Tok} {s s' : St} {w w1 w2 : World} {M : Nat} {cs : Array Value} (hlt : b < w.heap.size) (h : FnW b g cap ts s w M cs w1) (hg : w1.grownBy w2 (some b)) (hp : PW b g cap ts s' w2) : FnW b g cap ts s' w M cs w2 :=
  ⟨gtrans h.grown hg, h.pbox.other hg (by simp; omega), h.res.other hg (by simp; omega), h.box.other hg (by have := h.lt; simp; omega), hp, h.lt⟩
theorem FnW.set {b g cap : Nat} {ts : List Tok} {s : St} {w w1 : World} {M : Nat} {cs : Array Value} (hlt : b < w.heap.size) (hgl : g < w.heap.size) (h : FnW b g cap ts s w M cs w1) (j : Nat) (u : Value) : FnW b g cap ts s w M (cs.setIfInBounds j u) (w1.setCell ⟨M, j, none⟩ u) := by
  have hg : w1.grownBy (w1.setCell ⟨M, j, none⟩ u) (some M) := Lib.grownBy_setCell _ _ _ _
  have := h.lt
  exact ⟨gnew h.grown (by omega) hg, h.pbox.other hg (by simp; omega), h.res.other hg (by simp; omega), h.box.set j u, h.pw.other hg (by simp; omega) (by simp; omega), h.lt⟩

/-- The same, with the parameters. -/
structure FnP (b g cap : Nat) (ts : List Tok) (s : St) (w : World) (M : Nat) (cs : Array Value) (l : List Pm) (v1 : Value) (w' : World) : Prop where
  fn : FnW b g cap ts s w M cs w'
  row : PmRow w' (fun h => M < h) l v1
section
variable {b g cap : Nat} {ts : List Tok} {s s' s0 : St} {w w1 w2 : World} {M : Nat} {cs : Array Value} {l : List Pm} {v1 : Value}
theorem FnP.below (h : FnP b g cap ts s w M cs l v1 w1) (hb : Below w1.heap.size w1 w2) : FnP b g cap ts s w M cs l v1 w2 := ⟨h.fn.below hb, h.row.stays (stays_of_below hb fun _ h => h)⟩
theorem FnP.other (hlt : b < w.heap.size) (h : FnP b g cap ts s w M cs l v1 w1) (hg : w1.grownBy w2 (some b)) (hp : PW b g cap ts s' w2) : FnP b g cap ts s' w M cs l v1 w2 := by
  have := h.fn.lt
  exact ⟨h.fn.other hlt hg hp, h.row.stays (stays_of_grown hg fun k hk => ⟨by omega, hk⟩)⟩
theorem FnP.set (hlt : b < w.heap.size) (hgl : g < w.heap.size) (h : FnP b g cap ts s w M cs l v1 w1) (j : Nat) (u : Value) : FnP b g cap ts s w M (cs.setIfInBounds j u) l v1 (w1.setCell ⟨M, j, none⟩ u) :=
  ⟨h.fn.set hlt hgl j u, h.row.stays (stays_of_grown (Lib.grownBy_setCell _ M j _) fun k hk => ⟨by omega, hk⟩)⟩
theorem FnP.fin (hw : PW b g cap ts s0 w) {nm : Bytes} {vy : Value} {y pos : Nat} (hy : vy = .int .u8 (y : Int)) {pa : Option Addr} {pm pc : Nat} {a : Option Addr} {m c : Nat} {bd : List Sm} (h : FnP b g cap ts s w M cs l (.slice pa pm pc) w1)
    (hbd : SmRow w1 (fun h => w.heap.size + 1 < h) bd (.slice a m c)) :
    ∀ U, U = set5 w1 (w.heap.size + 1) (.string ⟨nm.toArray⟩) (.slice pa pm pc) vy (.slice a m c) (.int .i64 (pos : Int)) →
    Blk (w.heap.size + 1) (fuCells nm (.slice pa pm pc) vy (.slice a m c) pos) 42 U ∧ w.grownBy U (some b) ∧ PW b g cap ts s U ∧ fuE w.heap.size ⟨nm, l, y, bd, pos⟩ (.returned (.agg (fuCells nm (.slice pa pm pc) vy (.slice a m c) pos))) U := by
  rintro U rfl
  subst hy
  have hlt := hw.blk.lt
  have hgl := hw.toks.lt
  have hM := h.fn.lt
  have hs := grown_set5 w1 (w.heap.size + 1) (.string ⟨nm.toArray⟩) (.slice pa pm pc) (.int .u8 (y : Int)) (.slice a m c) (.int .i64 (pos : Int))
  exact ⟨h.fn.res.set5 _ _ _ _ _, gnew h.fn.grown (by omega) hs, h.fn.pw.other hs (by simp; omega) (by simp; omega), nm, y, pos, pa, pm, pc, a, m, c, rfl, _, _, rfl, h.row.stays (stays_of_grown hs fun g hg => ⟨by omega, by omega⟩), hbd.stays (stays_of_grown hs fun g hg => ⟨by omega, by omega⟩)⟩
/-- The parameters were read. -/
theorem fn_pms {w0 : World} {B pos : Nat} {nm : Bytes} {pl : List Pm} {pa : Option Addr} {pc : Nat} (hlt : b < w.heap.size) (hM : w.heap.size + 1 < M) (hMB : M < B) (hg0 : w.grownBy w0 (some b)) (hres : Blk (w.heap.size + 1) zFu 42 w0) (hF : PmF b g w0 B M w.heap.size nm pos pl pa pc w1) (hp : PW b g cap ts s w1) :
    FnP b g cap ts s w M #[.string ⟨nm.toArray⟩, .slice pa pl.length pc, .int .u8 0, .slice none 0 0, .int .i64 (pos : Int)] pl (.slice pa pl.length pc) w1 := by
  refine ⟨⟨gtrans hg0 hF.grown, hF.pbx, hres.other hF.grown (by simp; omega), hF.box, hp, hM⟩, ?_⟩
  rcases own_slice hF.own with ⟨e, hl⟩ | ⟨gg, cc, e⟩
  · exact Or.inl ⟨List.length_eq_zero_iff.1 hl, e⟩
  · have ho := hF.own
    rw [e] at ho ⊢
    have hB := (ho.lt gg rfl).1
    exact Or.inr ⟨gg, cc, _, rfl, by omega, ho.weaken_base, rfl⟩
end

set_option maxRecDepth 100000 in
set_option maxHeartbeats 4000000 in
theorem function_any (F : Nat) (hF : F ≤ 1000000) (b g cap : Nat) (ts : List Tok) (s : St) (w : World) (hw : PW b g cap ts s w) (hn : s.n ≤ s.i) (hne : fuF ts F s ≠ gone) :
    Calls Tryz.prog 33 #[.pointer (some ⟨b, 0, none⟩)] w (RPost b g cap ts w (fuE w.heap.size) (fuF ts F s)) := by
  have HRB := Lib.hid (fuF_eq ts F s)
  have HNE := Lib.hid hne
  have HN := Lib.hid hn
  have HFF := Lib.hid hF
  obtain ⟨W, hW⟩ : ∃ W, W = (w.alloc (.cells #[.pointer (some ⟨b, 0, none⟩)] 102)).alloc (.cells zFu 42) := ⟨_, rfl⟩
  have hbW : Below w.heap.size w W := by rw [hW]; exact ((Below.refl _ _).alloc (Nat.le_refl _) _).alloc (by simp) _
  have hz : Blk (w.heap.size + 1) zFu 42 W := by rw [hW]; exact Blk.new' _ _ _ (by simp)
  have hpb : Blk w.heap.size #[.pointer (some ⟨b, 0, none⟩)] 102 W := by rw [hW]; exact (Blk.new w _ _).below ((Below.refl _ _).alloc (Nat.le_refl _) _) (by simp)
  have hWs : W.heap.size = w.heap.size + 2 := by rw [hW]; simp
  have HE1 := Lib.hid (expect_any b g cap ts s [102, 110] (by simp) W (hw.below hbW))
  have HK := Lib.hid fun s' w1 (h1 : PW b g cap ts s' w1) => kind_any b g cap ts s' 1 (by decide) w1 h1
  have HYes := Lib.hid fun s' w1 (h1 : PW b g cap ts s' w1) (h : (tk ts s'.i).text = [58]) => accept_yes b g cap ts s' [58] (by simp) w1 h1 h
  have HNo := Lib.hid fun s' w1 (h1 : PW b g cap ts s' w1) h => accept_no b g cap ts s' [58] w1 h1 h
  have HTy := Lib.hid fun s' w1 kb (h1 : PW b g cap ts s' w1) (h2 : kb < w1.heap.size) (h3 : kb ≠ b) h4 => type_any b g cap kb 2 [1, 2] (by decide) (by decide) ts s' w1 h1 h2 h3 h4
  have HB := Lib.hid fun s' w1 (h1 : PW b g cap ts s' w1) (h2 : s'.n ≤ s'.i) (h3 : blockF ts F s' ≠ gone) => blkC F b g cap ts s' w1 h1 h2 hF h3
  have HL := Lib.hid fun s' w1 w0 B M nm pos (hI : PmI b g w0 B M w.heap.size nm pos [] w1) (h1 : PW b g cap ts s' w1) (h3 : listB ts (pmF ts) F s' ≠ gone) =>
    list_pms (pmF ts) (PmI b g w0 B M w.heap.size nm pos) (fun w' => w0.grownBy w' (some b)) b g cap ts #[.pointer (some ⟨M, 0, none⟩), .pointer (some ⟨w.heap.size, 0, none⟩)] (fun l w w' h hg => h.stays hg) (fun l w h => h.grown) (fun s x s' h => (pmF_adv h).2)
      (fun l s v hl h hv _ => pm_item b g cap ts w0 B M w.heap.size nm pos l s v hl h hv) F s' w1 hI h1 h3
  have HW := Lib.hid hw
  have HH := Lib.hid (And.intro hbW (And.intro hz (And.intro hpb hWs)))
  have HWW := Lib.hid hW
  have hlt := hw.blk.lt
  have hgl := hw.toks.lt
  have hf1 := fTok1
  have hf2 := fTok2
  have P0 := hpb.get 0 _ rfl
  clear hw hbW hz hW hWs hne hpb hn hF
  go_enter Tryz.func33, Tryz.ntmps33
  go_upto_region 1 with (fail)
  rw [← HWW.out]
  go_wp2_with fail
  refine HE1.out.mono ?_
  rintro e w1 h1
  rcases h1.elim with ⟨pn, hr, hg, rfl⟩ | ⟨⟨t0, t1, t2, t3⟩, s1, hr, hg, rfl, hp⟩
  · have FIN := Lib.hid (RPost.err (α := Fu) (g := g) (cap := cap) (ts := ts) (V := fuE w.heap.size) (HRB.out.trans (by rw [hr]; rfl)) (gtrans (row := some b) (grown_of_below HH.out.1) hg))
    clear hg hr h1 P0
    go_wp2
    exact ⟨rfl, FIN.out⟩
  · obtain ⟨V, hV⟩ : ∃ V, V = w1.alloc (.cells #[.string ⟨#[]⟩, .slice none 0 0, .int .u8 0, .slice none 0 0, .int .i64 (t1 : Int)] 42) := ⟨_, rfl⟩
    have hbV : Below w1.heap.size w1 V := by rw [hV]; exact (Below.refl _ _).alloc (Nat.le_refl _) _
    have hF : FnW b g cap ts s1 w w1.heap.size #[.string ⟨#[]⟩, .slice none 0 0, .int .u8 0, .slice none 0 0, .int .i64 (t1 : Int)] V ∧ w.grownBy w1 (some b) ∧ Blk (w.heap.size + 1) zFu 42 w1 := by
      have hs1 := hg.size
      obtain ⟨x1, x2, x3, x4⟩ := HH.out
      exact ⟨⟨gtrans (gtrans (grown_of_below x1) hg) (grown_of_below hbV), (x3.other hg (by simp; omega)).below hbV (by omega), (x2.other hg (by simp; omega)).below hbV (by omega), by rw [hV]; exact Blk.new _ _ _, hp.below hbV, by omega⟩, gtrans (grown_of_below x1) hg, x2.other hg (by simp; omega)⟩
    have HF := Lib.hid hF.1
    have H1 := Lib.hid hF.2
    have HV1 := Lib.hid (grown_of_below (row := some b) hbV)
    have P1 := hF.1.pbox.get 0 _ rfl
    have HVV := Lib.hid hV
    have HR1 := Lib.hid (HRB.out.trans (by rw [hr, bindR_ok]))
    have N1 := Lib.hid (expectR_bal hr)
    have hne := HNE.out
    rw [fuF_eq, hr, bindR_ok] at hne
    have HNE1 := Lib.hid hne
    clear hg hr h1 hp hF hV hne P0 hbV
    unfold tokV'
    go_upto_region 2 with (fail)
    rw [← HVV.out]
    clear HVV
    obtain ⟨M, hM⟩ : ∃ M, M = w1.heap.size := ⟨_, rfl⟩
    rw [← hM] at HF ⊢
    have HM := Lib.hid hM
    clear hM
    have hk := Lib.hid (HK.out s1 V HF.out.pw)
    go_wp2_with fail
    refine hk.out.mono ?_
    rintro e w2 h2
    rcases h2.elim with ⟨pn, hr, hg, rfl⟩ | ⟨⟨u0, u1, u2, u3⟩, s2, hr, hg, rfl, hp⟩
    · have FIN := Lib.hid (RPost.err (α := Fu) (g := g) (cap := cap) (ts := ts) (V := fuE w.heap.size) (HR1.out.trans (by rw [hr]; rfl)) (gtrans (row := some b) HF.out.grown hg))
      clear hg hr h2 P1
      go_wp2
      exact ⟨rfl, FIN.out⟩
    · have hF2 := HF.out.other (s' := s2) hlt hg hp
      obtain ⟨k0, k1, k2, k3, k4⟩ := hF2.box.get5
      have f0 := hF2.box.free 0
      obtain ⟨X, hX⟩ : ∃ X, X = w2.setCell ⟨M, 0, none⟩ (.string ⟨u2.toArray⟩) := ⟨_, rfl⟩
      have hF3 : FnW b g cap ts s2 w M #[.string ⟨u2.toArray⟩, .slice none 0 0, .int .u8 0, .slice none 0 0, .int .i64 (t1 : Int)] X := by rw [hX]; exact hF2.set hlt hgl 0 _
      have hMl := hF3.lt
      have hI : PmI b g w1 X.heap.size M w.heap.size u2 t1 [] X := by
        have h5 := hF3.box.lt
        have h6 := HM.out
        refine ⟨none, 0, ?_, hF3.pbox, hF3.box, World.ownsRow_nil _ _ _ _, Nat.le_refl _, by omega, by omega, h5, by omega, by omega, by omega, by omega⟩
        rw [hX]
        exact gnew (gtrans HV1.out hg) (by omega) (Lib.grownBy_setCell _ _ _ _)
      have HF3 := Lib.hid hF3
      have P3 := hF3.pbox.get 0 _ rfl
      have HXX := Lib.hid hX
      have hne := HNE1.out
      rw [hr, bindR_ok] at hne
      have HNE2 := Lib.hid hne
      have HR2 := Lib.hid (HR1.out.trans (by rw [hr, bindR_ok]))
      have N2 := Lib.hid (N1.out.trans (kindR_bal hr))
      have hl := Lib.hid (HL.out s2 X w1 X.heap.size M u2 t1 hI hF3.pw (bindR_gone hne))
      have hMX := hF3.box.lt
      clear hg hr h2 hp hF2 hF3 hX hne P1 hI
      unfold tokV'
      go_upto_region 3 with (fail)
      rw [← HXX.out]
      clear HXX k0 k1 k2 k3 k4 f0
      have hmf : ∀ (fn : Fn) (first cap : Array Value) (w : World), (Instr.makeFunc fn first cap).run Tryz.prog w = .ok (.func fn first cap) w := fun _ _ _ _ => rfl
      go_wp2_with fail
      refine hl.out.mono ?_
      rintro e w3 h3
      rcases h3.elim with ⟨pn, hr, hg, rfl⟩ | ⟨pl, s3, hr, rfl, ⟨pa, pc, hPF⟩, hp⟩
      · have FIN := Lib.hid (RPost.err (α := Fu) (g := g) (cap := cap) (ts := ts) (V := fuE w.heap.size) (HR2.out.trans (by rw [hr]; rfl)) (gtrans (row := some b) H1.out.1 hg))
        clear hg hr h3 P3
        go_wp2
        exact ⟨rfl, FIN.out⟩
      · have hF4 := fn_pms hlt hMl hMX H1.out.1 H1.out.2 hPF hp
        have HF4 := Lib.hid hF4
        have P4 := hF4.fn.pbox.get 0 _ rfl
        have hne := HNE2.out
        rw [hr, bindR_ok] at hne
        have HR3' := Lib.hid (HR2.out.trans (by rw [hr, bindR_ok]))
        have N3 := Lib.hid (N2.out.trans (pms_bal hr))
        clear hr h3 hp hF4 hPF P3 hMX hl
        obtain ⟨pw3, hpl⟩ : ∃ v, v = pl.length := ⟨_, rfl⟩
        rw [← hpl] at HF4
        clear hpl
        by_cases h58 : (tk ts s3.i).text = [58]
        · rw [if_pos h58] at hne
          have HNE3 := Lib.hid hne
          have HR3 := Lib.hid (HR3'.out.trans (by rw [if_pos h58]))
          have hy := Lib.hid (HYes.out s3 w3 HF4.out.fn.pw h58)
          clear hne h58
          go_wp2_with fail
          refine hy.out.mono ?_
          rintro e w4 h4
          rcases h4.elim with ⟨pn, hr, hg, rfl⟩ | ⟨tt, s4, hr, hg, rfl, hp⟩
          · have FIN := Lib.hid (RPost.err (α := Fu) (g := g) (cap := cap) (ts := ts) (V := fuE w.heap.size) (HR3.out.trans (by rw [hr]; rfl)) (gtrans (row := some b) HF4.out.fn.grown hg))
            clear hg hr h4 P4
            go_wp2
            exact ⟨rfl, FIN.out⟩
          · have hF5 := HF4.out.other (s' := s4) hlt hg hp
            obtain ⟨Y, hY⟩ : ∃ Y, Y = w4.alloc (.cells #[.int .u8 1, .int .u8 2] 5) := ⟨_, rfl⟩
            have hbY : Below w4.heap.size w4 Y := by rw [hY]; exact (Below.refl _ _).alloc (Nat.le_refl _) _
            have hky : Blk w4.heap.size #[.int .u8 1, .int .u8 2] 5 Y := by rw [hY]; exact Blk.new _ _ _
            have HF5 := Lib.hid (hF5.below hbY)
            have P5 := hF5.fn.pbox.get 0 _ rfl
            have hne := HNE3.out
            rw [hr, bindR_ok] at hne
            have HNE4 := Lib.hid hne
            have HR4 := Lib.hid (HR3.out.trans (by rw [hr, bindR_ok]))
            have N4 := Lib.hid (N3.out.trans (takeR_bal hr))
            have hty := Lib.hid (HTy.out s4 Y w4.heap.size HF5.out.fn.pw hky.lt (by have := hF5.fn.pw.blk.lt; omega) (fun j hj => by
              have : j = 0 ∨ j = 1 := by simp at hj; omega
              rcases this with rfl | rfl
              · exact hky.get 0 _ rfl
              · exact hky.get 1 _ rfl))
            have HYY := Lib.hid hY
            clear hg hr h4 hp hF5 hne hY hbY hky P4
            go_wp2_with fail
            rw [← HYY.out]
            refine hty.out.mono ?_
            rintro e w5 h5
            rcases h5.elim with ⟨pn, hr, hg, rfl⟩ | ⟨y, s5, hr, hg, rfl, hp⟩
            · have FIN := Lib.hid (RPost.err (α := Fu) (g := g) (cap := cap) (ts := ts) (V := fuE w.heap.size) (HR4.out.trans (by rw [hr]; rfl)) (gtrans (row := some b) HF5.out.fn.grown hg))
              clear hg hr h5 P5
              go_wp2
              exact ⟨rfl, FIN.out⟩
            · have hF6 := HF5.out.other (s' := s5) hlt hg hp
              obtain ⟨k0, k1, k2, k3, k4⟩ := hF6.fn.box.get5
              have f2 := hF6.fn.box.free 2
              obtain ⟨Z, hZ⟩ : ∃ Z, Z = w5.setCell ⟨M, 2, none⟩ (.int .u8 (y : Int)) := ⟨_, rfl⟩
              have hF7 : FnP b g cap ts s5 w M #[.string ⟨u2.toArray⟩, .slice pa pw3 pc, .int .u8 (y : Int), .slice none 0 0, .int .i64 (t1 : Int)] pl (.slice pa pw3 pc) Z := by rw [hZ]; exact hF6.set hlt hgl 2 _
              have HF7 := Lib.hid hF7
              have P7 := hF7.fn.pbox.get 0 _ rfl
              have HZZ := Lib.hid hZ
              have hne := HNE4.out
              rw [hr, bindR_ok] at hne
              have HR5 := Lib.hid (HR4.out.trans (by rw [hr, bindR_ok]))
              have hn5 : s5.n ≤ s5.i := by have h1 := N4.out.trans (typeR_bal _ hr); have h2 := HN.out; unfold Bal at h1; omega
              have hb := Lib.hid (HB.out s5 Z hF7.fn.pw hn5 (bindR_gone hne))
              clear hg hr h5 hp hF6 hF7 hne hZ P5
              go_upto_region 6 with (fail)
              rw [← HZZ.out]
              clear HZZ k0 k1 k2 k3 k4 f2
              go_wp2_with fail
              refine hb.out.mono ?_
              rintro e w6 h6
              rcases h6.elim with ⟨pn, hr, hg, rfl⟩ | ⟨l, s6, hr, hg, ⟨a, m, c, rfl, hx⟩, hp⟩
              · have FIN := Lib.hid (RPost.err (α := Fu) (g := g) (cap := cap) (ts := ts) (V := fuE w.heap.size) (HR5.out.trans (by rw [hr]; rfl)) (gtrans (row := some b) HF7.out.fn.grown hg))
                clear hg hr h6 P7
                go_wp2
                exact ⟨rfl, FIN.out⟩
              · have hF8 := HF7.out.other (s' := s6) hlt hg hp
                have hM7 := HF7.out.fn.box.lt
                have hF9 := hF8.set hlt hgl 3 (.slice a m c)
                have hMN := HF7.out.fn.lt
                have hne1 : ¬ M = w.heap.size + 1 := by omega
                have hx9 : SmRow (w6.setCell ⟨M, 3, none⟩ (.slice a m c)) (fun h => w.heap.size + 1 < h) l (.slice a m c) := hx.stays (stays_of_grown (Lib.grownBy_setCell _ M 3 _) fun h hh => ⟨by omega, by omega⟩)
                have hfin := FnP.fin HW.out (nm := u2) (vy := (.int .u8 (y : Int))) (y := y) (pos := t1) rfl hF9 hx9 _ rfl
                have FIN := Lib.hid hfin
                have HR6 := Lib.hid (HR5.out.trans (by rw [hr, bindR_ok]))
                obtain ⟨k0, k1, k2, k3, k4⟩ := hF8.fn.box.get5
                obtain ⟨f0, f1, f2, f3, f4⟩ := hF8.fn.box.free5
                obtain ⟨z0, z1, z2, z3, z4⟩ := hF8.fn.res.get5
                obtain ⟨e0, e1, e2, e3, e4⟩ := hF8.fn.res.free5
                clear hg hr h6 hp hF8 hF9 hx hx9 hfin P7
                go_wp2
                rw [← set5_eq]
                obtain ⟨y0, y1, y2, y3, y4⟩ := FIN.out.1.get5
                clear k0 k1 k2 k3 k4 f0 f1 f2 f3 f4 z0 z1 z2 z3 z4 e0 e1 e2 e3 e4
                exact bodyPost_ret (v := .agg (fuCells u2 (.slice pa pw3 pc) (.int .u8 (y : Int)) (.slice a m c) t1)) (by simp [results, Tryz.results33, go_sem, y0, y1, y2, y3, y4]) rfl (RPost.ok HR6.out FIN.out.2.1 FIN.out.2.2.2 FIN.out.2.2.1)
        · rw [if_neg h58, bindR_ok] at hne
          have HR5 := Lib.hid (HR3'.out.trans (by rw [if_neg h58, bindR_ok]))
          have hy := Lib.hid (HNo.out s3 w3 HF4.out.fn.pw h58)
          have hn5 : s3.n ≤ s3.i := by have h1 := N3.out; have h2 := HN.out; unfold Bal at h1; omega
          have HNE5 := Lib.hid (bindR_gone hne)
          clear hne h58
          go_wp2_with fail
          refine hy.out.mono ?_
          rintro e w5 ⟨rfl, hb5⟩
          have HF7 := Lib.hid (HF4.out.below hb5)
          have P7 := HF7.out.fn.pbox.get 0 _ rfl
          have hb := Lib.hid (HB.out s3 w5 HF7.out.fn.pw hn5 HNE5.out)
          clear hb5 P4
          go_wp2_with fail
          refine hb.out.mono ?_
          rintro e w6 h6
          rcases h6.elim with ⟨pn, hr, hg, rfl⟩ | ⟨l, s6, hr, hg, ⟨a, m, c, rfl, hx⟩, hp⟩
          · have FIN := Lib.hid (RPost.err (α := Fu) (g := g) (cap := cap) (ts := ts) (V := fuE w.heap.size) (HR5.out.trans (by rw [hr]; rfl)) (gtrans (row := some b) HF7.out.fn.grown hg))
            clear hg hr h6 P7
            go_wp2
            exact ⟨rfl, FIN.out⟩
          · have hF8 := HF7.out.other (s' := s6) hlt hg hp
            have hM7 := HF7.out.fn.box.lt
            have hF9 := hF8.set hlt hgl 3 (.slice a m c)
            have hMN := HF7.out.fn.lt
            have hne1 : ¬ M = w.heap.size + 1 := by omega
            have hx9 : SmRow (w6.setCell ⟨M, 3, none⟩ (.slice a m c)) (fun h => w.heap.size + 1 < h) l (.slice a m c) := hx.stays (stays_of_grown (Lib.grownBy_setCell _ M 3 _) fun h hh => ⟨by omega, by omega⟩)
            have hfin := FnP.fin HW.out (nm := u2) (vy := (.int .u8 0)) (y := 0) (pos := t1) rfl hF9 hx9 _ rfl
            have FIN := Lib.hid hfin
            have HR6 := Lib.hid (HR5.out.trans (by rw [hr, bindR_ok]))
            obtain ⟨k0, k1, k2, k3, k4⟩ := hF8.fn.box.get5
            obtain ⟨f0, f1, f2, f3, f4⟩ := hF8.fn.box.free5
            obtain ⟨z0, z1, z2, z3, z4⟩ := hF8.fn.res.get5
            obtain ⟨e0, e1, e2, e3, e4⟩ := hF8.fn.res.free5
            clear hg hr h6 hp hF8 hF9 hx hx9 hfin P7
            go_wp2
            rw [← set5_eq]
            obtain ⟨y0, y1, y2, y3, y4⟩ := FIN.out.1.get5
            clear k0 k1 k2 k3 k4 f0 f1 f2 f3 f4 z0 z1 z2 z3 z4 e0 e1 e2 e3 e4
            exact bodyPost_ret (v := .agg (fuCells u2 (.slice pa pw3 pc) (.int .u8 0) (.slice a m c) t1)) (by simp [results, Tryz.results33, go_sem, y0, y1, y2, y3, y4]) rfl (RPost.ok HR6.out FIN.out.2.1 FIN.out.2.2.2 FIN.out.2.2.1)
end Go.Proofs.YtcgllooeimacdaaGreatDoor

/-! A program, whole: functions up to the end. -/

namespace Go.Proofs.YtcgllooeimacdaaGreatDoor
open Go Go.RowKit Px
open Lx (Tok)

theorem Px.fusF_succ (ts : List Tok) (f : Nat) (l : List Fu) (s : St) : fusF ts (f + 1) l s = bindR (fuF ts f s) fun x s => if (tk ts s.i).kind = 0 then .ok (l ++ [x], s) else fusF ts f (l ++ [x]) s := rfl

def progE (B : Nat) (l : List Fu) (e : Ending) (w' : World) : Prop := ∃ a m c, e = .returned (.agg #[.slice a m c]) ∧ FuRow w' (fun h => B ≤ h) l (.slice a m c)

theorem Tryz.infoFu : (Tryz.prog.info? 42).map (fun i => (i.zero, i.size, i.bytes)) = some (some (.agg zFu), 5, 80) := by kernel_rfl
theorem fu_one (nm : Bytes) (pa : Option Addr) (pm pc y pos : Nat) (a : Option Addr) (m c : Nat) : ∀ u ∈ (fuCells nm (.slice pa pm pc) (.int .u8 (y : Int)) (.slice a m c) pos).toList, u.oneCell' = true := by
  intro u hu
  simp only [List.mem_cons, List.not_mem_nil, or_false] at hu
  rcases hu with rfl | rfl | rfl | rfl | rfl <;> rfl

abbrev zProg : Array Value := #[.slice none 0 0]

/-- The boxes of a program: the result's, the one that is being made, with the functions that were read. -/
structure FusW (b g cap : Nat) (ts : List Tok) (s : St) (w : World) (l : List Fu) (a : Option Addr) (c : Nat) (xs : List Value) (w' : World) : Prop where
  grown : w.grownBy w' (some b)
  res : Blk w.heap.size zProg 24 w'
  box : Blk (w.heap.size + 1) #[.slice a l.length c] 24 w'
  own : w'.ownsRow (w.heap.size + 2) 42 5 (.slice a l.length c) l.length xs
  funs : FusC w' (fun h => w.heap.size + 2 ≤ h ∧ some h ≠ (Value.slice a l.length c).ownBlock) l xs
  pw : PW b g cap ts s w'
  lb : b < w.heap.size
  lg : g < w.heap.size
section
variable {b g cap : Nat} {ts : List Tok} {s s' : St} {w w1 w2 : World} {l : List Fu} {a : Option Addr} {c : Nat} {xs : List Value}
theorem FusW.top (h : FusW b g cap ts s w l a c xs w1) : w.heap.size + 2 ≤ w1.heap.size := h.box.lt
theorem FusW.other (h : FusW b g cap ts s w l a c xs w1) (hg : w1.grownBy w2 (some b)) (hp : PW b g cap ts s' w2) : FusW b g cap ts s' w l a c xs w2 := by
  have h1 := h.lb
  refine ⟨gtrans h.grown hg, h.res.other hg (by simp; omega), h.box.other hg (by simp; omega), ?_, h.funs.stays (stays_of_grown hg fun k hk => ⟨by omega, hk⟩), hp, h.lb, h.lg⟩
  refine h.own.kept hg ?_
  cases hu : (Value.slice a l.length c).ownBlock with
  | none => exact Or.inl rfl
  | some j =>
    have := (h.own.lt j hu).1
    exact Or.inr (by simp; omega)
theorem FusW.below (h : FusW b g cap ts s w l a c xs w1) (hb : Below w1.heap.size w1 w2) : FusW b g cap ts s w l a c xs w2 := h.other (grown_of_below hb) (h.pw.below hb)
theorem fus_fin {W8 w9 : World} {x : Fu} {cs : List Value} {gg cg K L : Nat} (h8 : FusW b g cap ts s w l a c xs W8) (hx : FuC W8 (fun h => K ≤ h ∧ h < L) x cs) (hK : ∀ j, (Value.slice a l.length c).ownBlock = some j → j < K) (hL : L ≤ W8.heap.size) (hKl : w.heap.size + 2 ≤ K)
    (hown : w9.ownsRow (w.heap.size + 2) 42 5 (.slice (some ⟨gg, 0, none⟩) (l.length + 1) cg) (l.length + 1) (xs ++ cs)) (hgrow : W8.grownBy w9 (Value.slice a l.length c).ownBlock) (hat : (Value.slice a l.length c).ownBlock = some gg ∨ gg = W8.heap.size) :
    Blk (w.heap.size + 1) #[.slice a l.length c] 24 w9 ∧ FusW b g cap ts s w (l ++ [x]) (some ⟨gg, 0, none⟩) cg (xs ++ cs) (w9.setCell ⟨w.heap.size + 1, 0, none⟩ (.slice (some ⟨gg, 0, none⟩) (l.length + 1) cg)) := by
  obtain ⟨hg8, hr8, hc8, ho8, hf8, hp8, lb, lg⟩ := h8
  have hj : ∀ j, (Value.slice a l.length c).ownBlock = some j → w.heap.size + 2 ≤ j := fun j h => (ho8.lt j h).1
  have hn : ∀ j, j < w.heap.size + 2 → some j ≠ (Value.slice a l.length c).ownBlock := fun j h e => by have := hj j e.symm; omega
  have hc9 := hc8.other hgrow (hn _ (by omega))
  have hr9 := hr8.other hgrow (hn _ (by omega))
  have hp9 := hp8.other hgrow (hn _ (by omega)) (hn _ (by omega))
  have hg9 : w.grownBy w9 (some b) := ⟨hgrow.os.trans hg8.os, hgrow.tape.trans hg8.tape, hgrow.output.trans hg8.output, Nat.le_trans hg8.size hgrow.size, fun i hi hne => (hgrow.block i (Nat.lt_of_lt_of_le hi hg8.size) (fun e => by have := hj i e.symm; omega)).trans (hg8.block i hi hne)⟩
  have hgg := (hown.lt gg rfl).1
  have g2 : w9.grownBy (w9.setCell ⟨w.heap.size + 1, 0, none⟩ (.slice (some ⟨gg, 0, none⟩) (l.length + 1) cg)) (some (w.heap.size + 1)) := Lib.grownBy_setCell _ _ _ _
  have hgn : ∀ h, h < W8.heap.size → some h ≠ (Value.slice a l.length c).ownBlock → some h ≠ some gg := by
    intro h hh hne e
    rcases hat with e1 | e1
    · exact hne (e.trans e1.symm)
    · cases e; omega
  refine ⟨hc9, gnew hg9 (by omega) g2, hr9.other g2 (by simp), by rw [List.length_append]; exact hc9.set 0 _, ?_, ?_, hp9.other g2 (by simp; omega) (by simp; omega), lb, lg⟩
  · have := owns_other hown g2 (by simp; omega)
    rw [List.length_append]
    simpa using this
  · have e1 : FusC (w9.setCell ⟨w.heap.size + 1, 0, none⟩ (.slice (some ⟨gg, 0, none⟩) (l.length + 1) cg)) (fun h => w.heap.size + 2 ≤ h ∧ some h ≠ some gg) l xs :=
      FusC.stays (fun h hh hl => ⟨(g2.block h (Nat.lt_of_lt_of_le hl hgrow.size) (by simp; omega)).trans (hgrow.block h hl hh.2), hh.1, hgn h hl hh.2⟩) l xs hf8
    have e2 : FuC (w9.setCell ⟨w.heap.size + 1, 0, none⟩ (.slice (some ⟨gg, 0, none⟩) (l.length + 1) cg)) (fun h => w.heap.size + 2 ≤ h ∧ some h ≠ some gg) x cs :=
      hx.stays (fun h hh hl => by
        have hne : some h ≠ (Value.slice a l.length c).ownBlock := fun e => by have := hK h e.symm; omega
        exact ⟨(g2.block h (Nat.lt_of_lt_of_le hl hgrow.size) (by simp; omega)).trans (hgrow.block h hl hne), by omega, hgn h hl hne⟩)
    exact FusC_snoc e2 l xs e1
/-- What is answered. -/
theorem FusW.fin (h : FusW b g cap ts s w l a c xs w1) : ∀ U, U = w1.setCell ⟨w.heap.size, 0, none⟩ (.slice a l.length c) →
    U.cell? ⟨w.heap.size, 0, none⟩ = some (.slice a l.length c) ∧ w.grownBy U (some b) ∧ progE w.heap.size l (.returned (.agg #[.slice a l.length c])) U ∧ PW b g cap ts s U := by
  intro U hU
  have hs : w1.grownBy U (some w.heap.size) := by rw [hU]; exact Lib.grownBy_setCell _ _ _ _
  have hb : U.cell? ⟨w.heap.size, 0, none⟩ = some (.slice a l.length c) := by rw [hU]; exact (h.res.set 0 _).get 0 _ rfl
  clear hU
  have h1 := h.lb
  have h2 := h.lg
  refine ⟨hb, gnew h.grown (Nat.le_refl _) hs, ⟨_, _, _, rfl, ?_⟩, h.pw.other hs (by simp; omega) (by simp; omega)⟩
  have ho := h.own
  have hf := h.funs
  rcases own_slice ho with ⟨e, hl⟩ | ⟨gg, cc, e⟩
  · exact Or.inl ⟨List.length_eq_zero_iff.1 hl, e⟩
  · rw [e] at ho hf ⊢
    have hB := (ho.lt gg rfl).1
    exact Or.inr ⟨gg, cc, xs, rfl, by omega, owns_stays ho.weaken_base (hs.block gg (ho.lt gg rfl).2 (by simp; omega)), hf.stays (stays_of_grown hs fun k hk => ⟨by omega, by omega⟩)⟩
end
/-- What holds ahead of each function. -/
def FusRel (b g cap : Nat) (ts : List Tok) (w : World) (F : Nat) (r0 : R (List Fu)) (gk : Nat) (wr : World) : Prop :=
  ∃ (l : List Fu) (s1 : St) (a : Option Addr) (c : Nat) (xs : List Value), gk ≤ F ∧ s1.n ≤ s1.i ∧ r0 = fusF ts gk l s1 ∧ fusF ts gk l s1 ≠ gone ∧ l.length ≤ s1.i ∧ FusW b g cap ts s1 w l a c xs wr

set_option maxRecDepth 100000 in
set_option maxHeartbeats 4000000 in
theorem program_any (F : Nat) (hF : F ≤ 1000000) (b g cap : Nat) (ts : List Tok) (s : St) (w : World) (hw : PW b g cap ts s w) (hn : s.n ≤ s.i) (hne : fusF ts F [] s ≠ gone) :
    Calls Tryz.prog 21 #[.pointer (some ⟨b, 0, none⟩)] w (RPost b g cap ts w (progE w.heap.size) (fusF ts F [] s)) := by
  obtain ⟨W, hW⟩ : ∃ W, W = (w.alloc (.cells zProg 24)).alloc (.cells zProg 24) := ⟨_, rfl⟩
  have hbW : Below w.heap.size w W := by rw [hW]; exact ((Below.refl _ _).alloc (Nat.le_refl _) _).alloc (by simp) _
  have hlt := hw.blk.lt
  have hgl := hw.toks.lt
  have hREL : FusRel b g cap ts w F (fusF ts F [] s) F W := by
    refine ⟨[], s, none, 0, [], Nat.le_refl _, hn, rfl, hne, by simp, grown_of_below hbW, ?_, ?_, World.ownsRow_nil _ _ _ _, rfl, hw.below hbW, hlt, hgl⟩
    · rw [hW]; exact (Blk.new w _ _).below ((Below.refl _ _).alloc (Nat.le_refl _) _) (by simp)
    · rw [hW]; exact Blk.new' _ _ _ (by simp)
  have HREL := Lib.hid hREL
  have HWW := Lib.hid hW
  have HFu := Lib.hid fun gk s' w1 (h0 : gk ≤ F) (h1 : PW b g cap ts s' w1) (h2 : s'.n ≤ s'.i) (h3 : fuF ts gk s' ≠ gone) => function_any gk (Nat.le_trans h0 hF) b g cap ts s' w1 h1 h2 h3
  have HNx := Lib.hid fun s' w1 (h1 : PW b g cap ts s' w1) => next_any b g cap ts s' w1 h1
  obtain ⟨i0, hi, hz0, hz1, hz2⟩ := info_parts Tryz.infoFu
  have hf0 := fTok0
  clear hw hbW hW hn hne hREL hF
  go_enter Tryz.func21, Tryz.ntmps21
  go_upto_region 2 with (fail)
  rw [← HWW.out]
  clear HWW
  go_loopg [] F (fun gk wr => FusRel b g cap ts w F (fusF ts F [] s) gk wr)
  case atStart => exact HREL.out
  case round =>
    obtain ⟨l, s1, a, c, xs, hgk, hnn, h0, hng, hll, hW1⟩ := hrel
    cases gk with
    | zero => exact absurd (by rw [fusF]) hng
    | succ gk =>
      rw [fusF_succ] at h0 hng
      have H0 := Lib.hid h0
      have HNG := Lib.hid hng
      have HW1 := Lib.hid hW1
      have hlen := hW1.pw.len
      have hilt := hW1.pw.lt
      have HBD := Lib.hid (And.intro (show l.length + 1 ≤ maxLen by unfold maxLen; omega) (show (l.length + 1) * 80 ≤ 140737488355328 by omega))
      have HLL := Lib.hid (And.intro hll hnn)
      have c5 := hW1.box.get 0 (.slice a l.length c) rfl
      have hwd : Below wr.heap.size wr wr.drew := (Below.refl _ _).drew
      have HC := Lib.hid (HFu.out gk s1 wr.drew (by omega) (hW1.pw.below hwd) hnn (bindR_gone hng))
      have HD := Lib.hid hwd
      clear h0 hng hlen hilt hll hnn hW1 hwd
      have hS : (fun w' : World => w'.cell? ⟨w.heap.size + 1, 0, none⟩ = some (.slice a l.length c)) wr.drew := c5
      go_wp2_with fail
      refine wp_region_dep (S := fun w' => w'.cell? ⟨w.heap.size + 1, 0, none⟩ = some (.slice a l.length c)) (dep := [6, 7]) (by kernel_rfl) ?_
      change wpAnyD _ _ _ _ _ _ _ _ _ (World.drew _)
      refine wpAnyD_take (i := 0) (v := ?_) rfl (by kernel_rfl) (by kernel_rfl) (by kernel_rfl) (by kernel_rfl) (by kernel_rfl) (fun _ _ _ h => h) hS (Or.inl ⟨by rfl, ?_⟩) ?_
      rotate_left
      · intro w hSw; go_simp
        try with_reducible rfl
      try simp only [Act.put, List.setIfInBounds_toArray, List.set_cons_zero, List.set_cons_succ]
      refine wpAnyD_take (i := 1) (v := ?_) rfl (by kernel_rfl) (by kernel_rfl) (by kernel_rfl) (by kernel_rfl) (by kernel_rfl) (fun _ _ _ h => h) hS (Or.inl ⟨by rfl, ?_⟩) ?_
      rotate_left
      · intro w hSw; go_simp
        try with_reducible rfl
      try simp only [Act.put, List.setIfInBounds_toArray, List.set_cons_zero, List.set_cons_succ]
      refine wpAnyD_take (i := 2) (v := ?_) rfl (by kernel_rfl) (by kernel_rfl) (by kernel_rfl) (by kernel_rfl) (by kernel_rfl) (fun _ _ _ h => h) hS (Or.inl ⟨by rfl, ?_⟩) ?_
      rotate_left
      · intro w hSw; go_simp
        try with_reducible rfl
      try simp only [Act.put, List.setIfInBounds_toArray, List.set_cons_zero, List.set_cons_succ]
      clear hS c5
      refine wpAnyD_one (i := 3) rfl (by kernel_rfl) rfl (fun K hK => ?_)
      go_simp
      refine HC.out.mono ?_
      rintro e w7 h7
      rcases h7.elim with ⟨pn, hr, hg, rfl⟩ | ⟨x, s4, hr, hg, ⟨nm, y, pos, pa, pm, pc, fa, fm, fc, rfl, hx⟩, hp⟩
      · exact ⟨rfl, RPost.err (H0.out.trans (by rw [hr]; rfl)) (gtrans HW1.out.grown (gtrans (grown_of_below HD.out) hg))⟩
      · have hF7 := (HW1.out.below HD.out).other (s' := s4) hg hp
        have HR7 := Lib.hid (H0.out.trans (by rw [hr, bindR_ok]))
        have HNG7 := Lib.hid (show (if (tk ts s4.i).kind = 0 then .ok (l ++ [x], s4) else fusF ts gk (l ++ [x]) s4) ≠ gone by have := HNG.out; rw [hr, bindR_ok] at this; exact this)
        have HB7 := Lib.hid (fuF_bal hr)
        have hbZ : Below w7.heap.size w7 (w7.alloc (.cells (fuCells nm (.slice pa pm pc) (.int .u8 (y : Int)) (.slice fa fm fc) pos) 42)) := (Below.refl _ _).alloc (Nat.le_refl _) _
        have F8 := Lib.hid (hF7.below hbZ)
        have hsd := hg.size
        have hK1 : ∀ j, (Value.slice a l.length c).ownBlock = some j → j < wr.heap.size := fun j h => (HW1.out.own.lt j h).2
        have HX8 := Lib.hid (show FuC (w7.alloc (.cells (fuCells nm (.slice pa pm pc) (.int .u8 (y : Int)) (.slice fa fm fc) pos) 42)) (fun h => wr.heap.size ≤ h ∧ h < w7.heap.size) x _ from hx.stays (fun h hh hl => ⟨hbZ.block h hl, hh, hl⟩))
        have c5 := hF7.box.get 0 (.slice a l.length c) rfl
        have c5' := F8.out.box.get 0 (.slice a l.length c) rfl
        have htop := F8.out.top
        have HK1 := Lib.hid (And.intro hK1 HW1.out.top)
        clear hr hg h7 hp hF7 hbZ HC hx hsd hK1
        refine hK _ _ (Or.inr c5) ?_
        clear hK K
        try simp only [Act.put, List.setIfInBounds_toArray, List.set_cons_zero, List.set_cons_succ]
        refine wpAnyD_one (i := 4) rfl (by kernel_rfl) rfl (fun K hK => ?_)
        go_simp
        refine hK _ _ (Or.inr c5') ?_
        clear hK K c5 c5'
        try simp only [Act.put, List.setIfInBounds_toArray, List.set_cons_zero, List.set_cons_succ]
        refine wpAnyD_one (i := 5) rfl (by kernel_rfl) rfl (fun K hK => ?_)
        refine wp_append_lies _ (.tmp 5) (.tmp 8) 22 rfl (w.heap.size + 2) 42 i0 _ 5 80 Tryz.underlying22 hi hz0 hz1 hz2 rfl (by omega) (.slice a l.length c) l.length xs rfl F8.out.own ⟨w7.heap.size, 0, none⟩ 1 1 (fuCells nm (.slice pa pm pc) (.int .u8 (y : Int)) (.slice fa fm fc) pos).toList rfl rfl (World.news_of_block (heap_alloc_new w7 _)) (fu_one nm pa pm pc y pos fa fm fc) (by omega) HBD.out.1 HBD.out.2 htop _ rfl ?_
        intro gg cg w9 hown hgrow hat hlt9
        have HF := Lib.hid (fus_fin F8.out HX8.out HK1.out.1 (by simp) HK1.out.2 hown hgrow hat)
        clear hown hgrow hat hlt9 htop
        refine hK _ _ (Or.inr (HF.out.1.get 0 (.slice a l.length c) rfl)) ?_
        clear hK K
        try simp only [Act.put, List.setIfInBounds_toArray, List.set_cons_zero, List.set_cons_succ]
        refine wpAnyD_free (i := 6) (v := ?_) rfl (by kernel_rfl) (by kernel_rfl) (by kernel_rfl) (by kernel_rfl) (fun _ _ _ h => h) (Or.inl ⟨by rfl, ?_⟩) ?_
        rotate_left
        · intro w hSw; clear hSw; go_simp
          try with_reducible rfl
        try simp only [Act.put, List.setIfInBounds_toArray, List.set_cons_zero, List.set_cons_succ]
        have c5 := HF.out.1.get 0 (.slice a l.length c) rfl
        have k5 := HF.out.1.free 0
        refine wpAnyD_one (i := 7) rfl (by kernel_rfl) rfl (fun K hK => ?_)
        go_simp
        refine hK _ _ (Or.inl rfl) ?_
        clear hK K
        try simp only [Act.put, List.setIfInBounds_toArray, List.set_cons_zero, List.set_cons_succ]
        refine wpAnyD_done (by kernel_rfl) ?_ _
        clear c5 k5
        obtain ⟨Z, hZ⟩ : ∃ Z, Z = w9.setCell ⟨w.heap.size + 1, 0, none⟩ (.slice (some ⟨gg, 0, none⟩) (l.length + 1) cg) := ⟨_, rfl⟩
        have hQ := Lib.hid (show FusW b g cap ts s4 w (l ++ [x]) (some ⟨gg, 0, none⟩) cg (xs ++ (fuCells nm (.slice pa pm pc) (.int .u8 (y : Int)) (.slice fa fm fc) pos).toList) Z by rw [hZ]; exact HF.out.2)
        rw [← hZ]
        clear hZ HF
        have hN := Lib.hid (HNx.out s4 Z hQ.out.pw)
        go_wp2_with fail
        refine hN.out.mono ?_
        rintro e w4 ⟨rfl, hb4⟩
        have HQ4 := Lib.hid (hQ.out.below hb4)
        clear hb4
        unfold tokV'
        have hll : (l ++ [x]).length = l.length + 1 := by simp
        by_cases hend : (tk ts s4.i).kind = 0
        · have HR8 := Lib.hid (HR7.out.trans (by rw [if_pos hend]))
          rw [hend]
          clear hend
          have q0 := HQ4.out.box.get 0 _ rfl
          have z0 := HQ4.out.res.get 0 _ rfl
          have zf := HQ4.out.res.free 0
          have hfin := HQ4.out.fin _ rfl
          rw [hll] at hfin
          have FIN := Lib.hid hfin
          clear hfin
          go_wp2
          obtain ⟨y0, h1, h2, h3⟩ := FIN.out
          clear q0 z0 zf
          exact bodyPost_ret (v := .agg #[.slice (some ⟨gg, 0, none⟩) (l.length + 1) cg]) (by simp [results, Tryz.results21, go_sem, y0]) rfl (RPost.ok HR8.out h1 h2 h3)
        · have hk1' : (((tk ts s4.i).kind : Int) == 0) = false := by rw [beq_eq_false_iff_ne]; omega
          have HR8 := HR7.out.trans (by rw [if_neg hend])
          have hng8 := HNG7.out
          rw [if_neg hend] at hng8
          have hb := HB7.out
          have h9 := HLL.out
          unfold Bal at hb
          have FIN := Lib.hid (show FusRel b g cap ts w F (fusF ts F [] s) gk w4 from ⟨l ++ [x], s4, _, _, _, by omega, by omega, HR8, hng8, by omega, HQ4.out⟩)
          clear HR8 hng8 hb h9 hend hll
          go_wp2
          go_roundg gk
          case measure => omega
          case rel => exact FIN.out
end Go.Proofs.YtcgllooeimacdaaGreatDoor
