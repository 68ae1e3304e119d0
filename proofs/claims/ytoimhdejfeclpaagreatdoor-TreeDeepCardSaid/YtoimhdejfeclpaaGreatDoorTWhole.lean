/-
  A program of one function.
-/
import Derived.Test.YtoimhdejfeclpaaGreatDoorTFun
import Derived.Deep.AppendLies
import Derived.LoopN
namespace Go.Proofs.YtoimhdejfeclpaaGreatDoor
open Go Go.RowKit Px
open Lx (Tok)

def progQ (ts : List Tok) (f : Nat) (s : St) : R (List Fu) := bindR (fuQ ts f s) fun x s => if (tk ts s.i).kind = 0 then .ok ([x], s) else gone
def progE (B : Nat) (l : List Fu) (e : Ending) (w' : World) : Prop := ∃ a m c, e = .returned (.agg #[.slice a m c]) ∧ FuRow w' (fun h => B ≤ h) l (.slice a m c)
def FuOk (b g cap : Nat) (ts : List Tok) (s' : St) (x : Fu) (w : World) (e : Ending) (w' : World) : Prop := ∃ (nm : Bytes) (y pos : Nat) (a : Option Addr) (m c : Nat),
  e = .returned (.agg (fuCells nm (.slice none 0 0) y (.slice a m c) pos)) ∧ FuC w' (fun g => w.heap.size ≤ g) x (fuCells nm (.slice none 0 0) y (.slice a m c) pos).toList ∧ PW b g cap ts s' w' ∧ w.grownBy w' (some b)

theorem Tryz.infoFu : (Tryz.prog.info? 42).map (fun i => (i.zero, i.size, i.bytes)) = some (some (.agg zFu), 5, 80) := by kernel_rfl
theorem fu_one (nm : Bytes) (y pos : Nat) (a : Option Addr) (m c : Nat) : ∀ u ∈ (fuCells nm (.slice none 0 0) y (.slice a m c) pos).toList, u.oneCell' = true := by
  intro u hu
  simp only [List.mem_cons, List.not_mem_nil, or_false] at hu
  rcases hu with rfl | rfl | rfl | rfl | rfl <;> rfl

theorem keepS {w w' : World} {row : Option Nat} {j : Nat} {v : Value} (hg : w.grownBy w' row) (h : w.cell? ⟨j, 0, none⟩ = some v ∧ w.frozen? ⟨j, 0, none⟩ = false) (hne : some j ≠ row) : w'.cell? ⟨j, 0, none⟩ = some v ∧ w'.frozen? ⟨j, 0, none⟩ = false := by
  have hb := hg.block j (World.block_lt_of_cell? w _ h.1) hne
  exact ⟨(World.cell?_of_block (w := w) (a := ⟨j, 0, none⟩) hb).trans h.1, (World.frozen?_of_block (w := w) (a := ⟨j, 0, none⟩) hb).trans h.2⟩

abbrev zProg : Array Value := #[.slice none 0 0]

/-- What the region of a program leaves: the list of one function, in the box; the result's box. -/
structure PFin (b g cap : Nat) (ts : List Tok) (s' : St) (w : World) (x : Fu) (gg cc : Nat) (Z : World) : Prop where
  grown : w.grownBy Z (some b)
  res : Blk w.heap.size zProg 24 Z
  box : Blk (w.heap.size + 1) #[.slice (some ⟨gg, 0, none⟩) 1 cc] 24 Z
  pw : PW b g cap ts s' Z
  row : FuRow Z (fun h => w.heap.size + 1 < h) [x] (.slice (some ⟨gg, 0, none⟩) 1 cc)
  lb : b < w.heap.size
  lg : g < w.heap.size
theorem PFin.below {b g cap : Nat} {ts : List Tok} {s' : St} {w : World} {x : Fu} {gg cc : Nat} {Z Z' : World} (h : PFin b g cap ts s' w x gg cc Z) (hb : Below Z.heap.size Z Z') : PFin b g cap ts s' w x gg cc Z' :=
  ⟨gtrans h.grown (grown_of_below hb), h.res.below hb h.res.lt, h.box.below hb h.box.lt, h.pw.below hb, h.row.stays (stays_of_below hb fun _ h => h), h.lb, h.lg⟩
theorem PFin.fin {b g cap : Nat} {ts : List Tok} {s' : St} {w : World} {x : Fu} {gg cc : Nat} {Z : World} (h : PFin b g cap ts s' w x gg cc Z) :
    (Z.setCell ⟨w.heap.size, 0, none⟩ (.slice (some ⟨gg, 0, none⟩) 1 cc)).cell? ⟨w.heap.size, 0, none⟩ = some (.slice (some ⟨gg, 0, none⟩) 1 cc) ∧ w.grownBy (Z.setCell ⟨w.heap.size, 0, none⟩ (.slice (some ⟨gg, 0, none⟩) 1 cc)) (some b) ∧
      progE w.heap.size [x] (.returned (.agg #[.slice (some ⟨gg, 0, none⟩) 1 cc])) (Z.setCell ⟨w.heap.size, 0, none⟩ (.slice (some ⟨gg, 0, none⟩) 1 cc)) ∧ PW b g cap ts s' (Z.setCell ⟨w.heap.size, 0, none⟩ (.slice (some ⟨gg, 0, none⟩) 1 cc)) := by
  have hs : Z.grownBy (Z.setCell ⟨w.heap.size, 0, none⟩ (.slice (some ⟨gg, 0, none⟩) 1 cc)) (some w.heap.size) := Lib.grownBy_setCell _ _ _ _
  have h1 := h.lb
  have h2 := h.lg
  exact ⟨(h.res.set 0 _).get 0 _ rfl, gnew h.grown (Nat.le_refl _) hs, ⟨_, _, _, rfl, h.row.stays (stays_of_grown hs fun k hk => ⟨by omega, by omega⟩)⟩, h.pw.other hs (by simp; omega) (by simp; omega)⟩
theorem prog_fin {b g cap : Nat} {ts : List Tok} {s' : St} {w W w2 w3 : World} {x : Fu} {nm : Bytes} {y pos : Nat} {a : Option Addr} {m c gg cc : Nat} (hlt : b < w.heap.size) (hgl : g < w.heap.size) (hW : W.heap.size = w.heap.size + 2)
    (hB : Below w.heap.size w W ∧ Blk w.heap.size zProg 24 W ∧ Blk (w.heap.size + 1) zProg 24 W ∧ W.heap.size = w.heap.size + 2)
    (hx : FuC w2 (fun g => W.drew.heap.size ≤ g) x (fuCells nm (.slice none 0 0) y (.slice a m c) pos).toList) (hp : PW b g cap ts s' w2) (hg : W.drew.grownBy w2 (some b))
    (hown : w3.ownsRow w.heap.size 42 5 (.slice (some ⟨gg, 0, none⟩) (0 + 1) cc) (0 + 1) ([] ++ (fuCells nm (.slice none 0 0) y (.slice a m c) pos).toList))
    (hgrow : (w2.alloc (.cells (fuCells nm (.slice none 0 0) y (.slice a m c) pos) 42)).grownBy w3 (Value.slice none 0 0).ownBlock) (hat : (Value.slice none 0 0).ownBlock = some gg ∨ gg = w2.heap.size + 1) :
    PFin b g cap ts s' w x gg cc (w3.setCell ⟨w.heap.size + 1, 0, none⟩ (.slice (some ⟨gg, 0, none⟩) 1 cc)) := by
  obtain ⟨b1, b2, b3, b4⟩ := hB
  have hgg : gg = w2.heap.size + 1 := by rcases hat with h | h; · cases h
                                         · exact h
  have hs2 := hg.size
  have hs2' : w.heap.size + 2 ≤ w2.heap.size := by have : W.drew.heap.size = W.heap.size := rfl; omega
  have g1 : W.grownBy w2 (some b) := ⟨hg.os, hg.tape, hg.output, hg.size, hg.block⟩
  have g2 : w2.grownBy w3 none := gtrans (World.grownBy_alloc w2 _ none) hgrow
  have g3 : w3.grownBy (w3.setCell ⟨w.heap.size + 1, 0, none⟩ (.slice (some ⟨gg, 0, none⟩) 1 cc)) (some (w.heap.size + 1)) := Lib.grownBy_setCell _ _ _ _
  have g02 : w.grownBy w3 (some b) := gtrans (gtrans (grown_of_below b1) g1) ⟨g2.os, g2.tape, g2.output, g2.size, fun k hk _ => g2.block k hk (by simp)⟩
  refine ⟨gnew g02 (by omega) g3, ((b2.other g1 (by simp; omega)).other g2 (by simp)).other g3 (by simp), ((b3.other g1 (by simp; omega)).other g2 (by simp)).set 0 _, (hp.other g2 (by simp) (by simp)).other g3 (by simp; omega) (by simp; omega), ?_, hlt, hgl⟩
  have hrow : w3.heap[gg]? = (w3.setCell ⟨w.heap.size + 1, 0, none⟩ (.slice (some ⟨gg, 0, none⟩) 1 cc)).heap[gg]? := (g3.block gg (hown.lt gg rfl).2 (by simp; omega)).symm
  refine Or.inr ⟨gg, cc, _, rfl, by omega, owns_stays hown.weaken_base hrow.symm, ?_⟩
  rw [List.nil_append]
  refine ⟨(fuCells nm (.slice none 0 0) y (.slice a m c) pos).toList, [], (List.append_nil _).symm, ?_, rfl⟩
  refine (hx.stays (ok' := fun h => w.heap.size + 2 ≤ h ∧ h < w2.heap.size) (w' := w3) (fun h hh hl => ⟨g2.block h hl (by simp), by have : W.drew.heap.size = W.heap.size := rfl; omega, hl⟩)).stays (fun h hh hl => ⟨g3.block h hl (by simp; omega), by omega⟩)

set_option maxRecDepth 100000 in
set_option maxHeartbeats 2000000 in
theorem program_pan (F : Nat) (b g cap : Nat) (ts : List Tok) (s : St) (w : World) (hw : PW b g cap ts s w) (hn : s.n + F < 90000) (pn : Nat × Nat) (hr : fuQ ts F s = .error pn) (hpn : pn ≠ (0, 99)) :
    Calls Tryz.prog 21 #[.pointer (some ⟨b, 0, none⟩)] w (RPost b g cap ts w (progE w.heap.size) (progQ ts F s)) := by
  have hne : fuQ ts F s ≠ gone := by rw [hr]; intro h; apply hpn; cases h; rfl
  obtain ⟨W, hW⟩ : ∃ W, W = (w.alloc (.cells zProg 24)).alloc (.cells zProg 24) := ⟨_, rfl⟩
  have hbW : Below w.heap.size w W := by rw [hW]; exact ((Below.refl _ _).alloc (Nat.le_refl _) _).alloc (by simp) _
  have hq : Blk (w.heap.size + 1) zProg 24 W := by rw [hW]; exact Blk.new' _ _ _ (by simp)
  have c0 : W.cell? ⟨w.heap.size + 1, 0, none⟩ = some (.slice none 0 0) := hq.get 0 _ rfl
  have HP : Hid (∀ w1, PW b g cap ts s w1 → Calls Tryz.prog 33 #[.pointer (some ⟨b, 0, none⟩)] w1 (PanP b w1 (fuQ ts F s))) := by
    intro w1 h1
    refine (function_any F b g cap ts s w1 h1 hn hne).mono ?_
    intro e w' h
    rcases h.elim with ⟨p, h1, h2, h3⟩ | ⟨a, s', h1, _⟩
    · exact ⟨p, h1, h2, h3⟩
    · rw [hr] at h1; cases h1
  have HW := Lib.hid (hw.below hbW)
  have HB := Lib.hid hbW
  have HWW := Lib.hid hW
  have HR := Lib.hid (show progQ ts F s = .error pn by unfold progQ; rw [hr]; rfl)
  have HRR := Lib.hid hr
  clear hw hbW hW hne hq hr hpn
  go_enter Tryz.func21, Tryz.ntmps21
  go_wp2_with fail
  refine wp_loop_rounds 1 ?_
  rw [rounds_succ]
  go_wp2_with fail
  rw [← HWW.out]
  refine wp_region_any (by kernel_rfl) ?_
  change wpAny _ _ _ _ _ _ _ (World.drew _)
  clear HWW
  refine wpAny_ready (rs := [0, 2]) (by kernel_rfl) (by simp) ?_
  refine AllReady.cons rfl (fun K hK => ?_) ?_
  · go_simp
    refine hK _ _ ?_
    clear hK K
    refine wpAny_ready (rs := [1, 2]) (by kernel_rfl) (by simp) ?_
    refine AllReady.cons rfl (fun K hK => ?_) ?_
    · go_simp
      refine hK _ _ ?_
      clear hK K
      refine wpAny_ready (rs := [2]) (by kernel_rfl) (by simp) ?_
      refine AllReady.cons rfl (fun K hK => ?_) ?_
      · go_simp
        refine hK _ _ ?_
        clear hK K
        refine wpAny_ready (rs := [3]) (by kernel_rfl) (by simp) ?_
        refine AllReady.cons rfl (fun K hK => ?_) ?_
        · go_simp
          refine (HP.out _ (HW.out.below (Below.refl _ _).drew)).mono ?_
          rintro e w' ⟨pn', hr, hg, rfl⟩
          obtain rfl : pn = pn' := by have := HRR.out.symm.trans hr; simpa using this
          have FIN := RPost.err (α := List Fu) (g := g) (cap := cap) (ts := ts) (V := progE w.heap.size) HR.out (gtrans (grown_of_below HB.out) (gtrans (grown_of_below (Below.refl _ _).drew) hg))
          exact ⟨rfl, FIN⟩
        exact AllReady.nil
      exact AllReady.nil
    refine AllReady.cons rfl (fun K hK => ?_) ?_
    · go_simp
      refine hK _ _ ?_
      clear hK K
      refine wpAny_ready (rs := [1, 3]) (by kernel_rfl) (by simp) ?_
      refine AllReady.cons rfl (fun K hK => ?_) ?_
      · go_simp
        refine hK _ _ ?_
        clear hK K
        refine wpAny_ready (rs := [3]) (by kernel_rfl) (by simp) ?_
        refine AllReady.cons rfl (fun K hK => ?_) ?_
        · go_simp
          refine (HP.out _ (HW.out.below (Below.refl _ _).drew)).mono ?_
          rintro e w' ⟨pn', hr, hg, rfl⟩
          obtain rfl : pn = pn' := by have := HRR.out.symm.trans hr; simpa using this
          have FIN := RPost.err (α := List Fu) (g := g) (cap := cap) (ts := ts) (V := progE w.heap.size) HR.out (gtrans (grown_of_below HB.out) (gtrans (grown_of_below (Below.refl _ _).drew) hg))
          exact ⟨rfl, FIN⟩
        exact AllReady.nil
      refine AllReady.cons rfl (fun K hK => ?_) ?_
      · go_simp
        refine (HP.out _ (HW.out.below (Below.refl _ _).drew)).mono ?_
        rintro e w' ⟨pn', hr, hg, rfl⟩
        obtain rfl : pn = pn' := by have := HRR.out.symm.trans hr; simpa using this
        have FIN := RPost.err (α := List Fu) (g := g) (cap := cap) (ts := ts) (V := progE w.heap.size) HR.out (gtrans (grown_of_below HB.out) (gtrans (grown_of_below (Below.refl _ _).drew) hg))
        exact ⟨rfl, FIN⟩
      exact AllReady.nil
    exact AllReady.nil
  refine AllReady.cons rfl (fun K hK => ?_) ?_
  · go_simp
    refine hK _ _ ?_
    clear hK K
    refine wpAny_ready (rs := [0, 3]) (by kernel_rfl) (by simp) ?_
    refine AllReady.cons rfl (fun K hK => ?_) ?_
    · go_simp
      refine hK _ _ ?_
      clear hK K
      refine wpAny_ready (rs := [1, 3]) (by kernel_rfl) (by simp) ?_
      refine AllReady.cons rfl (fun K hK => ?_) ?_
      · go_simp
        refine hK _ _ ?_
        clear hK K
        refine wpAny_ready (rs := [3]) (by kernel_rfl) (by simp) ?_
        refine AllReady.cons rfl (fun K hK => ?_) ?_
        · go_simp
          refine (HP.out _ (HW.out.below (Below.refl _ _).drew)).mono ?_
          rintro e w' ⟨pn', hr, hg, rfl⟩
          obtain rfl : pn = pn' := by have := HRR.out.symm.trans hr; simpa using this
          have FIN := RPost.err (α := List Fu) (g := g) (cap := cap) (ts := ts) (V := progE w.heap.size) HR.out (gtrans (grown_of_below HB.out) (gtrans (grown_of_below (Below.refl _ _).drew) hg))
          exact ⟨rfl, FIN⟩
        exact AllReady.nil
      refine AllReady.cons rfl (fun K hK => ?_) ?_
      · go_simp
        refine (HP.out _ (HW.out.below (Below.refl _ _).drew)).mono ?_
        rintro e w' ⟨pn', hr, hg, rfl⟩
        obtain rfl : pn = pn' := by have := HRR.out.symm.trans hr; simpa using this
        have FIN := RPost.err (α := List Fu) (g := g) (cap := cap) (ts := ts) (V := progE w.heap.size) HR.out (gtrans (grown_of_below HB.out) (gtrans (grown_of_below (Below.refl _ _).drew) hg))
        exact ⟨rfl, FIN⟩
      exact AllReady.nil
    refine AllReady.cons rfl (fun K hK => ?_) ?_
    · go_simp
      refine (HP.out _ (HW.out.below (Below.refl _ _).drew)).mono ?_
      rintro e w' ⟨pn', hr, hg, rfl⟩
      obtain rfl : pn = pn' := by have := HRR.out.symm.trans hr; simpa using this
      have FIN := RPost.err (α := List Fu) (g := g) (cap := cap) (ts := ts) (V := progE w.heap.size) HR.out (gtrans (grown_of_below HB.out) (gtrans (grown_of_below (Below.refl _ _).drew) hg))
      exact ⟨rfl, FIN⟩
    exact AllReady.nil
  exact AllReady.nil

set_option maxRecDepth 100000 in
set_option maxHeartbeats 2000000 in
theorem program_ok (F : Nat) (b g cap : Nat) (ts : List Tok) (s s' : St) (x : Fu) (w : World) (hw : PW b g cap ts s w) (hn : s.n + F < 90000) (hr : fuQ ts F s = .ok (x, s')) (hend : (tk ts s'.i).kind = 0) :
    Calls Tryz.prog 21 #[.pointer (some ⟨b, 0, none⟩)] w (RPost b g cap ts w (progE w.heap.size) (progQ ts F s)) := by
  have hne : fuQ ts F s ≠ gone := by rw [hr]; intro h; cases h
  obtain ⟨W, hW⟩ : ∃ W, W = (w.alloc (.cells zProg 24)).alloc (.cells zProg 24) := ⟨_, rfl⟩
  have hbW : Below w.heap.size w W := by rw [hW]; exact ((Below.refl _ _).alloc (Nat.le_refl _) _).alloc (by simp) _
  have hz : Blk w.heap.size zProg 24 W := by rw [hW]; exact (Blk.new w _ _).below ((Below.refl _ _).alloc (Nat.le_refl _) _) (by simp)
  have hq : Blk (w.heap.size + 1) zProg 24 W := by rw [hW]; exact Blk.new' _ _ _ (by simp)
  have hWs : W.heap.size = w.heap.size + 2 := by rw [hW]; simp
  have hnn1 : some (w.heap.size + 1) ≠ none := by simp
  have hnn2 : some (w.heap.size + 1) ≠ some b := by have := hw.blk.lt; simp; omega
  have hsz : w.heap.size ≤ W.drew.heap.size := by show w.heap.size ≤ W.heap.size; omega
  have c0' : W.frozen? ⟨w.heap.size + 1, 0, none⟩ = false := hq.free 0
  have c0 : W.cell? ⟨w.heap.size + 1, 0, none⟩ = some (.slice none 0 0) := hq.get 0 _ rfl
  have HC : Hid (∀ w1, PW b g cap ts s w1 → Calls Tryz.prog 33 #[.pointer (some ⟨b, 0, none⟩)] w1 (FuOk b g cap ts s' x w1)) := by
    intro w1 h1
    refine (function_any F b g cap ts s w1 h1 hn hne).mono ?_
    intro e w' h
    rcases h.elim with ⟨p, h1, _⟩ | ⟨a, s'', h1, h2, ⟨nm, y, pos, a', m, c, h3, h4⟩, h5⟩
    · rw [hr] at h1; cases h1
    · rw [hr] at h1
      cases h1
      exact ⟨nm, y, pos, a', m, c, h3, h4, h5, h2⟩
  have HW := Lib.hid (hw.below hbW)
  have HB := Lib.hid (And.intro hbW (And.intro hz (And.intro hq hWs)))
  have HWW := Lib.hid hW
  have HR := Lib.hid (show progQ ts F s = .ok ([x], s') by unfold progQ; rw [hr, bindR_ok, if_pos hend])
  have hlt := hw.blk.lt
  have hgl := hw.toks.lt
  have HEnd := Lib.hid hend
  obtain ⟨i0, hi, hz0, hz1, hz2⟩ := info_parts Tryz.infoFu
  have hne1 := World.new_ne W _ c0
  have hW2 := hWs
  clear hw hbW hW hne hz hq hr hend hWs
  go_enter Tryz.func21, Tryz.ntmps21
  go_wp2_with fail
  refine wp_loop_rounds 1 ?_
  rw [rounds_succ]
  go_wp2_with fail
  rw [← HWW.out]
  refine wp_region_any (by kernel_rfl) ?_
  change wpAny _ _ _ _ _ _ _ (World.drew _)
  clear HWW
  refine wpAny_take (i := 0) (v := ?_) rfl (by kernel_rfl) (by kernel_rfl) (by kernel_rfl) (fun _ _ _ h => h) (Or.inl ⟨by rfl, ?_⟩) ?_
  rotate_left
  · intro w; go_simp
    try with_reducible rfl
  refine wpAny_take (i := 2) (v := ?_) rfl (by kernel_rfl) (by kernel_rfl) (by kernel_rfl) (fun _ _ _ h => h) (Or.inl ⟨by rfl, ?_⟩) ?_
  rotate_left
  · intro w; go_simp
    try with_reducible rfl
  refine wpAny_ready (rs := [1, 3]) (by kernel_rfl) (by simp) ?_
  refine AllReady.cons rfl (fun K hK => ?_) ?_
  · go_simp
    refine hK _ _ ?_
    clear hK K
    refine wpAny_ready (rs := [3]) (by kernel_rfl) (by simp) ?_
    refine AllReady.cons rfl (fun K hK => ?_) ?_
    · go_simp
      refine (HC.out _ (HW.out.below (Below.refl _ _).drew)).mono ?_
      rintro e w2 ⟨nm, y, pos, a, m, c, rfl, hx, hp, hg⟩
      obtain ⟨d0, d0'⟩ := keepS hg (show W.drew.cell? ⟨w.heap.size + 1, 0, none⟩ = some (.slice none 0 0) ∧ W.drew.frozen? ⟨w.heap.size + 1, 0, none⟩ = false from ⟨c0, c0'⟩) hnn2
      have hl2 : w.heap.size + 1 < w2.heap.size := World.block_lt_of_cell? w2 _ d0
      refine hK _ _ ?_
      clear hK K
      refine wpAny_ready (rs := [4]) (by kernel_rfl) (by simp) ?_
      refine AllReady.cons rfl (fun K hK => ?_) ?_
      · go_simp
        refine hK _ _ ?_
        clear hK K
        refine wpAny_ready (rs := [5]) (by kernel_rfl) (by simp) ?_
        refine AllReady.cons rfl (fun K hK => ?_) ?_
        · refine step_append_lies _ (by rfl) _ _ _ (by rfl) w.heap.size 42 i0 _ 5 80 Tryz.underlying22 hi hz0 hz1 hz2 rfl (by omega) (.slice none 0 0) 0 [] (by rfl) (World.ownsRow_nil _ _ _ _) ⟨w2.heap.size, 0, none⟩ 1 1 (fuCells nm (.slice none 0 0) y (.slice a m c) pos).toList (by rfl) (by rfl) (World.news_of_block (heap_alloc_new w2 _)) (fu_one nm y pos a m c) (by omega) (by unfold maxLen; omega) (by omega) (Nat.le_trans hsz (Nat.le_trans hg.size (by simp))) (w2.heap.size + 1) (by simp) ?_
          intro gg cc w3 hown hgrow hat hlt3
          refine hK _ _ ?_
          clear hK K
          have hkk := keepS hgrow (keepS (World.grownBy_alloc w2 (.cells (fuCells nm (.slice none 0 0) y (.slice a m c) pos) 42) none) ⟨d0, d0'⟩ hnn1) hnn1
          obtain ⟨e0, e0'⟩ := hkk
          refine wpAny_take (i := 6) (v := ?_) rfl (by kernel_rfl) (by kernel_rfl) (by kernel_rfl) (fun _ _ _ h => h) (Or.inl ⟨by rfl, ?_⟩) ?_
          rotate_left
          · intro w; go_simp
            try with_reducible rfl
          refine wpAny_ready (rs := [7]) (by kernel_rfl) (by simp) ?_
          refine AllReady.cons rfl (fun K hK => ?_) ?_
          · go_simp
            refine hK _ _ ?_
            clear hK K e0 e0'
            refine wpAny_done (by kernel_rfl) ?_ _
            obtain ⟨Z, hZ⟩ : ∃ Z, Z = w3.setCell ⟨w.heap.size + 1, 0, none⟩ (.slice (some ⟨gg, 0, none⟩) 1 cc) := ⟨_, rfl⟩
            have hQ : Hid (PFin b g cap ts s' w x gg cc Z) := by
              rw [hZ]
              exact prog_fin hlt hgl hW2 HB.out hx hp hg hown hgrow hat
            clear hx hp hg hown hgrow hat hlt3 d0 d0' hl2 hW2
            rw [← hZ]
            clear hZ
            have q0 := hQ.out.box.get 0 _ rfl
            have hN := Lib.hid (next_any b g cap ts s' Z hQ.out.pw)
            have hf0 := fTok0
            go_wp2_with fail
            refine hN.out.mono ?_
            rintro e w4 ⟨rfl, hb4⟩
            have HQ4 := Lib.hid (hQ.out.below hb4)
            clear hb4 q0
            unfold tokV'
            rw [HEnd.out]
            have q0 := HQ4.out.box.get 0 _ rfl
            have z0 := HQ4.out.res.get 0 _ rfl
            have zf := HQ4.out.res.free 0
            have FIN := Lib.hid HQ4.out.fin
            go_wp2
            obtain ⟨y0, h1, h2, h3⟩ := FIN.out
            clear q0 z0 zf
            exact bodyPost_ret (v := .agg #[.slice (some ⟨gg, 0, none⟩) 1 cc]) (by simp [results, Tryz.results21, go_sem, y0]) rfl (RPost.ok HR.out h1 h2 h3)
          exact AllReady.nil
        exact AllReady.nil
      exact AllReady.nil
    exact AllReady.nil
  refine AllReady.cons rfl (fun K hK => ?_) ?_
  · go_simp
    refine (HC.out _ (HW.out.below (Below.refl _ _).drew)).mono ?_
    rintro e w2 ⟨nm, y, pos, a, m, c, rfl, hx, hp, hg⟩
    obtain ⟨d0, d0'⟩ := keepS hg (show W.drew.cell? ⟨w.heap.size + 1, 0, none⟩ = some (.slice none 0 0) ∧ W.drew.frozen? ⟨w.heap.size + 1, 0, none⟩ = false from ⟨c0, c0'⟩) hnn2
    have hl2 : w.heap.size + 1 < w2.heap.size := World.block_lt_of_cell? w2 _ d0
    refine hK _ _ ?_
    clear hK K
    refine wpAny_ready (rs := [1, 4]) (by kernel_rfl) (by simp) ?_
    refine AllReady.cons rfl (fun K hK => ?_) ?_
    · go_simp
      refine hK _ _ ?_
      clear hK K
      refine wpAny_ready (rs := [4]) (by kernel_rfl) (by simp) ?_
      refine AllReady.cons rfl (fun K hK => ?_) ?_
      · go_simp
        refine hK _ _ ?_
        clear hK K
        refine wpAny_ready (rs := [5]) (by kernel_rfl) (by simp) ?_
        refine AllReady.cons rfl (fun K hK => ?_) ?_
        · refine step_append_lies _ (by rfl) _ _ _ (by rfl) w.heap.size 42 i0 _ 5 80 Tryz.underlying22 hi hz0 hz1 hz2 rfl (by omega) (.slice none 0 0) 0 [] (by rfl) (World.ownsRow_nil _ _ _ _) ⟨w2.heap.size, 0, none⟩ 1 1 (fuCells nm (.slice none 0 0) y (.slice a m c) pos).toList (by rfl) (by rfl) (World.news_of_block (heap_alloc_new w2 _)) (fu_one nm y pos a m c) (by omega) (by unfold maxLen; omega) (by omega) (Nat.le_trans hsz (Nat.le_trans hg.size (by simp))) (w2.heap.size + 1) (by simp) ?_
          intro gg cc w3 hown hgrow hat hlt3
          refine hK _ _ ?_
          clear hK K
          have hkk := keepS hgrow (keepS (World.grownBy_alloc w2 (.cells (fuCells nm (.slice none 0 0) y (.slice a m c) pos) 42) none) ⟨d0, d0'⟩ hnn1) hnn1
          obtain ⟨e0, e0'⟩ := hkk
          refine wpAny_take (i := 6) (v := ?_) rfl (by kernel_rfl) (by kernel_rfl) (by kernel_rfl) (fun _ _ _ h => h) (Or.inl ⟨by rfl, ?_⟩) ?_
          rotate_left
          · intro w; go_simp
            try with_reducible rfl
          refine wpAny_ready (rs := [7]) (by kernel_rfl) (by simp) ?_
          refine AllReady.cons rfl (fun K hK => ?_) ?_
          · go_simp
            refine hK _ _ ?_
            clear hK K e0 e0'
            refine wpAny_done (by kernel_rfl) ?_ _
            obtain ⟨Z, hZ⟩ : ∃ Z, Z = w3.setCell ⟨w.heap.size + 1, 0, none⟩ (.slice (some ⟨gg, 0, none⟩) 1 cc) := ⟨_, rfl⟩
            have hQ : Hid (PFin b g cap ts s' w x gg cc Z) := by
              rw [hZ]
              exact prog_fin hlt hgl hW2 HB.out hx hp hg hown hgrow hat
            clear hx hp hg hown hgrow hat hlt3 d0 d0' hl2 hW2
            rw [← hZ]
            clear hZ
            have q0 := hQ.out.box.get 0 _ rfl
            have hN := Lib.hid (next_any b g cap ts s' Z hQ.out.pw)
            have hf0 := fTok0
            go_wp2_with fail
            refine hN.out.mono ?_
            rintro e w4 ⟨rfl, hb4⟩
            have HQ4 := Lib.hid (hQ.out.below hb4)
            clear hb4 q0
            unfold tokV'
            rw [HEnd.out]
            have q0 := HQ4.out.box.get 0 _ rfl
            have z0 := HQ4.out.res.get 0 _ rfl
            have zf := HQ4.out.res.free 0
            have FIN := Lib.hid HQ4.out.fin
            go_wp2
            obtain ⟨y0, h1, h2, h3⟩ := FIN.out
            clear q0 z0 zf
            exact bodyPost_ret (v := .agg #[.slice (some ⟨gg, 0, none⟩) 1 cc]) (by simp [results, Tryz.results21, go_sem, y0]) rfl (RPost.ok HR.out h1 h2 h3)
          exact AllReady.nil
        exact AllReady.nil
      exact AllReady.nil
    refine AllReady.cons rfl (fun K hK => ?_) ?_
    · go_simp
      refine hK _ _ ?_
      clear hK K
      refine wpAny_ready (rs := [1]) (by kernel_rfl) (by simp) ?_
      refine AllReady.cons rfl (fun K hK => ?_) ?_
      · go_simp
        refine hK _ _ ?_
        clear hK K
        refine wpAny_ready (rs := [5]) (by kernel_rfl) (by simp) ?_
        refine AllReady.cons rfl (fun K hK => ?_) ?_
        · refine step_append_lies _ (by rfl) _ _ _ (by rfl) w.heap.size 42 i0 _ 5 80 Tryz.underlying22 hi hz0 hz1 hz2 rfl (by omega) (.slice none 0 0) 0 [] (by rfl) (World.ownsRow_nil _ _ _ _) ⟨w2.heap.size, 0, none⟩ 1 1 (fuCells nm (.slice none 0 0) y (.slice a m c) pos).toList (by rfl) (by rfl) (World.news_of_block (heap_alloc_new w2 _)) (fu_one nm y pos a m c) (by omega) (by unfold maxLen; omega) (by omega) (Nat.le_trans hsz (Nat.le_trans hg.size (by simp))) (w2.heap.size + 1) (by simp) ?_
          intro gg cc w3 hown hgrow hat hlt3
          refine hK _ _ ?_
          clear hK K
          have hkk := keepS hgrow (keepS (World.grownBy_alloc w2 (.cells (fuCells nm (.slice none 0 0) y (.slice a m c) pos) 42) none) ⟨d0, d0'⟩ hnn1) hnn1
          obtain ⟨e0, e0'⟩ := hkk
          refine wpAny_take (i := 6) (v := ?_) rfl (by kernel_rfl) (by kernel_rfl) (by kernel_rfl) (fun _ _ _ h => h) (Or.inl ⟨by rfl, ?_⟩) ?_
          rotate_left
          · intro w; go_simp
            try with_reducible rfl
          refine wpAny_ready (rs := [7]) (by kernel_rfl) (by simp) ?_
          refine AllReady.cons rfl (fun K hK => ?_) ?_
          · go_simp
            refine hK _ _ ?_
            clear hK K e0 e0'
            refine wpAny_done (by kernel_rfl) ?_ _
            obtain ⟨Z, hZ⟩ : ∃ Z, Z = w3.setCell ⟨w.heap.size + 1, 0, none⟩ (.slice (some ⟨gg, 0, none⟩) 1 cc) := ⟨_, rfl⟩
            have hQ : Hid (PFin b g cap ts s' w x gg cc Z) := by
              rw [hZ]
              exact prog_fin hlt hgl hW2 HB.out hx hp hg hown hgrow hat
            clear hx hp hg hown hgrow hat hlt3 d0 d0' hl2 hW2
            rw [← hZ]
            clear hZ
            have q0 := hQ.out.box.get 0 _ rfl
            have hN := Lib.hid (next_any b g cap ts s' Z hQ.out.pw)
            have hf0 := fTok0
            go_wp2_with fail
            refine hN.out.mono ?_
            rintro e w4 ⟨rfl, hb4⟩
            have HQ4 := Lib.hid (hQ.out.below hb4)
            clear hb4 q0
            unfold tokV'
            rw [HEnd.out]
            have q0 := HQ4.out.box.get 0 _ rfl
            have z0 := HQ4.out.res.get 0 _ rfl
            have zf := HQ4.out.res.free 0
            have FIN := Lib.hid HQ4.out.fin
            go_wp2
            obtain ⟨y0, h1, h2, h3⟩ := FIN.out
            clear q0 z0 zf
            exact bodyPost_ret (v := .agg #[.slice (some ⟨gg, 0, none⟩) 1 cc]) (by simp [results, Tryz.results21, go_sem, y0]) rfl (RPost.ok HR.out h1 h2 h3)
          exact AllReady.nil
        exact AllReady.nil
      exact AllReady.nil
    exact AllReady.nil
  exact AllReady.nil
end Go.Proofs.YtoimhdejfeclpaaGreatDoor
