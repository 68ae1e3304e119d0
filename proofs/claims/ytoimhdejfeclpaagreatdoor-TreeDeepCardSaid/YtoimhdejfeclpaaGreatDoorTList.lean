/-
  A list in brackets without an item; an item that can't be one.
-/
import Derived.Test.YtoimhdejfeclpaaGreatDoorTBlk
namespace Go.Proofs.YtoimhdejfeclpaaGreatDoor
open Go Go.RowKit Px
open Lx (Tok)

/-- It gives up, as the plain reading does. -/
def PanP {α : Type} (b : Nat) (w : World) (r : R α) (e : Ending) (w' : World) : Prop := ∃ pn, r = .error pn ∧ w.grownBy w' (some b) ∧ e = .panicked (faultP pn.1 pn.2)

theorem pmF_err {ts : List Tok} {s : St} (h : pmF ts s ≠ gone) : ∃ pn, kindR 1 ts s = .error pn ∧ pmF ts s = .error pn := by
  unfold pmF at h ⊢
  rcases hk : kindR 1 ts s with pn | ⟨t, s'⟩
  · exact ⟨pn, rfl, rfl⟩
  · rw [hk] at h; exact absurd rfl h

set_option maxRecDepth 100000 in
theorem param_pan (b g cap : Nat) (ts : List Tok) (s : St) (w : World) (hw : PW b g cap ts s w) (hne : pmF ts s ≠ gone) :
    Calls Tryz.prog 52 #[.pointer (some ⟨b, 0, none⟩)] w (PanP b w (pmF ts s)) := by
  obtain ⟨pn, hk, hpm⟩ := pmF_err hne
  obtain ⟨W, hW⟩ : ∃ W, W = w.alloc (.cells #[.string ⟨#[]⟩, .int .u8 0, .int .i64 0] 76) := ⟨_, rfl⟩
  have hbW : Below w.heap.size w W := by rw [hW]; exact (Below.refl _ _).alloc (Nat.le_refl _) _
  have HK := Lib.hid (kind_any b g cap ts s 1 (by decide) W (hw.below hbW))
  have HB := Lib.hid hbW
  have HWW := Lib.hid hW
  have HE := Lib.hid (And.intro hk hpm)
  clear hw hne hbW hW hk hpm
  go_enter Tryz.func52, Tryz.ntmps52
  go_wp2_with fail
  rw [← HWW.out]
  refine HK.out.mono ?_
  rintro e w1 h1
  rcases h1.elim with ⟨pn', hr, hg, rfl⟩ | ⟨t, s', hr, hg, _, hp⟩
  · obtain rfl : pn = pn' := by have := HE.out.1.symm.trans hr; simpa using this
    have FIN := Lib.hid (gtrans (row := some b) (grown_of_below HB.out) hg)
    clear hg hr h1
    go_wp2
    exact ⟨rfl, pn, HE.out.2, FIN.out, rfl⟩
  · have := HE.out.1.symm.trans hr
    cases this

set_option maxRecDepth 100000 in
set_option maxHeartbeats 1000000 in
theorem item_pan (b g cap : Nat) (ts : List Tok) (s : St) (fb pb : Nat) (v : Value) (w : World) (hw : PW b g cap ts s w) (hne : pmF ts s ≠ gone) (hf : w.cell? ⟨fb, 1, none⟩ = some v) (hv : ∃ a m c, v = .slice a m c) (hp : w.cell? ⟨pb, 0, none⟩ = some (.pointer (some ⟨b, 0, none⟩))) :
    Calls Tryz.prog 51 #[.pointer (some ⟨fb, 0, none⟩), .pointer (some ⟨pb, 0, none⟩)] w (PanP b w (pmF ts s)) := by
  obtain ⟨a, m, c, rfl⟩ := hv
  have HC := Lib.hid (fun w1 (h1 : PW b g cap ts s w1) => param_pan b g cap ts s w1 h1 hne)
  have HW := Lib.hid hw
  clear hw hne
  go_enter Tryz.func51, Tryz.ntmps51
  refine wp_region_any (by kernel_rfl) ?_
  change wpAny _ _ _ _ _ _ _ (World.drew _)
  refine wpAny_ready (rs := [0, 2]) (by kernel_rfl) (by simp) ?_
  refine AllReady.cons rfl (fun K hK => ?_) ?_
  · go_simp
    refine hK _ _ ?_
    clear hK K
    refine wpAny_ready (rs := [1, 2]) (by kernel_rfl) (by simp) ?_
    refine AllReady.cons rfl (fun K hK => ?_) ?_
    · go_simp
      refine hK _ _ ?_
      clear hK K
      refine wpAny_ready (rs := [2]) (by kernel_rfl) (by simp) ?_
      refine AllReady.cons rfl (fun K hK => ?_) ?_
      · go_simp
        refine hK _ _ ?_
        clear hK K
        refine wpAny_ready (rs := [3]) (by kernel_rfl) (by simp) ?_
        refine AllReady.cons rfl (fun K hK => ?_) ?_
        · go_simp
          refine (HC.out _ (HW.out.below (Below.refl _ _).drew)).mono ?_
          rintro e w' ⟨pn, hr, hg, rfl⟩
          exact ⟨rfl, pn, hr, gtrans (grown_of_below (Below.refl _ _).drew) hg, rfl⟩
        exact AllReady.nil
      exact AllReady.nil
    refine AllReady.cons rfl (fun K hK => ?_) ?_
    · go_simp
      refine hK _ _ ?_
      clear hK K
      refine wpAny_ready (rs := [1, 3]) (by kernel_rfl) (by simp) ?_
      refine AllReady.cons rfl (fun K hK => ?_) ?_
      · go_simp
        refine hK _ _ ?_
        clear hK K
        refine wpAny_ready (rs := [3]) (by kernel_rfl) (by simp) ?_
        refine AllReady.cons rfl (fun K hK => ?_) ?_
        · go_simp
          refine (HC.out _ (HW.out.below (Below.refl _ _).drew)).mono ?_
          rintro e w' ⟨pn, hr, hg, rfl⟩
          exact ⟨rfl, pn, hr, gtrans (grown_of_below (Below.refl _ _).drew) hg, rfl⟩
        exact AllReady.nil
      refine AllReady.cons rfl (fun K hK => ?_) ?_
      · go_simp
        refine (HC.out _ (HW.out.below (Below.refl _ _).drew)).mono ?_
        rintro e w' ⟨pn, hr, hg, rfl⟩
        exact ⟨rfl, pn, hr, gtrans (grown_of_below (Below.refl _ _).drew) hg, rfl⟩
      exact AllReady.nil
    exact AllReady.nil
  refine AllReady.cons rfl (fun K hK => ?_) ?_
  · go_simp
    refine hK _ _ ?_
    clear hK K
    refine wpAny_ready (rs := [0, 3]) (by kernel_rfl) (by simp) ?_
    refine AllReady.cons rfl (fun K hK => ?_) ?_
    · go_simp
      refine hK _ _ ?_
      clear hK K
      refine wpAny_ready (rs := [1, 3]) (by kernel_rfl) (by simp) ?_
      refine AllReady.cons rfl (fun K hK => ?_) ?_
      · go_simp
        refine hK _ _ ?_
        clear hK K
        refine wpAny_ready (rs := [3]) (by kernel_rfl) (by simp) ?_
        refine AllReady.cons rfl (fun K hK => ?_) ?_
        · go_simp
          refine (HC.out _ (HW.out.below (Below.refl _ _).drew)).mono ?_
          rintro e w' ⟨pn, hr, hg, rfl⟩
          exact ⟨rfl, pn, hr, gtrans (grown_of_below (Below.refl _ _).drew) hg, rfl⟩
        exact AllReady.nil
      refine AllReady.cons rfl (fun K hK => ?_) ?_
      · go_simp
        refine (HC.out _ (HW.out.below (Below.refl _ _).drew)).mono ?_
        rintro e w' ⟨pn, hr, hg, rfl⟩
        exact ⟨rfl, pn, hr, gtrans (grown_of_below (Below.refl _ _).drew) hg, rfl⟩
      exact AllReady.nil
    refine AllReady.cons rfl (fun K hK => ?_) ?_
    · go_simp
      refine (HC.out _ (HW.out.below (Below.refl _ _).drew)).mono ?_
      rintro e w' ⟨pn, hr, hg, rfl⟩
      exact ⟨rfl, pn, hr, gtrans (grown_of_below (Below.refl _ _).drew) hg, rfl⟩
    exact AllReady.nil
  exact AllReady.nil

/-- A list in brackets, none of whose items is one. -/
def listR (ts : List Tok) (s : St) : R Unit := bindR (expectR [40] ts s) fun _ s => bindR (if (tk ts s.i).text = [41] then .ok ((), s) else bindR (pmF ts s) fun _ _ => gone) fun _ s => bindR (expectR [41] ts s) fun _ s => .ok ((), s)
abbrev unitE (_ : Unit) (e : Ending) (_ : World) : Prop := e = .returned (.tuple #[])

set_option maxRecDepth 100000 in
set_option maxHeartbeats 1000000 in
theorem list_any (b g cap : Nat) (ts : List Tok) (s : St) (fb pb : Nat) (v : Value) (hbf : fb ≠ b) (hbp : pb ≠ b) (w : World) (hw : PW b g cap ts s w) (hne : listR ts s ≠ gone) (hf : w.cell? ⟨fb, 1, none⟩ = some v) (hv : ∃ a m c, v = .slice a m c) (hp : w.cell? ⟨pb, 0, none⟩ = some (.pointer (some ⟨b, 0, none⟩))) :
    Calls Tryz.prog 50 #[.pointer (some ⟨b, 0, none⟩), .func (.func 51) #[] #[.pointer (some ⟨fb, 0, none⟩), .pointer (some ⟨pb, 0, none⟩)]] w (RPost b g cap ts w unitE (listR ts s)) := by
  have HRB := Lib.hid (listR.eq_1 ts s)
  have HNE := Lib.hid hne
  have HE1 := Lib.hid (expect_any b g cap ts s [40] (by simp) w hw)
  have HIs := Lib.hid fun s' w1 (h1 : PW b g cap ts s' w1) => is_any b g cap ts s' [41] w1 h1
  have HExp := Lib.hid fun s' w1 (h1 : PW b g cap ts s' w1) => expect_any b g cap ts s' [41] (by simp) w1 h1
  have HIt := Lib.hid fun s' w1 (h1 : PW b g cap ts s' w1) (h2 : pmF ts s' ≠ gone) h3 h4 => item_pan b g cap ts s' fb pb v w1 h1 h2 h3 hv h4
  have HC := Lib.hid (And.intro hf hp)
  clear hw hne hf hp hv
  go_enter Tryz.func50, Tryz.ntmps50
  go_wp2_with fail
  refine HE1.out.mono ?_
  rintro e w1 h1
  rcases h1.elim with ⟨pn, hr, hg, rfl⟩ | ⟨⟨q0, q1, q2, q3⟩, s1, hr, hg, rfl, hp⟩
  · have FIN := Lib.hid (RPost.err (α := Unit) (g := g) (cap := cap) (ts := ts) (V := unitE) (HRB.out.trans (by rw [hr]; rfl)) hg)
    clear hg hr h1
    go_wp2
    exact ⟨rfl, FIN.out⟩
  · have hne2 := HNE.out
    unfold listR at hne2
    rw [hr, bindR_ok] at hne2
    have HR1 := Lib.hid (HRB.out.trans (by rw [hr, bindR_ok]))
    have HI := HIs.out s1 w1 hp
    have HP1 := Lib.hid (And.intro hg hp)
    clear hg hr h1 hp HE1
    unfold tokV'
    by_cases hend : (tk ts s1.i).text = [41]
    · rw [show ((tk ts s1.i).text == [41]) = true from by simpa using hend] at HI
      have HI := Lib.hid HI
      have HR2 := Lib.hid (HR1.out.trans (by rw [if_pos hend, bindR_ok]))
      clear hend hne2
      go_wp2_with fail
      refine HI.out.mono ?_
      rintro e w2 ⟨rfl, hb2⟩
      have HE := Lib.hid (HExp.out s1 w2 (HP1.out.2.below hb2))
      have HB2 := Lib.hid hb2
      clear hb2
      go_wp2_with fail
      refine HE.out.mono ?_
      rintro e w3 h3
      rcases h3.elim with ⟨pn, hr, hg, rfl⟩ | ⟨⟨z0, z1, z2, z3⟩, s3, hr, hg, rfl, hp⟩
      · have FIN := Lib.hid (RPost.err (α := Unit) (g := g) (cap := cap) (ts := ts) (V := unitE) (HR2.out.trans (by rw [hr]; rfl)) (gtrans (row := some b) (gtrans HP1.out.1 (grown_of_below HB2.out)) hg))
        clear hg hr h3
        go_wp2
        exact ⟨rfl, FIN.out⟩
      · have FIN := Lib.hid (RPost.ok (a := ()) (V := unitE) (e := .returned (.tuple #[])) (HR2.out.trans (by rw [hr, bindR_ok])) (gtrans (row := some b) (gtrans HP1.out.1 (grown_of_below HB2.out)) hg) rfl hp)
        clear hg hr h3 hp
        unfold tokV'
        go_wp2
        go_end0
        exact FIN.out
    · rw [show ((tk ts s1.i).text == [41]) = false from by simpa using hend] at HI
      have HI := Lib.hid HI
      rw [if_neg hend] at hne2
      have HR2 := Lib.hid (HR1.out.trans (by rw [if_neg hend]))
      have hpm := bindR_gone (bindR_gone hne2)
      have HPM := Lib.hid hpm
      clear hend hne2 hpm
      go_wp2_with fail
      refine HI.out.mono ?_
      rintro e w2 ⟨rfl, hb2⟩
      have hgg := gtrans (row := some b) HP1.out.1 (grown_of_below hb2)
      have HE := Lib.hid (HIt.out s1 w2 (HP1.out.2.below hb2) HPM.out (hgg.cell HC.out.1 (by simpa using hbf)) (hgg.cell HC.out.2 (by simpa using hbp)))
      have HGG := Lib.hid hgg
      clear hb2 hgg
      go_wp2_with fail
      refine HE.out.mono ?_
      rintro e w3 ⟨pn, hr, hg, rfl⟩
      have FIN := Lib.hid (RPost.err (α := Unit) (g := g) (cap := cap) (ts := ts) (V := unitE) (HR2.out.trans (by rw [hr]; rfl)) (gtrans (row := some b) HGG.out hg))
      clear hg hr
      go_wp2
      exact ⟨rfl, FIN.out⟩
end Go.Proofs.YtoimhdejfeclpaaGreatDoor
