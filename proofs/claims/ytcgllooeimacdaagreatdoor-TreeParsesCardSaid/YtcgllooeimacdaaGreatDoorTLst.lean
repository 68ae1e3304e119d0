/-
  Items in brackets, with commas between, whatever an item is: of the arguments of a call, of the parameters of a function.
-/
import Derived.Test.YtcgllooeimacdaaGreatDoorTUn
import Derived.Test.YtcgllooeimacdaaGreatDoorTBal
import Derived.Deep.LoopGhost
namespace Go.Proofs.YtcgllooeimacdaaGreatDoor
open Go Go.RowKit Px
open Lx (Tok)

theorem listB_eq {α : Type} (ts : List Tok) (item : St → R α) (n : Nat) (s : St) : listB ts item n s = bindR (expectR [40] ts s) fun _ s => bindR (if (tk ts s.i).text = [41] then .ok ([], s) else bindR (item s) fun x s => itemsB ts item n [x] s) fun l s => bindR (expectR [41] ts s) fun _ s => .ok (l, s) := rfl
theorem itemsB_succ {α : Type} (ts : List Tok) (item : St → R α) (n : Nat) (l : List α) (s : St) : itemsB ts item (n + 1) l s = if (tk ts s.i).text = [44] then bindR (takeR ts s) fun _ s => bindR (item s) fun x s => itemsB ts item n (l ++ [x]) s else .ok (l, s) := rfl

/-- What a list leaves: I says what lies in memory of the items, E what holds of memory whatever happens. -/
def LsPost {α : Type} (b g cap : Nat) (ts : List Tok) (I : List α → World → Prop) (E : World → Prop) (r : R (List α)) (e : Ending) (w' : World) : Prop := match r with
  | .error pn => e = .panicked (faultP pn.1 pn.2) ∧ E w'
  | .ok (l, s') => e = .returned (.tuple #[]) ∧ I l w' ∧ PW b g cap ts s' w'
def ItPost {α : Type} (b g cap : Nat) (ts : List Tok) (I : List α → World → Prop) (E : World → Prop) (l : List α) (r : R α) (e : Ending) (w' : World) : Prop := match r with
  | .error pn => e = .panicked (faultP pn.1 pn.2) ∧ E w'
  | .ok (x, s') => e = .returned (.tuple #[]) ∧ I (l ++ [x]) w' ∧ PW b g cap ts s' w'
section
variable {α : Type} {b g cap : Nat} {ts : List Tok} {I : List α → World → Prop} {E : World → Prop} {e : Ending} {w' : World}
theorem LsPost.err {r : R (List α)} {pn : Nat × Nat} (hr : r = .error pn) (h : E w') : LsPost b g cap ts I E r (.panicked (faultP pn.1 pn.2)) w' := by subst hr; exact ⟨rfl, h⟩
theorem LsPost.ok {r : R (List α)} {l : List α} {s' : St} (hr : r = .ok (l, s')) (h : I l w') (hp : PW b g cap ts s' w') : LsPost b g cap ts I E r (.returned (.tuple #[])) w' := by subst hr; exact ⟨rfl, h, hp⟩
theorem LsPost.elim {r : R (List α)} (h : LsPost b g cap ts I E r e w') : (∃ pn, r = .error pn ∧ E w' ∧ e = .panicked (faultP pn.1 pn.2)) ∨ (∃ l s', r = .ok (l, s') ∧ e = .returned (.tuple #[]) ∧ I l w' ∧ PW b g cap ts s' w') := by
  rcases r with pn | ⟨l, s'⟩
  · exact Or.inl ⟨pn, rfl, h.2, h.1⟩
  · exact Or.inr ⟨l, s', rfl, h.1, h.2.1, h.2.2⟩
theorem ItPost.err {l : List α} {r : R α} {pn : Nat × Nat} (hr : r = .error pn) (h : E w') : ItPost b g cap ts I E l r (.panicked (faultP pn.1 pn.2)) w' := by subst hr; exact ⟨rfl, h⟩
theorem ItPost.ok {l : List α} {r : R α} {x : α} {s' : St} (hr : r = .ok (x, s')) (h : I (l ++ [x]) w') (hp : PW b g cap ts s' w') : ItPost b g cap ts I E l r (.returned (.tuple #[])) w' := by subst hr; exact ⟨rfl, h, hp⟩
theorem ItPost.elim {l : List α} {r : R α} (h : ItPost b g cap ts I E l r e w') : (∃ pn, r = .error pn ∧ E w' ∧ e = .panicked (faultP pn.1 pn.2)) ∨ (∃ x s', r = .ok (x, s') ∧ e = .returned (.tuple #[]) ∧ I (l ++ [x]) w' ∧ PW b g cap ts s' w') := by
  rcases r with pn | ⟨x, s'⟩
  · exact Or.inl ⟨pn, rfl, h.2, h.1⟩
  · exact Or.inr ⟨x, s', rfl, h.1, h.2.1, h.2.2⟩
end
/-- What holds ahead of each comma. -/
def ItRel {α : Type} (b g cap : Nat) (ts : List Tok) (item : St → R α) (I : List α → World → Prop) (n : Nat) (r0 : R (List α)) (gk : Nat) (wr : World) : Prop :=
  ∃ (l : List α) (s' : St), gk ≤ n ∧ r0 = itemsB ts item gk l s' ∧ itemsB ts item gk l s' ≠ gone ∧ I l wr ∧ PW b g cap ts s' wr ∧ l.length ≤ s'.i

set_option maxRecDepth 100000 in
set_option maxHeartbeats 1000000 in
theorem list_args {α : Type} (item : St → R α) (I : List α → World → Prop) (E : World → Prop) (b g cap : Nat) (ts : List Tok) (capt : Array Value) (hst : ∀ l w w', I l w → w.grownBy w' (some b) → I l w') (hE : ∀ l w, I l w → E w) (hmono : ∀ s x s', item s = .ok (x, s') → s.i ≤ s'.i)
    (hitem : ∀ l s w, l.length < s.i → I l w → PW b g cap ts s w → item s ≠ gone → Calls Tryz.prog 121 capt w (ItPost b g cap ts I E l (item s))) (n : Nat) (s : St) (w : World) (hI : I [] w) (hw : PW b g cap ts s w) (hne : listB ts item n s ≠ gone) :
    Calls Tryz.prog 50 #[.pointer (some ⟨b, 0, none⟩), .func (.func 121) #[] capt] w (LsPost b g cap ts I E (listB ts item n s)) := by
  have HRB := Lib.hid (listB_eq ts item n s)
  have HNE := Lib.hid hne
  have HE1 := Lib.hid (expect_any b g cap ts s [40] (by simp) w hw)
  have HIs := Lib.hid fun s' w1 (h1 : PW b g cap ts s' w1) => is_any b g cap ts s' [41] w1 h1
  have HExp := Lib.hid fun s' w1 (h1 : PW b g cap ts s' w1) => expect_any b g cap ts s' [41] (by simp) w1 h1
  have HNo := Lib.hid fun s' w1 (h1 : PW b g cap ts s' w1) h => accept_no b g cap ts s' [44] w1 h1 h
  have HYes := Lib.hid fun s' w1 (h1 : PW b g cap ts s' w1) h => accept_yes b g cap ts s' [44] (by simp) w1 h1 h
  have HIt := Lib.hid hitem
  have HST := Lib.hid hst
  have HEE := Lib.hid hE
  have HMO := Lib.hid hmono
  have HI := Lib.hid hI
  clear hw hne hst hE hmono hitem hI
  go_enter Tryz.func50, Tryz.ntmps50
  go_wp2_with fail
  refine HE1.out.mono ?_
  rintro e w1 h1
  rcases h1.elim with ⟨pn, hr, hg, rfl⟩ | ⟨⟨q0, q1, q2, q3⟩, s1, hr, hg, rfl, hp⟩
  · have FIN := Lib.hid (LsPost.err (I := I) (b := b) (g := g) (cap := cap) (ts := ts) (HRB.out.trans (by rw [hr]; rfl)) (HEE.out _ _ (HST.out _ _ _ HI.out hg)))
    clear hg hr h1
    go_wp2
    exact ⟨rfl, FIN.out⟩
  · have hne2 := HNE.out
    rw [listB_eq, hr, bindR_ok] at hne2
    have HR1 := Lib.hid (HRB.out.trans (by rw [hr, bindR_ok]))
    have hi1 := expectR_i hr
    have HIS := HIs.out s1 w1 hp
    have HP1 := Lib.hid (And.intro (HST.out _ _ _ HI.out hg) hp)
    clear hg hr h1 hp HE1
    unfold tokV'
    by_cases hend : (tk ts s1.i).text = [41]
    · rw [show ((tk ts s1.i).text == [41]) = true from by simpa using hend] at HIS
      have HIS := Lib.hid HIS
      have HR2 := Lib.hid (HR1.out.trans (by rw [if_pos hend, bindR_ok]))
      clear hend hne2
      go_wp2_with fail
      refine HIS.out.mono ?_
      rintro e w2 ⟨rfl, hb2⟩
      have HE := Lib.hid (HExp.out s1 w2 (HP1.out.2.below hb2))
      have HB2 := Lib.hid (HST.out _ _ _ HP1.out.1 (grown_of_below hb2))
      clear hb2
      go_wp2_with fail
      refine HE.out.mono ?_
      rintro e w3 h3
      rcases h3.elim with ⟨pn, hr, hg, rfl⟩ | ⟨⟨z0, z1, z2, z3⟩, s3, hr, hg, rfl, hp⟩
      · have FIN := Lib.hid (LsPost.err (I := I) (b := b) (g := g) (cap := cap) (ts := ts) (HR2.out.trans (by rw [hr]; rfl)) (HEE.out _ _ (HST.out _ _ _ HB2.out hg)))
        clear hg hr h3
        go_wp2
        exact ⟨rfl, FIN.out⟩
      · have FIN := Lib.hid (LsPost.ok (E := E) (HR2.out.trans (by rw [hr, bindR_ok])) (HST.out _ _ _ HB2.out hg) hp)
        clear hg hr h3 hp
        unfold tokV'
        go_wp2
        go_end0
        exact FIN.out
    · rw [show ((tk ts s1.i).text == [41]) = false from by simpa using hend] at HIS
      have HIS := Lib.hid HIS
      rw [if_neg hend] at hne2
      have HR2 := Lib.hid (HR1.out.trans (by rw [if_neg hend]))
      have HNE2 := Lib.hid hne2
      clear hend hne2
      go_wp2_with fail
      refine HIS.out.mono ?_
      rintro e w2 ⟨rfl, hb2⟩
      have HE := Lib.hid (HIt.out [] s1 w2 (by simp; omega) (HST.out _ _ _ HP1.out.1 (grown_of_below hb2)) (HP1.out.2.below hb2) (bindR_gone (bindR_gone HNE2.out)))
      clear hb2
      go_wp2_with fail
      refine HE.out.mono ?_
      rintro e w3 h3
      rcases h3.elim with ⟨pn, hr, hee, rfl⟩ | ⟨x, s2, hr, rfl, hii, hp⟩
      · have FIN := Lib.hid (LsPost.err (I := I) (b := b) (g := g) (cap := cap) (ts := ts) (HR2.out.trans (by rw [hr]; rfl)) hee)
        clear hr h3 hee
        go_wp2
        exact ⟨rfl, FIN.out⟩
      · have hm2 := HMO.out _ _ _ hr
        have hne3 := HNE2.out
        rw [hr, bindR_ok] at hne3
        have HR3 := Lib.hid (HR2.out.trans (by rw [hr, bindR_ok]))
        have HREL := Lib.hid (show ItRel b g cap ts item I n (itemsB ts item n [x] s2) n w3 from ⟨[x], s2, Nat.le_refl _, rfl, bindR_gone hne3, hii, hp, by simp; omega⟩)
        clear hr h3 hii hp hne3 hm2 HE
        go_upto_region 3 with (fail)
        go_loopg [] n (fun gk wr => ItRel b g cap ts item I n (itemsB ts item n [x] s2) gk wr)
        case atStart => exact HREL.out
        case round =>
          obtain ⟨l, s4, hgk, h0, hng, hil, hp, hll⟩ := hrel
          cases gk with
          | zero => exact absurd (by rw [itemsB]) hng
          | succ gk =>
            rw [itemsB_succ] at h0 hng
            have HR := Lib.hid (And.intro hil hp)
            clear hil hp
            by_cases hc : (tk ts s4.i).text = [44]
            · rw [if_pos hc] at h0 hng
              have H0 := Lib.hid h0
              have HNG := Lib.hid hng
              have HY := Lib.hid (HYes.out s4 wr HR.out.2 hc)
              clear h0 hng hc
              go_wp2_with fail
              refine HY.out.mono ?_
              rintro e w5 h5
              rcases h5.elim with ⟨pn, hr, hg, rfl⟩ | ⟨tt, s5, hr, hg, rfl, hp⟩
              · have FIN := Lib.hid (LsPost.err (I := I) (b := b) (g := g) (cap := cap) (ts := ts) (HR3.out.trans (by rw [H0.out, hr]; rfl)) (HEE.out _ _ (HST.out _ _ _ HR.out.1 hg)))
                clear hg hr h5
                go_wp2
                exact ⟨rfl, FIN.out⟩
              · have hng5 := HNG.out
                rw [hr, bindR_ok] at hng5
                have HNG5 := Lib.hid hng5
                have hi5 := takeR_i hr
                have H05 := Lib.hid (H0.out.trans (by rw [hr, bindR_ok]))
                have HE5 := Lib.hid (HIt.out l s5 w5 (by omega) (HST.out _ _ _ HR.out.1 hg) hp (bindR_gone hng5))
                clear hr h5 hg hp hng5 HY
                go_wp2_with fail
                refine HE5.out.mono ?_
                rintro e w6 h6
                rcases h6.elim with ⟨pn, hr, hee, rfl⟩ | ⟨y, s6, hr, rfl, hii, hp⟩
                · have FIN := Lib.hid (LsPost.err (I := I) (b := b) (g := g) (cap := cap) (ts := ts) (HR3.out.trans (by rw [H05.out, hr]; rfl)) hee)
                  clear hr h6 hee
                  go_wp2
                  exact ⟨rfl, FIN.out⟩
                · have hm6 := HMO.out _ _ _ hr
                  have H06 := H05.out.trans (by rw [hr, bindR_ok])
                  have hng6 := HNG5.out
                  rw [hr, bindR_ok] at hng6
                  have FIN := Lib.hid (show ItRel b g cap ts item I n (itemsB ts item n [x] s2) gk w6 from ⟨l ++ [y], s6, by omega, H06, hng6, hii, hp, by rw [List.length_append, List.length_singleton]; omega⟩)
                  clear hr h6 hii hp hng6 H06 HE5
                  go_wp2
                  go_roundg gk
                  case measure => omega
                  case rel => exact FIN.out
            · rw [if_neg hc] at h0
              have H0 := Lib.hid h0
              have HN := Lib.hid (HNo.out s4 wr HR.out.2 hc)
              clear h0 hng hc
              go_wp2_with fail
              refine HN.out.mono ?_
              rintro e w5 ⟨rfl, hb5⟩
              have HI5 := Lib.hid (HST.out _ _ _ HR.out.1 (grown_of_below hb5))
              have HE5 := Lib.hid (HExp.out s4 w5 (HR.out.2.below hb5))
              clear hb5
              go_wp2_with fail
              refine HE5.out.mono ?_
              rintro e w6 h6
              rcases h6.elim with ⟨pn, hr, hg, rfl⟩ | ⟨⟨z0, z1, z2, z3⟩, s6, hr, hg, rfl, hp⟩
              · have FIN := Lib.hid (LsPost.err (I := I) (b := b) (g := g) (cap := cap) (ts := ts) (HR3.out.trans (by rw [H0.out, bindR_ok, hr]; rfl)) (HEE.out _ _ (HST.out _ _ _ HI5.out hg)))
                clear hg hr h6
                go_wp2
                exact ⟨rfl, FIN.out⟩
              · have FIN := Lib.hid (LsPost.ok (E := E) (HR3.out.trans (by rw [H0.out, bindR_ok, hr, bindR_ok])) (HST.out _ _ _ HI5.out hg) hp)
                clear hg hr h6 hp
                unfold tokV'
                go_wp2
                go_end0
                exact FIN.out

set_option maxRecDepth 100000 in
set_option maxHeartbeats 1000000 in
theorem list_pms {α : Type} (item : St → R α) (I : List α → World → Prop) (E : World → Prop) (b g cap : Nat) (ts : List Tok) (capt : Array Value) (hst : ∀ l w w', I l w → w.grownBy w' (some b) → I l w') (hE : ∀ l w, I l w → E w) (hmono : ∀ s x s', item s = .ok (x, s') → s.i ≤ s'.i)
    (hitem : ∀ l s w, l.length < s.i → I l w → PW b g cap ts s w → item s ≠ gone → Calls Tryz.prog 51 capt w (ItPost b g cap ts I E l (item s))) (n : Nat) (s : St) (w : World) (hI : I [] w) (hw : PW b g cap ts s w) (hne : listB ts item n s ≠ gone) :
    Calls Tryz.prog 50 #[.pointer (some ⟨b, 0, none⟩), .func (.func 51) #[] capt] w (LsPost b g cap ts I E (listB ts item n s)) := by
  have HRB := Lib.hid (listB_eq ts item n s)
  have HNE := Lib.hid hne
  have HE1 := Lib.hid (expect_any b g cap ts s [40] (by simp) w hw)
  have HIs := Lib.hid fun s' w1 (h1 : PW b g cap ts s' w1) => is_any b g cap ts s' [41] w1 h1
  have HExp := Lib.hid fun s' w1 (h1 : PW b g cap ts s' w1) => expect_any b g cap ts s' [41] (by simp) w1 h1
  have HNo := Lib.hid fun s' w1 (h1 : PW b g cap ts s' w1) h => accept_no b g cap ts s' [44] w1 h1 h
  have HYes := Lib.hid fun s' w1 (h1 : PW b g cap ts s' w1) h => accept_yes b g cap ts s' [44] (by simp) w1 h1 h
  have HIt := Lib.hid hitem
  have HST := Lib.hid hst
  have HEE := Lib.hid hE
  have HMO := Lib.hid hmono
  have HI := Lib.hid hI
  clear hw hne hst hE hmono hitem hI
  go_enter Tryz.func50, Tryz.ntmps50
  go_wp2_with fail
  refine HE1.out.mono ?_
  rintro e w1 h1
  rcases h1.elim with ⟨pn, hr, hg, rfl⟩ | ⟨⟨q0, q1, q2, q3⟩, s1, hr, hg, rfl, hp⟩
  · have FIN := Lib.hid (LsPost.err (I := I) (b := b) (g := g) (cap := cap) (ts := ts) (HRB.out.trans (by rw [hr]; rfl)) (HEE.out _ _ (HST.out _ _ _ HI.out hg)))
    clear hg hr h1
    go_wp2
    exact ⟨rfl, FIN.out⟩
  · have hne2 := HNE.out
    rw [listB_eq, hr, bindR_ok] at hne2
    have HR1 := Lib.hid (HRB.out.trans (by rw [hr, bindR_ok]))
    have hi1 := expectR_i hr
    have HIS := HIs.out s1 w1 hp
    have HP1 := Lib.hid (And.intro (HST.out _ _ _ HI.out hg) hp)
    clear hg hr h1 hp HE1
    unfold tokV'
    by_cases hend : (tk ts s1.i).text = [41]
    · rw [show ((tk ts s1.i).text == [41]) = true from by simpa using hend] at HIS
      have HIS := Lib.hid HIS
      have HR2 := Lib.hid (HR1.out.trans (by rw [if_pos hend, bindR_ok]))
      clear hend hne2
      go_wp2_with fail
      refine HIS.out.mono ?_
      rintro e w2 ⟨rfl, hb2⟩
      have HE := Lib.hid (HExp.out s1 w2 (HP1.out.2.below hb2))
      have HB2 := Lib.hid (HST.out _ _ _ HP1.out.1 (grown_of_below hb2))
      clear hb2
      go_wp2_with fail
      refine HE.out.mono ?_
      rintro e w3 h3
      rcases h3.elim with ⟨pn, hr, hg, rfl⟩ | ⟨⟨z0, z1, z2, z3⟩, s3, hr, hg, rfl, hp⟩
      · have FIN := Lib.hid (LsPost.err (I := I) (b := b) (g := g) (cap := cap) (ts := ts) (HR2.out.trans (by rw [hr]; rfl)) (HEE.out _ _ (HST.out _ _ _ HB2.out hg)))
        clear hg hr h3
        go_wp2
        exact ⟨rfl, FIN.out⟩
      · have FIN := Lib.hid (LsPost.ok (E := E) (HR2.out.trans (by rw [hr, bindR_ok])) (HST.out _ _ _ HB2.out hg) hp)
        clear hg hr h3 hp
        unfold tokV'
        go_wp2
        go_end0
        exact FIN.out
    · rw [show ((tk ts s1.i).text == [41]) = false from by simpa using hend] at HIS
      have HIS := Lib.hid HIS
      rw [if_neg hend] at hne2
      have HR2 := Lib.hid (HR1.out.trans (by rw [if_neg hend]))
      have HNE2 := Lib.hid hne2
      clear hend hne2
      go_wp2_with fail
      refine HIS.out.mono ?_
      rintro e w2 ⟨rfl, hb2⟩
      have HE := Lib.hid (HIt.out [] s1 w2 (by simp; omega) (HST.out _ _ _ HP1.out.1 (grown_of_below hb2)) (HP1.out.2.below hb2) (bindR_gone (bindR_gone HNE2.out)))
      clear hb2
      go_wp2_with fail
      refine HE.out.mono ?_
      rintro e w3 h3
      rcases h3.elim with ⟨pn, hr, hee, rfl⟩ | ⟨x, s2, hr, rfl, hii, hp⟩
      · have FIN := Lib.hid (LsPost.err (I := I) (b := b) (g := g) (cap := cap) (ts := ts) (HR2.out.trans (by rw [hr]; rfl)) hee)
        clear hr h3 hee
        go_wp2
        exact ⟨rfl, FIN.out⟩
      · have hm2 := HMO.out _ _ _ hr
        have hne3 := HNE2.out
        rw [hr, bindR_ok] at hne3
        have HR3 := Lib.hid (HR2.out.trans (by rw [hr, bindR_ok]))
        have HREL := Lib.hid (show ItRel b g cap ts item I n (itemsB ts item n [x] s2) n w3 from ⟨[x], s2, Nat.le_refl _, rfl, bindR_gone hne3, hii, hp, by simp; omega⟩)
        clear hr h3 hii hp hne3 hm2 HE
        go_upto_region 3 with (fail)
        go_loopg [] n (fun gk wr => ItRel b g cap ts item I n (itemsB ts item n [x] s2) gk wr)
        case atStart => exact HREL.out
        case round =>
          obtain ⟨l, s4, hgk, h0, hng, hil, hp, hll⟩ := hrel
          cases gk with
          | zero => exact absurd (by rw [itemsB]) hng
          | succ gk =>
            rw [itemsB_succ] at h0 hng
            have HR := Lib.hid (And.intro hil hp)
            clear hil hp
            by_cases hc : (tk ts s4.i).text = [44]
            · rw [if_pos hc] at h0 hng
              have H0 := Lib.hid h0
              have HNG := Lib.hid hng
              have HY := Lib.hid (HYes.out s4 wr HR.out.2 hc)
              clear h0 hng hc
              go_wp2_with fail
              refine HY.out.mono ?_
              rintro e w5 h5
              rcases h5.elim with ⟨pn, hr, hg, rfl⟩ | ⟨tt, s5, hr, hg, rfl, hp⟩
              · have FIN := Lib.hid (LsPost.err (I := I) (b := b) (g := g) (cap := cap) (ts := ts) (HR3.out.trans (by rw [H0.out, hr]; rfl)) (HEE.out _ _ (HST.out _ _ _ HR.out.1 hg)))
                clear hg hr h5
                go_wp2
                exact ⟨rfl, FIN.out⟩
              · have hng5 := HNG.out
                rw [hr, bindR_ok] at hng5
                have HNG5 := Lib.hid hng5
                have hi5 := takeR_i hr
                have H05 := Lib.hid (H0.out.trans (by rw [hr, bindR_ok]))
                have HE5 := Lib.hid (HIt.out l s5 w5 (by omega) (HST.out _ _ _ HR.out.1 hg) hp (bindR_gone hng5))
                clear hr h5 hg hp hng5 HY
                go_wp2_with fail
                refine HE5.out.mono ?_
                rintro e w6 h6
                rcases h6.elim with ⟨pn, hr, hee, rfl⟩ | ⟨y, s6, hr, rfl, hii, hp⟩
                · have FIN := Lib.hid (LsPost.err (I := I) (b := b) (g := g) (cap := cap) (ts := ts) (HR3.out.trans (by rw [H05.out, hr]; rfl)) hee)
                  clear hr h6 hee
                  go_wp2
                  exact ⟨rfl, FIN.out⟩
                · have hm6 := HMO.out _ _ _ hr
                  have H06 := H05.out.trans (by rw [hr, bindR_ok])
                  have hng6 := HNG5.out
                  rw [hr, bindR_ok] at hng6
                  have FIN := Lib.hid (show ItRel b g cap ts item I n (itemsB ts item n [x] s2) gk w6 from ⟨l ++ [y], s6, by omega, H06, hng6, hii, hp, by rw [List.length_append, List.length_singleton]; omega⟩)
                  clear hr h6 hii hp hng6 H06 HE5
                  go_wp2
                  go_roundg gk
                  case measure => omega
                  case rel => exact FIN.out
            · rw [if_neg hc] at h0
              have H0 := Lib.hid h0
              have HN := Lib.hid (HNo.out s4 wr HR.out.2 hc)
              clear h0 hng hc
              go_wp2_with fail
              refine HN.out.mono ?_
              rintro e w5 ⟨rfl, hb5⟩
              have HI5 := Lib.hid (HST.out _ _ _ HR.out.1 (grown_of_below hb5))
              have HE5 := Lib.hid (HExp.out s4 w5 (HR.out.2.below hb5))
              clear hb5
              go_wp2_with fail
              refine HE5.out.mono ?_
              rintro e w6 h6
              rcases h6.elim with ⟨pn, hr, hg, rfl⟩ | ⟨⟨z0, z1, z2, z3⟩, s6, hr, hg, rfl, hp⟩
              · have FIN := Lib.hid (LsPost.err (I := I) (b := b) (g := g) (cap := cap) (ts := ts) (HR3.out.trans (by rw [H0.out, bindR_ok, hr]; rfl)) (HEE.out _ _ (HST.out _ _ _ HI5.out hg)))
                clear hg hr h6
                go_wp2
                exact ⟨rfl, FIN.out⟩
              · have FIN := Lib.hid (LsPost.ok (E := E) (HR3.out.trans (by rw [H0.out, bindR_ok, hr, bindR_ok])) (HST.out _ _ _ HI5.out hg) hp)
                clear hg hr h6 hp
                unfold tokV'
                go_wp2
                go_end0
                exact FIN.out
end Go.Proofs.YtcgllooeimacdaaGreatDoor
