/-
  Joined: TAsk, TExprBase.
-/
import Derived.Test.YtcgllooeimacdaaGreatDoorTRead
import Derived.LoopTactic
import Derived.Deep.LoopGhost
import Derived.Deep.RegionHeld3
/-! Joined: TAsk, TKind. -/

namespace Go.Proofs.YtcgllooeimacdaaGreatDoor
open Go Go.RowKit Px
open Lx (Tok)

/-- What a reading comes to: a fault, or something, and where the reader is then. -/
def RPost {α : Type} (b g cap : Nat) (ts : List Tok) (w : World) (V : α → Ending → World → Prop) (r : R α) (e : Ending) (w' : World) : Prop :=
  w.grownBy w' (some b) ∧ match r with
    | .error pn => e = .panicked (faultP pn.1 pn.2)
    | .ok (a, s') => V a e w' ∧ PW b g cap ts s' w'
theorem RPost.elim {α : Type} {b g cap : Nat} {ts : List Tok} {w : World} {V : α → Ending → World → Prop} {r : R α} {e : Ending} {w' : World} (h : RPost b g cap ts w V r e w') :
    (∃ pn, r = .error pn ∧ w.grownBy w' (some b) ∧ e = .panicked (faultP pn.1 pn.2)) ∨ ∃ a s', r = .ok (a, s') ∧ w.grownBy w' (some b) ∧ V a e w' ∧ PW b g cap ts s' w' := by
  obtain ⟨hg, h⟩ := h
  rcases r with pn | ⟨a, s'⟩
  · exact Or.inl ⟨pn, rfl, hg, h⟩
  · exact Or.inr ⟨a, s', rfl, hg, h.1, h.2⟩
theorem RPost.err {α : Type} {b g cap : Nat} {ts : List Tok} {w : World} {V : α → Ending → World → Prop} {r : R α} {w' : World} {pn : Nat × Nat} (hr : r = .error pn) (hg : w.grownBy w' (some b)) : RPost b g cap ts w V r (.panicked (faultP pn.1 pn.2)) w' := by
  subst hr; exact ⟨hg, rfl⟩
theorem RPost.ok {α : Type} {b g cap : Nat} {ts : List Tok} {w : World} {V : α → Ending → World → Prop} {r : R α} {e : Ending} {w' : World} {a : α} {s' : St} (hr : r = .ok (a, s')) (hg : w.grownBy w' (some b)) (hv : V a e w') (hp : PW b g cap ts s' w') : RPost b g cap ts w V r e w' := by
  subst hr; exact ⟨hg, hv, hp⟩
abbrev tokE (t : Tok) (e : Ending) (_ : World) : Prop := e = .returned (tokV' t)
theorem take_R (b g cap : Nat) (ts : List Tok) (s : St) (w : World) (hw : PW b g cap ts s w) (hne : (tk ts s.i).kind ≠ 0 ∨ (tk ts s.i).text ≠ []) :
    Calls Tryz.prog 70 #[.pointer (some ⟨b, 0, none⟩)] w (RPost b g cap ts w tokE (takeR ts s)) := by
  refine (take_any b g cap ts s w hw hne).mono ?_
  intro e w' h
  unfold TkPost at h
  unfold RPost
  cases hr : takeR ts s with
  | error pn => rw [hr] at h; exact h
  | ok p => obtain ⟨t, s'⟩ := p; rw [hr] at h; exact h


abbrev boolE (x : Bool) (e : Ending) (_ : World) : Prop := e = .returned (.bool x)

set_option maxRecDepth 100000 in
theorem accept_any (b g cap : Nat) (ts : List Tok) (s : St) (x : Bytes) (hx : x ≠ []) (w : World) (hw : PW b g cap ts s w) :
    Calls Tryz.prog 53 #[.pointer (some ⟨b, 0, none⟩), .string ⟨x.toArray⟩] w (RPost b g cap ts w boolE (acceptR x ts s)) := by
  have HN := Lib.hid (is_any b g cap ts s x w hw)
  have HW := Lib.hid hw
  clear hw
  by_cases h : (tk ts s.i).text = x
  · have hq : ((tk ts s.i).text == x) = true := by simpa using h
    have HA := Lib.hid (show acceptR x ts s = bindR (takeR ts s) fun _ s => .ok (true, s) by unfold acceptR; rw [if_pos h])
    have HT := Lib.hid fun w1 (hb : Below w.heap.size w w1) => (take_R b g cap ts s w1 (HW.out.below hb) (Or.inr (by rw [h]; exact hx)))
    rw [hq] at HN
    clear h hq
    go_enter Tryz.func53, Tryz.ntmps53
    go_wp2_with fail
    refine HN.out.mono ?_
    rintro e w1 ⟨rfl, hb⟩
    have HB := Lib.hid hb
    clear hb
    go_wp2_with fail
    refine (HT.out w1 HB.out).mono ?_
    rintro e w2 h2
    rcases h2.elim with ⟨pn, hr, hg, rfl⟩ | ⟨t, s', hr, hg, rfl, hp⟩
    · have FIN := Lib.hid (RPost.err (α := Bool) (g := g) (cap := cap) (ts := ts) (V := boolE) (HA.out.trans (by rw [hr]; rfl)) (gtrans (row := some b) (grown_of_below HB.out) hg))
      clear hg hr h2
      go_wp2
      exact ⟨rfl, FIN.out⟩
    · have FIN := Lib.hid (RPost.ok (a := true) (V := boolE) (HA.out.trans (by rw [hr]; rfl)) (gtrans (row := some b) (grown_of_below HB.out) hg) rfl hp)
      clear hg hp hr h2
      unfold tokV'
      go_wp2
      go_ret
      exact FIN.out
  · have hq : ((tk ts s.i).text == x) = false := by simpa using h
    have HA := Lib.hid (show acceptR x ts s = .ok (false, s) by unfold acceptR; rw [if_neg h])
    rw [hq] at HN
    clear h hq
    go_enter Tryz.func53, Tryz.ntmps53
    go_wp2_with fail
    refine HN.out.mono ?_
    rintro e w1 ⟨rfl, hb⟩
    have HB := Lib.hid hb
    clear hb
    go_wp2
    go_ret
    exact RPost.ok HA.out (grown_of_below HB.out) rfl (HW.out.below HB.out)

/-- A token that is answered, written into the box of the result. -/
theorem tok_fin {b g cap : Nat} {ts : List Tok} {s s' : St} {w w2 : World} (hw : PW b g cap ts s w) (hg : w.grownBy w2 (some b)) {T : TypeId} {v0 v1 v2 v3 : Value} (hz : Blk w.heap.size #[v0, v1, v2, v3] T w2) (hp : PW b g cap ts s' w2) (u0 u1 u2 u3 : Value) :
    Blk w.heap.size #[u0, u1, u2, u3] T (set4 w2 w.heap.size u0 u1 u2 u3) ∧ w.grownBy (set4 w2 w.heap.size u0 u1 u2 u3) (some b) ∧ PW b g cap ts s' (set4 w2 w.heap.size u0 u1 u2 u3) := by
  have hlt := hw.blk.lt
  have hgl := hw.toks.lt
  have hs : w2.grownBy (set4 w2 w.heap.size u0 u1 u2 u3) (some w.heap.size) := gtrans (gtrans (gtrans (Lib.grownBy_setCell _ _ _ _) (Lib.grownBy_setCell _ _ _ _)) (Lib.grownBy_setCell _ _ _ _)) (Lib.grownBy_setCell _ _ _ _)
  exact ⟨hz.set4 u0 u1 u2 u3, gnew hg (Nat.le_refl _) hs, hp.other hs (by simp; omega) (by simp; omega)⟩

abbrev zTok : Array Value := #[.int .u8 0, .int .i64 0, .string ⟨#[]⟩, .int .i64 0]

set_option maxRecDepth 100000 in
theorem expect_any (b g cap : Nat) (ts : List Tok) (s : St) (x : Bytes) (hx : x ≠ []) (w : World) (hw : PW b g cap ts s w) :
    Calls Tryz.prog 48 #[.pointer (some ⟨b, 0, none⟩), .string ⟨x.toArray⟩] w (RPost b g cap ts w tokE (expectR x ts s)) := by
  obtain ⟨W, hW⟩ : ∃ W, W = w.alloc tok0 := ⟨_, rfl⟩
  have hbW : Below w.heap.size w W := by rw [hW]; exact (Below.refl _ _).alloc (Nat.le_refl _) _
  have hz : Blk w.heap.size zTok 55 W := by rw [hW]; exact Blk.new _ _ _
  have hzl := hz.lt
  have HN := Lib.hid (is_any b g cap ts s x W (hw.below hbW))
  have HW := Lib.hid hw
  have HH := Lib.hid (And.intro hbW hz)
  have HWW := Lib.hid hW
  have hlt := hw.blk.lt
  clear hw hbW hz hW
  by_cases h : (tk ts s.i).text = x
  · have hq : ((tk ts s.i).text == x) = true := by simpa using h
    have HA := Lib.hid (show expectR x ts s = takeR ts s by unfold expectR; rw [if_pos h])
    have HT := Lib.hid fun w1 (hb : Below w.heap.size w w1) => (take_R b g cap ts s w1 (HW.out.below hb) (Or.inr (by rw [h]; exact hx)))
    rw [hq] at HN
    clear h hq
    go_enter Tryz.func48, Tryz.ntmps48
    go_wp2_with fail
    rw [← HWW.out]
    refine HN.out.mono ?_
    rintro e w1 ⟨rfl, hb⟩
    have HB := Lib.hid (And.intro (HH.out.1.trans (hb.mono HH.out.1.size)) (HH.out.2.below hb hzl))
    clear hb
    go_wp2_with fail
    refine (HT.out w1 HB.out.1).mono ?_
    rintro e w2 h2
    rcases h2.elim with ⟨pn, hr, hg, rfl⟩ | ⟨⟨x0, x1, x2, x3⟩, s', hr, hg, rfl, hp⟩
    · have FIN := Lib.hid (RPost.err (α := Tok) (g := g) (cap := cap) (ts := ts) (V := tokE) (HA.out.trans hr) (gtrans (row := some b) (grown_of_below HB.out.1) hg))
      clear hg hr h2
      go_wp2
      exact ⟨rfl, FIN.out⟩
    · have HR := Lib.hid (HA.out.trans hr)
      have hz2 := HB.out.2.other hg (by simp; omega)
      have FIN := Lib.hid (tok_fin HW.out (gtrans (row := some b) (grown_of_below HB.out.1) hg) hz2 hp (.int .u8 (x0 : Int)) (.int .i64 (x1 : Int)) (.string ⟨x2.toArray⟩) (.int .i64 (x3 : Int)))
      obtain ⟨z0, z1, z2, z3⟩ := hz2.get4
      obtain ⟨f0, f1, f2, f3⟩ := hz2.free4
      clear hg hp hz2 hr h2
      unfold tokE tokV'
      go_wp2
      rw [← set4_eq]
      obtain ⟨y0, y1, y2, y3⟩ := FIN.out.1.get4
      clear z0 z1 z2 z3 f0 f1 f2 f3
      exact bodyPost_ret (v := tokV' ⟨x0, x1, x2, x3⟩) (by simp [results, Tryz.results48, go_sem, y0, y1, y2, y3, tokV']) rfl (RPost.ok HR.out FIN.out.2.1 rfl FIN.out.2.2)
  · have hq : ((tk ts s.i).text == x) = false := by simpa using h
    have HA := Lib.hid (show expectR x ts s = wrongR ts s by unfold expectR; rw [if_neg h])
    have HT := Lib.hid fun w1 (hb : Below w.heap.size w w1) => (wrong_any b g cap ts s w1 (HW.out.below hb))
    rw [hq] at HN
    clear h hq
    go_enter Tryz.func48, Tryz.ntmps48
    go_wp2_with fail
    rw [← HWW.out]
    refine HN.out.mono ?_
    rintro e w1 ⟨rfl, hb⟩
    have HB := Lib.hid (HH.out.1.trans (hb.mono HH.out.1.size))
    clear hb
    go_wp2_with fail
    refine (HT.out w1 HB.out).mono ?_
    rintro e w2 ⟨rfl, hb⟩
    have FIN := Lib.hid (HB.out.trans (hb.mono HB.out.size))
    clear hb
    go_wp2
    exact ⟨rfl, RPost.err (pn := ((tk ts s.i).pos, 4)) HA.out (grown_of_below FIN.out)⟩

set_option maxRecDepth 100000 in
theorem kind_any (b g cap : Nat) (ts : List Tok) (s : St) (x : Nat) (hx : x ≠ 0) (w : World) (hw : PW b g cap ts s w) :
    Calls Tryz.prog 49 #[.pointer (some ⟨b, 0, none⟩), .int .u8 (x : Int)] w (RPost b g cap ts w tokE (kindR x ts s)) := by
  obtain ⟨W, hW⟩ : ∃ W, W = w.alloc tok0 := ⟨_, rfl⟩
  have hbW : Below w.heap.size w W := by rw [hW]; exact (Below.refl _ _).alloc (Nat.le_refl _) _
  have hz : Blk w.heap.size zTok 55 W := by rw [hW]; exact Blk.new _ _ _
  have hzl := hz.lt
  have HN := Lib.hid (next_any b g cap ts s W (hw.below hbW))
  have HW := Lib.hid hw
  have HH := Lib.hid (And.intro hbW hz)
  have HWW := Lib.hid hW
  have hlt := hw.blk.lt
  have hf := fTok0
  clear hw hbW hz hW
  by_cases h : (tk ts s.i).kind = x
  · have hq : (((tk ts s.i).kind : Int) == (x : Int)) = true := beq_iff_eq.2 (by omega)
    have hq' : (((tk ts s.i).kind : Int) != (x : Int)) = false := bne_eq_false_iff_eq.2 (by omega)
    have HA := Lib.hid (show kindR x ts s = takeR ts s by unfold kindR; rw [if_pos h])
    have HT := Lib.hid fun w1 (hb : Below w.heap.size w w1) => (take_R b g cap ts s w1 (HW.out.below hb) (Or.inl (by rw [h]; exact hx)))
    clear h
    go_enter Tryz.func49, Tryz.ntmps49
    go_wp2_with fail
    rw [← HWW.out]
    refine HN.out.mono ?_
    rintro e w1 ⟨rfl, hb⟩
    have HB := Lib.hid (And.intro (HH.out.1.trans (hb.mono HH.out.1.size)) (HH.out.2.below hb hzl))
    clear hb
    unfold tokV'
    go_wp2_with fail
    refine (HT.out w1 HB.out.1).mono ?_
    rintro e w2 h2
    rcases h2.elim with ⟨pn, hr, hg, rfl⟩ | ⟨⟨x0, x1, x2, x3⟩, s', hr, hg, rfl, hp⟩
    · have FIN := Lib.hid (RPost.err (α := Tok) (g := g) (cap := cap) (ts := ts) (V := tokE) (HA.out.trans hr) (gtrans (row := some b) (grown_of_below HB.out.1) hg))
      clear hg hr h2
      go_wp2
      exact ⟨rfl, FIN.out⟩
    · have HR := Lib.hid (HA.out.trans hr)
      have hz2 := HB.out.2.other hg (by simp; omega)
      have FIN := Lib.hid (tok_fin HW.out (gtrans (row := some b) (grown_of_below HB.out.1) hg) hz2 hp (.int .u8 (x0 : Int)) (.int .i64 (x1 : Int)) (.string ⟨x2.toArray⟩) (.int .i64 (x3 : Int)))
      obtain ⟨z0, z1, z2, z3⟩ := hz2.get4
      obtain ⟨f0, f1, f2, f3⟩ := hz2.free4
      clear hg hp hz2 hr h2
      unfold tokE tokV'
      go_wp2
      rw [← set4_eq]
      obtain ⟨y0, y1, y2, y3⟩ := FIN.out.1.get4
      clear z0 z1 z2 z3 f0 f1 f2 f3
      exact bodyPost_ret (v := tokV' ⟨x0, x1, x2, x3⟩) (by simp [results, Tryz.results49, go_sem, y0, y1, y2, y3, tokV']) rfl (RPost.ok HR.out FIN.out.2.1 rfl FIN.out.2.2)
  · have hq : (((tk ts s.i).kind : Int) == (x : Int)) = false := beq_eq_false_iff_ne.2 (by omega)
    have hq' : (((tk ts s.i).kind : Int) != (x : Int)) = true := bne_iff_ne.2 (by omega)
    have HA := Lib.hid (show kindR x ts s = wrongR ts s by unfold kindR; rw [if_neg h])
    have HT := Lib.hid fun w1 (hb : Below w.heap.size w w1) => (wrong_any b g cap ts s w1 (HW.out.below hb))
    clear h
    go_enter Tryz.func49, Tryz.ntmps49
    go_wp2_with fail
    rw [← HWW.out]
    refine HN.out.mono ?_
    rintro e w1 ⟨rfl, hb⟩
    have HB := Lib.hid (HH.out.1.trans (hb.mono HH.out.1.size))
    clear hb
    unfold tokV'
    go_wp2_with fail
    refine (HT.out w1 HB.out).mono ?_
    rintro e w2 ⟨rfl, hb⟩
    have FIN := Lib.hid (HB.out.trans (hb.mono HB.out.size))
    clear hb
    go_wp2
    exact ⟨rfl, RPost.err (pn := ((tk ts s.i).pos, 4)) HA.out (grown_of_below FIN.out)⟩
end Go.Proofs.YtcgllooeimacdaaGreatDoor

/-! A type's name, one of those that can stand there. -/

namespace Go.Proofs.YtcgllooeimacdaaGreatDoor
open Go Go.RowKit Px
open Lx (Tok)

theorem nameOf_ne (k : Nat) (h : 1 ≤ k) (h' : k ≤ 3) : nameOf k ≠ [] := by
  have : k = 1 ∨ k = 2 ∨ k = 3 := by omega
  rcases this with rfl | rfl | rfl <;> decide

abbrev typE (y : Nat) (e : Ending) (_ : World) : Prop := e = .returned (.int .u8 (y : Int))

set_option maxRecDepth 100000 in
set_option maxHeartbeats 1000000 in
theorem type_any (b g cap kb kc : Nat) (ks : List Nat) (hk3 : ∀ k ∈ ks, 1 ≤ k ∧ k ≤ 3) (hks : ks.length ≤ 3) (ts : List Tok) (s : St) (w : World) (hw : PW b g cap ts s w) (hkb : kb < w.heap.size) (hkne : kb ≠ b) (hK : ∀ j (h : j < ks.length), w.cell? ⟨kb, j, none⟩ = some (.int .u8 (ks[j] : Int))) :
    Calls Tryz.prog 54 #[.pointer (some ⟨b, 0, none⟩), .slice (some ⟨kb, 0, none⟩) ks.length kc] w (RPost b g cap ts w typE (typeR ts ks s)) := by
  have HW := Lib.hid hw
  have HK := Lib.hid hK
  have HK3 := Lib.hid hk3
  clear hw hK hk3
  go_enter Tryz.func54, Tryz.ntmps54
  go_wp2_with fail
  go_loopw [9] (fun i wr => ∃ j : Nat, j ≤ ks.length ∧ i = .int .i64 j ∧ w.grownBy wr (some b) ∧ PW b g cap ts s wr ∧ typeR ts ks s = typeR ts (ks.drop j) s) (fun i _ => ks.length - (intOf i).toNat)
  case atStart => exact ⟨0, Nat.zero_le _, rfl, World.grownBy.refl _ _, HW.out, rfl⟩
  case round =>
    obtain ⟨j, hj, rfl, hb, hpw, hf⟩ := hrel
    have HP := Lib.hid hpw
    have HF := Lib.hid hf
    have HB := Lib.hid hb
    clear hf hpw
    by_cases hlt : j < ks.length
    · have hc : wr.cell? ⟨kb, j, none⟩ = some (.int .u8 (ks[j] : Int)) := hb.cell (HK.out j hlt) (by simpa using hkne)
      have hd : ks.drop j = ks[j] :: ks.drop (j + 1) := (List.drop_eq_getElem_cons hlt)
      have h3 := HK3.out ks[j] (List.getElem_mem hlt)
      have HD := Lib.hid hd
      clear hd hb
      generalize ks[j] = k at *
      obtain ⟨V, hV⟩ : ∃ V, V = wr.drewN 1 := ⟨_, rfl⟩
      have hbV : w.grownBy V (some b) := by rw [hV]; exact gtrans HB.out ⟨rfl, rfl, rfl, Nat.le_refl _, fun _ _ _ => rfl⟩
      have hpV : PW b g cap ts s V := by rw [hV]; exact HP.out.below (Below.refl _ _).drew
      have HA := Lib.hid (accept_any b g cap ts s (nameOf k) (nameOf_ne k h3.1 h3.2) V hpV)
      have HN := Lib.hid ((name_any' k V).mono fun e w' (h : _ ∧ _) => And.intro h.1 h.2.symm)
      have HV := Lib.hid hV
      have HBV := Lib.hid hbV
      clear hV hbV hpV
      have hjl : (j : Int) < (ks.length : Int) := by omega
      have hkl : (ks.length : Int) ≤ 3 := by omega
      go_wp2_with fail
      refine wp_region_still_tail 5 (by kernel_rfl) (by kernel_rfl) ?_
      simp only [List.take_succ_cons, List.take_zero, List.drop_succ_cons, List.drop_zero]
      change wpStill _ _ (wr.drewN 1) _ _ _
      rw [← HV.out]
      repeat still_step
      still_call HN.out
      repeat still_step
      refine wpStill_nil ?_
      change wpList _ _ _ _ _ (wr.drewN 1)
      rw [← HV.out]
      go_wp2_with fail
      refine HA.out.mono ?_
      rintro e w2 h2
      by_cases ht : (tk ts s.i).text = nameOf k
      · have HX := Lib.hid (show typeR ts ks s = bindR (takeR ts s) fun _ s' => .ok (k, s') by rw [HF.out, HD.out]; unfold typeR; rw [if_pos ht])
        have HY := Lib.hid (show acceptR (nameOf k) ts s = bindR (takeR ts s) fun _ s => .ok (true, s) by unfold acceptR; rw [if_pos ht])
        rcases h2.elim with ⟨pn, hr, hg, rfl⟩ | ⟨x, s', hr, hg, rfl, hp⟩
        · have hr' : takeR ts s = .error pn := by
            have := HY.out.symm.trans hr
            rcases h4 : takeR ts s with pn' | ⟨a, s'⟩
            · rw [h4] at this; simpa [bindR] using this
            · rw [h4] at this; simp [bindR] at this
          have FIN := Lib.hid (RPost.err (α := Nat) (g := g) (cap := cap) (ts := ts) (V := typE) (HX.out.trans (by rw [hr']; rfl)) (gtrans (row := some b) HBV.out hg))
          clear hg hr hr' h2 ht
          go_wp2
          exact ⟨rfl, FIN.out⟩
        · have hr' : ∃ t, takeR ts s = .ok (t, s') ∧ x = true := by
            have := HY.out.symm.trans hr
            rcases h4 : takeR ts s with pn' | ⟨a, s''⟩
            · rw [h4] at this; simp [bindR] at this
            · rw [h4] at this; simp [bindR] at this; exact ⟨a, by rw [this.2], this.1⟩
          obtain ⟨t, hr', rfl⟩ := hr'
          have FIN := Lib.hid (RPost.ok (a := k) (V := typE) (e := .returned (.int .u8 (k : Int))) (HX.out.trans (by rw [hr']; rfl)) (gtrans (row := some b) HBV.out hg) rfl hp)
          clear hg hr hr' h2 hp ht
          go_wp2
          go_ret
          exact FIN.out
      · have HX := Lib.hid (show typeR ts ks s = typeR ts (ks.drop (j + 1)) s by rw [HF.out, HD.out]; rw [typeR, if_neg ht])
        have HY := Lib.hid (show acceptR (nameOf k) ts s = .ok (false, s) by unfold acceptR; rw [if_neg ht])
        rcases h2.elim with ⟨pn, hr, hg, rfl⟩ | ⟨x, s', hr, hg, rfl, hp⟩
        · exact absurd (HY.out.symm.trans hr) (by simp)
        · obtain ⟨rfl, rfl⟩ : false = x ∧ s = s' := by have := HY.out.symm.trans hr; simpa using this
          have FIN := Lib.hid (And.intro (gtrans HBV.out hg) hp)
          clear hg hr h2 hp ht
          go_wp2
          go_roundw
          case rel => exact ⟨j + 1, by omega, by go_num, FIN.out.1, FIN.out.2, HX.out⟩
          case measure => simp [intOf]; omega
    · obtain rfl : j = ks.length := by omega
      have HX := Lib.hid (show typeR ts ks s = wrongR ts s by rw [HF.out, List.drop_length]; rfl)
      have HT := Lib.hid (wrong_any b g cap ts s wr HP.out)
      clear hb
      go_wp2_with fail
      refine HT.out.mono ?_
      rintro e w2 ⟨rfl, hb2⟩
      have FIN := Lib.hid (gtrans (row := some b) HB.out (grown_of_below hb2))
      clear hb2
      go_wp2
      exact ⟨rfl, RPost.err (pn := ((tk ts s.i).pos, 4)) HX.out FIN.out⟩
end Go.Proofs.YtcgllooeimacdaaGreatDoor

/-! What the walks of expressions share: an expression that is answered; blocks of six cells; bounds of signs. -/

namespace Go.Proofs.YtcgllooeimacdaaGreatDoor
open Go Go.RowKit Px
open Lx (Tok)

/-- An expression that is answered: its six cells; its parts lie in new blocks. -/
def exE (B : Nat) (x : Ex) (e : Ending) (w' : World) : Prop := ∃ (k op : Nat) (nm : Bytes) (n pos : Nat) (a : Option Addr) (m c : Nat), e = .returned (.agg #[.int .u8 (k : Int), .int .u8 (op : Int), .string ⟨nm.toArray⟩, .int .i64 (n : Int), .int .i64 (pos : Int), .slice a m c]) ∧
  ExC w' (fun g => B ≤ g) x [.int .u8 (k : Int), .int .u8 (op : Int), .string ⟨nm.toArray⟩, .int .i64 (n : Int), .int .i64 (pos : Int), .slice a m c]

def set6 (w : World) (b : Nat) (u0 u1 u2 u3 u4 u5 : Value) : World := (((((w.setCell ⟨b, 0, none⟩ u0).setCell ⟨b, 1, none⟩ u1).setCell ⟨b, 2, none⟩ u2).setCell ⟨b, 3, none⟩ u3).setCell ⟨b, 4, none⟩ u4).setCell ⟨b, 5, none⟩ u5
theorem set6_eq (w : World) (b : Nat) (u0 u1 u2 u3 u4 u5 : Value) : set6 w b u0 u1 u2 u3 u4 u5 = (((((w.setCell ⟨b, 0, none⟩ u0).setCell ⟨b, 1, none⟩ u1).setCell ⟨b, 2, none⟩ u2).setCell ⟨b, 3, none⟩ u3).setCell ⟨b, 4, none⟩ u4).setCell ⟨b, 5, none⟩ u5 := rfl
theorem Blk.set6 {b : Nat} {T : TypeId} {w : World} {v0 v1 v2 v3 v4 v5 : Value} (h : Blk b #[v0, v1, v2, v3, v4, v5] T w) (u0 u1 u2 u3 u4 u5 : Value) : Blk b #[u0, u1, u2, u3, u4, u5] T (set6 w b u0 u1 u2 u3 u4 u5) := (((((h.set 0 u0).set 1 u1).set 2 u2).set 3 u3).set 4 u4).set 5 u5
theorem grown_set6 (w : World) (b : Nat) (u0 u1 u2 u3 u4 u5 : Value) : w.grownBy (set6 w b u0 u1 u2 u3 u4 u5) (some b) := gtrans (gtrans (gtrans (gtrans (gtrans (Lib.grownBy_setCell _ _ _ _) (Lib.grownBy_setCell _ _ _ _)) (Lib.grownBy_setCell _ _ _ _)) (Lib.grownBy_setCell _ _ _ _)) (Lib.grownBy_setCell _ _ _ _)) (Lib.grownBy_setCell _ _ _ _)

/-- Writes to one block alone leave trees that stand elsewhere. -/
theorem stays_of_grown {w w' : World} {j : Nat} {ok ok' : Nat → Prop} (hg : w.grownBy w' (some j)) (h : ∀ g, ok g → g ≠ j ∧ ok' g) : Stays w ok w' ok' := fun g hg1 hg2 => ⟨hg.block g hg2 (by simpa using (h g hg1).1), (h g hg1).2⟩
theorem stays_of_below {w w' : World} {ok ok' : Nat → Prop} (hb : Below w.heap.size w w') (h : ∀ g, ok g → ok' g) : Stays w ok w' ok' := fun g hg1 hg2 => ⟨hb.block g hg2, h g hg1⟩
theorem stays_weaken {w : World} {ok ok' : Nat → Prop} (h : ∀ g, ok g → g < w.heap.size → ok' g) : Stays w ok w ok' := fun g hg1 hg2 => ⟨rfl, h g hg1 hg2⟩

abbrev zEx : Array Value := #[.int .u8 0, .int .u8 0, .string ⟨#[]⟩, .int .i64 0, .int .i64 0, .slice none 0 0]
abbrev ex0 : Obj := .cells zEx 36

theorem findOp_le (t : Bytes) : ∀ n op, (findOp t n op).1 ≤ op + n ∧ (findOp t n op).2 < 12
  | 0, op => by simp [findOp]
  | n + 1, op => by
    unfold findOp
    split
    · exact ⟨by omega, signOf_lt op⟩
    · have := findOp_le t n (op + 1); omega
theorem infixOf_le (t : Bytes) : (infixOf t).1 ≤ 19 ∧ (infixOf t).2 < 12 := by have := findOp_le t 18 1; exact ⟨by unfold infixOf; omega, this.2⟩
theorem infixOf_ne {t : Bytes} (h : (infixOf t).1 ≠ 0) : t ≠ [] := by
  rintro rfl
  exact h (by decide)

/-- A binary expression's contract. -/
def BinC (f : Nat) : Prop := ∀ (b g cap : Nat) (ts : List Tok) (s : St) (least : Nat) (w : World), PW b g cap ts s w → least ≤ 20 → binF ts f least s ≠ gone →
  Calls Tryz.prog 120 #[.pointer (some ⟨b, 0, none⟩), .int .i64 (least : Int)] w (RPost b g cap ts w (exE w.heap.size) (binF ts f least s))
def UnC (f : Nat) : Prop := ∀ (b g cap : Nat) (ts : List Tok) (s : St) (w : World), PW b g cap ts s w → unF ts f s ≠ gone →
  Calls Tryz.prog 141 #[.pointer (some ⟨b, 0, none⟩)] w (RPost b g cap ts w (exE w.heap.size) (unF ts f s))
def OpC (f : Nat) : Prop := ∀ (b g cap : Nat) (ts : List Tok) (s : St) (w : World), PW b g cap ts s w → opF ts f s ≠ gone →
  Calls Tryz.prog 153 #[.pointer (some ⟨b, 0, none⟩)] w (RPost b g cap ts w (exE w.heap.size) (opF ts f s))

/-- An expression that is answered, written into the box of the result. -/
theorem ex_fin {b g cap : Nat} {ts : List Tok} {s s' : St} {w w2 : World} (hw : PW b g cap ts s w) (hg : w.grownBy w2 (some b)) {T : TypeId} {v0 v1 v2 v3 v4 v5 : Value} (hz : Blk w.heap.size #[v0, v1, v2, v3, v4, v5] T w2) (hp : PW b g cap ts s' w2)
    {x : Ex} {k op : Nat} {nm : Bytes} {n pos : Nat} {a : Option Addr} {m c : Nat} (hx : ExC w2 (fun g => w.heap.size < g) x [.int .u8 (k : Int), .int .u8 (op : Int), .string ⟨nm.toArray⟩, .int .i64 (n : Int), .int .i64 (pos : Int), .slice a m c]) :
    Blk w.heap.size #[.int .u8 (k : Int), .int .u8 (op : Int), .string ⟨nm.toArray⟩, .int .i64 (n : Int), .int .i64 (pos : Int), .slice a m c] T (set6 w2 w.heap.size (.int .u8 (k : Int)) (.int .u8 (op : Int)) (.string ⟨nm.toArray⟩) (.int .i64 (n : Int)) (.int .i64 (pos : Int)) (.slice a m c)) ∧
      w.grownBy (set6 w2 w.heap.size (.int .u8 (k : Int)) (.int .u8 (op : Int)) (.string ⟨nm.toArray⟩) (.int .i64 (n : Int)) (.int .i64 (pos : Int)) (.slice a m c)) (some b) ∧
      PW b g cap ts s' (set6 w2 w.heap.size (.int .u8 (k : Int)) (.int .u8 (op : Int)) (.string ⟨nm.toArray⟩) (.int .i64 (n : Int)) (.int .i64 (pos : Int)) (.slice a m c)) ∧
      exE w.heap.size x (.returned (.agg #[.int .u8 (k : Int), .int .u8 (op : Int), .string ⟨nm.toArray⟩, .int .i64 (n : Int), .int .i64 (pos : Int), .slice a m c])) (set6 w2 w.heap.size (.int .u8 (k : Int)) (.int .u8 (op : Int)) (.string ⟨nm.toArray⟩) (.int .i64 (n : Int)) (.int .i64 (pos : Int)) (.slice a m c)) := by
  have hlt := hw.blk.lt
  have hgl := hw.toks.lt
  have hs := grown_set6 w2 w.heap.size (.int .u8 (k : Int)) (.int .u8 (op : Int)) (.string ⟨nm.toArray⟩) (.int .i64 (n : Int)) (.int .i64 (pos : Int)) (.slice a m c)
  exact ⟨hz.set6 _ _ _ _ _ _, gnew hg (Nat.le_refl _) hs, hp.other hs (by simp; omega) (by simp; omega), _, _, _, _, _, _, _, _, rfl, hx.stays (stays_of_grown hs fun g hg => ⟨by omega, by omega⟩)⟩

set_option maxRecDepth 100000 in
theorem expr_any {f : Nat} (hB : BinC f) (b g cap : Nat) (ts : List Tok) (s : St) (w : World) (hw : PW b g cap ts s w) (hne : binF ts f 1 s ≠ gone) :
    Calls Tryz.prog 100 #[.pointer (some ⟨b, 0, none⟩)] w (RPost b g cap ts w (exE w.heap.size) (binF ts f 1 s)) := by
  obtain ⟨W, hW⟩ : ∃ W, W = w.alloc ex0 := ⟨_, rfl⟩
  have hbW : Below w.heap.size w W := by rw [hW]; exact (Below.refl _ _).alloc (Nat.le_refl _) _
  have hz : Blk w.heap.size zEx 36 W := by rw [hW]; exact Blk.new _ _ _
  have hsz : W.heap.size = w.heap.size + 1 := by rw [hW]; simp
  have HC := Lib.hid (hB b g cap ts s 1 W (hw.below hbW) (by omega) hne)
  have HW := Lib.hid hw
  have HH := Lib.hid (And.intro hbW (And.intro hz hsz))
  have HWW := Lib.hid hW
  have hlt := hw.blk.lt
  clear hw hbW hz hW hne hB hsz
  go_enter Tryz.func100, Tryz.ntmps100
  go_wp2_with fail
  rw [← HWW.out]
  refine HC.out.mono ?_
  rintro e w1 h1
  rcases h1.elim with ⟨pn, hr, hg, rfl⟩ | ⟨x, s', hr, hg, ⟨k, op, nm, n, pos, a, m, c, rfl, hx⟩, hp⟩
  · have FIN := Lib.hid (RPost.err (α := Ex) (g := g) (cap := cap) (ts := ts) (V := exE w.heap.size) hr (gtrans (row := some b) (grown_of_below HH.out.1) hg))
    clear hg hr h1
    go_wp2
    exact ⟨rfl, FIN.out⟩
  · have hz1 := HH.out.2.1.other hg (by simp; omega)
    have HR := Lib.hid hr
    have FIN := Lib.hid (ex_fin HW.out (gtrans (row := some b) (grown_of_below HH.out.1) hg) hz1 hp (hx.stays (stays_weaken fun k hk _ => by have := HH.out.2.2; omega)))
    obtain ⟨z0, z1, z2, z3, z4, z5⟩ := hz1.get6
    obtain ⟨f0, f1, f2, f3, f4, f5⟩ := hz1.free6
    clear hg hp hz1 hr h1 hx
    go_wp2
    rw [← set6_eq]
    obtain ⟨y0, y1, y2, y3, y4, y5⟩ := FIN.out.1.get6
    clear z0 z1 z2 z3 z4 z5 f0 f1 f2 f3 f4 f5
    exact bodyPost_ret (v := .agg #[.int .u8 (k : Int), .int .u8 (op : Int), .string ⟨nm.toArray⟩, .int .i64 (n : Int), .int .i64 (pos : Int), .slice a m c]) (by simp [results, Tryz.results100, go_sem, y0, y1, y2, y3, y4, y5]) rfl (RPost.ok HR.out FIN.out.2.1 FIN.out.2.2.2 FIN.out.2.2.1)
end Go.Proofs.YtcgllooeimacdaaGreatDoor
