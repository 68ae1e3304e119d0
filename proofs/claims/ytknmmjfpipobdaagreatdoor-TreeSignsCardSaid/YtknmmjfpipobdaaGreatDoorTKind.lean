/-
  A type's name, one of those that can stand there.
-/
import Derived.Test.YtknmmjfpipobdaaGreatDoorTAsk
import Derived.LoopTactic
import Derived.Deep.LoopGhost
namespace Go.Proofs.YtknmmjfpipobdaaGreatDoor
open Go Go.RowKit Px
open Lx (Tok)

theorem nameOf_ne (k : Nat) (h : 1 ≤ k) (h' : k ≤ 3) : nameOf k ≠ [] := by
  have : k = 1 ∨ k = 2 ∨ k = 3 := by omega
  rcases this with rfl | rfl | rfl <;> decide

abbrev typE (y : Nat) (e : Ending) (_ : World) : Prop := e = .returned (.int .u8 (y : Int))

set_option maxRecDepth 100000 in
set_option maxHeartbeats 1000000 in
theorem type_any (b g cap kb kc : Nat) (ks : List Nat) (hk3 : ∀ k ∈ ks, 1 ≤ k ∧ k ≤ 3) (hks : ks.length ≤ 3) (ts : List Tok) (s : St) (w : World) (hw : PW b g cap ts s w) (hkb : kb < w.heap.size) (hkne : kb ≠ b) (hK : ∀ j (h : j < ks.length), w.cell? ⟨kb, j, none⟩ = some (.int .u8 (ks[j] : Int))) :
    Calls Tryz.prog 54 #[.pointer (some ⟨b, 0, none⟩), .slice (some ⟨kb, 0, none⟩) ks.length kc] w (RPost b g cap ts w typE (typeR ts ks s)) := by
  have HW := Lib.hid hw
  have HK := Lib.hid hK
  have HK3 := Lib.hid hk3
  clear hw hK hk3
  go_enter Tryz.func54, Tryz.ntmps54
  go_wp2_with fail
  go_loopw [9] (fun i wr => ∃ j : Nat, j ≤ ks.length ∧ i = .int .i64 j ∧ w.grownBy wr (some b) ∧ PW b g cap ts s wr ∧ typeR ts ks s = typeR ts (ks.drop j) s) (fun i _ => ks.length - (intOf i).toNat)
  case atStart => exact ⟨0, Nat.zero_le _, rfl, World.grownBy.refl _ _, HW.out, rfl⟩
  case round =>
    obtain ⟨j, hj, rfl, hb, hpw, hf⟩ := hrel
    have HP := Lib.hid hpw
    have HF := Lib.hid hf
    have HB := Lib.hid hb
    clear hf hpw
    by_cases hlt : j < ks.length
    · have hc : wr.cell? ⟨kb, j, none⟩ = some (.int .u8 (ks[j] : Int)) := hb.cell (HK.out j hlt) (by simpa using hkne)
      have hd : ks.drop j = ks[j] :: ks.drop (j + 1) := (List.drop_eq_getElem_cons hlt)
      have h3 := HK3.out ks[j] (List.getElem_mem hlt)
      have HD := Lib.hid hd
      clear hd hb
      generalize ks[j] = k at *
      obtain ⟨V, hV⟩ : ∃ V, V = wr.drewN 1 := ⟨_, rfl⟩
      have hbV : w.grownBy V (some b) := by rw [hV]; exact gtrans HB.out ⟨rfl, rfl, rfl, Nat.le_refl _, fun _ _ _ => rfl⟩
      have hpV : PW b g cap ts s V := by rw [hV]; exact HP.out.below (Below.refl _ _).drew
      have HA := Lib.hid (accept_any b g cap ts s (nameOf k) (nameOf_ne k h3.1 h3.2) V hpV)
      have HN := Lib.hid ((name_any' k V).mono fun e w' (h : _ ∧ _) => And.intro h.1 h.2.symm)
      have HV := Lib.hid hV
      have HBV := Lib.hid hbV
      clear hV hbV hpV
      have hjl : (j : Int) < (ks.length : Int) := by omega
      have hkl : (ks.length : Int) ≤ 3 := by omega
      go_wp2_with fail
      refine wp_region_still_tail 5 (by kernel_rfl) (by kernel_rfl) ?_
      simp only [List.take_succ_cons, List.take_zero, List.drop_succ_cons, List.drop_zero]
      change wpStill _ _ (wr.drewN 1) _ _ _
      rw [← HV.out]
      repeat still_step
      still_call HN.out
      repeat still_step
      refine wpStill_nil ?_
      change wpList _ _ _ _ _ (wr.drewN 1)
      rw [← HV.out]
      go_wp2_with fail
      refine HA.out.mono ?_
      rintro e w2 h2
      by_cases ht : (tk ts s.i).text = nameOf k
      · have HX := Lib.hid (show typeR ts ks s = bindR (takeR ts s) fun _ s' => .ok (k, s') by rw [HF.out, HD.out]; unfold typeR; rw [if_pos ht])
        have HY := Lib.hid (show acceptR (nameOf k) ts s = bindR (takeR ts s) fun _ s => .ok (true, s) by unfold acceptR; rw [if_pos ht])
        rcases h2.elim with ⟨pn, hr, hg, rfl⟩ | ⟨x, s', hr, hg, rfl, hp⟩
        · have hr' : takeR ts s = .error pn := by
            have := HY.out.symm.trans hr
            rcases h4 : takeR ts s with pn' | ⟨a, s'⟩
            · rw [h4] at this; simpa [bindR] using this
            · rw [h4] at this; simp [bindR] at this
          have FIN := Lib.hid (RPost.err (α := Nat) (g := g) (cap := cap) (ts := ts) (V := typE) (HX.out.trans (by rw [hr']; rfl)) (gtrans (row := some b) HBV.out hg))
          clear hg hr hr' h2 ht
          go_wp2
          exact ⟨rfl, FIN.out⟩
        · have hr' : ∃ t, takeR ts s = .ok (t, s') ∧ x = true := by
            have := HY.out.symm.trans hr
            rcases h4 : takeR ts s with pn' | ⟨a, s''⟩
            · rw [h4] at this; simp [bindR] at this
            · rw [h4] at this; simp [bindR] at this; exact ⟨a, by rw [this.2], this.1⟩
          obtain ⟨t, hr', rfl⟩ := hr'
          have FIN := Lib.hid (RPost.ok (a := k) (V := typE) (e := .returned (.int .u8 (k : Int))) (HX.out.trans (by rw [hr']; rfl)) (gtrans (row := some b) HBV.out hg) rfl hp)
          clear hg hr hr' h2 hp ht
          go_wp2
          go_ret
          exact FIN.out
      · have HX := Lib.hid (show typeR ts ks s = typeR ts (ks.drop (j + 1)) s by rw [HF.out, HD.out]; rw [typeR, if_neg ht])
        have HY := Lib.hid (show acceptR (nameOf k) ts s = .ok (false, s) by unfold acceptR; rw [if_neg ht])
        rcases h2.elim with ⟨pn, hr, hg, rfl⟩ | ⟨x, s', hr, hg, rfl, hp⟩
        · exact absurd (HY.out.symm.trans hr) (by simp)
        · obtain ⟨rfl, rfl⟩ : false = x ∧ s = s' := by have := HY.out.symm.trans hr; simpa using this
          have FIN := Lib.hid (And.intro (gtrans HBV.out hg) hp)
          clear hg hr h2 hp ht
          go_wp2
          go_roundw
          case rel => exact ⟨j + 1, by omega, by go_num, FIN.out.1, FIN.out.2, HX.out⟩
          case measure => simp [intOf]; omega
    · obtain rfl : j = ks.length := by omega
      have HX := Lib.hid (show typeR ts ks s = wrongR ts s by rw [HF.out, List.drop_length]; rfl)
      have HT := Lib.hid (wrong_any b g cap ts s wr HP.out)
      clear hb
      go_wp2_with fail
      refine HT.out.mono ?_
      rintro e w2 ⟨rfl, hb2⟩
      have FIN := Lib.hid (gtrans (row := some b) HB.out (grown_of_below hb2))
      clear hb2
      go_wp2
      exact ⟨rfl, RPost.err (pn := ((tk ts s.i).pos, 4)) HX.out FIN.out⟩
end Go.Proofs.YtknmmjfpipobdaaGreatDoor
