/-
  The document's examples of paint: walked.
-/
import Derived.Test.YtgblpfahgpneoaaPtL
import Derived.Test.YtgblpfahgpneoaaPtV
import Derived.Test.YtgblpfahgpneoaaPtI
import Derived.Test.YtgblpfahgpneoaaPtC
import Derived.Lib.QuietBelow
import Derived.BigQuiet
namespace Go.Proofs.Ytgblpfahgpneoaa
open Go Go.RowKit Go.Sort Go.BigFrame

theorem ctf_filter (f : Nat → Bool) : ∀ n, ((List.range n).filter f).length = ctf f n
  | 0 => rfl
  | n + 1 => by
    rw [List.range_succ, List.filter_append, List.length_append, ctf_filter f n]
    show _ = ctf f n + if f n = true then 1 else 0
    cases h : f n <;> simp [h]
theorem ctf_not (f : Nat → Bool) : ∀ n, ctf f n + ctf (fun x => !f x) n = n
  | 0 => rfl
  | n + 1 => by
    have := ctf_not f n
    show ctf f n + (if f n = true then 1 else 0) + (ctf (fun x => !f x) n + if (!f n) = true then 1 else 0) = n + 1
    cases h : f n <;> simp <;> omega
theorem range_nodup (n : Nat) : (List.range n).Nodup := List.nodup_range
/-- Where all nodes are neighbours: how many have a colour. -/
theorem cliq {n k : Nat} {l : List P2} {C : Nat → Int} (hC : Col n k l C) (hl : AreN n l) (hn : ∀ v x, v < n → x < n → v ≠ x → Nei l v x) : ctf (fun v => decide (0 ≤ C v)) n = min n k := by
  obtain ⟨L, hL⟩ : ∃ L, L = ((List.range n).filter fun v => decide (0 ≤ C v)).map fun v => (C v).toNat := ⟨_, rfl⟩
  have hLl : L.length = ctf (fun v => decide (0 ≤ C v)) n := by rw [hL, List.length_map, ctf_filter]
  have hmem : ∀ v ∈ (List.range n).filter (fun v => decide (0 ≤ C v)), v < n ∧ 0 ≤ C v := fun v hv => by
    obtain ⟨h1, h2⟩ := List.mem_filter.1 hv
    exact ⟨List.mem_range.1 h1, by simpa using h2⟩
  have hnd : L.Nodup := by
    rw [hL]
    refine List.pairwise_map.2 (List.Pairwise.imp_of_mem (fun {v x} hv hx hne => ?_) ((range_nodup n).filter _))
    obtain ⟨v1, v2⟩ := hmem v hv
    obtain ⟨x1, x2⟩ := hmem x hx
    have := hC.pr v v1 x (hn v x v1 x1 hne) (by omega)
    omega
  have hle : L.length ≤ k := Po.nodup_len hnd (fun c hc => by
    rw [hL] at hc
    obtain ⟨v, hv, rfl⟩ := List.mem_map.1 hc
    obtain ⟨v1, v2⟩ := hmem v hv
    have := (hC.bo v v1).2
    omega)
  rw [hLl] at hle
  have hcn := ctf_le (fun v => decide (0 ≤ C v)) n
  by_cases hall : ∀ v, v < n → 0 ≤ C v
  · have := ctf_all (f := fun v => decide (0 ≤ C v)) (k := n) (fun v hv => by simpa using hall v hv) n (Nat.le_refl _)
    omega
  · obtain ⟨v, hv⟩ := Classical.not_forall.1 hall
    obtain ⟨hvn, hv⟩ := Classical.not_imp.1 hv
    have hm1 : C v = -1 := by have := (hC.bo v hvn).1; omega
    have hge : k ≤ L.length := Classical.byContradiction fun hc => by
      obtain ⟨c, hck, hcL⟩ := Po.exists_left (n := k) (out := L) (by omega)
      obtain ⟨x, hx, hxc⟩ := hC.fu v hvn hm1 c hck
      have hxn := hx.lt hl
      refine hcL ?_
      rw [hL]
      exact List.mem_map.2 ⟨x, List.mem_filter.2 ⟨List.mem_range.2 hxn, by rw [hxc]; simp⟩, by rw [hxc, Int.toNat_natCast]⟩
    omega
def cellsP (l : List P2) : List Value := (l.map encP).flatten
theorem lit_p {w : World} {bx : Nat} {l : List P2} {n : Nat} (hn : n = l.length) {T : TypeId} {c : Nat} (h : w.heap[bx]? = some (.cells (cellsP l).toArray T (0, 0))) : PairZ w (.slice (some ⟨bx, 0, none⟩) n c) l := by
  subst hn
  refine ⟨_, c, rfl, fun i hi => ⟨⟨bx, 0, none⟩, encP l[i], rfl, (Array.getElem?_eq_some_iff.1 h).1, fun k v hk => ?_, rfl⟩⟩
  have hk2 : k < 2 := by have := (List.getElem?_eq_some_iff.1 hk).1; simpa [encP] using this
  rw [add_own, add_own2]
  unfold World.cell?
  rw [h]
  have h9 := flat_at (l.map encP) (k := 2) (fun c hc => by obtain ⟨x, _, rfl⟩ := List.mem_map.1 hc; rfl) i k hk2
  rw [List.getElem?_map, List.getElem?_eq_getElem hi] at h9
  show (if (none : Option Nat).isSome then _ else (cellsP l).toArray[i * 2 + k]?) = some v
  simp only [Option.isSome_none, Bool.false_eq_true, if_false, List.getElem?_toArray]
  unfold cellsP
  rw [h9]
  exact hk
def three : List P2 := [(0, 1), (1, 2), (2, 0)]
def liked : List P2 := [(0, 2)]
theorem three_are : AreN 3 three := fun p hp => by
  unfold three at hp
  simp only [List.mem_cons, List.not_mem_nil, or_false] at hp
  unfold NodeP
  rcases hp with rfl | rfl | rfl <;> decide
theorem liked_are : AreN 3 liked := fun p hp => by
  unfold liked at hp
  simp only [List.mem_cons, List.not_mem_nil, or_false] at hp
  unfold NodeP
  rcases hp with rfl
  decide
theorem three_nei : ∀ v x, v < 3 → x < 3 → v ≠ x → Nei three v x := fun v x hv hx hne => by
  have e1 : v = 0 ∨ v = 1 ∨ v = 2 := by omega
  have e2 : x = 0 ∨ x = 1 ∨ x = 2 := by omega
  rcases e1 with rfl | rfl | rfl <;> rcases e2 with rfl | rfl | rfl
  · exact absurd rfl hne
  · exact ⟨(0, 1), by simp [three], by decide, Or.inl ⟨rfl, rfl⟩⟩
  · exact ⟨(2, 0), by simp [three], by decide, Or.inr ⟨rfl, rfl⟩⟩
  · exact ⟨(0, 1), by simp [three], by decide, Or.inr ⟨rfl, rfl⟩⟩
  · exact absurd rfl hne
  · exact ⟨(1, 2), by simp [three], by decide, Or.inl ⟨rfl, rfl⟩⟩
  · exact ⟨(2, 0), by simp [three], by decide, Or.inl ⟨rfl, rfl⟩⟩
  · exact ⟨(1, 2), by simp [three], by decide, Or.inr ⟨rfl, rfl⟩⟩
  · exact absurd rfl hne
theorem no_nei {v x : Nat} : ¬ Nei [] v x := fun ⟨_, hp, _⟩ => by cases hp
theorem no_are {n : Nat} : AreN n [] := fun _ hp => by cases hp
def AwakeT (w : World) (W : World) (e : Ending) : Prop := e = .returned (.bool true) ∧ Below w.heap.size w W
section
variable {P : Program} {ops : Array Oper} {Q : Exit → Act → World → Prop} {md : Region.Mode} {S : World → Prop} {dep : List Nat}
/-- One alone may come up, and it is wanted. -/
theorem wpAnyD_oneG {i : Nat} {o : Oper} {fuel : Nat} {listed : Array Bool} {a : Act} {w : World} (hi : ops[i]? = some o) (hr : Region.ready md ops listed = [i]) (hw : Region.wanted o (yielded ops a.tmps) = true)
    (h : ∀ K : Act → World → Prop, (∀ a' w', (dep.contains i = true ∨ S w') → wpAnyD P md ops Q S dep fuel (listed.setIfInBounds i true) a' w' → K a' w') → o.wp P a w K Q) : wpAnyD P md ops Q S dep (fuel + 1) listed a w := by
  refine ⟨fun h0 => (by rw [hr] at h0; cases h0), fun j hj => ?_⟩
  rw [hr] at hj
  obtain rfl : j = i := by simpa using hj
  unfold wpOp
  simp only [hi]
  simp only [hw, if_true]
  exact Or.inl (h _ fun a' w' hS h' => ⟨hS, h'⟩)
end
def AwR (w : World) (C : Nat → Int) (nv iv : Value) (W : World) : Prop := ∃ i : Nat, i ≤ 3 ∧ iv = I (i : Int) ∧ nv = I (ctf (fun v => decide (C v < 0)) i : Int) ∧ W = w

set_option maxRecDepth 100000 in
set_option maxHeartbeats 3200000 in
theorem awake_any (w : World) : Calls Try.prog 7 #[] w fun e w' => AwakeT w w' e := by
  obtain ⟨b1, hb1⟩ : ∃ b, b = w.heap.size := ⟨_, rfl⟩
  obtain ⟨W1, hW1⟩ : ∃ W, W = w.alloc (.cells #[I 0, I 1, I 1, I 2, I 2, I 0] 29) := ⟨_, rfl⟩
  have hz1 : PairZ W1 (.slice (some ⟨b1, 0, none⟩) 3 3) three := lit_p (w := W1) (l := three) (T := 29) rfl (by rw [hb1, hW1]; exact heap_alloc_new w _)
  have hB1 : Below w.heap.size w W1 := by rw [hW1]; exact (Below.refl _ _).alloc (Nat.le_refl _) _
  have HO1 := Lib.hid (paint_of 3 3 (by omega) (by omega) (some ⟨b1, 0, none⟩) none 3 3 0 0 three [] rfl (by omega) (by omega) rfl (by omega) (by omega) W1 hz1 (SlS.nil _ _))
  have H1 := Lib.hid (And.intro hB1 (And.intro hW1 (And.intro hb1 hz1)))
  clear hb1 hW1 hz1 hB1
  go_enter Try.func7, Try.ntmps7
  go_wp2_with fail
  rw [← H1.out.2.2.1, ← H1.out.2.1]
  refine HO1.out.mono ?_
  rintro e w2 ⟨hok, _⟩
  obtain ⟨b2, C2, rfl, hl2, k2, hc2, hb2⟩ := hok ⟨three_are, no_are⟩
  have hB2 := below_tr H1.out.1 hb2
  have hz2 := H1.out.2.2.2.below pairV_stays hb2
  have HO2 := Lib.hid (paint_of 3 2 (by omega) (by omega) (some ⟨b1, 0, none⟩) none 3 3 0 0 three [] rfl (by omega) (by omega) rfl (by omega) (by omega) w2 hz2 (SlS.nil _ _))
  have H2 := Lib.hid (And.intro hB2 (And.intro hz2 (And.intro k2 hc2)))
  clear hb2 hok hl2 k2 hc2 hB2 hz2
  go_wp2_with fail
  refine HO2.out.mono ?_
  rintro e w3 ⟨hok, _⟩
  obtain ⟨b3, C3, rfl, hl3, k3, hc3, hb3⟩ := hok ⟨three_are, no_are⟩
  have hB3 := below_tr H2.out.1 hb3
  have hz3 := H2.out.2.1.below pairV_stays hb3
  have k23 := H2.out.2.2.1.below hb3 H2.out.2.2.1.lt
  obtain ⟨b4, hb4⟩ : ∃ b, b = w3.heap.size := ⟨_, rfl⟩
  obtain ⟨W4, hW4⟩ : ∃ W, W = w3.alloc (.cells #[I 0, I 2] 29) := ⟨_, rfl⟩
  have hzl : PairZ W4 (.slice (some ⟨b4, 0, none⟩) 1 1) liked := lit_p (w := W4) (l := liked) (T := 29) rfl (by rw [hb4, hW4]; exact heap_alloc_new w3 _)
  have hb34 : Below w3.heap.size w3 W4 := by rw [hW4]; exact (Below.refl _ _).alloc (Nat.le_refl _) _
  have HO4 := Lib.hid (paint_of 3 4 (by omega) (by omega) none (some ⟨b4, 0, none⟩) 0 0 1 1 [] liked rfl (by omega) (by omega) rfl (by omega) (by omega) W4 (SlS.nil _ _) hzl)
  have H3 := Lib.hid (And.intro (below_tr hB3 hb34) (And.intro (hz3.below pairV_stays hb34) (And.intro (k23.below hb34 k23.lt) (And.intro (k3.below hb34 k3.lt) (And.intro H2.out.2.2.2 (And.intro hc3 (And.intro hW4 hb4)))))))
  clear hb3 hok hl3 k3 hc3 hB3 hz3 k23 hb4 hW4 hzl hb34
  go_wp2_with fail
  rw [← H3.out.2.2.2.2.2.2.2]
  change Calls _ _ _ (w3.alloc (.cells #[I 0, I 2] 29)) _
  rw [← H3.out.2.2.2.2.2.2.1]
  refine HO4.out.mono ?_
  rintro e w5 ⟨hok, _⟩
  obtain ⟨b5, C5, rfl, hl5, k5, hc5, hb5⟩ := hok ⟨no_are, liked_are⟩
  have hB5 := below_tr H3.out.1 hb5
  have hz5 := H3.out.2.1.below pairV_stays hb5
  have k52 := H3.out.2.2.1.below hb5 H3.out.2.2.1.lt
  have k53 := H3.out.2.2.2.1.below hb5 H3.out.2.2.2.1.lt
  have h0 := hc5.li (fun v x => no_nei) (by omega)
  have h50 := k5.get 0 (I (C5 0)) (arrF_get _ (by omega))
  have h52 := k5.get 2 (I (C5 2)) (arrF_get _ (by omega))
  rw [h0 0 (by omega)] at h50
  rw [h0 2 (by omega)] at h52
  have hcq := cliq H3.out.2.2.2.2.2.1 three_are three_nei
  have hcn : ctf (fun v => decide (C3 v < 0)) 3 = 1 := by
    have h1 : ctf (fun v => decide (0 ≤ C3 v)) 3 + ctf (fun v => !decide (0 ≤ C3 v)) 3 = 3 := ctf_not (fun v => decide (0 ≤ C3 v)) 3
    have h2 : ctf (fun v => !decide (0 ≤ C3 v)) 3 = ctf (fun v => decide (C3 v < 0)) 3 := ctf_other 3 (fun i _ => by
      by_cases e : 0 ≤ C3 i
      · rw [decide_eq_true e, decide_eq_false (by omega)]; rfl
      · rw [decide_eq_false e, decide_eq_true (by omega)]; rfl)
    rw [hcq] at h1
    omega
  have H5 := Lib.hid (And.intro hB5 (And.intro hz5 (And.intro k52 (And.intro k53 (And.intro h50 (And.intro h52 hcn))))))
  have HS := Lib.hid (show AwR w5 C3 (I 0) (I 0) w5 from ⟨0, by omega, rfl, rfl, rfl⟩)
  clear hok hl5 k5 hc5 hb5 hB5 hz5 k52 k53 h0 h50 h52 hcq hcn
  go_wp2_with fail
  go_loopw [8, 33] (fun nv iv W => AwR w5 C3 nv iv W) (fun _ iv _ => 3 - (intOf iv).toNat)
  case atStart => exact HS.out
  case round =>
    obtain ⟨i, hi, rfl, rfl, rfl⟩ := hrel
    by_cases hin : i < 3
    · have z0 := H5.out.2.2.2.1.get i (I (C3 i)) (arrF_get _ hin)
      have d0 : decide ((i : Int) < 3) = true := by rw [decide_eq_true_eq]; omega
      have d1 : (0 : Int) ≤ (i : Int) := by omega
      have d2 : (i : Int) < 3 := by omega
      have hcl : (ctf (fun v => decide (C3 v < 0)) i : Int) ≤ 3 := by have := ctf_le (fun v => decide (C3 v < 0)) i; omega
      have hcl0 : (0 : Int) ≤ (ctf (fun v => decide (C3 v < 0)) i : Int) := by omega
      have hsu : ctf (fun v => decide (C3 v < 0)) (i + 1) = ctf (fun v => decide (C3 v < 0)) i + if decide (C3 i < 0) = true then 1 else 0 := rfl
      have HN := Lib.hid (show AwR wr C3 (I (ctf (fun v => decide (C3 v < 0)) (i + 1) : Int)) (I ((i : Int) + 1)) wr from ⟨i + 1, hin, rfl, rfl, rfl⟩)
      rw [hsu] at HN
      have HT := Lib.hid hin
      by_cases e : C3 i < 0
      · rw [if_pos (decide_eq_true e)] at HN
        rw [show ((ctf (fun v => decide (C3 v < 0)) i + 1 : Nat) : Int) = (ctf (fun v => decide (C3 v < 0)) i : Int) + 1 by omega] at HN
        have e' : decide (C3 i < 0) = true := decide_eq_true e
        clear hsu hin hi
        generalize C3 i = ci at *
        generalize (ctf (fun v => decide (C3 v < 0)) i : Int) = M at *
        go_wp2_with fail
        exact ⟨HN.out, by have := HT.out; simp [intOf]; omega⟩
      · rw [if_neg (by simpa using e), Nat.add_zero] at HN
        have e' : decide (C3 i < 0) = false := decide_eq_false e
        clear hsu hin hi
        generalize C3 i = ci at *
        generalize (ctf (fun v => decide (C3 v < 0)) i : Int) = M at *
        go_wp2_with fail
        exact ⟨HN.out, by have := HT.out; simp [intOf]; omega⟩
    · obtain rfl : i = 3 := by omega
      rw [H5.out.2.2.2.2.2.2]
      have cR1 : ∀ p : Regrown, Calls Try.prog 11 #[I 3, .slice (some ⟨b1, 0, none⟩) 3 3, I 3, .slice (some ⟨b2, 0, none⟩) 3 3] (grow (redrawn wr p.d) p.os) fun e w'' => e = .returned (.bool true) ∧ ∃ p : Regrown, w'' = grow (redrawn wr p.d) p.os := fun p =>
        Calls.regrown_of ((right_any 3 3 b2 (by omega) (by omega) C2 (some ⟨b1, 0, none⟩) 3 3 three rfl (by omega) (by omega) three_are H3.out.2.2.2.2.1 _ (H5.out.2.1.below pairV_stays (below_regrown wr _ _)) (H5.out.2.2.1.below (below_regrown wr _ _) H5.out.2.2.1.lt)))
      have cR2 : ∀ p : Regrown, Calls Try.prog 11 #[I 3, .slice (some ⟨b1, 0, none⟩) 3 3, I 2, .slice (some ⟨b3, 0, none⟩) 3 3] (grow (redrawn wr p.d) p.os) fun e w'' => e = .returned (.bool true) ∧ ∃ p : Regrown, w'' = grow (redrawn wr p.d) p.os := fun p =>
        Calls.regrown_of ((right_any 3 2 b3 (by omega) (by omega) C3 (some ⟨b1, 0, none⟩) 3 3 three rfl (by omega) (by omega) three_are H3.out.2.2.2.2.2.1 _ (H5.out.2.1.below pairV_stays (below_regrown wr _ _)) (H5.out.2.2.2.1.below (below_regrown wr _ _) H5.out.2.2.2.1.lt)))
      have y0 : ∀ d os, (grow (redrawn wr d) os).cell? ⟨b5, 0, none⟩ = some (I 0) := fun d os => cell_regrown H5.out.2.2.2.2.1 d os
      have y2 : ∀ d os, (grow (redrawn wr d) os).cell? ⟨b5, 2, none⟩ = some (I 0) := fun d os => cell_regrown H5.out.2.2.2.2.2.1 d os
      have HR1 := Lib.hid cR1
      have HR2 := Lib.hid cR2
      have FIN := Lib.hid (fun d os => show AwakeT w (grow (redrawn wr d) os) (.returned (.bool true)) from ⟨rfl, below_tr H5.out.1 (below_regrown wr d os)⟩)
      clear hin hi cR1 cR2
      go_upto_region 12 with (fail)
      refine wp_region_quiet_below (by kernel_rfl) (by kernel_rfl) ?_
      repeat (go_big_quiet_step (first | with_reducible exact HR1.out _ | with_reducible exact HR2.out _ | (trace_state; fail)))
      refine wpQuiet_nil ?_
      intro _ hw'
      obtain ⟨⟨dq, osq⟩, hw''⟩ := hw'
      subst hw''
      clear y0 y2
      go_wp2_with fail
      go_ret
      exact FIN.out _ _
end Go.Proofs.Ytgblpfahgpneoaa
