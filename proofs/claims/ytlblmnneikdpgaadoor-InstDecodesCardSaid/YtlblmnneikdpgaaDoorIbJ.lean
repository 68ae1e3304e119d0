/-
  An instruction is read whole.
-/
import Derived.Test.YtlblmnneikdpgaaDoorIbI
namespace Go.Proofs.YtlblmnneikdpgaaDoor
open Go Go.RowKit Ib

abbrev wC (x : Wd) : Array Value := #[B8 x.op, B8 x.a, B8 x.b, B8 x.c, I x.imm]
abbrev zC : Array Value := #[B8 0, B8 0, B8 0, B8 0, I 0]
abbrev rC (op : Nat) (rs : List Nat) : Array Value := #[B8 op, B8 (rs.getD 0 0), B8 (rs.getD 1 0), B8 (rs.getD 2 0), I 0]
abbrev ptx (bx : Nat) : Array Value := #[.pointer (some ⟨bx, 1, none⟩), .pointer (some ⟨bx, 2, none⟩), .pointer (some ⟨bx, 3, none⟩)]
/-- What reading an instruction leaves. -/
def WqT (S : Nat → Prop) (aW : Addr) (br bx : Nat) (q : List Nat) (W W' : World) (e : Ending) : Prop := Fq br bx W W' ∧
  ((∃ x, PreW q x ∧ e = .returned .nilIface ∧ Rq S br bx (q.drop (encW x).length) (wC x) W') ∨ ((∀ x, ¬ PreW q x) ∧ e = .returned (eV aW)))
def QoR (S : Nat → Prop) (br bx op n : Nat) (q : List Nat) (W0 : World) (iv : Value) (W : World) : Prop := ∃ i : Nat, i ≤ n ∧ i ≤ q.length ∧ iv = I (i : Int) ∧ Rq S br bx (q.drop i) (rC op (q.take i)) W ∧ Fq br bx W0 W
theorem rC_set {op i x : Nat} {l : List Nat} (hi : l.length = i) (h3 : i < 3) : (rC op l).setIfInBounds (i + 1) (B8 x) = rC op (l ++ [x]) := by
  have : i = 0 ∨ i = 1 ∨ i = 2 := by omega
  rcases this with rfl | rfl | rfl
  · have : l = [] := List.length_eq_zero_iff.1 hi
    subst this; rfl
  · match l, hi with
    | [a], _ => rfl
  · match l, hi with
    | [a, b], _ => rfl
theorem rC_get {op i : Nat} {l : List Nat} (h3 : i < 3) : (rC op l)[i + 1]? = some (B8 (l.getD i 0)) := by
  have : i = 0 ∨ i = 1 ∨ i = 2 := by omega
  rcases this with rfl | rfl | rfl <;> rfl
theorem take_drop_cons {q q' : List Nat} {i x : Nat} (h : q.drop i = x :: q') : q.take (i + 1) = q.take i ++ [x] ∧ q.drop (i + 1) = q' ∧ i < q.length := by
  have hi : i < q.length := by
    rcases Nat.lt_or_ge i q.length with h1 | h1
    · exact h1
    · rw [List.drop_eq_nil_of_le h1] at h; cases h
  have e := List.drop_eq_getElem_cons hi
  rw [h] at e
  injection e with e1 e2
  exact ⟨by rw [List.take_succ_eq_append_getElem hi, ← e1], e2.symm, hi⟩

set_option maxRecDepth 100000 in
set_option maxHeartbeats 6400000 in
theorem word_q (S : Nat → Prop) (aM aW : Addr) (br bx : Nat) (q : List Nat) (hq : Byt q) (w : World) (h : Rq S br bx q zC w) (hSl : ∀ k, S k → k < w.heap.size) (hs : Sen aM aW w) (hs1 : SenL aM aW br) (hs2 : SenL aM aW bx) (hne : bx ≠ br) (hS : ¬ S bx) :
    Calls Tryd.prog 39 #[rkW br, .pointer (some ⟨bx, 0, none⟩)] w fun e w' => WqT S aW br bx q w w' e := by
  obtain ⟨W1, hW1⟩ : ∃ W, W = w.alloc (.cells (rkC br) 74) := ⟨_, rfl⟩
  obtain ⟨bk, hbk⟩ : ∃ g, g = w.heap.size := ⟨_, rfl⟩
  have hB1 : Below w.heap.size w W1 := by rw [hW1]; exact (Below.refl _ _).alloc (Nat.le_refl _) _
  have kk : Blk bk (rkC br) 74 W1 := by rw [hW1, hbk]; exact Blk.new _ _ _
  have hk1 : bk ≠ br := by have := h.rd.lt; omega
  have hk2 : bk ≠ bx := by have := h.tg.lt; omega
  have hD : ∀ W : World, Below W.heap.size W W.drew := fun W => below_drewN (Below.refl _ _) 1
  have h1 := h.below hSl hB1
  have hS1 : ∀ k, S k → k < W1.heap.size := fun k hk => Nat.lt_of_lt_of_le (hSl k hk) hB1.size
  have h1' := h1.below hS1 (hD W1)
  have hsn1 : Sen aM aW W1.drew := (hs.below hB1 (fun k hk => hs.lts k hk)).below (hD W1) (fun k hk => Nat.lt_of_lt_of_le (hs.lts k hk) hB1.size)
  have hf1 := (Fq.of_below br bx hB1).trans (Fq.of_below br bx (hD W1))
  have y0 := kk.get 0 (.func (.func 62) #[.pointer (some ⟨br, 0, none⟩)] #[]) rfl
  have HH := Lib.hid (And.intro hq (And.intro hS1 (And.intro hs1 (And.intro hs2 (And.intro hne hS)))))
  have H1 := Lib.hid (And.intro h1' (And.intro hsn1 (And.intro hf1 (And.intro (show Blk bk (rkC br) 74 W1.drew from kk.drewN 1) (And.intro hk1 hk2)))))
  have HW1 := Lib.hid (And.intro hW1 hbk)
  clear hq h hSl hs hs1 hs2 hne hS hW1 hbk hB1 kk hk1 hk2 hD h1 hS1 h1' hsn1 hf1
  go_enter Tryd.func39, Tryd.ntmps39
  go_upto_region 1 with (fail)
  rw [← HW1.out.2]
  change Code.wp _ _ _ _ (w.alloc (.cells (rkC br) 74))
  rw [← HW1.out.1]
  cases q with
  | nil =>
    have HC := Lib.hid (fun (W : World) (hW : W = W1.drew) => (by subst hW; exact one_nil (aM := aM) W1.drew H1.out.1 H1.out.2.1 (j := 0) (old := B8 0) rfl HH.out.2.2.2.2.1 : Calls Tryd.prog 62 #[.pointer (some ⟨br, 0, none⟩), .pointer (some ⟨bx, 0, none⟩)] W fun e w' => e = .returned (eV aW) ∧ Fq br bx W1.drew w'))
    go_region_with (
      refine (HC.out _ rfl).mono ?_
      rintro e w2 ⟨rfl, hf2⟩
      have FIN := Lib.hid (show WqT S aW br bx [] w w2 (.returned (eV aW)) from ⟨H1.out.2.2.1.trans hf2, Or.inr ⟨pre_nil, rfl⟩⟩)
      clear hf2)
    all_goals (try (go_wp2_with fail))
    all_goals (go_ret; exact FIN.out)
  | cons op q1 =>
    have HC := Lib.hid (fun (W : World) (hW : W = W1.drew) => (by subst hW; exact one_cons (aM := aM) W1.drew H1.out.1 H1.out.2.1 (j := 0) (old := B8 0) rfl HH.out.2.2.2.2.1 HH.out.2.2.2.2.2 : Calls Tryd.prog 62 #[.pointer (some ⟨br, 0, none⟩), .pointer (some ⟨bx, 0, none⟩)] W fun e w' => e = .returned .nilIface ∧ Rq S br bx q1 (zC.setIfInBounds 0 (B8 op)) w' ∧ Fq br bx W1.drew w'))
    go_region_with (
      refine (HC.out _ rfl).mono ?_
      rintro e w2 ⟨rfl, hr2', hf2⟩
      have hr2 : Rq S br bx q1 (rC op []) w2 := hr2'
      have x0 : w2.cell? ⟨bx, 0, none⟩ = some (B8 op) := hr2.tg.get 0 _ rfl
      have hsn2 : Sen aM aW w2 := hf2.sen H1.out.2.1 HH.out.2.2.1 HH.out.2.2.2.1
      have HS := Lib.hid (shapeOf_any op w2)
      have hkk2 := hf2.blk H1.out.2.2.2.1 H1.out.2.2.2.2.1 H1.out.2.2.2.2.2
      have hS2 : ∀ k, S k → k < w2.heap.size := fun k hk => Nat.lt_of_lt_of_le (HH.out.2.1 k hk) hf2.size
      have H2 := Lib.hid (And.intro hr2 (And.intro (H1.out.2.2.1.trans hf2) (And.intro hsn2 (And.intro hkk2 hS2))))
      clear hr2' hr2 hf2 hsn2 hkk2 hS2 y0)
    all_goals (try (go_wp2_with fail))
    refine HS.out.mono ?_
    rintro e w3 ⟨hsh, hb3⟩
    rcases hsh with ⟨hno, rfl⟩ | ⟨n, im, hnm, rfl⟩
    · obtain ⟨W4, hW4⟩ : ∃ W, W = w3.alloc (.cells #[I 0, I 0, I 0] 80) := ⟨_, rfl⟩
      have hB4 : Below w2.heap.size w2 W4 := by rw [hW4]; exact hb3.alloc hb3.size _
      have hs4 : Sen aM aW W4 := H2.out.2.2.1.below hB4 (fun k hk => H2.out.2.2.1.lts k hk)
      have c0 := hs4.cW
      have FIN := Lib.hid (show WqT S aW br bx (op :: q1) w W4 (.returned (eV aW)) from ⟨H2.out.2.1.trans (Fq.of_below br bx hB4), Or.inr ⟨pre_none hno, rfl⟩⟩)
      have HW4 := Lib.hid hW4
      clear hno hb3 hB4 hs4 hW4 x0
      go_upto_region 5 with (fail)
      change Code.wp _ _ _ _ (w3.alloc (.cells #[I 0, I 0, I 0] 80))
      rw [← HW4.out]
      go_wp2_with fail
      go_ret
      exact FIN.out
    · obtain ⟨W4, hW4⟩ : ∃ W, W = w3.alloc (.cells #[I (n : Int), I (least op), I (most op)] 80) := ⟨_, rfl⟩
      obtain ⟨bs, hbs⟩ : ∃ g, g = w3.heap.size := ⟨_, rfl⟩
      have hB4 : Below w2.heap.size w2 W4 := by rw [hW4]; exact hb3.alloc hb3.size _
      have ks : Blk bs #[I (n : Int), I (least op), I (most op)] 80 W4 := by rw [hW4, hbs]; exact Blk.new _ _ _
      have hbs2 : w2.heap.size ≤ bs := by rw [hbs]; exact hb3.size
      have z0 := ks.get 0 (I (n : Int)) rfl
      have hn := names_le hnm
      have hn0 : (n : Int) ≤ 3 := by omega
      have hn1 : (0 : Int) ≤ (n : Int) := by omega
      obtain ⟨lo, hlo⟩ : ∃ z, z = least op := ⟨_, rfl⟩
      obtain ⟨hi, hhi⟩ : ∃ z, z = most op := ⟨_, rfl⟩
      rw [← hlo, ← hhi] at hW4 ks
      have H4 := Lib.hid (And.intro hB4 (And.intro ks (And.intro hbs2 (And.intro hnm (And.intro hlo hhi)))))
      have HW4 := Lib.hid (And.intro hW4 hbs)
      rw [← hlo, ← hhi]
      clear hb3 hB4 ks hbs2 hn hnm hlo hhi hW4 hbs x0
      go_upto_region 5 with (fail)
      rw [← HW4.out.2]
      change Code.wp _ _ _ _ (w3.alloc (.cells #[I (n : Int), I lo, I hi] 80))
      rw [← HW4.out.1]
      go_upto_region 7 with (fail)
      have q1' : bs < W4.heap.size := H4.out.2.1.lt
      have q2' : ¬ bs = W4.heap.size := by omega
      obtain ⟨bp, hbp⟩ : ∃ g, g = W4.heap.size := ⟨_, rfl⟩
      obtain ⟨W5, hW5⟩ : ∃ W, W = (W4.alloc (.cells (ptx bx) 128)).drew := ⟨_, rfl⟩
      have hB5 : Below w2.heap.size w2 W5 := by rw [hW5]; exact below_drewN (H4.out.1.alloc H4.out.1.size _) 1
      have kp : Blk bp (ptx bx) 128 W5 := by rw [hW5, hbp]; exact Blk.new _ _ _
      have hbp2 : w2.heap.size ≤ bp := by rw [hbp]; exact H4.out.1.size
      have hbb : Below W4.heap.size W4 W5 := by rw [hW5]; exact below_drewN ((Below.refl _ _).alloc (Nat.le_refl _) _) 1
      have hapart : ∀ g, w2.heap.size ≤ g → g ≠ br ∧ g ≠ bx := fun g hg => ⟨by have := H2.out.1.rd.lt; omega, by have := H2.out.1.tg.lt; omega⟩
      have hr5 : Rq S br bx q1 (rC op []) W5 := H2.out.1.below H2.out.2.2.2.2 hB5
      have hS5 : ∀ k, S k → k < W5.heap.size := fun k hk => Nat.lt_of_lt_of_le (H2.out.2.2.2.2 k hk) hB5.size
      have H5 := Lib.hid (And.intro (H2.out.2.1.trans (Fq.of_below br bx hB5)) (And.intro kp (And.intro (hapart bp hbp2) (And.intro (H4.out.2.1.below hbb H4.out.2.1.lt) (And.intro (hapart bs H4.out.2.2.1) (And.intro (H2.out.2.2.2.1.below hB5 H2.out.2.2.2.1.lt) (And.intro hS5 (H2.out.2.2.1.below hB5 (fun k hk => H2.out.2.2.1.lts k hk)))))))))
      have HST := Lib.hid (show QoR S br bx op n q1 W5 (I 0) W5 from ⟨0, Nat.zero_le _, Nat.zero_le _, rfl, hr5, Fq.refl _ _ _⟩)
      have HW5 := Lib.hid (And.intro hW5 hbp)
      clear hbp hW5 hB5 kp hbp2 hbb hapart hr5 hS5
      go_region
      change Exit.then _ _ _ _ (W4.alloc (.cells (ptx bx) 128)).drew
      rw [← HW5.out.1, ← HW5.out.2]
      clear z0 q1' q2'
      go_wp2_with fail
      go_loopw [46] (fun iv W => QoR S br bx op n q1 W5 iv W) (fun iv _ => n - (intOf iv).toNat)
      case atStart => exact HST.out
      case round =>
        obtain ⟨i, hin', hiq, rfl, hR, hF⟩ := hrel
        clear HST
        have hsnw : Sen aM aW wr := hF.sen H5.out.2.2.2.2.2.2.2 HH.out.2.2.1 HH.out.2.2.2.1
        by_cases hin : i < n
        · have hn3 : n ≤ 3 := (names_le H4.out.2.2.2.1).1
          have kp := hF.blk H5.out.2.1 H5.out.2.2.1.1 H5.out.2.2.1.2
          have c0 : wr.cell? ⟨bp, i, none⟩ = some (.pointer (some ⟨bx, i + 1, none⟩)) := by
            have : i = 0 ∨ i = 1 ∨ i = 2 := by omega
            rcases this with rfl | rfl | rfl
            · exact kp.get 0 _ rfl
            · exact kp.get 1 _ rfl
            · exact kp.get 2 _ rfl
          have hkk := hF.blk H5.out.2.2.2.2.2.1 H1.out.2.2.2.2.1 H1.out.2.2.2.2.2
          have y0 := hkk.get 0 (.func (.func 62) #[.pointer (some ⟨br, 0, none⟩)] #[]) rfl
          have d0 : decide (i < n) = true := by simpa using hin
          have d1 : (0 : Int) ≤ (i : Int) := by omega
          have d2 : (i : Int) < (n : Int) := by omega
          have d3 : (i : Int) < 3 := by omega
          have hjg : (rC op (q1.take i))[i + 1]? = some (B8 ((q1.take i).getD i 0)) := rC_get (by omega)
          rcases hdq : q1.drop i with _ | ⟨x, q'⟩
          · rw [hdq] at hR
            have HC := Lib.hid (one_nil wr hR hsnw hjg HH.out.2.2.2.2.1)
            have hqi : q1.length ≤ i := List.drop_eq_nil_iff.1 hdq
            have FI := Lib.hid (show ∀ w6, Fq br bx wr w6 → WqT S aW br bx (op :: q1) w w6 (.returned (eV aW)) from fun w6 hf6 => ⟨(H5.out.1.trans hF).trans hf6, Or.inr ⟨pre_short H4.out.2.2.2.1 (by omega), rfl⟩⟩)
            clear hn3 kp hkk hR hF hsnw hin hin' hiq hjg hdq hqi
            go_wp2_with fail
            refine HC.out.mono ?_
            rintro e w6 ⟨rfl, hf6⟩
            have FIN := Lib.hid (FI.out w6 hf6)
            clear hf6 c0 y0
            go_wp2_with fail
            go_ret
            exact FIN.out
          · rw [hdq] at hR
            have HC := Lib.hid (one_cons wr hR hsnw hjg HH.out.2.2.2.2.1 HH.out.2.2.2.2.2)
            have htd := take_drop_cons hdq
            have hset : (rC op (q1.take i)).setIfInBounds (i + 1) (B8 x) = rC op (q1.take (i + 1)) := by
              rw [htd.1]
              exact rC_set (by rw [List.length_take]; omega) (by omega)
            rw [hset, ← htd.2.1] at HC
            have HX := Lib.hid (And.intro hF (And.intro htd.2.2 hin))
            clear hn3 kp hkk hR hF hsnw hin hin' hiq hjg hdq htd hset
            go_wp2_with fail
            refine HC.out.mono ?_
            rintro e w6 ⟨rfl, hr6, hf6⟩
            have HN := Lib.hid (show QoR S br bx op n q1 W5 (I ((i : Int) + 1)) w6 from ⟨i + 1, HX.out.2.2, HX.out.2.1, rfl, hr6, HX.out.1.trans hf6⟩)
            have HT := Lib.hid HX.out.2.2
            clear hr6 hf6 c0 y0
            go_wp2_with fail
            exact ⟨HN.out, by have := HT.out; simp [intOf]; omega⟩
        · obtain rfl : i = n := by omega
          have hn3 := names_le H4.out.2.2.2.1
          have hkk := hF.blk H5.out.2.2.2.2.2.1 H1.out.2.2.2.2.1 H1.out.2.2.2.2.2
          have hks := hF.blk H5.out.2.2.2.1 H5.out.2.2.2.2.1.1 H5.out.2.2.2.2.1.2
          have hqb : Byt q1 := fun z hz => HH.out.1 z (List.mem_cons_of_mem _ hz)
          have d0 : decide (i < i) = false := by simp
          obtain ⟨rs, hrs⟩ : ∃ rs, rs = q1.take i := ⟨_, rfl⟩
          obtain ⟨q2, hq2⟩ : ∃ q2, q2 = q1.drop i := ⟨_, rfl⟩
          have hqq : q1 = rs ++ q2 := by rw [hrs, hq2, List.take_append_drop]
          have hrl : rs.length = i := by rw [hrs, List.length_take]; omega
          rw [← hrs, ← hq2] at hR
          have hSw : ∀ k, S k → k < wr.heap.size := fun k hk => Nat.lt_of_lt_of_le (H5.out.2.2.2.2.2.2.1 k hk) hF.size
          have HX := Lib.hid (And.intro hR (And.intro (H5.out.1.trans hF) (And.intro hsnw (And.intro hkk (And.intro hks (And.intro hqq (And.intro hrl (And.intro hqb hSw))))))))
          clear hn3 hR hF hsnw hkk hks hqb hqq hrl hrs hq2 hin hin' hiq hSw
          go_upto_region 14 with (fail)
          obtain ⟨V, hV⟩ : ∃ V, V = wr.drew := ⟨_, rfl⟩
          have hbV : Below wr.heap.size wr V := by rw [hV]; exact below_drewN (Below.refl _ _) 1
          have hSV : ∀ k, S k → k < V.heap.size := fun k hk => Nat.lt_of_lt_of_le (HX.out.2.2.2.2.2.2.2.2 k hk) hbV.size
          have hRV := HX.out.1.below HX.out.2.2.2.2.2.2.2.2 hbV
          have hkV := HX.out.2.2.2.1.below hbV HX.out.2.2.2.1.lt
          have hsV := HX.out.2.2.2.2.1.below hbV HX.out.2.2.2.2.1.lt
          have hnV := HX.out.2.2.1.below hbV (fun k hk => HX.out.2.2.1.lts k hk)
          have hq2 : Byt q2 := fun z hz => HX.out.2.2.2.2.2.2.2.1 z (by rw [HX.out.2.2.2.2.2.1]; exact List.mem_append_right _ hz)
          have hC := imm_q S aM aW op i br bx im H4.out.2.2.2.1 q2 hq2 _ _ _ _ V hRV hSV hnV HH.out.2.2.1 HH.out.2.2.2.1 HH.out.2.2.2.2.1 HH.out.2.2.2.2.2 (i : Int)
          rw [← H4.out.2.2.2.2.1, ← H4.out.2.2.2.2.2] at hC
          have HC := Lib.hid hC
          have hS6 : ∀ W : World, Fq br bx V W → (W.cell? ⟨bk, 0, none⟩ = some (.func (.func 62) #[.pointer (some ⟨br, 0, none⟩)] #[]) ∧ W.cell? ⟨bk, 1, none⟩ = some (.func (.func 63) #[.pointer (some ⟨br, 0, none⟩)] #[]) ∧ W.cell? ⟨bk, 2, none⟩ = some (.func (.func 64) #[.pointer (some ⟨br, 0, none⟩)] #[])) ∧ W.cell? ⟨bs, 0, none⟩ = some (I (i : Int)) ∧ W.cell? ⟨bs, 1, none⟩ = some (I lo) ∧ W.cell? ⟨bs, 2, none⟩ = some (I hi) := fun W hW => by
            have k1 := hW.blk hkV H1.out.2.2.2.2.1 H1.out.2.2.2.2.2
            have k2 := hW.blk hsV H5.out.2.2.2.2.1.1 H5.out.2.2.2.2.1.2
            exact ⟨⟨k1.get 0 _ rfl, k1.get 1 _ rfl, k1.get 2 _ rfl⟩, k2.get 0 _ rfl, k2.get 1 _ rfl, k2.get 2 _ rfl⟩
          have hS := hS6 V (Fq.refl _ _ _)
          have HS6 := Lib.hid hS6
          have HSZ := Lib.hid hbV.size
          have HV := Lib.hid (And.intro hnV (HX.out.2.1.trans (Fq.of_below br bx hbV)))
          refine wp_region_dep (S := fun W : World => (W.cell? ⟨bk, 0, none⟩ = some (.func (.func 62) #[.pointer (some ⟨br, 0, none⟩)] #[]) ∧ W.cell? ⟨bk, 1, none⟩ = some (.func (.func 63) #[.pointer (some ⟨br, 0, none⟩)] #[]) ∧ W.cell? ⟨bk, 2, none⟩ = some (.func (.func 64) #[.pointer (some ⟨br, 0, none⟩)] #[])) ∧ W.cell? ⟨bs, 0, none⟩ = some (I (i : Int)) ∧ W.cell? ⟨bs, 1, none⟩ = some (I lo) ∧ W.cell? ⟨bs, 2, none⟩ = some (I hi)) (dep := []) (by kernel_rfl) ?_
          change wpAnyD _ _ _ _ _ _ _ _ _ (World.drew _)
          rw [← hV]
          clear hV hbV hSV hRV hkV hsV hnV hq2 hC hS6
          refine wpAnyD_take (i := 0) (v := ?_) rfl (by kernel_rfl) (by kernel_rfl) (by kernel_rfl) (by kernel_rfl) (by kernel_rfl) (fun _ _ _ h => h) hS (Or.inl ⟨by rfl, ?_⟩) ?_
          rotate_left
          · intro w hSw; obtain ⟨⟨t0, t1, t2⟩, t3, t4, t5⟩ := hSw; go_simp
            try with_reducible rfl
          try simp only [Act.put, List.setIfInBounds_toArray, List.set_cons_zero, List.set_cons_succ]
          refine wpAnyD_take (i := 1) (v := ?_) rfl (by kernel_rfl) (by kernel_rfl) (by kernel_rfl) (by kernel_rfl) (by kernel_rfl) (fun _ _ _ h => h) hS (Or.inl ⟨by rfl, ?_⟩) ?_
          rotate_left
          · intro w hSw; obtain ⟨⟨t0, t1, t2⟩, t3, t4, t5⟩ := hSw; go_simp
            try with_reducible rfl
          try simp only [Act.put, List.setIfInBounds_toArray, List.set_cons_zero, List.set_cons_succ]
          refine wpAnyD_take (i := 2) (v := ?_) rfl (by kernel_rfl) (by kernel_rfl) (by kernel_rfl) (by kernel_rfl) (by kernel_rfl) (fun _ _ _ h => h) hS (Or.inl ⟨by rfl, ?_⟩) ?_
          rotate_left
          · intro w hSw; obtain ⟨⟨t0, t1, t2⟩, t3, t4, t5⟩ := hSw; go_simp
            try with_reducible rfl
          try simp only [Act.put, List.setIfInBounds_toArray, List.set_cons_zero, List.set_cons_succ]
          refine wpAnyD_take (i := 3) (v := ?_) rfl (by kernel_rfl) (by kernel_rfl) (by kernel_rfl) (by kernel_rfl) (by kernel_rfl) (fun _ _ _ h => h) hS (Or.inl ⟨by rfl, ?_⟩) ?_
          rotate_left
          · intro w hSw; obtain ⟨⟨t0, t1, t2⟩, t3, t4, t5⟩ := hSw; go_simp
            try with_reducible rfl
          try simp only [Act.put, List.setIfInBounds_toArray, List.set_cons_zero, List.set_cons_succ]
          refine wpAnyD_take (i := 4) (v := ?_) rfl (by kernel_rfl) (by kernel_rfl) (by kernel_rfl) (by kernel_rfl) (by kernel_rfl) (fun _ _ _ h => h) hS (Or.inl ⟨by rfl, ?_⟩) ?_
          rotate_left
          · intro w hSw; obtain ⟨⟨t0, t1, t2⟩, t3, t4, t5⟩ := hSw; go_simp
            try with_reducible rfl
          try simp only [Act.put, List.setIfInBounds_toArray, List.set_cons_zero, List.set_cons_succ]
          clear hS
          refine wpAnyD_one (i := 5) rfl (by kernel_rfl) rfl (fun K hK => ?_)
          go_simp
          refine HC.out.mono ?_
          rintro e w7 ⟨r, rfl, hf7, hor⟩
          have h7s := HS6.out w7 hf7
          have hn7 := hf7.sen HV.out.1 HH.out.2.2.1 HH.out.2.2.2.1
          refine hK _ _ (Or.inr h7s) ?_
          clear hK K
          try simp only [Act.put, List.setIfInBounds_toArray, List.set_cons_zero, List.set_cons_succ]
          refine wpAnyD_one (i := 6) rfl (by kernel_rfl) rfl (fun K hK => ?_)
          go_simp
          refine hK _ _ (Or.inr h7s) ?_
          clear hK K h7s
          try simp only [Act.put, List.setIfInBounds_toArray, List.set_cons_zero, List.set_cons_succ]
          refine wpAnyD_done (by kernel_rfl) ?_ _
          have hF7 := HV.out.2.trans hf7
          have hsplit : op :: q1 = op :: (rs ++ q2) := by rw [HX.out.2.2.2.2.2.1]
          have hfin : ∀ m : Int, In64 m → WfW (cand op rs m) := fun m hm => by
            have hb : ∀ j, rs.getD j 0 < 256 := fun j => by
              by_cases hj : j < rs.length
              · rw [List.getD_eq_getElem?_getD, List.getElem?_eq_getElem hj]
                exact HX.out.2.2.2.2.2.2.2.1 _ (by rw [HX.out.2.2.2.2.2.1]; exact List.mem_append_left _ (List.getElem_mem hj))
              · rw [List.getD_eq_getElem?_getD, List.getElem?_eq_none (by omega)]; simp
            exact ⟨HH.out.1 op (by simp), hb 0, hb 1, hb 2, hm⟩
          rcases hor with ⟨rfl, rfl, hr7⟩ | ⟨rfl, l, q', hsp, hr7, rfl⟩ | ⟨rfl, hno, rfl⟩
          · have hpp := pre_plain (q := q2) H4.out.2.2.2.1 HX.out.2.2.2.2.2.2.1
            rw [← hsplit] at hpp
            have hdr : (op :: q1).drop (encW (cand op rs 0)).length = q2 := by
              rw [enc_plain_len H4.out.2.2.2.1 HX.out.2.2.2.2.2.2.1, hsplit, Nat.add_comm, List.drop_succ_cons, ← HX.out.2.2.2.2.2.2.1, List.drop_left]
            have hr7' : Rq S br bx q2 (wC (cand op rs 0)) w7 := hr7
            have HFO := Lib.hid (form_any (cand op rs 0) (hfin 0 (by unfold In64; omega)) w7)
            have x0 : w7.cell? ⟨bx, 0, none⟩ = some (B8 op) := hr7'.tg.get 0 _ rfl
            have x1 : w7.cell? ⟨bx, 1, none⟩ = some (B8 (rs.getD 0 0)) := hr7'.tg.get 1 _ rfl
            have x2 : w7.cell? ⟨bx, 2, none⟩ = some (B8 (rs.getD 1 0)) := hr7'.tg.get 2 _ rfl
            have x3 : w7.cell? ⟨bx, 3, none⟩ = some (B8 (rs.getD 2 0)) := hr7'.tg.get 3 _ rfl
            have x4 : w7.cell? ⟨bx, 4, none⟩ = some (I 0) := hr7'.tg.get 4 _ rfl
            have HFI := Lib.hid (show ∀ (fb : Bool) (w8 : World), (fb = true ↔ FormW (cand op rs 0)) → Below w7.heap.size w7 w8 → WqT S aW br bx (op :: q1) w w8 (.returned (unlE aW fb)) from fun fb w8 hfb hb8 => ⟨hF7.trans (Fq.of_below br bx hb8), by
              cases fb with
              | true => exact Or.inl ⟨_, hpp.1 (hfb.1 rfl), rfl, by rw [hdr]; exact hr7'.below (fun k hk => Nat.lt_of_lt_of_le (HX.out.2.2.2.2.2.2.2.2 k hk) (by have := hf7.size; have := HSZ.out; omega)) hb8⟩
              | false => exact Or.inr ⟨fun x hp => absurd (hfb.2 (hpp.2 x hp)) (by decide), rfl⟩⟩)
            have HN7 := Lib.hid hn7
            clear hf7 hn7 hF7 hsplit hfin hr7 hr7' hpp hdr
            obtain ⟨r0, hr0⟩ : ∃ r0, r0 = rs.getD 0 0 := ⟨_, rfl⟩
            obtain ⟨r1, hr1⟩ : ∃ r1, r1 = rs.getD 1 0 := ⟨_, rfl⟩
            obtain ⟨r2, hr2⟩ : ∃ r2, r2 = rs.getD 2 0 := ⟨_, rfl⟩
            unfold cand at HFO
            rw [← hr0, ← hr1, ← hr2] at HFO
            rw [← hr0] at x1
            rw [← hr1] at x2
            rw [← hr2] at x3
            have HR := Lib.hid (show (⟨op, r0, r1, r2, 0⟩ : Wd) = cand op rs 0 from by unfold cand; rw [hr0, hr1, hr2])
            clear hr0 hr1 hr2
            go_wp2_with fail
            refine HFO.out.mono ?_
            rintro e w8 ⟨fb, rfl, hfb, hb8⟩
            have HU := Lib.hid (unless_any fb w8 (HN7.out.below hb8 (fun k hk => HN7.out.lts k hk)))
            have FIN := Lib.hid (HFI.out fb w8 (by rw [← HR.out]; exact hfb) hb8)
            clear hfb hb8
            go_wp2_with fail
            refine HU.out.mono ?_
            rintro e w9 ⟨rfl, rfl⟩
            go_wp2_with fail
            go_ret
            exact FIN.out
          · have hbl := splN_byt (fun z hz => HX.out.2.2.2.2.2.2.2.1 z (by rw [HX.out.2.2.2.2.2.1]; exact List.mem_append_right _ hz)) hsp
            obtain ⟨m, hm⟩ : ∃ m, m = Ib.wrap64 (numD (op == 30) l) := ⟨_, rfl⟩
            have hpp := pre_num (q := q2) H4.out.2.2.2.1 HX.out.2.2.2.2.2.2.1 hsp hbl hm
            rw [← hsplit] at hpp
            rw [← hm] at hr7 ⊢
            have hr7' : Rq S br bx q' (wC (cand op rs m)) w7 := hr7
            have hmi : In64 m := by rw [hm]; exact wrap64_in _
            by_cases hkm : nmK (op == 30) m = l.length
            · have hdr : (op :: q1).drop (encW (cand op rs m)).length = q' := by
                rw [enc_num_len H4.out.2.2.2.1 HX.out.2.2.2.2.2.2.1 hsp hkm, hsplit, show 1 + i + 1 + l.length = (i + 1 + l.length) + 1 by omega, List.drop_succ_cons, hsp.1, show i + 1 + l.length = rs.length + (l.length + 1) by have := HX.out.2.2.2.2.2.2.1; omega, ← List.drop_drop, List.drop_left, List.drop_succ_cons, List.drop_left]
              rw [decide_eq_true hkm]
              have HFO := Lib.hid (form_any (cand op rs m) (hfin m hmi) w7)
              have x0 : w7.cell? ⟨bx, 0, none⟩ = some (B8 op) := hr7'.tg.get 0 _ rfl
              have x1 : w7.cell? ⟨bx, 1, none⟩ = some (B8 (rs.getD 0 0)) := hr7'.tg.get 1 _ rfl
              have x2 : w7.cell? ⟨bx, 2, none⟩ = some (B8 (rs.getD 1 0)) := hr7'.tg.get 2 _ rfl
              have x3 : w7.cell? ⟨bx, 3, none⟩ = some (B8 (rs.getD 2 0)) := hr7'.tg.get 3 _ rfl
              have x4 : w7.cell? ⟨bx, 4, none⟩ = some (I m) := hr7'.tg.get 4 _ rfl
              have HFI := Lib.hid (show ∀ (fb : Bool) (w8 : World), (fb = true ↔ FormW (cand op rs m)) → Below w7.heap.size w7 w8 → WqT S aW br bx (op :: q1) w w8 (.returned (unlE aW fb)) from fun fb w8 hfb hb8 => ⟨hF7.trans (Fq.of_below br bx hb8), by
                cases fb with
                | true => exact Or.inl ⟨_, hpp.1 (hfb.1 rfl) hkm, rfl, by rw [hdr]; exact hr7'.below (fun k hk => Nat.lt_of_lt_of_le (HX.out.2.2.2.2.2.2.2.2 k hk) (by have := hf7.size; have := HSZ.out; omega)) hb8⟩
                | false => exact Or.inr ⟨fun x hp => absurd (hfb.2 ((hpp.2 x hp).1)) (by decide), rfl⟩⟩)
              have HN7 := Lib.hid hn7
              rw [show unlE aW true = .nilIface from rfl]
              clear hf7 hn7 hF7 hsplit hfin hsp hr7 hr7' hpp hbl hm hmi hkm hdr
              obtain ⟨r0, hr0⟩ : ∃ r0, r0 = rs.getD 0 0 := ⟨_, rfl⟩
              obtain ⟨r1, hr1⟩ : ∃ r1, r1 = rs.getD 1 0 := ⟨_, rfl⟩
              obtain ⟨r2, hr2⟩ : ∃ r2, r2 = rs.getD 2 0 := ⟨_, rfl⟩
              unfold cand at HFO
              rw [← hr0, ← hr1, ← hr2] at HFO
              rw [← hr0] at x1
              rw [← hr1] at x2
              rw [← hr2] at x3
              have HR := Lib.hid (show (⟨op, r0, r1, r2, m⟩ : Wd) = cand op rs m from by unfold cand; rw [hr0, hr1, hr2])
              clear hr0 hr1 hr2
              go_wp2_with fail
              refine HFO.out.mono ?_
              rintro e w8 ⟨fb, rfl, hfb, hb8⟩
              have HU := Lib.hid (unless_any fb w8 (HN7.out.below hb8 (fun k hk => HN7.out.lts k hk)))
              have FIN := Lib.hid (HFI.out fb w8 (by rw [← HR.out]; exact hfb) hb8)
              clear hfb hb8
              go_wp2_with fail
              refine HU.out.mono ?_
              rintro e w9 ⟨rfl, rfl⟩
              go_wp2_with fail
              go_ret
              exact FIN.out
            · have FIN := Lib.hid (show WqT S aW br bx (op :: q1) w w7 (.returned (eV aW)) from ⟨hF7, Or.inr ⟨fun x hp => hkm (hpp.2 x hp).2, rfl⟩⟩)
              rw [decide_eq_false hkm, show unlE aW false = eV aW from rfl]
              clear hf7 hn7 hF7 hsplit hfin hsp hr7 hr7' hpp hbl hm hmi hkm
              go_wp2_with fail
              go_ret
              exact FIN.out
          · have FIN := Lib.hid (show WqT S aW br bx (op :: q1) w w7 (.returned (eV aW)) from ⟨hF7, Or.inr ⟨(by rw [hsplit]; exact pre_nonum H4.out.2.2.2.1 HX.out.2.2.2.2.2.2.1 hno), rfl⟩⟩)
            clear hf7 hn7 hF7 hsplit hfin hno
            go_wp2_with fail
            go_ret
            exact FIN.out
end Go.Proofs.YtlblmnneikdpgaaDoor
