/-
  Two instructions have the same bytes just if they are one; no one's bytes are the beginning of another one's: walked.
-/
import Derived.Test.YtlblmnneikdpgaaDoorIbH
import Derived.Laws.StructEq
namespace Go.Proofs.YtlblmnneikdpgaaDoor
open Go Go.RowKit Ib

def wEq (x y : Wd) : Bool := x.op == y.op && x.a == y.a && x.b == y.b && x.c == y.c && x.imm == y.imm
theorem wEq_iff (x y : Wd) : wEq x y = true ↔ x = y := by
  obtain ⟨a, b, c, d, e⟩ := x
  obtain ⟨a', b', c', d', e'⟩ := y
  simp [wEq, and_assoc]
theorem eq_wd (x y : Wd) (w : World) : (binOp .eql 23 (wV x) (wV y)).run Tryd.prog w = .ok (.bool (wEq x y)) w := by
  obtain ⟨a, b, c, d, e⟩ := x
  obtain ⟨a', b', c', d', e'⟩ := y
  rw [run_eql_struct, show (10000 : Nat) = 9999 + 1 from rfl, run_equalIn_agg w 9999 23 _ _ (by kernel_rfl) (by kernel_rfl)]
  simp only [Program.fieldsOf, Tryd.underlying23]
  go_simp
  unfold wEq
  have q : ∀ m n : Nat, ((m : Int) = (n : Int)) = (m = n) := fun m n => propext ⟨fun h => by omega, fun h => by omega⟩
  by_cases h1 : a = a' <;> by_cases h2 : b = b' <;> by_cases h3 : c = c' <;> by_cases h4 : d = d' <;> by_cases h5 : e = e' <;> simp [q, h1, h2, h3, h4, h5]
/-- The beginnings of both lists, as long as the shorter one, are the same just if the instructions are. -/
theorem apart_iff {x y : Wd} (hx : FormW x) (hy : FormW y) (n : Nat) (hn : n = min (encW x).length (encW y).length) : (encW x).take n = (encW y).take n ↔ x = y := by
  constructor
  · intro h
    rcases Nat.le_total (encW x).length (encW y).length with h1 | h1
    · have e : encW x = (encW y).take n := by rw [← h, hn, Nat.min_eq_left h1, List.take_length]
      have h2 : PreW (encW y) x := ⟨hx, by rw [e]; exact List.take_prefix _ _⟩
      have h3 : PreW (encW y) y := ⟨hy, List.prefix_refl _⟩
      exact h2.one h3
    · have e : encW y = (encW x).take n := by rw [h, hn, Nat.min_eq_right h1, List.take_length]
      have h2 : PreW (encW x) y := ⟨hy, by rw [e]; exact List.take_prefix _ _⟩
      have h3 : PreW (encW x) x := ⟨hx, List.prefix_refl _⟩
      exact h3.one h2
  · rintro rfl; rfl
theorem nmB_byt (s : Bool) {n : Int} (h : In64 n) : Byt (nmB s n) := fun z hz => by
  unfold nmB at hz
  rcases List.mem_cons.1 hz with e | e
  · have := nmK_8 s n h; omega
  · exact leB_byt _ _ z e
theorem encW_byt {x : Wd} (h : WfW x) : Byt (encW x) := fun z hz => by
  unfold encW at hz
  split at hz
  · simp at hz
  · rename_i n im _
    rcases List.mem_cons.1 hz with e | e
    · rw [e]; exact h.1
    · rcases List.mem_append.1 e with e | e
      · have e2 := List.mem_of_mem_take e
        simp at e2
        have := h.2
        rcases e2 with e2 | e2 | e2 <;> omega
      · split at e
        · exact nmB_byt _ h.2.2.2.2 z e
        · simp at e
theorem encW_len {x : Wd} (h : WfW x) : (encW x).length ≤ 20 := by
  unfold encW
  split
  · simp
  · rename_i n im he
    have h1 := encR_len x (names_le he).1
    have h2 := (names_le he).1
    have h3 := nmK_8 (x.op == 30) x.imm h.2.2.2.2
    split <;> simp [h1, nmB, leB_len] <;> omega

set_option maxRecDepth 100000 in
set_option maxHeartbeats 3200000 in
theorem instApart_body (aM aW : Addr) (x y : Wd) (hx : WfW x) (hy : WfW y) (w : World) (hs : Sen aM aW w) : Calls Tryd.prog 7 #[wV x, wV y] w fun e w' => LawT w w' e := by
  obtain ⟨xo, xa, xb, xc, xi⟩ := x
  obtain ⟨yo, ya, yb, yc, yi⟩ := y
  obtain ⟨W1, hW1⟩ : ∃ W, W = (w.alloc (.cells #[B8 xo, B8 xa, B8 xb, B8 xc, I xi] 23)).alloc (.cells #[B8 yo, B8 ya, B8 yb, B8 yc, I yi] 23) := ⟨_, rfl⟩
  obtain ⟨b1, hb1⟩ : ∃ b, b = w.heap.size := ⟨_, rfl⟩
  obtain ⟨b2, hb2⟩ : ∃ b, b = w.heap.size + 1 := ⟨_, rfl⟩
  have hB1 : Below w.heap.size w W1 := by rw [hW1]; exact ((Below.refl _ _).alloc (Nat.le_refl _) _).alloc (by simp) _
  have k1 : Blk b1 (wC ⟨xo, xa, xb, xc, xi⟩) 23 W1 := by rw [hW1, hb1]; exact (Blk.new _ _ _).alloc _
  have k2 : Blk b2 (wC ⟨yo, ya, yb, yc, yi⟩) 23 W1 := by rw [hW1, hb2]; exact Blk.new' _ _ _ (by simp)
  have hs1 := hs.below hB1 (fun k hk => hs.lts k hk)
  have HA := Lib.hid (awake_any aM aW W1 hs1)
  have H1 := Lib.hid (And.intro hB1 (And.intro k1 (And.intro k2 (And.intro hs1 (And.intro hx hy)))))
  have HW1 := Lib.hid (And.intro hW1 (And.intro hb1 hb2))
  clear hx hy hs hW1 hb1 hb2 hB1 k1 k2 hs1
  go_enter Tryd.func7, Tryd.ntmps7
  go_upto_region 1 with (fail)
  rw [← HW1.out.2.2, ← HW1.out.2.1]
  change Code.wp _ _ _ _ ((w.alloc (.cells (wC ⟨xo, xa, xb, xc, xi⟩) 23)).alloc (.cells (wC ⟨yo, ya, yb, yc, yi⟩) 23))
  rw [← HW1.out.1]
  go_wp2_with fail
  refine HA.out.mono ?_
  rintro e w2 ⟨rfl, hb2⟩
  have ks2 := H1.out.2.1.below hb2 H1.out.2.1.lt
  have kt2 := H1.out.2.2.1.below hb2 H1.out.2.2.1.lt
  have hs2 := H1.out.2.2.2.1.below hb2 (fun k hk => H1.out.2.2.2.1.lts k hk)
  have HE1 := Lib.hid (encode_any aM aW ⟨xo, xa, xb, xc, xi⟩ H1.out.2.2.2.2.1 w2 hs2)
  have H2 := Lib.hid (And.intro (below_tr H1.out.1 hb2) (And.intro ks2 (And.intro kt2 hs2)))
  have x0 := ks2.get 0 (B8 xo) rfl
  have x1 := ks2.get 1 (B8 xa) rfl
  have x2 := ks2.get 2 (B8 xb) rfl
  have x3 := ks2.get 3 (B8 xc) rfl
  have x4 := ks2.get 4 (I xi) rfl
  clear hb2 ks2 kt2 hs2 HA
  go_wp2_with fail
  refine HE1.out.mono ?_
  rintro e w3 ⟨hb3, hor1⟩
  have ks3 := H2.out.2.1.below hb3 H2.out.2.1.lt
  have kt3 := H2.out.2.2.1.below hb3 H2.out.2.2.1.lt
  have hs3 := H2.out.2.2.2.below hb3 (fun k hk => H2.out.2.2.2.lts k hk)
  have HE2 := Lib.hid (encode_any aM aW ⟨yo, ya, yb, yc, yi⟩ H1.out.2.2.2.2.2 w3 hs3)
  have H3 := Lib.hid (And.intro (below_tr H2.out.1 hb3) (And.intro ks3 (And.intro kt3 hs3)))
  clear x0 x1 x2 x3 x4
  have x0 := kt3.get 0 (B8 yo) rfl
  have x1 := kt3.get 1 (B8 ya) rfl
  have x2 := kt3.get 2 (B8 yb) rfl
  have x3 := kt3.get 3 (B8 yc) rfl
  have x4 := kt3.get 4 (I yi) rfl
  clear hb3 ks3 kt3 hs3 HE1
  rcases hor1 with ⟨hfx, v1, rfl, ho1⟩ | ⟨hfx, rfl⟩
  · have HO1 := Lib.hid (And.intro hfx (own_bytes ho1))
    clear hfx ho1
    go_wp2_with fail
    refine HE2.out.mono ?_
    rintro e w4 ⟨hb4, hor2⟩
    have ks4 := H3.out.2.1.below hb4 H3.out.2.1.lt
    have kt4 := H3.out.2.2.1.below hb4 H3.out.2.2.1.lt
    have hs4 := H3.out.2.2.2.below hb4 (fun k hk => H3.out.2.2.2.lts k hk)
    have y0 := ks4.get 0 (B8 xo) rfl
    have y1 := ks4.get 1 (B8 xa) rfl
    have y2 := ks4.get 2 (B8 xb) rfl
    have y3 := ks4.get 3 (B8 xc) rfl
    have y4 := ks4.get 4 (I xi) rfl
    clear x0 x1 x2 x3 x4
    have x0 := kt4.get 0 (B8 yo) rfl
    have x1 := kt4.get 1 (B8 ya) rfl
    have x2 := kt4.get 2 (B8 yb) rfl
    have x3 := kt4.get 3 (B8 yc) rfl
    have x4 := kt4.get 4 (I yi) rfl
    rcases hor2 with ⟨hfy, v2, rfl, ho2⟩ | ⟨hfy, rfl⟩
    · have hz1 := HO1.out.2.below byteV_stays hb4
      have hz2 := own_bytes ho2
      obtain ⟨a1, c1, rfl⟩ := hz1.size
      obtain ⟨a2, c2, rfl⟩ := hz2.size
      obtain ⟨L1, hL1⟩ : ∃ L, L = (encW ⟨xo, xa, xb, xc, xi⟩).length := ⟨_, rfl⟩
      obtain ⟨L2, hL2⟩ : ∃ L, L = (encW ⟨yo, ya, yb, yc, yi⟩).length := ⟨_, rfl⟩
      rw [← hL1] at hz1
      rw [← hL2] at hz2
      rw [← hL1, ← hL2]
      have hc1 := hz1.cap
      have hc2 := hz2.cap
      have hx20 := encW_len H1.out.2.2.2.2.1
      have hy20 := encW_len H1.out.2.2.2.2.2
      obtain ⟨N, hN⟩ : ∃ N, N = min L1 L2 := ⟨_, rfl⟩
      have hsame := sameB_any (fun z hz => encW_byt H1.out.2.2.2.2.1 z (List.mem_of_mem_take hz)) (fun z hz => encW_byt H1.out.2.2.2.2.2 z (List.mem_of_mem_take hz)) (m := (encW ⟨yo, ya, yb, yc, yi⟩).take N) (l := (encW ⟨xo, xa, xb, xc, xi⟩).take N) w4 (ByteZ.take hz1 N (by omega)) (ByteZ.take hz2 N (by omega))
      have hq := eq_wd ⟨xo, xa, xb, xc, xi⟩ ⟨yo, ya, yb, yc, yi⟩
      have hbb : (decide ((encW ⟨xo, xa, xb, xc, xi⟩).take N = (encW ⟨yo, ya, yb, yc, yi⟩).take N) == wEq ⟨xo, xa, xb, xc, xi⟩ ⟨yo, ya, yb, yc, yi⟩) = true := by
        have h1 := apart_iff HO1.out.1 hfy N (by rw [hN, hL1, hL2])
        have h2 := wEq_iff ⟨xo, xa, xb, xc, xi⟩ ⟨yo, ya, yb, yc, yi⟩
        rw [beq_iff_eq, Bool.eq_iff_iff, decide_eq_true_eq, h1, h2]
      obtain ⟨B1, hB1⟩ : ∃ B, B = decide ((encW ⟨xo, xa, xb, xc, xi⟩).take N = (encW ⟨yo, ya, yb, yc, yi⟩).take N) := ⟨_, rfl⟩
      obtain ⟨B2, hB2⟩ : ∃ B, B = wEq ⟨xo, xa, xb, xc, xi⟩ ⟨yo, ya, yb, yc, yi⟩ := ⟨_, rfl⟩
      rw [← hB1] at hsame hbb
      rw [← hB2] at hq hbb
      have HS := Lib.hid (fun nq => (show Calls Tryd.prog 18 #[.slice a1 N c1, .slice a2 N c2] (w4.drewN nq) fun e w' => e = .returned (.bool B1) ∧ ∃ q, w' = w4.drewN q from by
        have h9 := sameB_any (fun z hz => encW_byt H1.out.2.2.2.2.1 z (List.mem_of_mem_take hz)) (fun z hz => encW_byt H1.out.2.2.2.2.2 z (List.mem_of_mem_take hz)) (m := (encW ⟨yo, ya, yb, yc, yi⟩).take N) (l := (encW ⟨xo, xa, xb, xc, xi⟩).take N) (w4.drewN nq) ((ByteZ.take hz1 N (by omega)).keep byteV_stays (fun _ _ => rfl) (fun _ h => h)) ((ByteZ.take hz2 N (by omega)).keep byteV_stays (fun _ _ => rfl) (fun _ h => h))
        rw [← hB1] at h9
        exact h9.mono fun e w' h => ⟨h.1, nq, h.2.symm⟩))
      have hbe := below_tr H3.out.1 hb4
      have FIN := Lib.hid (show ∀ nq, LawT w (w4.drewN nq) (.returned (.bool (B1 == B2))) from fun nq => ⟨by rw [hbb], below_drewN hbe nq⟩)
      have hn1 : (N : Int) ≤ (L1 : Int) := by omega
      have hn2 : (N : Int) ≤ (L2 : Int) := by omega
      have hn3 : (N : Int) ≤ (c1 : Int) := by omega
      have hn4 : (N : Int) ≤ (c2 : Int) := by omega
      have hn0 : (0 : Int) ≤ (N : Int) := by omega
      have hmin : min (L1 : Int) (L2 : Int) = (N : Int) := by omega
      have HMI := Lib.hid hmin
      clear hb4 ks4 kt4 hs4 hfy ho2 hz1 hz2 hL1 hL2 hc1 hc2 hx20 hy20 hN hsame hbb hB1 hB2 hbe hmin
      go_upto_region 8 with (fail)
      rw [HMI.out]
      go_quiet (with_reducible exact HS.out _)
      go_wp2_with fail
      go_ret
      exact FIN.out _
    · have HF1 := Lib.hid (refForm_any ⟨xo, xa, xb, xc, xi⟩ H1.out.2.2.2.2.1 w4)
      have HF2 := Lib.hid (fun w5 => refForm_any ⟨yo, ya, yb, yc, yi⟩ H1.out.2.2.2.2.2 w5)
      have HB4 := Lib.hid (And.intro (below_tr H3.out.1 hb4) (And.intro kt4 hfy))
      clear hb4 ks4 kt4 hs4 hfy x0 x1 x2 x3 x4
      go_wp2_with fail
      refine HF1.out.mono ?_
      rintro e w5 ⟨fb, rfl, hfb, hb5⟩
      have hft : fb = true := hfb.2 HO1.out.1
      subst hft
      have kt5 := HB4.out.2.1.below hb5 HB4.out.2.1.lt
      have x0 := kt5.get 0 (B8 yo) rfl
      have x1 := kt5.get 1 (B8 ya) rfl
      have x2 := kt5.get 2 (B8 yb) rfl
      have x3 := kt5.get 3 (B8 yc) rfl
      have x4 := kt5.get 4 (I yi) rfl
      have HF3 := Lib.hid (HF2.out w5)
      have H5 := Lib.hid (below_tr HB4.out.1 hb5)
      clear hfb hb5 kt5 y0 y1 y2 y3 y4
      go_wp2_with fail
      refine HF3.out.mono ?_
      rintro e w6 ⟨fb, rfl, hfb, hb6⟩
      have hff : fb = false := by
        cases fb with
        | false => rfl
        | true => exact absurd (hfb.1 rfl) HB4.out.2.2
      subst hff
      have FIN := Lib.hid (show LawT w w6 (.returned (.bool true)) from ⟨rfl, below_tr H5.out hb6⟩)
      clear hfb hb6
      go_wp2_with fail
      go_ret
      exact FIN.out
  · have HO1 := Lib.hid hfx
    clear hfx
    go_wp2_with fail
    refine HE2.out.mono ?_
    rintro e w4 ⟨hb4, hor2⟩
    have ks4 := H3.out.2.1.below hb4 H3.out.2.1.lt
    have y0 := ks4.get 0 (B8 xo) rfl
    have y1 := ks4.get 1 (B8 xa) rfl
    have y2 := ks4.get 2 (B8 xb) rfl
    have y3 := ks4.get 3 (B8 xc) rfl
    have y4 := ks4.get 4 (I xi) rfl
    have HF1 := Lib.hid (refForm_any ⟨xo, xa, xb, xc, xi⟩ H1.out.2.2.2.2.1 w4)
    have HB4 := Lib.hid (below_tr H3.out.1 hb4)
    obtain ⟨v, er, rfl⟩ : ∃ v er, e = .returned (.tuple #[v, I er]) := by
      rcases hor2 with ⟨_, v, rfl, _⟩ | ⟨_, rfl⟩
      · exact ⟨_, _, rfl⟩
      · exact ⟨_, _, rfl⟩
    clear hb4 ks4 hor2 x0 x1 x2 x3 x4
    go_wp2_with fail
    refine HF1.out.mono ?_
    rintro e w5 ⟨fb, rfl, hfb, hb5⟩
    have hff : fb = false := by
      cases fb with
      | false => rfl
      | true => exact absurd (hfb.1 rfl) HO1.out
    subst hff
    have FIN := Lib.hid (show LawT w w5 (.returned (.bool true)) from ⟨rfl, below_tr HB4.out hb5⟩)
    clear hfb hb5
    go_wp2_with fail
    go_ret
    exact FIN.out
end Go.Proofs.YtlblmnneikdpgaaDoor
