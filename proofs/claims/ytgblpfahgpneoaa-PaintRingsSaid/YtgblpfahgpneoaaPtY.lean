/-
  PaintLikes: walked.
-/
import Derived.Test.YtgblpfahgpneoaaPtT
namespace Go.Proofs.Ytgblpfahgpneoaa
open Go Go.RowKit Go.Sort Go.BigFrame

def LawT (w : World) (W : World) (e : Ending) : Prop := e = .returned (.bool true) ∧ Below w.heap.size w W
theorem cellsP_app (l : List P2) (m : P2) : cellsP (l ++ [m]) = cellsP l ++ [I m.1, I m.2] := by simp [cellsP, encP]
/-- A row of pairs of one's own. -/
def PairO (W : World) (base : Nat) (v : Value) (l : List P2) : Prop := W.ownsRow base 29 2 v l.length (cellsP l)
theorem PairO.own {W : World} {base : Nat} {v : Value} {l : List P2} (h : PairO W base v l) : OwnP base W v l := ⟨l.map encP, by simp, (fun c hc => by obtain ⟨x, _, rfl⟩ := List.mem_map.1 hc; rfl), h, fun i hi hi' => by show (l.map encP)[i] = encP l[i]; simp⟩
theorem PairO.z {W : World} {base : Nat} {v : Value} {l : List P2} (h : PairO W base v l) : PairZ W v l := h.own.z pairV_stays
theorem PairO.start {W : World} {base : Nat} : PairO W base (.slice none 0 0) [] := World.ownsRow_nil _ _ _ _
theorem PairO.below {W W' : World} {base : Nat} {v : Value} {l : List P2} (h : PairO W base v l) (hb : Below W.heap.size W W') : PairO W' base v l := own_below h hb
theorem PairO.row {W : World} {base : Nat} {v : Value} {l : List P2} (h : PairO W base v l) : ∃ a c, v = .slice a l.length c := h.own.row
theorem PairO.app {W : World} {base : Nat} {v : Value} {l : List P2} {x : P2} (h : W.ownsRow base 29 2 v (l.length + 1) (cellsP l ++ [I x.1, I x.2])) : PairO W base v (l ++ [x]) := by
  unfold PairO
  rw [List.length_append, List.length_singleton, cellsP_app]
  exact h
theorem PairO.cap {W : World} {base n c : Nat} {a : Option Addr} {l : List P2} (h : PairO W base (.slice a n c) l) : n ≤ c ∧ n = l.length := by
  obtain ⟨a', c', e⟩ := h.row
  injection e with e1 e2 e3
  refine ⟨?_, e2⟩
  rcases h.2 with ⟨e, h0⟩ | ⟨g', cap, cur, e, _, _, hn, _⟩
  · omega
  · injection e with e4 e5 e6
    omega
theorem pcap {W : World} {base n c : Nat} {a : Option Addr} {l : List P2} (h : OwnP base W (.slice a n c) l) : n ≤ c := by
  obtain ⟨xs, _, _, ho, _⟩ := h
  rcases ho.2 with ⟨e, h0⟩ | ⟨g', cap, cur, e, _, _, hn, _⟩
  · injection e with e4 e5 e6
    omega
  · injection e with e4 e5 e6
    omega
theorem i64_small {x : Nat} (h : x ≤ 40) : IntKind.i64.wrap (x : Int) = (x : Int) := by
  simp [IntKind.wrap, IntKind.bits, IntKind.signed]
  omega
def LkR (w : World) (M : Nat) (base : Nat) (ov iv : Value) (n : Nat) (W : World) : Prop := ∃ (i : Nat) (L : List P2), i ≤ n ∧ iv = I (i : Int) ∧ L.length ≤ i ∧ L.length ≤ 100 ∧ AreN M L ∧ PairO W base ov L ∧ Below w.heap.size w W ∧ base ≤ W.heap.size ∧ w.heap.size ≤ base

set_option maxRecDepth 100000 in
set_option maxHeartbeats 3200000 in
theorem paintLikes_body (n k : Int) (hn : 0 ≤ n ∧ n ≤ 255) (hk : 0 ≤ k ∧ k ≤ 255) (a : Option Addr) (m c : Nat) (l : List P2) (hm : m = l.length) (hc : m ≤ c) (hcm : c ≤ maxLen) (w : World) (h : PairZ w (.slice a m c) l) :
    Calls Try.prog 4 #[.int .u8 n, .slice a m c, .int .u8 k] w fun e w' => LawT w w' e := by
  obtain ⟨i0, p1, p2, p3, p4⟩ := info_parts infoP
  have HI := Lib.hid (And.intro p1 (And.intro p2 (And.intro p3 p4)))
  clear p1 p2 p3 p4
  have HAW := Lib.hid (awake_any w)
  obtain ⟨hn0, hn1⟩ := hn
  obtain ⟨hk0, hk1⟩ := hk
  obtain ⟨M, hM⟩ : ∃ M : Nat, 1 + n % 40 = (M : Int) := ⟨(1 + n % 40).toNat, by omega⟩
  have hM1 : (1 : Int) ≤ (M : Int) := by omega
  have hM2 : (M : Int) ≤ 40 := by omega
  have hMw : IntKind.u64.wrap (M : Int) = (M : Int) := by
    simp only [IntKind.wrap, IntKind.bits, IntKind.signed, Bool.false_and]
    simp
    omega
  have hMz : ¬ (M : Int) = 0 := by omega
  have hMz2 : ¬ M = 0 := by omega
  have hrem : ∀ p : Int, ∃ x : Nat, (IntKind.u64.wrap p).tmod (M : Int) = (x : Int) ∧ x < M := fun p => by
    have h0 := wrap_u64_nonneg p
    rw [Int.tmod_eq_emod_of_nonneg h0]
    have h1 := Int.emod_nonneg (IntKind.u64.wrap p) hMz
    have h2 := Int.emod_lt_of_pos (IntKind.u64.wrap p) (show (0 : Int) < (M : Int) by omega)
    exact ⟨(IntKind.u64.wrap p % (M : Int)).toNat, by omega, by omega⟩
  obtain ⟨K, hK⟩ : ∃ K : Nat, 1 + k % 16 = (K : Int) := ⟨(1 + k % 16).toNat, by omega⟩
  have HK := Lib.hid (show 1 ≤ K ∧ K ≤ 16 by omega)
  have hmb : (m : Int) ≤ 9223372036854775807 := by unfold maxLen at hcm; omega
  have hmc : (m : Int) ≤ (c : Int) := by omega
  have HH := Lib.hid (And.intro h (And.intro hm (And.intro hM hrem)))
  have HKK := Lib.hid hK
  clear h hm hc hcm hrem hK
  go_enter Try.func4, Try.ntmps4
  go_wp2_with fail
  refine HAW.out.mono ?_
  rintro e w1 ⟨rfl, hb1⟩
  have HS := Lib.hid (show LkR w M w1.heap.size (.slice none 0 0) (I 0) m w1 from ⟨0, [], Nat.zero_le _, rfl, Nat.zero_le _, by decide, fun _ h => (by cases h), PairO.start, hb1, Nat.le_refl _, hb1.size⟩)
  have HB1 := Lib.hid hb1
  clear hb1
  go_upto_region 6 with (fail)
  clear hM hn0 hn1
  go_loopw [8, 23] (fun ov iv W => LkR w M w1.heap.size ov iv m W) (fun _ iv _ => m - (intOf iv).toNat)
  case atStart => exact HS.out
  case round =>
    obtain ⟨i, L, hi, rfl, hLi, hL1, hA, hO, hbe, hba, hwb⟩ := hrel
    obtain ⟨oa, oc, hov⟩ := hO.row
    subst hov
    by_cases hin : i < m
    · have hil : i < l.length := by rw [← HH.out.2.1]; exact hin
      obtain ⟨b, _, rfl, hbl, c0, e0⟩ := (HH.out.1.keep pairV_stays (S' := LtW wr) hbe.block (fun k hk => Nat.lt_of_lt_of_le hk hbe.size)).at i hil
      obtain rfl := e0
      rw [getD_pr hil] at c0
      obtain ⟨p, q, hx⟩ : ∃ a b, pr l i = (a, b) := ⟨_, _, rfl⟩
      rw [hx] at c0
      have x0 : wr.cell? (b.add (i * 2)) = some (I p) := c0.f0
      have x1 : wr.cell? ⟨(b.add (i * 2)).block, (b.add (i * 2)).off + 1, none⟩ = some (I q) := c0.f1
      have d0 : decide (i < m) = true := by simpa using hin
      have d1 : (0 : Int) ≤ (i : Int) := by omega
      have d2 : (i : Int) < (m : Int) := by omega
      have d3 : (i : Int) ≤ (c : Int) := by omega
      obtain ⟨W1, hW1⟩ : ∃ W, W = wr.alloc (.cells #[I p, I q] 29) := ⟨_, rfl⟩
      obtain ⟨bx, hbx⟩ : ∃ b, b = wr.heap.size := ⟨_, rfl⟩
      have kx : Blk bx #[I p, I q] 29 W1 := by rw [hW1, hbx]; exact Blk.new _ _ _
      have hO1 : PairO W1 w1.heap.size (.slice oa L.length oc) L := by rw [hW1]; exact hO.below ((Below.refl _ _).alloc (Nat.le_refl _) _)
      have hB1 : Below w.heap.size w W1 := by rw [hW1]; exact hbe.alloc hbe.size _
      have hs1 : w1.heap.size ≤ W1.heap.size := by rw [hW1]; simp; omega
      by_cases h100 : i < 100
      · have d4 : decide ((i : Int) < 100) = true := by rw [decide_eq_true_eq]; omega
        have d5 : (i : Int) < 100 := by omega
        have y0 := kx.get 0 _ rfl
        have y1 := kx.get 1 _ rfl
        obtain ⟨xp, hxp, hpM⟩ := HH.out.2.2.2 p
        obtain ⟨xq, hxq, hqM⟩ := HH.out.2.2.2 q
        have hp0 : (0 : Int) ≤ (xp : Int) := by omega
        have hp1 : (xp : Int) ≤ 40 := by omega
        have hq0 : (0 : Int) ≤ (xq : Int) := by omega
        have hq1 : (xq : Int) ≤ 40 := by omega
        have hwp : IntKind.i64.wrap (xp : Int) = (xp : Int) := i64_small (by omega)
        have hwq : IntKind.i64.wrap (xq : Int) = (xq : Int) := i64_small (by omega)
        have HPQ := Lib.hid (And.intro hpM hqM)
        have hLb : L.length ≤ 100 := hL1
        have H1 := Lib.hid (And.intro hO1 (And.intro hB1 (And.intro hs1 (And.intro hin (And.intro hLi (And.intro hA (And.intro hwb h100)))))))
        have HW1 := Lib.hid (And.intro hW1 hbx)
        have HW2 := Lib.hid (show Blk bx #[I p, I q] 29 W1.drew from kx)
        have HW3 := Lib.hid (show some bx ≠ (Value.slice oa L.length oc).ownBlock from fun e => by have h9 := (World.ownsRow.lt hO bx e.symm).2; omega)
        clear hO hO1 hB1 hs1 hin hLi hA hbe hba hW1 hbx kx c0 hx hi hil hbl h100 hwb hL1
        go_upto_region 9 with (fail)
        change Code.wp _ _ _ _ (wr.alloc (.cells #[I p, I q] 29))
        rw [← HW1.out.1, ← HW1.out.2]
        clear x0 x1
        have hS : (fun w' : World => w'.cell? ⟨bx, 0, none⟩ = some (I p) ∧ w'.cell? ⟨bx, 1, none⟩ = some (I q)) W1.drew := ⟨y0, y1⟩
        refine wp_region_dep (S := fun w' : World => w'.cell? ⟨bx, 0, none⟩ = some (I p) ∧ w'.cell? ⟨bx, 1, none⟩ = some (I q)) (dep := []) (by kernel_rfl) ?_
        change wpAnyD _ _ _ _ _ _ _ _ _ (World.drew _)
        refine wpAnyD_take (i := 0) (v := ?_) rfl (by kernel_rfl) (by kernel_rfl) (by kernel_rfl) (by kernel_rfl) (by kernel_rfl) (fun _ _ _ h => h) hS (Or.inl ⟨by rfl, ?_⟩) ?_
        rotate_left
        · intro w hSw; obtain ⟨hSw, hSw2⟩ := hSw; go_simp
          try with_reducible rfl
        try simp only [Act.put, List.setIfInBounds_toArray]
        refine wpAnyD_take (i := 1) (v := ?_) rfl (by kernel_rfl) (by kernel_rfl) (by kernel_rfl) (by kernel_rfl) (by kernel_rfl) (fun _ _ _ h => h) hS (Or.inl ⟨by rfl, ?_⟩) ?_
        rotate_left
        · intro w hSw; obtain ⟨hSw, hSw2⟩ := hSw; go_simp
          try with_reducible rfl
        try simp only [Act.put]
        refine wpAnyD_take (i := 2) (v := ?_) rfl (by kernel_rfl) (by kernel_rfl) (by kernel_rfl) (by kernel_rfl) (by kernel_rfl) (fun _ _ _ h => h) hS (Or.inl ⟨by rfl, ?_⟩) ?_
        rotate_left
        · intro w hSw; obtain ⟨hSw, hSw2⟩ := hSw; go_simp
          try with_reducible rfl
        try simp only [Act.put]
        refine wpAnyD_take (i := 3) (v := ?_) rfl (by kernel_rfl) (by kernel_rfl) (by kernel_rfl) (by kernel_rfl) (by kernel_rfl) (fun _ _ _ h => h) hS (Or.inl ⟨by rfl, ?_⟩) ?_
        rotate_left
        · intro w hSw; obtain ⟨hSw, hSw2⟩ := hSw; go_simp
          try with_reducible rfl
        try simp only [Act.put]
        refine wpAnyD_take (i := 4) (v := ?_) rfl (by kernel_rfl) (by kernel_rfl) (by kernel_rfl) (by kernel_rfl) (by kernel_rfl) (fun _ _ _ h => h) hS (Or.inl ⟨by rfl, ?_⟩) ?_
        rotate_left
        · intro w hSw; obtain ⟨hSw, hSw2⟩ := hSw; go_simp
          try with_reducible rfl
        try simp only [Act.put]
        refine wpAnyD_take (i := 5) (v := ?_) rfl (by kernel_rfl) (by kernel_rfl) (by kernel_rfl) (by kernel_rfl) (by kernel_rfl) (fun _ _ _ h => h) hS (Or.inl ⟨by rfl, ?_⟩) ?_
        rotate_left
        · intro w hSw; obtain ⟨hSw, hSw2⟩ := hSw; go_simp
          try with_reducible rfl
        try simp only [Act.put]
        refine wpAnyD_take (i := 6) (v := ?_) rfl (by kernel_rfl) (by kernel_rfl) (by kernel_rfl) (by kernel_rfl) (by kernel_rfl) (fun _ _ _ h => h) hS (Or.inl ⟨by rfl, ?_⟩) ?_
        rotate_left
        · intro w hSw; obtain ⟨hSw, hSw2⟩ := hSw; go_simp
          try with_reducible rfl
        try simp only [Act.put]
        refine wpAnyD_take (i := 7) (v := ?_) rfl (by kernel_rfl) (by kernel_rfl) (by kernel_rfl) (by kernel_rfl) (by kernel_rfl) (fun _ _ _ h => h) hS (Or.inl ⟨by rfl, ?_⟩) ?_
        rotate_left
        · intro w hSw; obtain ⟨hSw, hSw2⟩ := hSw; go_simp
          try with_reducible rfl
        try simp only [Act.put]
        refine wpAnyD_take (i := 8) (v := ?_) rfl (by kernel_rfl) (by kernel_rfl) (by kernel_rfl) (by kernel_rfl) (by kernel_rfl) (fun _ _ _ h => h) hS (Or.inl ⟨by rfl, ?_⟩) ?_
        rotate_left
        · intro w hSw; obtain ⟨hSw, hSw2⟩ := hSw; go_simp
          try with_reducible rfl
        try simp only [Act.put]
        refine wpAnyD_take (i := 9) (v := ?_) rfl (by kernel_rfl) (by kernel_rfl) (by kernel_rfl) (by kernel_rfl) (by kernel_rfl) (fun _ _ _ h => h) hS (Or.inl ⟨by rfl, ?_⟩) ?_
        rotate_left
        · intro w hSw; obtain ⟨hSw, hSw2⟩ := hSw; go_simp
          try with_reducible rfl
        try simp only [Act.put]
        refine wpAnyD_take (i := 10) (v := ?_) rfl (by kernel_rfl) (by kernel_rfl) (by kernel_rfl) (by kernel_rfl) (by kernel_rfl) (fun _ _ _ h => h) hS (Or.inl ⟨by rfl, ?_⟩) ?_
        rotate_left
        · intro w hSw; obtain ⟨hSw, hSw2⟩ := hSw; go_simp
          try with_reducible rfl
        try simp only [Act.put]
        refine wpAnyD_take (i := 11) (v := ?_) rfl (by kernel_rfl) (by kernel_rfl) (by kernel_rfl) (by kernel_rfl) (by kernel_rfl) (fun _ _ _ h => h) hS (Or.inl ⟨by rfl, ?_⟩) ?_
        rotate_left
        · intro w hSw; obtain ⟨hSw, hSw2⟩ := hSw; go_simp
          try with_reducible rfl
        try simp only [Act.put]
        refine wpAnyD_take (i := 12) (v := ?_) rfl (by kernel_rfl) (by kernel_rfl) (by kernel_rfl) (by kernel_rfl) (by kernel_rfl) (fun _ _ _ h => h) hS (Or.inl ⟨by rfl, ?_⟩) ?_
        rotate_left
        · intro w hSw; obtain ⟨hSw, hSw2⟩ := hSw; go_simp
          try with_reducible rfl
        try simp only [Act.put]
        refine wpAnyD_take (i := 13) (v := ?_) rfl (by kernel_rfl) (by kernel_rfl) (by kernel_rfl) (by kernel_rfl) (by kernel_rfl) (fun _ _ _ h => h) hS (Or.inl ⟨by rfl, ?_⟩) ?_
        rotate_left
        · intro w hSw; obtain ⟨hSw, hSw2⟩ := hSw; go_simp
          try with_reducible rfl
        try simp only [Act.put]
        refine wpAnyD_take (i := 14) (v := ?_) rfl (by kernel_rfl) (by kernel_rfl) (by kernel_rfl) (by kernel_rfl) (by kernel_rfl) (fun _ _ _ h => h) hS (Or.inl ⟨by rfl, ?_⟩) ?_
        rotate_left
        · intro w hSw; obtain ⟨hSw, hSw2⟩ := hSw; go_simp
          try with_reducible rfl
        try simp only [Act.put]
        refine wpAnyD_take (i := 15) (v := ?_) rfl (by kernel_rfl) (by kernel_rfl) (by kernel_rfl) (by kernel_rfl) (by kernel_rfl) (fun _ _ _ h => h) hS (Or.inl ⟨by rfl, ?_⟩) ?_
        rotate_left
        · intro w hSw; obtain ⟨hSw, hSw2⟩ := hSw; go_simp
          try with_reducible rfl
        try simp only [Act.put]
        have hS16 : (fun w' : World => w'.cell? ⟨bx, 0, none⟩ = some (I p) ∧ w'.cell? ⟨bx, 1, none⟩ = some (I q)) (W1.drew.alloc (.cells #[I (xp : Int), I (xq : Int)] 29)) := ⟨Lib.cell?_alloc_some _ y0, Lib.cell?_alloc_some _ y1⟩
        clear hS y0 y1 hMw hxp hxq
        refine wpAnyD_one (i := 16) rfl (by kernel_rfl) rfl (fun K hK => ?_)
        go_simp
        refine hK _ _ (Or.inr hS16) ?_
        clear hK K
        try simp only [Act.put, List.setIfInBounds_toArray, List.set_cons_zero, List.set_cons_succ]
        refine wpAnyD_one (i := 17) rfl (by kernel_rfl) rfl (fun K hK => ?_)
        refine wp_append_lies _ (.tmp 30) (.tmp 46) 22 rfl w1.heap.size 29 i0 (.agg #[I 0, I 0]) 2 16 Try.underlying22 HI.out.1 HI.out.2.1 HI.out.2.2.1 HI.out.2.2.2 rfl (by decide) (.slice oa L.length oc) L.length (cellsP L) rfl (World.ownsRow.alloc (own_below H1.out.1 (below_drewN (Below.refl _ _) 1)) _) ⟨W1.heap.size, 0, none⟩ 1 1 [I (xp : Int), I (xq : Int)] rfl rfl (World.news_of_block (heap_alloc_new W1.drew _)) (by simp [Value.oneCell']) (by decide) (by unfold maxLen; omega) (by omega) (by have h1 : w1.heap.size ≤ W1.heap.size := H1.out.2.2.1; simp; omega) _ rfl ?_
        intro g4 c4 w4 ho4 hg4 hat4 hlt4
        have hS17 : (fun w' : World => w'.cell? ⟨bx, 0, none⟩ = some (I p) ∧ w'.cell? ⟨bx, 1, none⟩ = some (I q)) w4 := by
          have k4 := ((HW2.out.alloc (.cells #[I (xp : Int), I (xq : Int)] 29)).other hg4 HW3.out)
          exact ⟨k4.get 0 _ rfl, k4.get 1 _ rfl⟩
        have hB4 : Below w.heap.size w w4 := (((below_drewN H1.out.2.1 1).alloc (by have := H1.out.2.1.size; simpa using this) (.cells #[I (xp : Int), I (xq : Int)] 29)).grown hg4 (by have h1 := H1.out.2.1.size; simp; omega) (fun k hk => by have h9 := (World.ownsRow.lt H1.out.1 k hk).1; have := H1.out.2.2.2.2.2.2.1; omega))
        have HN := Lib.hid (show LkR w M w1.heap.size (.slice (some ⟨g4, 0, none⟩) (L.length + 1) c4) (I ((i : Int) + 1)) m w4 from ⟨i + 1, L ++ [((xp : Int), (xq : Int))], H1.out.2.2.2.1, rfl, by rw [List.length_append, List.length_singleton]; have := H1.out.2.2.2.2.1; omega, by rw [List.length_append, List.length_singleton]; have := H1.out.2.2.2.2.1; have := H1.out.2.2.2.2.2.2.2; omega, fun p hp => by
            rcases List.mem_append.1 hp with e | e
            · exact H1.out.2.2.2.2.2.1 p e
            · rw [List.mem_singleton.1 e]; have := HPQ.out; unfold NodeP; dsimp only; omega, PairO.app ho4, hB4, by have h1 := hg4.size; have h2 := H1.out.2.2.1; simp at h1; omega, H1.out.2.2.2.2.2.2.1⟩)
        refine hK _ _ (Or.inr hS17) ?_
        clear hK K ho4 hg4 hat4 hlt4 hB4
        try simp only [Act.put, List.setIfInBounds_toArray]
        refine wpAnyD_one (i := 18) rfl (by kernel_rfl) rfl (fun K hK => ?_)
        go_simp
        refine hK _ _ (Or.inr hS17) ?_
        clear hK K hS17
        try simp only [Act.put, List.setIfInBounds_toArray, List.set_cons_zero, List.set_cons_succ]
        refine wpAnyD_done (by kernel_rfl) ?_ _
        go_wp2_with fail
        exact ⟨HN.out, by have := H1.out.2.2.2.1; simp [intOf]; omega⟩
      · have d4 : decide ((i : Int) < 100) = false := by rw [decide_eq_false_iff_not]; omega
        have HN := Lib.hid (show LkR w M w1.heap.size (.slice oa L.length oc) (I ((i : Int) + 1)) m W1 from ⟨i + 1, L, hin, rfl, by omega, hL1, hA, hO1, hB1, hs1, hwb⟩)
        have HT := Lib.hid hin
        have HW1 := Lib.hid (And.intro hW1 hbx)
        clear hO hO1 hB1 hs1 hin hLi hA hbe hba hW1 hbx kx c0 hx hi hil hbl h100 hwb hL1
        go_upto_region 8 with (fail)
        change Code.wp _ _ _ _ (wr.alloc (.cells #[I p, I q] 29))
        rw [← HW1.out.1, ← HW1.out.2]
        clear x0 x1
        go_wp2_with fail
        exact ⟨HN.out, by have := HT.out; simp [intOf]; omega⟩
    · have d0 : decide (i < m) = false := by simpa using hin
      have hcap := hO.cap.1
      have HTW := Lib.hid (twins_any 100 (by omega) oa L.length oc L rfl hcap wr hO.z)
      have H1 := Lib.hid (And.intro hO (And.intro hbe (And.intro hA (And.intro hL1 (And.intro hba hwb)))))
      have hLb : L.length ≤ 100 := hL1
      have hKK := HKK.out
      clear hO hbe hA hL1 hba hwb hLi hin hi hcap hMw
      go_wp2_with fail
      refine HTW.out.mono ?_
      rintro e w2 ⟨u, rfl, how, hb2⟩
      rw [List.take_of_length_le hLb] at how
      obtain ⟨ua, uc, rfl⟩ := how.row
      have huz := how.z pairV_stays
      have HP := Lib.hid (paint_of M K (by omega) HK.out.2 none ua 0 0 L.length uc [] L rfl (by omega) (by omega) rfl (by omega) (pcap how) w2 (SlS.nil _ _) huz)
      have H2 := Lib.hid (below_tr H1.out.2.1 hb2)
      have HO2 := Lib.hid (H1.out.1.below hb2)
      clear how hb2 huz
      go_wp2_with fail
      refine HP.out.mono ?_
      rintro e w3 ⟨hok, _⟩
      obtain ⟨bc, C, rfl, hlc, kc, hcol, hb3⟩ := hok ⟨no_are, H1.out.2.2.1⟩
      have h0 := hcol.li (fun v x => no_nei) (by have := HK.out; omega)
      have H3 := Lib.hid (And.intro kc (And.intro h0 (And.intro (below_tr H2.out hb3) (HO2.out.below hb3))))
      have HS2 := Lib.hid (show RtR w3 L.length (I 0) w3 from ⟨0, Nat.zero_le _, rfl, Below.refl _ _⟩)
      have hLn : (L.length : Int) ≤ 100 := by omega
      have hcapi : (L.length : Int) ≤ (oc : Int) := by have := HO2.out.cap.1; omega
      clear hok hlc kc hcol hb3 h0
      go_wp2_with fail
      go_loopw [70] (fun iv W => RtR w3 L.length iv W) (fun iv _ => L.length - (intOf iv).toNat)
      case atStart => exact HS2.out
      case round =>
        obtain ⟨j, hj, rfl, hbe⟩ := hrel
        by_cases hjm : j < L.length
        · obtain ⟨b, _, rfl, hbl, c0, e0⟩ := (H3.out.2.2.2.z.below pairV_stays hbe).at j hjm
          obtain rfl := e0
          have hpm : pr L j ∈ L := by rw [← getD_pr hjm]; exact List.getElem_mem hjm
          have hnd : NodeP M (pr L j) := H1.out.2.2.1 _ hpm
          rw [getD_pr hjm] at c0
          obtain ⟨p, q, hx⟩ : ∃ a b, pr L j = (a, b) := ⟨_, _, rfl⟩
          rw [hx] at c0 hnd
          obtain ⟨q1, q2, q3, q4⟩ : 0 ≤ p ∧ p < (M : Int) ∧ 0 ≤ q ∧ q < (M : Int) := hnd
          obtain ⟨xa, rfl⟩ : ∃ a : Nat, p = (a : Int) := ⟨p.toNat, by omega⟩
          obtain ⟨xb, rfl⟩ : ∃ a : Nat, q = (a : Int) := ⟨q.toNat, by omega⟩
          have x0 : wr.cell? (b.add (j * 2)) = some (I (xa : Int)) := c0.f0
          have x1 : wr.cell? ⟨(b.add (j * 2)).block, (b.add (j * 2)).off + 1, none⟩ = some (I (xb : Int)) := c0.f1
          have d0 : decide (j < L.length) = true := by simpa using hjm
          have d1 : (0 : Int) ≤ (j : Int) := by omega
          have d2 : (j : Int) < (L.length : Int) := by omega
          have d3 : (j : Int) ≤ (oc : Int) := by omega
          obtain ⟨W1, hW1⟩ : ∃ W, W = wr.alloc (.cells #[I (xa : Int), I (xb : Int)] 29) := ⟨_, rfl⟩
          obtain ⟨bx, hbx⟩ : ∃ b, b = wr.heap.size := ⟨_, rfl⟩
          have kx : Blk bx #[I (xa : Int), I (xb : Int)] 29 W1 := by rw [hW1, hbx]; exact Blk.new _ _ _
          have y0 := kx.get 0 _ rfl
          have y1 := kx.get 1 _ rfl
          have hB1 : Below w3.heap.size w3 W1 := by rw [hW1]; exact hbe.alloc hbe.size _
          have kC := H3.out.1.below hB1 H3.out.1.lt
          have z0 := kC.get xa (I (C xa)) (arrF_get _ (by omega))
          have z1 := kC.get xb (I (C xb)) (arrF_get _ (by omega))
          rw [H3.out.2.1 xa (by omega)] at z0
          rw [H3.out.2.1 xb (by omega)] at z1
          have HN := Lib.hid (fun W2 (hb2 : Below w3.heap.size w3 W2) => show RtR w3 L.length (I ((j : Int) + 1)) W2 from ⟨j + 1, hjm, rfl, hb2⟩)
          have HB := Lib.hid hB1
          have HT := Lib.hid hjm
          have HW1 := Lib.hid (And.intro hW1 hbx)
          clear hW1 hbx kx hB1 kC hbe hjm hj hpm hx c0 hbl
          go_upto_region 17 with (fail)
          change Code.wp _ _ _ _ (wr.alloc (.cells #[I (xa : Int), I (xb : Int)] 29))
          rw [← HW1.out.1, ← HW1.out.2]
          clear x0 x1
          go_quiet (fail)
          go_wp2_with fail
          exact ⟨HN.out _ (below_drewN HB.out _), by have := HT.out; simp [intOf]; omega⟩
        · have d0 : decide (j < L.length) = false := by simpa using hjm
          have FIN := Lib.hid (show LawT w wr (.returned (.bool true)) from ⟨rfl, below_tr H3.out.2.2.1 hbe⟩)
          clear hbe hjm hj
          go_wp2_with fail
          go_ret
          exact FIN.out
end Go.Proofs.Ytgblpfahgpneoaa
