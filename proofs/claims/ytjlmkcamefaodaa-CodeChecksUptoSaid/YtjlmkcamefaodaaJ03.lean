/-
  Joined: CdW, Drawn.
-/
import Derived.Test.YtjlmkcamefaodaaJ02
import Derived.Deep.AppendLies
import Derived.OrdersHeld
/-! CdW: Code of one's own: the document's copy, walked. -/

namespace Go.Proofs.Ytjlmkcamefaodaa
open Go Go.RowKit Cd

theorem infoI : (Try.prog.info? 3).map (fun i => (i.zero, i.size, i.bytes)) = some (some (I 0), 1, 8) := by kernel_rfl
theorem infoD : (Try.prog.info? 57).map (fun i => (i.zero, i.size, i.bytes)) = some (some (.agg #[I 0, I 0, U8 0, I 0, I 0, I 0]), 6, 48) := by kernel_rfl
theorem infoS : (Try.prog.info? 59).map (fun i => (i.zero, i.size, i.bytes)) = some (some (.agg #[I 0, I 0]), 2, 16) := by kernel_rfl
theorem infoIn : (Try.prog.info? 44).map (fun i => (i.zero, i.size, i.bytes)) = some (some (.agg #[U8 0, I 0, .slice none 0 0, I 0, I 0, .slice none 0 0]), 6, 80) := by kernel_rfl
theorem infoBl : (Try.prog.info? 40).map (fun i => (i.zero, i.size, i.bytes)) = some (some (.agg #[.slice none 0 0, .slice none 0 0, U8 0, I 0, I 0, I 0]), 6, 80) := by kernel_rfl
theorem infoFu : (Try.prog.info? 36).map (fun i => (i.zero, i.size, i.bytes)) = some (some (.agg #[I 0, I 0, I 0, .slice none 0 0]), 4, 48) := by kernel_rfl
theorem infoSl : (Try.prog.info? 51).map (fun i => (i.zero, i.size, i.bytes)) = some (some (.slice none 0 0), 1, 24) := by kernel_rfl

theorem oneI (x : Int) : ∀ u ∈ encI x, u.oneCell' = true := by intro u hu; simp [encI] at hu; subst hu; rfl
theorem oneD (x : DbgP) : ∀ u ∈ encD x, u.oneCell' = true := by
  intro u hu
  simp only [encD, List.mem_cons, List.not_mem_nil, or_false] at hu
  rcases hu with rfl | rfl | rfl | rfl | rfl | rfl <;> rfl
theorem oneS (x : SpotP) : ∀ u ∈ encS x, u.oneCell' = true := by
  intro u hu
  simp only [encS, List.mem_cons, List.not_mem_nil, or_false] at hu
  rcases hu with rfl | rfl <;> rfl

/-- Instructions, few, with few Args and few that is known. -/
def SmallI (l : List InstP) : Prop := l.length ≤ 4000000 ∧ ∀ i (h : i < l.length), l[i].args.length ≤ 4000000 ∧ l[i].dbg.length ≤ 4000000
def TwI (w : World) (l : List InstP) (ov iv : Value) (W : World) : Prop := ∃ i : Nat, i ≤ l.length ∧ iv = I (i : Int) ∧ OwnS w.heap.size 44 6 InstV W ov (l.take i) ∧ Below w.heap.size w W
def TwIT (w : World) (l : List InstP) (W : World) (e : Ending) : Prop := ∃ u, e = .returned u ∧ OwnS w.heap.size 44 6 InstV W u l ∧ Below w.heap.size w W

set_option maxRecDepth 100000 in
set_option maxHeartbeats 3200000 in
theorem twins_any (v : Value) (l : List InstP) (hs : SmallI l) (w : World) (h : InstsZ w v l) :
    Calls Try.prog 19 #[v] w fun e w' => TwIT w l w' e := by
  obtain ⟨iI, p1, p2, p3, p4⟩ := info_parts infoI
  have HI := Lib.hid (And.intro p1 (And.intro p2 (And.intro p3 p4)))
  clear p1 p2 p3 p4
  obtain ⟨iD, p1, p2, p3, p4⟩ := info_parts infoD
  have HD := Lib.hid (And.intro p1 (And.intro p2 (And.intro p3 p4)))
  clear p1 p2 p3 p4
  obtain ⟨iN, p1, p2, p3, p4⟩ := info_parts infoIn
  have HN := Lib.hid (And.intro p1 (And.intro p2 (And.intro p3 p4)))
  clear p1 p2 p3 p4
  obtain ⟨a, c, rfl⟩ := h.size
  obtain ⟨n, hn⟩ : ∃ n, n = l.length := ⟨_, rfl⟩
  rw [← hn] at h ⊢
  have hnb : (n : Int) ≤ 4000000 := by have := hs.1; omega
  have HH := Lib.hid (And.intro h (And.intro hn hs))
  clear h hn hs
  go_enter Try.func19, Try.ntmps19
  go_wp2_with fail
  go_loopw [3, 8] (fun ov iv W => TwI w l ov iv W) (fun _ iv _ => n - (intOf iv).toNat)
  case atStart => exact ⟨0, Nat.zero_le _, rfl, OwnS.start, Below.refl _ _⟩
  case round =>
    obtain ⟨i, hi, rfl, hown, hbe⟩ := hrel
    by_cases hin : i < n
    · have hil : i < l.length := by rw [← HH.out.2.1]; exact hin
      obtain ⟨b, _, rfl, hbl, c0, av, dv, rfl, haz, hdz⟩ := (HH.out.1.below instV_stays hbe).at i hil
      obtain ⟨x, hx⟩ : ∃ z, z = l[i] := ⟨_, rfl⟩
      have hsm := HH.out.2.2.2 i hil
      rw [← hx] at c0 haz hdz hsm
      obtain ⟨aa, ac, rfl⟩ := haz.size
      obtain ⟨da, dc, rfl⟩ := hdz.size
      obtain ⟨A, hA⟩ : ∃ A, A = x.args.length := ⟨_, rfl⟩
      obtain ⟨D, hD⟩ : ∃ D, D = x.dbg.length := ⟨_, rfl⟩
      rw [← hA] at haz
      rw [← hD] at hdz
      rw [← hA, ← hD] at c0
      have htk : l.take (i + 1) = l.take i ++ [x] := by rw [List.take_succ_eq_append_getElem hil, ← hx]
      have x0 := c0.f0
      have x1 := c0.f1
      have x2 := c0.f2
      have x3 := c0.f3
      have x4 := c0.f4
      have x5 := c0.f5
      have H1 := Lib.hid (And.intro hown (And.intro hbe (And.intro haz (And.intro hdz (And.intro hsm (And.intro htk hin))))))
      have d0 : decide (i < n) = true := by simpa using hin
      have d1 : (0 : Int) ≤ (i : Int) := by omega
      have d2 : (i : Int) < (n : Int) := by omega
      clear hown hbe haz hdz hsm htk c0 hx hil hin hbl hi hA hD
      obtain ⟨bx, hbx⟩ : ∃ g, g = wr.heap.size := ⟨_, rfl⟩
      obtain ⟨b1, hb1⟩ : ∃ g, g = wr.heap.size + 1 := ⟨_, rfl⟩
      obtain ⟨W2, hW2⟩ : ∃ W, W = (wr.alloc (.cells #[U8 x.op, I x.dst, .slice aa A ac, I x.imm, I x.site, .slice da D dc] 44)).alloc (.cells #[] 3) := ⟨_, rfl⟩
      have hB2 : Below wr.heap.size wr W2 := by rw [hW2]; exact ((Below.refl _ _).alloc (Nat.le_refl _) _).alloc (by simp) _
      have kx2 : Blk bx #[U8 x.op, I x.dst, .slice aa A ac, I x.imm, I x.site, .slice da D dc] 44 W2 := by rw [hW2, hbx]; exact (Blk.new _ _ _).alloc _
      have k12 : Blk b1 #[] 3 W2 := by rw [hW2, hb1]; exact Blk.new' _ _ _ (by simp)
      have hsz2 : W2.heap.size = b1 + 1 := by rw [hW2, hb1]; simp
      have H2 := Lib.hid (And.intro hB2 (And.intro kx2 (And.intro k12 (And.intro hsz2 (And.intro hbx hb1)))))
      have HW2 := Lib.hid hW2
      clear hB2 kx2 k12 hsz2 hbx hb1 hW2
      go_wp2_with (first | (at_builtin; refine Hid.out ?_) | go_in)
      unfold Hid
      change wpList _ _ _ _ _ ((wr.alloc (.cells #[U8 x.op, I x.dst, .slice aa A ac, I x.imm, I x.site, .slice da D dc] 44)).alloc (.cells #[] 3))
      rw [← HW2.out, ← H2.out.2.2.2.2.2, ← H2.out.2.2.2.2.1]
      refine wpList_plain rfl fun K hK => ?_
      refine wp_clone (enc := encI) (.tmp 12) (.tmp 14) 41 rfl 3 iI (I 0) 1 8 Try.underlying41 HI.out.1 HI.out.2.1 HI.out.2.2.1 HI.out.2.2.2 rfl (by decide) (fun _ => rfl) oneI b1 rfl H2.out.2.2.1 (.slice aa A ac) rfl x.args (LtW W2) (H1.out.2.2.1.below intV_stays H2.out.1) H1.out.2.2.2.2.1.1 (by decide) ?_
      intro u1 w3 ho1 hg1 hat1
      refine hK _ _ ?_
      clear hK K x0 x1 x2 x3 x4 x5
      obtain ⟨a1, c1, rfl⟩ := ho1.row
      have hlt12 : bx < b1 := by rw [H2.out.2.2.2.2.1, H2.out.2.2.2.2.2]; omega
      have kx3 : Blk bx #[U8 x.op, I x.dst, .slice aa A ac, I x.imm, I x.site, .slice da D dc] 44 w3 := H2.out.2.1.other hg1 (by simp; omega)
      have hB3 : Below wr.heap.size wr w3 := H2.out.1.grown hg1 H2.out.1.size (fun k hk => by cases hk; rw [H2.out.2.2.2.2.2]; omega)
      have hAe := H1.out.2.2.1
      obtain ⟨A1, hA1⟩ : ∃ n, n = x.args.length := ⟨_, rfl⟩
      rw [← hA1] at ho1 ⊢
      obtain ⟨W4, hW4⟩ : ∃ W, W = w3.setCell ⟨bx, 2, none⟩ (.slice a1 A1 c1) := ⟨_, rfl⟩
      have kx4 : Blk bx #[U8 x.op, I x.dst, .slice a1 A1 c1, I x.imm, I x.site, .slice da D dc] 44 W4 := by rw [hW4]; exact kx3.set 2 (.slice a1 A1 c1)
      have hB4 : Below wr.heap.size wr W4 := by rw [hW4]; exact hB3.setCell (p := ⟨bx, 2, none⟩) (by rw [H2.out.2.2.2.2.1]; exact Nat.le_refl _) _
      have hs1 : SlS (FreeS (GeB b1 w3) W4) 1 IntV W4 (.slice a1 A1 c1) x.args := (ho1.sl intV_stays).keepF intV_stays (fun n hn => by rw [hW4]; exact Below.heap_setCell _ _ _ _ (show n ≠ bx by have := hn.1; omega)) (fun _ h => h)
      have hz4 : W4.heap.size = w3.heap.size := by rw [hW4]; simp [World.setCell]
      have y2 := kx3.get 2 (.slice aa A ac) rfl
      have f2 := kx3.free 2
      have HW4 := Lib.hid hW4
      have H4 := Lib.hid (And.intro kx4 (And.intro hB4 (And.intro hs1 (And.intro hz4 hlt12))))
      clear ho1 hg1 hat1 kx3 hB3 hAe hA1 hW4 kx4 hB4 hs1 hz4 hlt12
      go_upto_region 6 with (fail)
      change Code.wp _ _ _ _ (w3.setCell ⟨bx, 2, none⟩ (.slice a1 A1 c1))
      rw [← HW4.out]
      clear y2 f2
      have y5 := (H4.out.1.alloc (.cells #[] 57)).get 5 (.slice da D dc) rfl
      obtain ⟨b2, hb2⟩ : ∃ g, g = W4.heap.size := ⟨_, rfl⟩
      obtain ⟨W5, hW5⟩ : ∃ W, W = W4.alloc (.cells #[] 57) := ⟨_, rfl⟩
      have hB5 : Below wr.heap.size wr W5 := by rw [hW5]; exact H4.out.2.1.alloc H4.out.2.1.size _
      have kx5 : Blk bx #[U8 x.op, I x.dst, .slice a1 A1 c1, I x.imm, I x.site, .slice da D dc] 44 W5 := by rw [hW5]; exact H4.out.1.alloc _
      have k25 : Blk b2 #[] 57 W5 := by rw [hW5, hb2]; exact Blk.new _ _ _
      have H5 := Lib.hid (And.intro hB5 (And.intro kx5 (And.intro k25 hb2)))
      have HW5 := Lib.hid hW5
      clear hB5 kx5 k25 hb2 hW5
      go_wp2_with (first | (at_builtin; refine Hid.out ?_) | go_in)
      unfold Hid
      change wpList _ _ _ _ _ (W4.alloc (.cells #[] 57))
      rw [← HW5.out, ← H5.out.2.2.2]
      refine wpList_plain rfl fun K hK => ?_
      refine wp_clone (enc := encD) (.tmp 17) (.tmp 19) 42 rfl 57 iD (.agg #[I 0, I 0, U8 0, I 0, I 0, I 0]) 6 48 Try.underlying42 HD.out.1 HD.out.2.1 HD.out.2.2.1 HD.out.2.2.2 rfl (by decide) (fun _ => rfl) oneD b2 rfl H5.out.2.2.1 (.slice da D dc) rfl x.dbg (LtW W5) (H1.out.2.2.2.1.below dbgV_stays H5.out.1) H1.out.2.2.2.2.1.2 (by decide) ?_
      intro u2 w6 ho2 hg2 hat2
      refine hK _ _ ?_
      clear hK K y5
      obtain ⟨a2, c2, rfl⟩ := ho2.row
      have hlt : bx < b2 := by rw [H5.out.2.2.2]; exact H4.out.1.lt
      have kx6 : Blk bx #[U8 x.op, I x.dst, .slice a1 A1 c1, I x.imm, I x.site, .slice da D dc] 44 w6 := H5.out.2.1.other hg2 (by simp; omega)
      have hb2s : wr.heap.size ≤ b2 := by rw [H5.out.2.2.2]; exact H4.out.2.1.size
      have hB6 : Below wr.heap.size wr w6 := H5.out.1.grown hg2 H5.out.1.size (fun k hk => by cases hk; exact hb2s)
      obtain ⟨D1, hD1⟩ : ∃ n, n = x.dbg.length := ⟨_, rfl⟩
      rw [← hD1] at ho2 ⊢
      obtain ⟨W7, hW7⟩ : ∃ W, W = w6.setCell ⟨bx, 5, none⟩ (.slice a2 D1 c2) := ⟨_, rfl⟩
      have kx7 : Blk bx #[U8 x.op, I x.dst, .slice a1 A1 c1, I x.imm, I x.site, .slice a2 D1 c2] 44 W7 := by rw [hW7]; exact kx6.set 5 (.slice a2 D1 c2)
      have hB7 : Below wr.heap.size wr W7 := by rw [hW7]; exact hB6.setCell (p := ⟨bx, 5, none⟩) (by rw [H2.out.2.2.2.2.1]; exact Nat.le_refl _) _
      have hz7 : W7.heap.size = w6.heap.size := by rw [hW7]; simp [World.setCell]
      have hz6 : W5.heap.size ≤ w6.heap.size := hg2.size
      have hz5 : W5.heap.size = b2 + 1 := by rw [HW5.out, H5.out.2.2.2]; simp
      have hown7 := H1.out.1.below instV_stays hB7
      obtain ⟨s3, m3, k3, hu3⟩ : ∃ a m k, u3 = .slice a m k := by
        obtain ⟨a, k, e⟩ := hown7.row
        exact ⟨_, _, _, e⟩
      have hvb : ∀ n, some n = u3.ownBlock → n < bx := fun n e => by
        obtain ⟨cs, _, _, q3, _⟩ := H1.out.1
        rw [H2.out.2.2.2.2.1]
        exact (q3.lt n e.symm).2
      have hbase : w.heap.size ≤ bx := by rw [H2.out.2.2.2.2.1]; exact H1.out.2.1.size
      have hin3 : ∀ n, GeB b1 w3 n → n < W4.heap.size ∧ n ≠ bx ∧ n ≠ b2 ∧ n < W7.heap.size ∧ bx < n := fun n hn => by
        have h1 : n < W4.heap.size := by rw [H4.out.2.2.2.1]; exact hn.2
        have h4 : n < b2 := by rw [H5.out.2.2.2]; exact h1
        have h2 := hn.1
        have h3 := H4.out.2.2.2.2
        exact ⟨h1, by omega, by omega, by rw [hz7]; omega, by omega⟩
      have hs1 : SlS (SxW w.heap.size u3 W7) 1 IntV W7 (.slice a1 A1 c1) x.args := H4.out.2.2.1.keepF intV_stays (fun n hn => by
        obtain ⟨h1, h2, h3, _, _⟩ := hin3 n hn
        rw [hW7, Below.heap_setCell _ _ _ _ (show n ≠ bx from h2), hg2.block n (by rw [hz5]; rw [← H5.out.2.2.2] at h1; omega) (by simp; exact h3), HW5.out]
        exact heap_alloc_old _ _ h1) (fun n hn => ⟨by have := (hin3 n hn).2.2.2.2; omega, (hin3 n hn).2.2.2.1, fun e => by have := hvb n e; have := (hin3 n hn).2.2.2.2; omega⟩)
      have hs2 : SlS (SxW w.heap.size u3 W7) 6 DbgV W7 (.slice a2 D1 c2) x.dbg := (ho2.sl dbgV_stays).keepF dbgV_stays (fun n hn => by
        rw [hW7]; exact Below.heap_setCell _ _ _ _ (show n ≠ bx by have := hn.1; omega)) (fun n hn => ⟨by have := hn.1; omega, by rw [hz7]; exact hn.2, fun e => by have := hvb n e; have := hn.1; omega⟩)
      have hx7 : InstV (SxW w.heap.size u3 W7) W7 [U8 x.op, I x.dst, .slice a1 A1 c1, I x.imm, I x.site, .slice a2 D1 c2] x := ⟨_, _, rfl, hs1, hs2⟩
      have y5 := kx6.get 5 (.slice da D dc) rfl
      have f5 := kx6.free 5
      obtain ⟨cs, q1, q2, q3, q4⟩ := hown7
      obtain ⟨li, hli⟩ : ∃ n, n = (l.take i).length := ⟨_, rfl⟩
      have hlib : li ≤ 4000000 := by rw [hli, List.length_take]; omega
      rw [← hli] at q3
      have H7 := Lib.hid (And.intro kx7 (And.intro hB7 (And.intro q1 (And.intro q2 (And.intro q3 (And.intro hx7 (And.intro hli (And.intro hlib hu3))))))))
      have HQ4 := Lib.hid q4
      have HW7 := Lib.hid hW7
      clear hin3 ho2 hg2 hat2 hlt kx6 hb2s hB6 hD1 hW7 kx7 hB7 hz7 hz6 hz5 hvb hbase hs1 hs2 hx7 q1 q2 q3 q4 hli hlib
      go_upto_region 7 with (fail)
      change Code.wp _ _ _ _ (w6.setCell ⟨bx, 5, none⟩ (.slice a2 D1 c2))
      rw [← HW7.out]
      clear y5 f5
      have y0 := H7.out.1.get 0 (U8 x.op) rfl
      have y1 := H7.out.1.get 1 (I x.dst) rfl
      have y2 := H7.out.1.get 2 (.slice a1 A1 c1) rfl
      have y3 := H7.out.1.get 3 (I x.imm) rfl
      have y4 := H7.out.1.get 4 (I x.site) rfl
      have y5 := H7.out.1.get 5 (.slice a2 D1 c2) rfl
      go_wp2_with (first | (at_builtin; refine Hid.out ?_) | go_in)
      unfold Hid
      obtain ⟨W8, hW8⟩ : ∃ W, W = W7.alloc (.cells #[U8 x.op, I x.dst, .slice a1 A1 c1, I x.imm, I x.site, .slice a2 D1 c2] 44) := ⟨_, rfl⟩
      change wpList _ _ _ _ _ (W7.alloc (.cells #[U8 x.op, I x.dst, .slice a1 A1 c1, I x.imm, I x.site, .slice a2 D1 c2] 44))
      refine wpList_append_lies _ rfl (.tmp 22) (.tmp 24) 38 rfl w.heap.size 44 iN (.agg #[U8 0, I 0, .slice none 0 0, I 0, I 0, .slice none 0 0]) 6 80 Try.underlying38 HN.out.1 HN.out.2.1 HN.out.2.2.1 HN.out.2.2.2 rfl (by decide) (.slice s3 m3 k3) li cs.flatten rfl (by rw [← H7.out.2.2.2.2.2.2.2.2]; exact H7.out.2.2.2.2.1.alloc _) ⟨W7.heap.size, 0, none⟩ 1 1 [U8 x.op, I x.dst, .slice a1 A1 c1, I x.imm, I x.site, .slice a2 D1 c2] rfl rfl (World.news_of_block (heap_alloc_new W7 _)) (by simp [Value.oneCell']) (by decide) (by have := H7.out.2.2.2.2.2.2.2.1; unfold maxLen; omega) (by have := H7.out.2.2.2.2.2.2.2.1; omega) (by have h1 := H7.out.2.1.size; have h2 := H1.out.2.1.size; simp; omega) _ rfl ?_
      intro gg cg w9 hown9 hgr9 hat9 hlt9
      have HN9 := Lib.hid (show TwI w l (.slice (some ⟨gg, 0, none⟩) (li + 1) cg) (I ((i : Int) + 1)) w9 from ⟨i + 1, by have := H1.out.2.2.2.2.2.2; have := HH.out.2.1; omega, rfl, by
        rw [H1.out.2.2.2.2.2.1]
        refine OwnS.app instV_stays H7.out.2.2.1 H7.out.2.2.2.1 HQ4.out H7.out.2.2.2.2.2.1 rfl (by rw [H7.out.2.2.2.2.2.2.2.2]; exact hgr9) (by rw [← H7.out.2.2.2.2.2.2.1]; exact hown9) ?_
        rw [H7.out.2.2.2.2.2.2.2.2]
        rcases hat9 with e | e
        · exact Or.inl (by rw [e]; rfl)
        · exact Or.inr (by rw [e]; rfl), by
        have hb9 := below_tr H1.out.2.1 H7.out.2.1
        exact (hb9.alloc hb9.size _).grown hgr9 (by have := hb9.size; simp; omega) (fun k hk => (H7.out.2.2.2.2.1.lt k (by rw [H7.out.2.2.2.2.2.2.2.2]; exact hk)).1)⟩)
      clear hown9 hgr9 hat9 hlt9 y0 y1 y2 y3 y4 y5
      go_wp2_with fail
      exact ⟨HN9.out, by have := H1.out.2.2.2.2.2.2; simp [intOf]; omega⟩
    · have d0 : decide (i < n) = false := by simpa using hin
      have hie : l.take i = l := List.take_of_length_le (by have := HH.out.2.1; omega)
      rw [hie] at hown
      have FIN := Lib.hid (show TwIT w l wr (.returned u3) from ⟨_, rfl, hown, hbe⟩)
      clear hown hbe hin hi hie
      go_wp2_with fail
      go_ret
      exact FIN.out
end Go.Proofs.Ytjlmkcamefaodaa

/-! Drawn: A region that draws its order: a load may be taken first where all that is carried out ahead of it leaves its cell alone; what waits for it may write the cell. -/

namespace Go
section
variable {P : Program} {ops : Array Oper} {Q : Exit → Act → World → Prop} {md : Region.Mode} {S : World → Prop} {dep : List Nat}

/-- Whatever order is picked from here on; and S holds behind every operation but those of dep. -/
def wpAnyD (P : Program) (md : Region.Mode) (ops : Array Oper) (Q : Exit → Act → World → Prop) (S : World → Prop) (dep : List Nat) : Nat → Array Bool → Act → World → Prop
  | 0, listed, a, w => Region.ready md ops listed = [] ∧ Q .normal a w
  | fuel + 1, listed, a, w =>
    (Region.ready md ops listed = [] → Q .normal a w) ∧
    ∀ i ∈ Region.ready md ops listed, wpOp P ops Q i (fun a' w' => (dep.contains i = true ∨ S w') ∧ wpAnyD P md ops Q S dep fuel (listed.setIfInBounds i true) a' w') a w

theorem wpAny_of_dep : ∀ (fuel : Nat) (listed : Array Bool) (a : Act) (w : World), wpAnyD P md ops Q S dep fuel listed a w → wpAny P md ops Q fuel listed a w
  | 0, _, _, _, h => h
  | fuel + 1, _, _, _, h => ⟨h.1, fun i hi => wpOp_mono (fun a' w' h' => wpAny_of_dep fuel _ a' w' h'.2) (h.2 i hi)⟩

/-- Each operation of dep waits for i, or for another one of dep. -/
def depWaits (md : Region.Mode) (ops : Array Oper) (dep : List Nat) (i : Nat) : Bool :=
  dep.all fun j => match ops[j]? with
    | some oj => oj.after.any fun e => Region.binds md e && (e.on == i || dep.contains e.on)
    | none => false
/-- None of dep has come up. -/
def depUn (dep : List Nat) (listed : Array Bool) : Bool := dep.all fun j => !listed.getD j false

theorem wpAnyD_first {i : Nat} {oi : Oper} {v : Value} (hi : ops[i]? = some oi) (hsel : ∀ (j : Nat) (o : Oper) cs b, ops[j]? = some o → o.op ≠ .select cs b)
    (hQ : ∀ c a w, Q (.panic c) (a.put oi.dst v) w → Q (.panic c) a w) (hdw : depWaits md ops dep i = true) :
    ∀ (fuel : Nat) (listed : Array Bool) (a : Act) (w : World),
      (∀ j oj, ops[j]? = some oj → j ≠ i → listed.getD j true = false → (∀ e ∈ oj.after, Region.binds md e = true → e.on ≠ i) → oi.apart ops oj = true) →
      depUn dep listed = true → i ∈ Region.ready md ops listed → YieldsIf P ops S oi v a → S w →
      wpAnyD P md ops Q S dep fuel (listed.setIfInBounds i true) (a.put oi.dst v) w → wpAnyD P md ops Q S dep (fuel + 1) listed a w := by
  intro fuel
  induction fuel with
  | zero =>
    intro listed a w _ _ hr hy hS H
    refine ⟨fun h => (by rw [h] at hr; cases hr), fun j hj => ?_⟩
    by_cases hji : j = i
    · subst hji; exact hy.wpOp hi hS ⟨Or.inr hS, H⟩
    · have := ready_mono hj hji
      rw [H.1] at this
      cases this
  | succ fuel ih =>
    intro listed a w hfree hun hr hy hS H
    refine ⟨fun h => (by rw [h] at hr; cases hr), fun j hj => ?_⟩
    by_cases hji : j = i
    · subst hji; exact hy.wpOp hi hS ⟨Or.inr hS, H⟩
    · have h1 := H.2 j (ready_mono hj hji)
      obtain ⟨hjun, oj, hoj, hall⟩ := mem_ready.1 hj
      have hiun : listed.getD i false = false := by
        have h0 := (mem_ready.1 hr).1
        rcases Nat.lt_or_ge i listed.size with h' | h'
        · simp [h'] at h0 ⊢; exact h0
        · simp [Array.getElem?_eq_none h']
      have hjd : dep.contains j = false := by
        cases hc : dep.contains j with
        | false => rfl
        | true =>
          exfalso
          have hm : j ∈ dep := by simpa using hc
          have hw := List.all_eq_true.1 hdw j hm
          rw [hoj] at hw
          obtain ⟨e, he, hq⟩ := Array.any_eq_true'.1 hw
          simp only [Bool.and_eq_true, Bool.or_eq_true, beq_iff_eq] at hq
          obtain ⟨hb, hor⟩ := hq
          have hl := hall e he hb
          rcases hor with h | h
          · rw [h, hiun] at hl; cases hl
          · have h2 := List.all_eq_true.1 hun e.on (by simpa using h)
            rw [hl] at h2; cases h2
      have hnot : ∀ e ∈ oj.after, Region.binds md e = true → e.on ≠ i := fun e he hb heq => by
        have h1 := hall e he hb
        rw [heq, hiun] at h1; cases h1
      have h2 := wpOp_putIf hoj (hfree j oj hoj hji hjun hnot) (fun cs b => hsel i oi cs b hi) (fun cs b => hsel j oj cs b hoj) hQ hy h1
      have hfree' : ∀ k ok, ops[k]? = some ok → k ≠ i → (listed.setIfInBounds j true).getD k true = false →
          (∀ e ∈ ok.after, Region.binds md e = true → e.on ≠ i) → oi.apart ops ok = true := fun k ok hk hki hun hno => by
        refine hfree k ok hk hki ?_ hno
        by_cases hjk : j = k
        · subst hjk; exact hjun
        · rw [getD_set_ne true hjk] at hun; exact hun
      have hun' : depUn dep (listed.setIfInBounds j true) = true := by
        refine List.all_eq_true.2 fun k hk => ?_
        have hkj : j ≠ k := by rintro rfl; simp [hk] at hjd
        rw [getD_set_ne false hkj]
        exact List.all_eq_true.1 hun k hk
      refine wpOp_mono (fun a' w' h3 => ?_) h2
      have hS' : S w' := by
        rcases h3.2.1 with h | h
        · rw [hjd] at h; cases h
        · exact h
      refine ⟨Or.inr hS', ih (listed.setIfInBounds j true) a' w' hfree' hun' (ready_mono hr (Ne.symm hji)) h3.1 hS' ?_⟩
      rw [Array.setIfInBounds_comm _ _ hji]
      exact h3.2.2

/-- Take number i first. -/
theorem wpAnyD_take {i : Nat} {oi : Oper} {v : Value} {fuel : Nat} {listed : Array Bool} {a : Act} {w : World} (hi : ops[i]? = some oi)
    (hs : Region.noSelect ops = true) (hf : Region.free md ops listed i = true) (hr : (Region.ready md ops listed).contains i = true) (hdw : depWaits md ops dep i = true) (hun : depUn dep listed = true)
    (hQ : ∀ c a w, Q (.panic c) (a.put oi.dst v) w → Q (.panic c) a w) (hS : S w) (hy : YieldsIf P ops S oi v a)
    (h : wpAnyD P md ops Q S dep fuel (listed.setIfInBounds i true) (a.put oi.dst v) w) : wpAnyD P md ops Q S dep (fuel + 1) listed a w :=
  wpAnyD_first hi (Region.noSelect_spec hs) hQ hdw fuel listed a w (Region.free_spec hi hf) hun (by simpa using hr) hy hS h
theorem wpAnyD_free_first {i : Nat} {oi : Oper} {v : Value} (hi : ops[i]? = some oi) (hsel : ∀ (j : Nat) (o : Oper) cs b, ops[j]? = some o → o.op ≠ .select cs b)
    (hQ : ∀ c a w, Q (.panic c) (a.put oi.dst v) w → Q (.panic c) a w) (hd : dep.contains i = true) :
    ∀ (fuel : Nat) (listed : Array Bool) (a : Act) (w : World),
      (∀ j oj, ops[j]? = some oj → j ≠ i → listed.getD j true = false → (∀ e ∈ oj.after, Region.binds md e = true → e.on ≠ i) → oi.apart ops oj = true) →
      i ∈ Region.ready md ops listed → YieldsIf P ops (fun _ => True) oi v a →
      wpAnyD P md ops Q S dep fuel (listed.setIfInBounds i true) (a.put oi.dst v) w → wpAnyD P md ops Q S dep (fuel + 1) listed a w := by
  intro fuel
  induction fuel with
  | zero =>
    intro listed a w _ hr hy H
    refine ⟨fun h => (by rw [h] at hr; cases hr), fun j hj => ?_⟩
    by_cases hji : j = i
    · subst hji; exact hy.wpOp hi trivial ⟨Or.inl hd, H⟩
    · have := ready_mono hj hji
      rw [H.1] at this
      cases this
  | succ fuel ih =>
    intro listed a w hfree hr hy H
    refine ⟨fun h => (by rw [h] at hr; cases hr), fun j hj => ?_⟩
    by_cases hji : j = i
    · subst hji; exact hy.wpOp hi trivial ⟨Or.inl hd, H⟩
    · have h1 := H.2 j (ready_mono hj hji)
      obtain ⟨hjun, oj, hoj, hall⟩ := mem_ready.1 hj
      have hiun : listed.getD i false = false := by
        have h0 := (mem_ready.1 hr).1
        rcases Nat.lt_or_ge i listed.size with h' | h'
        · simp [h'] at h0 ⊢; exact h0
        · simp [Array.getElem?_eq_none h']
      have hnot : ∀ e ∈ oj.after, Region.binds md e = true → e.on ≠ i := fun e he hb heq => by
        have h1 := hall e he hb
        rw [heq, hiun] at h1; cases h1
      have h2 := wpOp_putIf (S := fun _ => True) hoj (hfree j oj hoj hji hjun hnot) (fun cs b => hsel i oi cs b hi) (fun cs b => hsel j oj cs b hoj) hQ hy h1
      have hfree' : ∀ k ok, ops[k]? = some ok → k ≠ i → (listed.setIfInBounds j true).getD k true = false →
          (∀ e ∈ ok.after, Region.binds md e = true → e.on ≠ i) → oi.apart ops ok = true := fun k ok hk hki hun hno => by
        refine hfree k ok hk hki ?_ hno
        by_cases hjk : j = k
        · subst hjk; exact hjun
        · rw [getD_set_ne true hjk] at hun; exact hun
      refine wpOp_mono (fun a' w' h3 => ?_) h2
      refine ⟨h3.2.1, ih (listed.setIfInBounds j true) a' w' hfree' (ready_mono hr (Ne.symm hji)) h3.1 ?_⟩
      rw [Array.setIfInBounds_comm _ _ hji]
      exact h3.2.2
/-- Take number i, one of dep, first: it yields in whatever world. -/
theorem wpAnyD_free {i : Nat} {oi : Oper} {v : Value} {fuel : Nat} {listed : Array Bool} {a : Act} {w : World} (hi : ops[i]? = some oi)
    (hs : Region.noSelect ops = true) (hf : Region.free md ops listed i = true) (hr : (Region.ready md ops listed).contains i = true) (hd : dep.contains i = true)
    (hQ : ∀ c a w, Q (.panic c) (a.put oi.dst v) w → Q (.panic c) a w) (hy : YieldsIf P ops (fun _ => True) oi v a)
    (h : wpAnyD P md ops Q S dep fuel (listed.setIfInBounds i true) (a.put oi.dst v) w) : wpAnyD P md ops Q S dep (fuel + 1) listed a w :=
  wpAnyD_free_first hi (Region.noSelect_spec hs) hQ hd fuel listed a w (Region.free_spec hi hf) (by simpa using hr) hy h

/-- One alone may come up. -/
theorem wpAnyD_one {i : Nat} {o : Oper} {fuel : Nat} {listed : Array Bool} {a : Act} {w : World} (hi : ops[i]? = some o) (hr : Region.ready md ops listed = [i]) (hg : o.guard = none)
    (h : ∀ K : Act → World → Prop, (∀ a' w', (dep.contains i = true ∨ S w') → wpAnyD P md ops Q S dep fuel (listed.setIfInBounds i true) a' w' → K a' w') → o.wp P a w K Q) : wpAnyD P md ops Q S dep (fuel + 1) listed a w := by
  refine ⟨fun h0 => (by rw [hr] at h0; cases h0), fun j hj => ?_⟩
  rw [hr] at hj
  obtain rfl : j = i := by simpa using hj
  unfold wpOp
  simp only [hi]
  have hw : Region.wanted o (yielded ops a.tmps) = true := by simp [Region.wanted, hg]
  simp only [hw, if_true]
  exact Or.inl (h _ fun a' w' hS h' => ⟨hS, h'⟩)
/-- One alone may come up, and nothing is to be kept. -/
theorem wpAnyD_last {i : Nat} {o : Oper} {fuel : Nat} {listed : Array Bool} {a : Act} {w : World} (hi : ops[i]? = some o) (hr : Region.ready md ops listed = [i]) (hg : o.guard = none) (hd : dep.contains i = true)
    (h : ∀ K : Act → World → Prop, (∀ a' w', wpAnyD P md ops Q S dep fuel (listed.setIfInBounds i true) a' w' → K a' w') → o.wp P a w K Q) : wpAnyD P md ops Q S dep (fuel + 1) listed a w :=
  wpAnyD_one hi hr hg fun K hK => h K fun a' w' h' => hK a' w' (Or.inl hd) h'
/-- Two may come up. -/
theorem wpAnyD_two {i j : Nat} {o u : Oper} {fuel : Nat} {listed : Array Bool} {a : Act} {w : World} (hi : ops[i]? = some o) (hj : ops[j]? = some u) (hr : Region.ready md ops listed = [i, j]) (hg : o.guard = none) (hg' : u.guard = none)
    (h : ∀ K : Act → World → Prop, (∀ a' w', (dep.contains i = true ∨ S w') → wpAnyD P md ops Q S dep fuel (listed.setIfInBounds i true) a' w' → K a' w') → o.wp P a w K Q)
    (h' : ∀ K : Act → World → Prop, (∀ a' w', (dep.contains j = true ∨ S w') → wpAnyD P md ops Q S dep fuel (listed.setIfInBounds j true) a' w' → K a' w') → u.wp P a w K Q) : wpAnyD P md ops Q S dep (fuel + 1) listed a w := by
  refine ⟨fun h0 => (by rw [hr] at h0; cases h0), fun k hk => ?_⟩
  rw [hr] at hk
  have hw : Region.wanted o (yielded ops a.tmps) = true := by simp [Region.wanted, hg]
  have hw' : Region.wanted u (yielded ops a.tmps) = true := by simp [Region.wanted, hg']
  rcases List.mem_cons.1 hk with rfl | hk
  · unfold wpOp
    simp only [hi, hw, if_true]
    exact Or.inl (h _ fun a' w' hS h' => ⟨hS, h'⟩)
  · obtain rfl : k = j := by simpa using hk
    unfold wpOp
    simp only [hj, hw', if_true]
    exact Or.inl (h' _ fun a' w' hS h' => ⟨hS, h'⟩)
/-- All have come up. -/
theorem wpAnyD_done {listed : Array Bool} {a : Act} {w : World} (hr : Region.ready md ops listed = []) (h : Q .normal a w) :
    ∀ fuel, wpAnyD P md ops Q S dep fuel listed a w
  | 0 => ⟨hr, h⟩
  | _ + 1 => ⟨fun _ => h, by rw [hr]; simp⟩
/-- The beginning. -/
theorem wp_region_dep {id : Nat} {a : Act} {w : World} (hm : P.follows .mixedOrders = true)
    (h : wpAnyD P .any ops Q S dep ops.size (Array.replicate ops.size false) a { w with drawn := w.drawn + 1 }) : (Code.region id ops true).wp P Q a w :=
  wp_region_any hm (wpAny_of_dep _ _ _ _ h)
end
end Go
