/-
  Code of one's own: the document's copy, walked.
-/
import Derived.Test.YtiimcckajjpbjaaCdF
import Derived.Deep.AppendLies
namespace Go.Proofs.Ytiimcckajjpbjaa
open Go Go.RowKit Cd

theorem infoI : (Try.prog.info? 3).map (fun i => (i.zero, i.size, i.bytes)) = some (some (I 0), 1, 8) := by kernel_rfl
theorem infoD : (Try.prog.info? 52).map (fun i => (i.zero, i.size, i.bytes)) = some (some (.agg #[I 0, I 0, U8 0, I 0, I 0, I 0]), 6, 48) := by kernel_rfl
theorem infoS : (Try.prog.info? 41).map (fun i => (i.zero, i.size, i.bytes)) = some (some (.agg #[I 0, I 0]), 2, 16) := by kernel_rfl
theorem infoIn : (Try.prog.info? 50).map (fun i => (i.zero, i.size, i.bytes)) = some (some (.agg #[U8 0, I 0, .slice none 0 0, I 0, I 0, .slice none 0 0]), 6, 80) := by kernel_rfl
theorem infoBl : (Try.prog.info? 45).map (fun i => (i.zero, i.size, i.bytes)) = some (some (.agg #[.slice none 0 0, .slice none 0 0, U8 0, I 0, I 0, I 0]), 6, 80) := by kernel_rfl
theorem infoFu : (Try.prog.info? 35).map (fun i => (i.zero, i.size, i.bytes)) = some (some (.agg #[I 0, I 0, I 0, .slice none 0 0]), 4, 48) := by kernel_rfl
theorem infoSl : (Try.prog.info? 39).map (fun i => (i.zero, i.size, i.bytes)) = some (some (.slice none 0 0), 1, 24) := by kernel_rfl

theorem oneI (x : Int) : ∀ u ∈ encI x, u.oneCell' = true := by intro u hu; simp [encI] at hu; subst hu; rfl
theorem oneD (x : DbgP) : ∀ u ∈ encD x, u.oneCell' = true := by
  intro u hu
  simp only [encD, List.mem_cons, List.not_mem_nil, or_false] at hu
  rcases hu with rfl | rfl | rfl | rfl | rfl | rfl <;> rfl
theorem oneS (x : SpotP) : ∀ u ∈ encS x, u.oneCell' = true := by
  intro u hu
  simp only [encS, List.mem_cons, List.not_mem_nil, or_false] at hu
  rcases hu with rfl | rfl <;> rfl

/-- Instructions, few, with few Args and few that is known. -/
def SmallI (l : List InstP) : Prop := l.length ≤ 4000000 ∧ ∀ i (h : i < l.length), l[i].args.length ≤ 4000000 ∧ l[i].dbg.length ≤ 4000000
def TwI (w : World) (l : List InstP) (ov iv : Value) (W : World) : Prop := ∃ i : Nat, i ≤ l.length ∧ iv = I (i : Int) ∧ OwnS w.heap.size 50 6 InstV W ov (l.take i) ∧ Below w.heap.size w W
def TwIT (w : World) (l : List InstP) (W : World) (e : Ending) : Prop := ∃ u, e = .returned u ∧ OwnS w.heap.size 50 6 InstV W u l ∧ Below w.heap.size w W

set_option maxRecDepth 100000 in
set_option maxHeartbeats 3200000 in
theorem twins_any (v : Value) (l : List InstP) (hs : SmallI l) (w : World) (h : InstsZ w v l) :
    Calls Try.prog 24 #[v] w fun e w' => TwIT w l w' e := by
  obtain ⟨iI, p1, p2, p3, p4⟩ := info_parts infoI
  have HI := Lib.hid (And.intro p1 (And.intro p2 (And.intro p3 p4)))
  clear p1 p2 p3 p4
  obtain ⟨iD, p1, p2, p3, p4⟩ := info_parts infoD
  have HD := Lib.hid (And.intro p1 (And.intro p2 (And.intro p3 p4)))
  clear p1 p2 p3 p4
  obtain ⟨iN, p1, p2, p3, p4⟩ := info_parts infoIn
  have HN := Lib.hid (And.intro p1 (And.intro p2 (And.intro p3 p4)))
  clear p1 p2 p3 p4
  obtain ⟨a, c, rfl⟩ := h.size
  obtain ⟨n, hn⟩ : ∃ n, n = l.length := ⟨_, rfl⟩
  rw [← hn] at h ⊢
  have hnb : (n : Int) ≤ 4000000 := by have := hs.1; omega
  have HH := Lib.hid (And.intro h (And.intro hn hs))
  clear h hn hs
  go_enter Try.func24, Try.ntmps24
  go_wp2_with fail
  go_loopw [3, 8] (fun ov iv W => TwI w l ov iv W) (fun _ iv _ => n - (intOf iv).toNat)
  case atStart => exact ⟨0, Nat.zero_le _, rfl, OwnS.start, Below.refl _ _⟩
  case round =>
    obtain ⟨i, hi, rfl, hown, hbe⟩ := hrel
    by_cases hin : i < n
    · have hil : i < l.length := by rw [← HH.out.2.1]; exact hin
      obtain ⟨b, _, rfl, hbl, c0, av, dv, rfl, haz, hdz⟩ := (HH.out.1.below instV_stays hbe).at i hil
      obtain ⟨x, hx⟩ : ∃ z, z = l[i] := ⟨_, rfl⟩
      have hsm := HH.out.2.2.2 i hil
      rw [← hx] at c0 haz hdz hsm
      obtain ⟨aa, ac, rfl⟩ := haz.size
      obtain ⟨da, dc, rfl⟩ := hdz.size
      obtain ⟨A, hA⟩ : ∃ A, A = x.args.length := ⟨_, rfl⟩
      obtain ⟨D, hD⟩ : ∃ D, D = x.dbg.length := ⟨_, rfl⟩
      rw [← hA] at haz
      rw [← hD] at hdz
      rw [← hA, ← hD] at c0
      have htk : l.take (i + 1) = l.take i ++ [x] := by rw [List.take_succ_eq_append_getElem hil, ← hx]
      have x0 := c0.f0
      have x1 := c0.f1
      have x2 := c0.f2
      have x3 := c0.f3
      have x4 := c0.f4
      have x5 := c0.f5
      have H1 := Lib.hid (And.intro hown (And.intro hbe (And.intro haz (And.intro hdz (And.intro hsm (And.intro htk hin))))))
      have d0 : decide (i < n) = true := by simpa using hin
      have d1 : (0 : Int) ≤ (i : Int) := by omega
      have d2 : (i : Int) < (n : Int) := by omega
      clear hown hbe haz hdz hsm htk c0 hx hil hin hbl hi hA hD
      obtain ⟨bx, hbx⟩ : ∃ g, g = wr.heap.size := ⟨_, rfl⟩
      obtain ⟨b1, hb1⟩ : ∃ g, g = wr.heap.size + 1 := ⟨_, rfl⟩
      obtain ⟨W2, hW2⟩ : ∃ W, W = (wr.alloc (.cells #[U8 x.op, I x.dst, .slice aa A ac, I x.imm, I x.site, .slice da D dc] 50)).alloc (.cells #[] 3) := ⟨_, rfl⟩
      have hB2 : Below wr.heap.size wr W2 := by rw [hW2]; exact ((Below.refl _ _).alloc (Nat.le_refl _) _).alloc (by simp) _
      have kx2 : Blk bx #[U8 x.op, I x.dst, .slice aa A ac, I x.imm, I x.site, .slice da D dc] 50 W2 := by rw [hW2, hbx]; exact (Blk.new _ _ _).alloc _
      have k12 : Blk b1 #[] 3 W2 := by rw [hW2, hb1]; exact Blk.new' _ _ _ (by simp)
      have hsz2 : W2.heap.size = b1 + 1 := by rw [hW2, hb1]; simp
      have H2 := Lib.hid (And.intro hB2 (And.intro kx2 (And.intro k12 (And.intro hsz2 (And.intro hbx hb1)))))
      have HW2 := Lib.hid hW2
      clear hB2 kx2 k12 hsz2 hbx hb1 hW2
      go_wp2_with (first | (at_builtin; refine Hid.out ?_) | go_in)
      unfold Hid
      change wpList _ _ _ _ _ ((wr.alloc (.cells #[U8 x.op, I x.dst, .slice aa A ac, I x.imm, I x.site, .slice da D dc] 50)).alloc (.cells #[] 3))
      rw [← HW2.out, ← H2.out.2.2.2.2.2, ← H2.out.2.2.2.2.1]
      refine wpList_plain rfl fun K hK => ?_
      refine wp_clone (enc := encI) (.tmp 12) (.tmp 14) 47 rfl 3 iI (I 0) 1 8 Try.underlying47 HI.out.1 HI.out.2.1 HI.out.2.2.1 HI.out.2.2.2 rfl (by decide) (fun _ => rfl) oneI b1 rfl H2.out.2.2.1 (.slice aa A ac) rfl x.args (LtW W2) (H1.out.2.2.1.below intV_stays H2.out.1) H1.out.2.2.2.2.1.1 (by decide) ?_
      intro u1 w3 ho1 hg1 hat1
      refine hK _ _ ?_
      clear hK K x0 x1 x2 x3 x4 x5
      obtain ⟨a1, c1, rfl⟩ := ho1.row
      have hlt12 : bx < b1 := by rw [H2.out.2.2.2.2.1, H2.out.2.2.2.2.2]; omega
      have kx3 : Blk bx #[U8 x.op, I x.dst, .slice aa A ac, I x.imm, I x.site, .slice da D dc] 50 w3 := H2.out.2.1.other hg1 (by simp; omega)
      have hB3 : Below wr.heap.size wr w3 := H2.out.1.grown hg1 H2.out.1.size (fun k hk => by cases hk; rw [H2.out.2.2.2.2.2]; omega)
      have hAe := H1.out.2.2.1
      obtain ⟨A1, hA1⟩ : ∃ n, n = x.args.length := ⟨_, rfl⟩
      rw [← hA1] at ho1 ⊢
      obtain ⟨W4, hW4⟩ : ∃ W, W = w3.setCell ⟨bx, 2, none⟩ (.slice a1 A1 c1) := ⟨_, rfl⟩
      have kx4 : Blk bx #[U8 x.op, I x.dst, .slice a1 A1 c1, I x.imm, I x.site, .slice da D dc] 50 W4 := by rw [hW4]; exact kx3.set 2 (.slice a1 A1 c1)
      have hB4 : Below wr.heap.size wr W4 := by rw [hW4]; exact hB3.setCell (p := ⟨bx, 2, none⟩) (by rw [H2.out.2.2.2.2.1]; exact Nat.le_refl _) _
      have hs1 : SlS (FreeS (GeB b1 w3) W4) 1 IntV W4 (.slice a1 A1 c1) x.args := (ho1.sl intV_stays).keepF intV_stays (fun n hn => by rw [hW4]; exact Below.heap_setCell _ _ _ _ (show n ≠ bx by have := hn.1; omega)) (fun _ h => h)
      have hz4 : W4.heap.size = w3.heap.size := by rw [hW4]; simp [World.setCell]
      have y2 := kx3.get 2 (.slice aa A ac) rfl
      have f2 := kx3.free 2
      have HW4 := Lib.hid hW4
      have H4 := Lib.hid (And.intro kx4 (And.intro hB4 (And.intro hs1 (And.intro hz4 hlt12))))
      clear ho1 hg1 hat1 kx3 hB3 hAe hA1 hW4 kx4 hB4 hs1 hz4 hlt12
      go_upto_region 6 with (fail)
      change Code.wp _ _ _ _ (w3.setCell ⟨bx, 2, none⟩ (.slice a1 A1 c1))
      rw [← HW4.out]
      clear y2 f2
      have y5 := (H4.out.1.alloc (.cells #[] 52)).get 5 (.slice da D dc) rfl
      obtain ⟨b2, hb2⟩ : ∃ g, g = W4.heap.size := ⟨_, rfl⟩
      obtain ⟨W5, hW5⟩ : ∃ W, W = W4.alloc (.cells #[] 52) := ⟨_, rfl⟩
      have hB5 : Below wr.heap.size wr W5 := by rw [hW5]; exact H4.out.2.1.alloc H4.out.2.1.size _
      have kx5 : Blk bx #[U8 x.op, I x.dst, .slice a1 A1 c1, I x.imm, I x.site, .slice da D dc] 50 W5 := by rw [hW5]; exact H4.out.1.alloc _
      have k25 : Blk b2 #[] 52 W5 := by rw [hW5, hb2]; exact Blk.new _ _ _
      have H5 := Lib.hid (And.intro hB5 (And.intro kx5 (And.intro k25 hb2)))
      have HW5 := Lib.hid hW5
      clear hB5 kx5 k25 hb2 hW5
      go_wp2_with (first | (at_builtin; refine Hid.out ?_) | go_in)
      unfold Hid
      change wpList _ _ _ _ _ (W4.alloc (.cells #[] 52))
      rw [← HW5.out, ← H5.out.2.2.2]
      refine wpList_plain rfl fun K hK => ?_
      refine wp_clone (enc := encD) (.tmp 17) (.tmp 19) 48 rfl 52 iD (.agg #[I 0, I 0, U8 0, I 0, I 0, I 0]) 6 48 Try.underlying48 HD.out.1 HD.out.2.1 HD.out.2.2.1 HD.out.2.2.2 rfl (by decide) (fun _ => rfl) oneD b2 rfl H5.out.2.2.1 (.slice da D dc) rfl x.dbg (LtW W5) (H1.out.2.2.2.1.below dbgV_stays H5.out.1) H1.out.2.2.2.2.1.2 (by decide) ?_
      intro u2 w6 ho2 hg2 hat2
      refine hK _ _ ?_
      clear hK K y5
      obtain ⟨a2, c2, rfl⟩ := ho2.row
      have hlt : bx < b2 := by rw [H5.out.2.2.2]; exact H4.out.1.lt
      have kx6 : Blk bx #[U8 x.op, I x.dst, .slice a1 A1 c1, I x.imm, I x.site, .slice da D dc] 50 w6 := H5.out.2.1.other hg2 (by simp; omega)
      have hb2s : wr.heap.size ≤ b2 := by rw [H5.out.2.2.2]; exact H4.out.2.1.size
      have hB6 : Below wr.heap.size wr w6 := H5.out.1.grown hg2 H5.out.1.size (fun k hk => by cases hk; exact hb2s)
      obtain ⟨D1, hD1⟩ : ∃ n, n = x.dbg.length := ⟨_, rfl⟩
      rw [← hD1] at ho2 ⊢
      obtain ⟨W7, hW7⟩ : ∃ W, W = w6.setCell ⟨bx, 5, none⟩ (.slice a2 D1 c2) := ⟨_, rfl⟩
      have kx7 : Blk bx #[U8 x.op, I x.dst, .slice a1 A1 c1, I x.imm, I x.site, .slice a2 D1 c2] 50 W7 := by rw [hW7]; exact kx6.set 5 (.slice a2 D1 c2)
      have hB7 : Below wr.heap.size wr W7 := by rw [hW7]; exact hB6.setCell (p := ⟨bx, 5, none⟩) (by rw [H2.out.2.2.2.2.1]; exact Nat.le_refl _) _
      have hz7 : W7.heap.size = w6.heap.size := by rw [hW7]; simp [World.setCell]
      have hz6 : W5.heap.size ≤ w6.heap.size := hg2.size
      have hz5 : W5.heap.size = b2 + 1 := by rw [HW5.out, H5.out.2.2.2]; simp
      have hown7 := H1.out.1.below instV_stays hB7
      obtain ⟨s3, m3, k3, hu3⟩ : ∃ a m k, u3 = .slice a m k := by
        obtain ⟨a, k, e⟩ := hown7.row
        exact ⟨_, _, _, e⟩
      have hvb : ∀ n, some n = u3.ownBlock → n < bx := fun n e => by
        obtain ⟨cs, _, _, q3, _⟩ := H1.out.1
        rw [H2.out.2.2.2.2.1]
        exact (q3.lt n e.symm).2
      have hbase : w.heap.size ≤ bx := by rw [H2.out.2.2.2.2.1]; exact H1.out.2.1.size
      have hin3 : ∀ n, GeB b1 w3 n → n < W4.heap.size ∧ n ≠ bx ∧ n ≠ b2 ∧ n < W7.heap.size ∧ bx < n := fun n hn => by
        have h1 : n < W4.heap.size := by rw [H4.out.2.2.2.1]; exact hn.2
        have h4 : n < b2 := by rw [H5.out.2.2.2]; exact h1
        have h2 := hn.1
        have h3 := H4.out.2.2.2.2
        exact ⟨h1, by omega, by omega, by rw [hz7]; omega, by omega⟩
      have hs1 : SlS (SxW w.heap.size u3 W7) 1 IntV W7 (.slice a1 A1 c1) x.args := H4.out.2.2.1.keepF intV_stays (fun n hn => by
        obtain ⟨h1, h2, h3, _, _⟩ := hin3 n hn
        rw [hW7, Below.heap_setCell _ _ _ _ (show n ≠ bx from h2), hg2.block n (by rw [hz5]; rw [← H5.out.2.2.2] at h1; omega) (by simp; exact h3), HW5.out]
        exact heap_alloc_old _ _ h1) (fun n hn => ⟨by have := (hin3 n hn).2.2.2.2; omega, (hin3 n hn).2.2.2.1, fun e => by have := hvb n e; have := (hin3 n hn).2.2.2.2; omega⟩)
      have hs2 : SlS (SxW w.heap.size u3 W7) 6 DbgV W7 (.slice a2 D1 c2) x.dbg := (ho2.sl dbgV_stays).keepF dbgV_stays (fun n hn => by
        rw [hW7]; exact Below.heap_setCell _ _ _ _ (show n ≠ bx by have := hn.1; omega)) (fun n hn => ⟨by have := hn.1; omega, by rw [hz7]; exact hn.2, fun e => by have := hvb n e; have := hn.1; omega⟩)
      have hx7 : InstV (SxW w.heap.size u3 W7) W7 [U8 x.op, I x.dst, .slice a1 A1 c1, I x.imm, I x.site, .slice a2 D1 c2] x := ⟨_, _, rfl, hs1, hs2⟩
      have y5 := kx6.get 5 (.slice da D dc) rfl
      have f5 := kx6.free 5
      obtain ⟨cs, q1, q2, q3, q4⟩ := hown7
      obtain ⟨li, hli⟩ : ∃ n, n = (l.take i).length := ⟨_, rfl⟩
      have hlib : li ≤ 4000000 := by rw [hli, List.length_take]; omega
      rw [← hli] at q3
      have H7 := Lib.hid (And.intro kx7 (And.intro hB7 (And.intro q1 (And.intro q2 (And.intro q3 (And.intro hx7 (And.intro hli (And.intro hlib hu3))))))))
      have HQ4 := Lib.hid q4
      have HW7 := Lib.hid hW7
      clear hin3 ho2 hg2 hat2 hlt kx6 hb2s hB6 hD1 hW7 kx7 hB7 hz7 hz6 hz5 hvb hbase hs1 hs2 hx7 q1 q2 q3 q4 hli hlib
      go_upto_region 7 with (fail)
      change Code.wp _ _ _ _ (w6.setCell ⟨bx, 5, none⟩ (.slice a2 D1 c2))
      rw [← HW7.out]
      clear y5 f5
      have y0 := H7.out.1.get 0 (U8 x.op) rfl
      have y1 := H7.out.1.get 1 (I x.dst) rfl
      have y2 := H7.out.1.get 2 (.slice a1 A1 c1) rfl
      have y3 := H7.out.1.get 3 (I x.imm) rfl
      have y4 := H7.out.1.get 4 (I x.site) rfl
      have y5 := H7.out.1.get 5 (.slice a2 D1 c2) rfl
      go_wp2_with (first | (at_builtin; refine Hid.out ?_) | go_in)
      unfold Hid
      obtain ⟨W8, hW8⟩ : ∃ W, W = W7.alloc (.cells #[U8 x.op, I x.dst, .slice a1 A1 c1, I x.imm, I x.site, .slice a2 D1 c2] 50) := ⟨_, rfl⟩
      change wpList _ _ _ _ _ (W7.alloc (.cells #[U8 x.op, I x.dst, .slice a1 A1 c1, I x.imm, I x.site, .slice a2 D1 c2] 50))
      refine wpList_append_lies _ rfl (.tmp 22) (.tmp 24) 43 rfl w.heap.size 50 iN (.agg #[U8 0, I 0, .slice none 0 0, I 0, I 0, .slice none 0 0]) 6 80 Try.underlying43 HN.out.1 HN.out.2.1 HN.out.2.2.1 HN.out.2.2.2 rfl (by decide) (.slice s3 m3 k3) li cs.flatten rfl (by rw [← H7.out.2.2.2.2.2.2.2.2]; exact H7.out.2.2.2.2.1.alloc _) ⟨W7.heap.size, 0, none⟩ 1 1 [U8 x.op, I x.dst, .slice a1 A1 c1, I x.imm, I x.site, .slice a2 D1 c2] rfl rfl (World.news_of_block (heap_alloc_new W7 _)) (by simp [Value.oneCell']) (by decide) (by have := H7.out.2.2.2.2.2.2.2.1; unfold maxLen; omega) (by have := H7.out.2.2.2.2.2.2.2.1; omega) (by have h1 := H7.out.2.1.size; have h2 := H1.out.2.1.size; simp; omega) _ rfl ?_
      intro gg cg w9 hown9 hgr9 hat9 hlt9
      have HN9 := Lib.hid (show TwI w l (.slice (some ⟨gg, 0, none⟩) (li + 1) cg) (I ((i : Int) + 1)) w9 from ⟨i + 1, by have := H1.out.2.2.2.2.2.2; have := HH.out.2.1; omega, rfl, by
        rw [H1.out.2.2.2.2.2.1]
        refine OwnS.app instV_stays H7.out.2.2.1 H7.out.2.2.2.1 HQ4.out H7.out.2.2.2.2.2.1 rfl (by rw [H7.out.2.2.2.2.2.2.2.2]; exact hgr9) (by rw [← H7.out.2.2.2.2.2.2.1]; exact hown9) ?_
        rw [H7.out.2.2.2.2.2.2.2.2]
        rcases hat9 with e | e
        · exact Or.inl (by rw [e]; rfl)
        · exact Or.inr (by rw [e]; rfl), by
        have hb9 := below_tr H1.out.2.1 H7.out.2.1
        exact (hb9.alloc hb9.size _).grown hgr9 (by have := hb9.size; simp; omega) (fun k hk => (H7.out.2.2.2.2.1.lt k (by rw [H7.out.2.2.2.2.2.2.2.2]; exact hk)).1)⟩)
      clear hown9 hgr9 hat9 hlt9 y0 y1 y2 y3 y4 y5
      go_wp2_with fail
      exact ⟨HN9.out, by have := H1.out.2.2.2.2.2.2; simp [intOf]; omega⟩
    · have d0 : decide (i < n) = false := by simpa using hin
      have hie : l.take i = l := List.take_of_length_le (by have := HH.out.2.1; omega)
      rw [hie] at hown
      have FIN := Lib.hid (show TwIT w l wr (.returned u3) from ⟨_, rfl, hown, hbe⟩)
      clear hown hbe hin hi hie
      go_wp2_with fail
      go_ret
      exact FIN.out
end Go.Proofs.Ytiimcckajjpbjaa
