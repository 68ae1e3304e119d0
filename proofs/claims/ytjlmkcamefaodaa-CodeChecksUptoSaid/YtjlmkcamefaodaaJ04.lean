/-
  Joined: CdX.
-/
import Derived.Test.YtjlmkcamefaodaaJ03
/-! CdX: The document's copy of code, walked. -/

namespace Go.Proofs.Ytjlmkcamefaodaa
open Go Go.RowKit Cd

/-- Code of which everything is few. -/
def SmallC (c : CodeP) : Prop := c.funs.length ≤ 4000000 ∧ c.stops.length ≤ 4000000 ∧ (∀ i (h : i < c.stops.length), c.stops[i].length ≤ 4000000) ∧ ∀ i (h : i < c.funs.length), c.funs[i].blocks.length ≤ 4000000 ∧ ∀ k (hk : k < c.funs[i].blocks.length), SmallI c.funs[i].blocks[k].phis ∧ SmallI c.funs[i].blocks[k].insts
theorem grown_tr {a b c : World} {g : Nat} (h : a.grownBy b (some g)) (h' : b.grownBy c (some g)) : a.grownBy c (some g) :=
  ⟨h'.os.trans h.os, h'.tape.trans h.tape, h'.output.trans h.output, Nat.le_trans h.size h'.size, fun n hn hne => (h'.block n (Nat.lt_of_lt_of_le hn h.size) hne).trans (h.block n hn hne)⟩
theorem grown_rfl (a : World) (r : Option Nat) : a.grownBy a r := ⟨rfl, rfl, rfl, Nat.le_refl _, fun _ _ _ => rfl⟩
theorem grown_drew {a b : World} {r : Option Nat} (h : a.grownBy b r) : a.grownBy b.drew r := ⟨h.os, h.tape, h.output, h.size, h.block⟩
theorem grown_below {a b c : World} {r : Option Nat} (h : a.grownBy b r) (hb : Below b.heap.size b c) : a.grownBy c r :=
  ⟨hb.os.trans h.os, hb.tape.trans h.tape, hb.output.trans h.output, Nat.le_trans h.size hb.size, fun n hn hne => (hb.block n (Nat.lt_of_lt_of_le hn h.size)).trans (h.block n hn hne)⟩
theorem grown_app {a b c : World} {o : Obj} {r r' : Option Nat} (h : a.grownBy b r) (hg : (b.alloc o).grownBy c r') (hr : ∀ k, r' = some k → a.heap.size ≤ k) : a.grownBy c r :=
  ⟨hg.os.trans h.os, hg.tape.trans h.tape, hg.output.trans h.output, Nat.le_trans h.size (Nat.le_trans (by simp) hg.size), fun n hn hne => (hg.block n (by have := h.size; simp; omega) (fun e => by have := hr n e.symm; omega)).trans ((heap_alloc_old b o (Nat.lt_of_lt_of_le hn h.size)).trans (h.block n hn hne))⟩
theorem grown_cell {a b : World} {g : Nat} (h : a.grownBy b (some g)) (j : Nat) (x : Value) : a.grownBy (b.setCell ⟨g, j, none⟩ x) (some g) :=
  ⟨h.os, h.tape, h.output, by have := h.size; simpa [World.setCell] using this, fun n hn hne => (Below.heap_setCell _ _ _ _ (fun e => hne (by rw [e]))).trans (h.block n hn hne)⟩
theorem OwnS.set {base : Nat} {E : TypeId} {k : Nat} {α : Type} {V : (Nat → Prop) → World → List Value → α → Prop} {W : World} {v : Value} {l : List α} (hV : StaysV V) (h : OwnS base E k V W v l) {g : Nat} (hg : g < base) (j : Nat) (x : Value) : OwnS base E k V (W.setCell ⟨g, j, none⟩ x) v l := by
  obtain ⟨cs, h1, h2, h3, h4⟩ := h
  refine ⟨cs, h1, h2, own_set h3 (fun e => ?_), fun i hi hi' => stayF hV (h4 i hi hi') (fun n hn => Below.heap_setCell _ _ _ _ (show n ≠ g by have := hn.1; omega)) (fun n hn => ⟨hn.1, by have := hn.2.1; simpa [World.setCell] using this, hn.2.2⟩)⟩
  have := (h3.lt g e.symm).1
  omega
def TS1 (w3 : World) (bo : Nat) (c : CodeP) (iv : Value) (W : World) : Prop := ∃ (i : Nat) (sv : Value), i ≤ c.stops.length ∧ iv = I (i : Int) ∧ Blk bo #[.slice none 0 0, sv, I c.main] 25 W ∧ OwnS w3.heap.size 51 1 StopV W sv (c.stops.take i) ∧ w3.grownBy W (some bo)
def TF2 (w4 : World) (bo : Nat) (sv : Value) (c : CodeP) (iv : Value) (W : World) : Prop := ∃ (i : Nat) (fv : Value), i ≤ c.funs.length ∧ iv = I (i : Int) ∧ Blk bo #[fv, sv, I c.main] 25 W ∧ OwnS w4.heap.size 36 4 FunV W fv (c.funs.take i) ∧ w4.grownBy W (some bo)
def TB3 (w5 : World) (l : List BlockP) (ov iv : Value) (W : World) : Prop := ∃ k : Nat, k ≤ l.length ∧ iv = I (k : Int) ∧ OwnS w5.heap.size 40 6 BlockV W ov (l.take k) ∧ Below w5.heap.size w5 W
def TwT (w : World) (c : CodeP) (W : World) (e : Ending) : Prop := ∃ u, e = .returned u ∧ CodeS (GeW w.heap.size W) W u c ∧ Below w.heap.size w W

set_option maxRecDepth 100000 in
set_option maxHeartbeats 6400000 in
theorem twin_any (v : Value) (c : CodeP) (hs : SmallC c) (w : World) (h : CodeZ w v c) :
    Calls Try.prog 7 #[v] w fun e w' => TwT w c w' e := by
  obtain ⟨iS, p1, p2, p3, p4⟩ := info_parts infoS
  have HS := Lib.hid (And.intro p1 (And.intro p2 (And.intro p3 p4)))
  clear p1 p2 p3 p4
  obtain ⟨iL, p1, p2, p3, p4⟩ := info_parts infoSl
  have HL := Lib.hid (And.intro p1 (And.intro p2 (And.intro p3 p4)))
  clear p1 p2 p3 p4
  obtain ⟨iB, p1, p2, p3, p4⟩ := info_parts infoBl
  have HB := Lib.hid (And.intro p1 (And.intro p2 (And.intro p3 p4)))
  clear p1 p2 p3 p4
  obtain ⟨iF, p1, p2, p3, p4⟩ := info_parts infoFu
  have HF := Lib.hid (And.intro p1 (And.intro p2 (And.intro p3 p4)))
  clear p1 p2 p3 p4
  obtain ⟨fv, sv, rfl, hF, hS⟩ := h
  obtain ⟨fa, fc, rfl⟩ := hF.size
  obtain ⟨sa, sc, rfl⟩ := hS.size
  obtain ⟨nf, hnf⟩ : ∃ n, n = c.funs.length := ⟨_, rfl⟩
  obtain ⟨ns, hns⟩ : ∃ n, n = c.stops.length := ⟨_, rfl⟩
  rw [← hnf] at hF ⊢
  rw [← hns] at hS ⊢
  have q0 : (nf : Int) ≤ 4000000 := by have := hs.1; omega
  have q1 : (ns : Int) ≤ 4000000 := by have := hs.2.1; omega
  have HA := Lib.hid (And.intro hF (And.intro hS (And.intro hnf (And.intro hns hs))))
  clear hF hS hnf hns hs
  go_enter Try.func7, Try.ntmps7
  obtain ⟨bA, hbA⟩ : ∃ g, g = w.heap.size := ⟨_, rfl⟩
  obtain ⟨br, hbr⟩ : ∃ g, g = w.heap.size + 1 := ⟨_, rfl⟩
  obtain ⟨bo, hbo⟩ : ∃ g, g = w.heap.size + 1 + 1 := ⟨_, rfl⟩
  obtain ⟨W3, hW3⟩ : ∃ W, W = ((w.alloc (.cells #[.slice fa nf fc, .slice sa ns sc, I c.main] 25)).alloc (.cells #[.slice none 0 0, .slice none 0 0, I 0] 25)).alloc (.cells #[.slice none 0 0, .slice none 0 0, I c.main] 25) := ⟨_, rfl⟩
  have hB3 : Below w.heap.size w W3 := by rw [hW3]; exact (((Below.refl _ _).alloc (Nat.le_refl _) _).alloc (by simp) _).alloc (by simp; omega) _
  have kA : Blk bA #[.slice fa nf fc, .slice sa ns sc, I c.main] 25 W3 := by rw [hW3, hbA]; exact ((Blk.new _ _ _).alloc _).alloc _
  have kr : Blk br #[.slice none 0 0, .slice none 0 0, I 0] 25 W3 := by rw [hW3, hbr]; exact (Blk.new' _ _ _ (by simp)).alloc _
  have ko : Blk bo #[.slice none 0 0, .slice none 0 0, I c.main] 25 W3 := by rw [hW3, hbo]; exact Blk.new' _ _ _ (by simp)
  have hsz : W3.heap.size = bo + 1 := by rw [hW3, hbo]; simp
  have H3 := Lib.hid (And.intro hB3 (And.intro kA (And.intro kr (And.intro ko (And.intro hsz (And.intro hbA (And.intro hbr hbo)))))))
  have HW3 := Lib.hid hW3
  have x1 := kA.get 1 (.slice sa ns sc) rfl
  have HST := Lib.hid (show TS1 W3 bo c (I 0) W3 from ⟨0, .slice none 0 0, Nat.zero_le _, rfl, ko, OwnS.start, grown_rfl _ _⟩)
  clear hB3 kA kr ko hsz hbA hbr hbo hW3
  go_upto_region 2 with (fail)
  rw [← H3.out.2.2.2.2.2.2.2, ← H3.out.2.2.2.2.2.2.1, ← H3.out.2.2.2.2.2.1]
  change Code.wp _ _ _ _ (((w.alloc (.cells #[.slice fa nf fc, .slice sa ns sc, I c.main] 25)).alloc (.cells #[.slice none 0 0, .slice none 0 0, I 0] 25)).alloc (.cells #[.slice none 0 0, .slice none 0 0, I c.main] 25))
  rw [← HW3.out]
  go_wp2_with fail
  go_loopw [17] (fun iv W => TS1 W3 bo c iv W) (fun iv _ => ns - (intOf iv).toNat)
  case atStart => exact HST.out
  case round =>
    obtain ⟨i, sv, hi, rfl, hko, hown, hgr⟩ := hrel
    clear x1
    by_cases hin : i < ns
    · have hil : i < c.stops.length := by rw [← HA.out.2.2.2.1]; exact hin
      have hargS : ∀ n, LtW w n → wr.heap[n]? = w.heap[n]? := fun n hn => (hgr.block n (by have := H3.out.1.size; unfold LtW at hn; omega) (by have := H3.out.2.2.2.2.2.2.2; unfold LtW at hn; simp; omega)).trans (H3.out.1.block n hn)
      obtain ⟨b, _, rfl, hbl, c00, slv, rfl, hsl⟩ := (HA.out.2.1.keep stopV_stays hargS (fun _ h => h)).at i hil
      obtain ⟨la, lc, rfl⟩ := hsl.size
      obtain ⟨l, hl⟩ : ∃ z, z = c.stops[i] := ⟨_, rfl⟩
      have hlb := HA.out.2.2.2.2.2.2.1 i hil
      have htk : c.stops.take (i + 1) = c.stops.take i ++ [l] := by rw [List.take_succ_eq_append_getElem hil, ← hl]
      rw [← hl] at c00 hsl hlb
      obtain ⟨L, hL⟩ : ∃ n, n = l.length := ⟨_, rfl⟩
      rw [← hL] at c00 hsl hlb
      have c0 := c00.f0
      rw [Nat.mul_one] at c0
      obtain ⟨s3, m3, k3, rfl⟩ : ∃ a m k, sv = .slice a m k := by
        obtain ⟨a, k, e⟩ := hown.row
        exact ⟨_, _, _, e⟩
      have d0 : decide (i < ns) = true := by simpa using hin
      have d1 : (0 : Int) ≤ (i : Int) := by omega
      have d2 : (i : Int) < (ns : Int) := by omega
      have H1 := Lib.hid (And.intro hown (And.intro hgr (And.intro hko (And.intro hsl (And.intro hL (And.intro hlb (And.intro htk hin)))))))
      clear c00 hl hL hsl hlb htk hown hgr hko hargS hil hin hi hbl HST
      go_upto_region 5 with (fail)
      obtain ⟨V, hV⟩ : ∃ V, V = wr.drew := ⟨_, rfl⟩
      have hbV : Below wr.heap.size wr V := by rw [hV]; exact below_drewN (Below.refl _ _) 1
      have HV := Lib.hid hbV
      have hS : V.cell? ⟨bo, 1, none⟩ = some (.slice s3 m3 k3) := (H1.out.2.2.1.below hbV H1.out.2.2.1.lt).get 1 _ rfl
      refine wp_region_dep (S := fun w' => w'.cell? ⟨bo, 1, none⟩ = some (.slice s3 m3 k3)) (dep := [8]) (by kernel_rfl) ?_
      change wpAnyD _ _ _ _ _ _ _ _ _ (World.drew _)
      rw [← hV]
      clear hV hbV
      refine wpAnyD_take (i := 0) (v := ?_) rfl (by kernel_rfl) (by kernel_rfl) (by kernel_rfl) (by kernel_rfl) (by kernel_rfl) (fun _ _ _ h => h) hS (Or.inl ⟨by rfl, ?_⟩) ?_
      rotate_left
      · intro w hSw; go_simp
        try with_reducible rfl
      try simp only [Act.put, List.setIfInBounds_toArray, List.set_cons_zero, List.set_cons_succ]
      refine wpAnyD_take (i := 1) (v := ?_) rfl (by kernel_rfl) (by kernel_rfl) (by kernel_rfl) (by kernel_rfl) (by kernel_rfl) (fun _ _ _ h => h) hS (Or.inl ⟨by rfl, ?_⟩) ?_
      rotate_left
      · intro w hSw; go_simp
        try with_reducible rfl
      try simp only [Act.put, List.setIfInBounds_toArray, List.set_cons_zero, List.set_cons_succ]
      refine wpAnyD_take (i := 3) (v := ?_) rfl (by kernel_rfl) (by kernel_rfl) (by kernel_rfl) (by kernel_rfl) (by kernel_rfl) (fun _ _ _ h => h) hS (Or.inl ⟨by rfl, ?_⟩) ?_
      rotate_left
      · intro w hSw; go_simp
        try with_reducible rfl
      try simp only [Act.put, List.setIfInBounds_toArray, List.set_cons_zero, List.set_cons_succ]
      clear hS
      obtain ⟨V2, hV2⟩ : ∃ W, W = V.alloc (.cells #[] 59) := ⟨_, rfl⟩
      have hb2 : Below wr.heap.size wr V2 := by rw [hV2]; exact HV.out.alloc HV.out.size _
      have k12 : Blk V.heap.size #[] 59 V2 := by rw [hV2]; exact Blk.new _ _ _
      have H2 := Lib.hid (And.intro hb2 k12)
      have HV2 := Lib.hid hV2
      clear hb2 k12 hV2
      refine wpAnyD_one (i := 2) rfl (by kernel_rfl) rfl (fun K hK => ?_)
      go_simp
      rw [← HV2.out]
      refine hK _ _ (Or.inr ((H1.out.2.2.1.below H2.out.1 H1.out.2.2.1.lt).get 1 _ rfl)) ?_
      clear hK K
      try simp only [Act.put, List.setIfInBounds_toArray, List.set_cons_zero, List.set_cons_succ]
      refine wpAnyD_one (i := 4) rfl (by kernel_rfl) rfl (fun K hK => ?_)
      refine wp_clone (enc := encS) (.tmp 23) (.tmp 24) 51 rfl 59 iS (.agg #[I 0, I 0]) 2 16 Try.underlying51 HS.out.1 HS.out.2.1 HS.out.2.2.1 HS.out.2.2.2 rfl (by decide) (fun _ => rfl) oneS V.heap.size rfl H2.out.2 (.slice la L lc) rfl l (LtW w) (H1.out.2.2.2.1.keep spotV_stays (fun n hn => H2.out.1.block n (by have := H3.out.1.size; have := H1.out.2.1.size; unfold LtW at hn; omega)) (fun _ h => h)) (by rw [← H1.out.2.2.2.2.1]; exact H1.out.2.2.2.2.2.1) (by decide) ?_
      intro u1 w4 ho1 hg1 hat1
      have hB4 : Below wr.heap.size wr w4 := H2.out.1.grown hg1 H2.out.1.size (fun k hk => by cases hk; exact HV.out.size)
      obtain ⟨a1, c1, rfl⟩ := ho1.row
      rw [← H1.out.2.2.2.2.1] at ho1 ⊢
      have hown4 := H1.out.1.below stopV_stays hB4
      have hvb : ∀ n, some n = (Value.slice s3 m3 k3).ownBlock → n < wr.heap.size := fun n e => by
        obtain ⟨cs, _, _, q3, _⟩ := H1.out.1
        exact (q3.lt n e.symm).2
      have hx4 : StopV (SxW W3.heap.size (.slice s3 m3 k3) w4) w4 [.slice a1 L c1] l := ⟨_, rfl, (ho1.sl spotV_stays).keepF spotV_stays (fun _ _ => rfl) (fun n hn => ⟨by have h1 := hn.1; have h2 := HV.out.size; have h3 := H1.out.2.1.size; omega, hn.2, fun e => by have h1 := hn.1; have h2 := HV.out.size; have := hvb n e; omega⟩)⟩
      obtain ⟨cs, q1', q2', q3', q4'⟩ := hown4
      have hko4 := H1.out.2.2.1.below hB4 H1.out.2.2.1.lt
      have hgr4 := grown_below H1.out.2.1 hB4
      obtain ⟨li, hli⟩ : ∃ n, n = (c.stops.take i).length := ⟨_, rfl⟩
      have hlib : li ≤ 4000000 := by rw [hli, List.length_take]; have := H1.out.2.2.2.2.2.2.2; omega
      rw [← hli] at q3'
      have H4 := Lib.hid (And.intro hB4 (And.intro q1' (And.intro q2' (And.intro q3' (And.intro hx4 (And.intro hko4 (And.intro hgr4 (And.intro hli hlib))))))))
      have HQ4 := Lib.hid q4'
      refine hK _ _ (Or.inr (hko4.get 1 _ rfl)) ?_
      clear hK K ho1 hg1 hat1 hB4 hvb hx4 q1' q2' q3' q4' hko4 hgr4 hli hlib
      try simp only [Act.put, List.setIfInBounds_toArray, List.set_cons_zero, List.set_cons_succ]
      refine wpAnyD_one (i := 5) rfl (by kernel_rfl) rfl (fun K hK => ?_)
      go_simp
      refine hK _ _ (Or.inr ((H4.out.2.2.2.2.2.1.alloc _).get 1 _ rfl)) ?_
      clear hK K
      try simp only [Act.put, List.setIfInBounds_toArray, List.set_cons_zero, List.set_cons_succ]
      refine wpAnyD_one (i := 6) rfl (by kernel_rfl) rfl (fun K hK => ?_)
      refine wp_append_lies _ (.tmp 22) (.tmp 26) 23 rfl W3.heap.size 51 iL (.slice none 0 0) 1 24 Try.underlying23 HL.out.1 HL.out.2.1 HL.out.2.2.1 HL.out.2.2.2 rfl (by decide) (.slice s3 m3 k3) li cs.flatten rfl (H4.out.2.2.2.1.alloc _) ⟨w4.heap.size, 0, none⟩ 1 1 [.slice a1 L c1] rfl rfl (World.news_of_block (heap_alloc_new w4 _)) (by simp [Value.oneCell']) (by decide) (by have := H4.out.2.2.2.2.2.2.2.2; unfold maxLen; omega) (by have := H4.out.2.2.2.2.2.2.2.2; omega) (by have h1 := H4.out.2.2.2.2.2.2.1.size; simp; omega) _ rfl ?_
      intro gg cg w6 hown6 hgr6 hat6 hlt6
      have hbase : ∀ k, (Value.slice s3 m3 k3).ownBlock = some k → W3.heap.size ≤ k := fun k e => (H4.out.2.2.2.1.lt k e).1
      have hbo : bo < W3.heap.size := by have := H3.out.2.2.2.2.1; omega
      have hne : some bo ≠ (Value.slice s3 m3 k3).ownBlock := fun e => by have := hbase bo e.symm; omega
      have hko6 := (H4.out.2.2.2.2.2.1.alloc (.cells #[.slice a1 L c1] 51)).other hgr6 hne
      have hown6' : OwnS W3.heap.size 51 1 StopV w6 (.slice (some ⟨gg, 0, none⟩) (li + 1) cg) (c.stops.take (i + 1)) := by
        rw [H1.out.2.2.2.2.2.2.1]
        refine OwnS.app stopV_stays H4.out.2.1 H4.out.2.2.1 HQ4.out H4.out.2.2.2.2.1 rfl hgr6 (by rw [← H4.out.2.2.2.2.2.2.2.1]; exact hown6) ?_
        rcases hat6 with e | e
        · exact Or.inl (by rw [e]; rfl)
        · exact Or.inr (by rw [e]; rfl)
      obtain ⟨W8, hW8⟩ : ∃ W, W = w6.setCell ⟨bo, 1, none⟩ (.slice (some ⟨gg, 0, none⟩) (li + 1) cg) := ⟨_, rfl⟩
      have FIN := Lib.hid (show TS1 W3 bo c (I ((i : Int) + 1)) W8 from ⟨i + 1, _, by have := H1.out.2.2.2.2.2.2.2; have := HA.out.2.2.2.1; omega, rfl, by rw [hW8]; exact hko6.set 1 (.slice (some ⟨gg, 0, none⟩) (li + 1) cg), by rw [hW8]; exact hown6'.set stopV_stays hbo _ _, by rw [hW8]; exact grown_cell (grown_app H4.out.2.2.2.2.2.2.1 hgr6 hbase) _ _⟩)
      have HW8 := Lib.hid hW8
      have y1 := hko6.get 1 (.slice s3 m3 k3) rfl
      have f1 := hko6.free 1
      refine hK _ _ (Or.inr y1) ?_
      clear hK K hown6 hgr6 hat6 hlt6 hbase hbo hne hko6 hown6' hW8
      try simp only [Act.put, List.setIfInBounds_toArray, List.set_cons_zero, List.set_cons_succ]
      refine wpAnyD_one (i := 7) rfl (by kernel_rfl) rfl (fun K hK => ?_)
      go_simp
      refine hK _ _ (Or.inr y1) ?_
      clear hK K
      try simp only [Act.put, List.setIfInBounds_toArray, List.set_cons_zero, List.set_cons_succ]
      refine wpAnyD_one (i := 8) rfl (by kernel_rfl) rfl (fun K hK => ?_)
      go_simp
      refine hK _ _ (Or.inl rfl) ?_
      clear hK K y1 f1
      rw [← HW8.out]
      refine wpAnyD_done (by kernel_rfl) ?_ _
      go_wp2_with fail
      exact ⟨FIN.out, by have := H1.out.2.2.2.2.2.2.2; simp [intOf]; omega⟩
    · have hiS : c.stops.take i = c.stops := List.take_of_length_le (by have := HA.out.2.2.2.1; omega)
      rw [hiS] at hown
      obtain ⟨W4, rfl⟩ : ∃ W : World, W = wr := ⟨_, rfl⟩
      have kA4 := H3.out.2.1.other hgr (by have h1 := H3.out.2.2.2.2.2.1; have h2 := H3.out.2.2.2.2.2.2.2; simp; omega)
      have kr4 := H3.out.2.2.1.other hgr (by have h1 := H3.out.2.2.2.2.2.2.1; have h2 := H3.out.2.2.2.2.2.2.2; simp; omega)
      have x0 := kA4.get 0 (.slice fa nf fc) rfl
      have H4 := Lib.hid (And.intro hown (And.intro hgr (And.intro kA4 kr4)))
      have HST2 := Lib.hid (show TF2 W4 bo sv c (I 0) W4 from ⟨0, .slice none 0 0, Nat.zero_le _, rfl, hko, OwnS.start, grown_rfl _ _⟩)
      have d0 : decide (i < ns) = false := by simpa using hin
      clear hown hgr kA4 kr4 hko hin hi hiS HST
      go_wp2_with fail
      go_loopw [33] (fun iv W => TF2 W4 bo sv c iv W) (fun iv _ => nf - (intOf iv).toNat)
      case atStart => exact HST2.out
      case round =>
        obtain ⟨i, fv, hi, rfl, hko, hown, hgr⟩ := hrel
        clear x0 d0
        by_cases hin : i < nf
        · have hil : i < c.funs.length := by rw [← HA.out.2.2.1]; exact hin
          have hargF : ∀ n, LtW w n → wr.heap[n]? = w.heap[n]? := fun n hn => by
            have h1 := H3.out.1.size
            have h2 := H4.out.2.1.size
            have h3 := H3.out.2.2.2.2.2.2.2
            unfold LtW at hn
            exact (hgr.block n (by omega) (by simp; omega)).trans ((H4.out.2.1.block n (by omega) (by simp; omega)).trans (H3.out.1.block n hn))
          obtain ⟨b, _, rfl, hbl, c0, bv, rfl, hbz⟩ := (HA.out.1.keep funV_stays hargF (fun _ h => h)).at i hil
          obtain ⟨ba, bc, rfl⟩ := hbz.size
          obtain ⟨f, hf⟩ : ∃ z, z = c.funs[i] := ⟨_, rfl⟩
          have hsm := HA.out.2.2.2.2.2.2.2 i hil
          have htk : c.funs.take (i + 1) = c.funs.take i ++ [f] := by rw [List.take_succ_eq_append_getElem hil, ← hf]
          rw [← hf] at c0 hbz hsm
          obtain ⟨L, hL⟩ : ∃ n, n = f.blocks.length := ⟨_, rfl⟩
          rw [← hL] at c0 hbz
          have x0 := c0.f0
          have x1 := c0.f1
          have x2 := c0.f2
          have x3 := c0.f3
          have hLb : (L : Int) ≤ 4000000 := by have := hsm.1; omega
          obtain ⟨W5, hW5⟩ : ∃ W, W = wr.alloc (.cells #[I f.params, I f.vars, I f.vals, .slice ba L bc] 36) := ⟨_, rfl⟩
          have hB5 : Below wr.heap.size wr W5 := by rw [hW5]; exact (Below.refl _ _).alloc (Nat.le_refl _) _
          obtain ⟨bf, hbf⟩ : ∃ g, g = wr.heap.size := ⟨_, rfl⟩
          have kf : Blk bf #[I f.params, I f.vars, I f.vals, .slice ba L bc] 36 W5 := by rw [hbf, hW5]; exact Blk.new _ _ _
          have hz5 : W5.heap.size = bf + 1 := by rw [hW5, hbf]; simp
          have hbw : ∀ n, LtW w n → n < wr.heap.size := fun n hn => by have h1 := H3.out.1.size; have h2 := H4.out.2.1.size; have h3 := hgr.size; unfold LtW at hn; omega
          have H5 := Lib.hid (And.intro hown (And.intro hgr (And.intro hko (And.intro (hbz.keep blockV_stays (fun n hn => hB5.block n (hbw n hn)) (fun _ h => h)) (And.intro hL (And.intro hsm (And.intro htk (And.intro hin (And.intro hB5 (And.intro kf (And.intro hz5 (And.intro hbf hbw))))))))))))
          have HST3 := Lib.hid (show TB3 W5 f.blocks (.slice none 0 0) (I 0) (wr.alloc (.cells #[I f.params, I f.vars, I f.vals, .slice ba L bc] 36)) from ⟨0, Nat.zero_le _, rfl, OwnS.start, by rw [hW5]; exact Below.refl _ _⟩)
          have HW5 := Lib.hid hW5
          have d0 : decide (i < nf) = true := by simpa using hin
          have d1 : (0 : Int) ≤ (i : Int) := by omega
          have d2 : (i : Int) < (nf : Int) := by omega
          clear c0 hbz hsm htk hf hL hW5 hB5 hbf kf hz5 hbw hown hgr hko hargF hil hin hi hbl HST2
          go_wp2_with fail
          rw [← H5.out.2.2.2.2.2.2.2.2.2.2.2.1]
          go_loopw [8, 40] (fun ov iv W => TB3 W5 f.blocks ov iv W) (fun _ iv _ => L - (intOf iv).toNat)
          case atStart => exact HST3.out
          case round =>
            obtain ⟨k, hk, rfl, hown, hbe⟩ := hrel
            clear x0 x1 x2 x3 d0
            by_cases hkn : k < L
            · have hkl : k < f.blocks.length := by rw [← H5.out.2.2.2.2.1]; exact hkn
              have hz5 := H5.out.2.2.2.2.2.2.2.2.2.2.1
              have hbf := H5.out.2.2.2.2.2.2.2.2.2.2.2.1
              have hbw := H5.out.2.2.2.2.2.2.2.2.2.2.2.2
              obtain ⟨b, _, rfl, hbl, c0, pv, iv, rfl, hpz, hiz⟩ := (H5.out.2.2.2.1.keep blockV_stays (fun n hn => hbe.block n (by have := hbw n hn; omega)) (fun _ h => h)).at k hkl
              obtain ⟨pa, pc, rfl⟩ := hpz.size
              obtain ⟨ia, ic, rfl⟩ := hiz.size
              obtain ⟨bk, hbk⟩ : ∃ z, z = f.blocks[k] := ⟨_, rfl⟩
              have hsm := H5.out.2.2.2.2.2.1.2 k hkl
              have htk : f.blocks.take (k + 1) = f.blocks.take k ++ [bk] := by rw [List.take_succ_eq_append_getElem hkl, ← hbk]
              rw [← hbk] at c0 hpz hiz hsm
              obtain ⟨P, hP⟩ : ∃ P, P = bk.phis.length := ⟨_, rfl⟩
              obtain ⟨J, hJ⟩ : ∃ J, J = bk.insts.length := ⟨_, rfl⟩
              rw [← hP, ← hJ] at c0
              rw [← hP] at hpz
              rw [← hJ] at hiz
              have x0 := c0.f0
              have x1 := c0.f1
              have x2 := c0.f2
              have x3 := c0.f3
              have x4 := c0.f4
              have x5 := c0.f5
              obtain ⟨g, hg⟩ : ∃ g, g = wr.heap.size := ⟨_, rfl⟩
              obtain ⟨Wb, hWb⟩ : ∃ W, W = wr.alloc (.cells #[.slice pa P pc, .slice ia J ic, U8 bk.fin, I bk.arg, I bk.to, I bk.els] 40) := ⟨_, rfl⟩
              obtain ⟨V, hV⟩ : ∃ V, V = Wb.drew := ⟨_, rfl⟩
              have hBV : Below wr.heap.size wr V := by rw [hV, hWb]; exact below_drewN ((Below.refl _ _).alloc (Nat.le_refl _) _) 1
              have kV : Blk g #[.slice pa P pc, .slice ia J ic, U8 bk.fin, I bk.arg, I bk.to, I bk.els] 40 V := by rw [hV, hWb, hg]; exact Blk.new _ _ _
              have hzV : V.heap.size = g + 1 := by rw [hV, hWb, hg]; simp
              have hbw2 : ∀ n, LtW w n → n < wr.heap.size := fun n hn => by have h1 := hbw n hn; have h2 := hbe.size; omega
              have hpzV : InstsZ V (.slice pa P pc) bk.phis := hpz.keep instV_stays (fun n hn => hBV.block n (hbw2 n hn)) (fun n hn => by have := hbw2 n hn; unfold LtW; omega)
              have hizV : InstsZ V (.slice ia J ic) bk.insts := hiz.keep instV_stays (fun n hn => hBV.block n (hbw2 n hn)) (fun n hn => by have := hbw2 n hn; unfold LtW; omega)
              have HCP := Lib.hid (twins_any (.slice pa P pc) bk.phis hsm.1 V hpzV)
              have H6 := Lib.hid (And.intro hown (And.intro hbe (And.intro hizV (And.intro hsm.2 (And.intro htk (And.intro hkn (And.intro hBV (And.intro kV (And.intro hzV hg)))))))))
              have HV := Lib.hid hV
              have HWb := Lib.hid hWb
              have dk0 : decide (k < L) = true := by simpa using hkn
              have dk1 : (0 : Int) ≤ (k : Int) := by omega
              have dk2 : (k : Int) < (L : Int) := by omega
              have hS : V.cell? ⟨g, 0, none⟩ = some (.slice pa P pc) ∧ V.cell? ⟨g, 1, none⟩ = some (.slice ia J ic) := ⟨kV.get 0 _ rfl, kV.get 1 _ rfl⟩
              clear c0 hpz hiz hbk hP hJ hsm htk hown hbe hBV kV hzV hbw2 hpzV hizV hV hWb hg hz5 hbf hbw hk hkn hkl hbl HST3
              go_upto_region 14 with (fail)
              refine wp_region_dep (S := fun w' => w'.cell? ⟨g, 0, none⟩ = some (.slice pa P pc) ∧ w'.cell? ⟨g, 1, none⟩ = some (.slice ia J ic)) (dep := [7, 8, 9]) (by kernel_rfl) ?_
              change wpAnyD _ _ _ _ _ _ _ _ _ (World.drew (wr.alloc (.cells #[.slice pa P pc, .slice ia J ic, U8 bk.fin, I bk.arg, I bk.to, I bk.els] 40)))
              rw [← HWb.out, ← HV.out, ← H6.out.2.2.2.2.2.2.2.2.2]
              clear x0 x1 x2 x3 x4 x5 dk0
              refine wpAnyD_take (i := 0) (v := ?_) rfl (by kernel_rfl) (by kernel_rfl) (by kernel_rfl) (by kernel_rfl) (by kernel_rfl) (fun _ _ _ h => h) hS (Or.inl ⟨by rfl, ?_⟩) ?_
              rotate_left
              · intro w hSw; obtain ⟨hSw, hSw2⟩ := hSw; go_simp
                try with_reducible rfl
              try simp only [Act.put, List.setIfInBounds_toArray, List.set_cons_zero, List.set_cons_succ]
              refine wpAnyD_take (i := 1) (v := ?_) rfl (by kernel_rfl) (by kernel_rfl) (by kernel_rfl) (by kernel_rfl) (by kernel_rfl) (fun _ _ _ h => h) hS (Or.inl ⟨by rfl, ?_⟩) ?_
              rotate_left
              · intro w hSw; obtain ⟨hSw, hSw2⟩ := hSw; go_simp
                try with_reducible rfl
              try simp only [Act.put, List.setIfInBounds_toArray, List.set_cons_zero, List.set_cons_succ]
              refine wpAnyD_take (i := 3) (v := ?_) rfl (by kernel_rfl) (by kernel_rfl) (by kernel_rfl) (by kernel_rfl) (by kernel_rfl) (fun _ _ _ h => h) hS (Or.inl ⟨by rfl, ?_⟩) ?_
              rotate_left
              · intro w hSw; obtain ⟨hSw, hSw2⟩ := hSw; go_simp
                try with_reducible rfl
              try simp only [Act.put, List.setIfInBounds_toArray, List.set_cons_zero, List.set_cons_succ]
              refine wpAnyD_take (i := 4) (v := ?_) rfl (by kernel_rfl) (by kernel_rfl) (by kernel_rfl) (by kernel_rfl) (by kernel_rfl) (fun _ _ _ h => h) hS (Or.inl ⟨by rfl, ?_⟩) ?_
              rotate_left
              · intro w hSw; obtain ⟨hSw, hSw2⟩ := hSw; go_simp
                try with_reducible rfl
              try simp only [Act.put, List.setIfInBounds_toArray, List.set_cons_zero, List.set_cons_succ]
              clear hS
              refine wpAnyD_one (i := 2) rfl (by kernel_rfl) rfl (fun K hK => ?_)
              go_simp
              refine HCP.out.mono ?_
              rintro e w6 ⟨u1, rfl, ho1, hb6⟩
              obtain ⟨a1, c1, rfl⟩ := ho1.row
              obtain ⟨P1, hP1⟩ : ∃ n, n = bk.phis.length := ⟨_, rfl⟩
              rw [← hP1] at ho1 ⊢
              have hB6 := below_tr H6.out.2.2.2.2.2.2.1 hb6
              have k6 := H6.out.2.2.2.2.2.2.2.1.below hb6 H6.out.2.2.2.2.2.2.2.1.lt
              have HCI := Lib.hid (twins_any (.slice ia J ic) bk.insts H6.out.2.2.2.1 w6 (H6.out.2.2.1.below instV_stays hb6))
              have hs1 := ho1.sl instV_stays
              have H7 := Lib.hid (And.intro hb6 (And.intro hB6 (And.intro k6 hs1)))
              have hS6 : w6.cell? ⟨g, 0, none⟩ = some (.slice pa P pc) ∧ w6.cell? ⟨g, 1, none⟩ = some (.slice ia J ic) := ⟨k6.get 0 _ rfl, k6.get 1 _ rfl⟩
              refine hK _ _ (Or.inr hS6) ?_
              clear hK K hP1 ho1 hb6 hB6 k6 hs1 HCP
              try simp only [Act.put, List.setIfInBounds_toArray, List.set_cons_zero, List.set_cons_succ]
              refine wpAnyD_take (i := 6) (v := ?_) rfl (by kernel_rfl) (by kernel_rfl) (by kernel_rfl) (by kernel_rfl) (by kernel_rfl) (fun _ _ _ h => h) hS6 (Or.inl ⟨by rfl, ?_⟩) ?_
              rotate_left
              · intro w hSw; obtain ⟨hSw, hSw2⟩ := hSw; go_simp
                try with_reducible rfl
              try simp only [Act.put, List.setIfInBounds_toArray, List.set_cons_zero, List.set_cons_succ]
              clear hS6
              refine wpAnyD_one (i := 5) rfl (by kernel_rfl) rfl (fun K hK => ?_)
              go_simp
              refine HCI.out.mono ?_
              rintro e w7 ⟨u2, rfl, ho2, hb7⟩
              obtain ⟨a2, c2, rfl⟩ := ho2.row
              obtain ⟨J1, hJ1⟩ : ∃ n, n = bk.insts.length := ⟨_, rfl⟩
              rw [← hJ1] at ho2 ⊢
              have hB7 := below_tr H7.out.2.1 hb7
              have k7 := H7.out.2.2.1.below hb7 H7.out.2.2.1.lt
              have hs2 := ho2.sl instV_stays
              obtain ⟨W8, hW8⟩ : ∃ W, W = w7.setCell ⟨g, 0, none⟩ (.slice a1 P1 c1) := ⟨_, rfl⟩
              have k8 : Blk g #[.slice a1 P1 c1, .slice ia J ic, U8 bk.fin, I bk.arg, I bk.to, I bk.els] 40 W8 := by rw [hW8]; exact k7.set 0 (.slice a1 P1 c1)
              obtain ⟨W9, hW9⟩ : ∃ W, W = W8.setCell ⟨g, 1, none⟩ (.slice a2 J1 c2) := ⟨_, rfl⟩
              have k9 : Blk g #[.slice a1 P1 c1, .slice a2 J1 c2, U8 bk.fin, I bk.arg, I bk.to, I bk.els] 40 W9 := by rw [hW9]; exact k8.set 1 (.slice a2 J1 c2)
              have hz9 : W9.heap.size = w7.heap.size := by rw [hW9, hW8]; simp [World.setCell]
              have hgw := H6.out.2.2.2.2.2.2.2.2.2
              have hB9 : Below wr.heap.size wr W9 := by rw [hW9, hW8]; exact (hB7.setCell (p := ⟨g, 0, none⟩) (by rw [hgw]; exact Nat.le_refl _) _).setCell (p := ⟨g, 1, none⟩) (by rw [hgw]; exact Nat.le_refl _) _
              have he9 : ∀ n, n ≠ g → W9.heap[n]? = w7.heap[n]? := fun n hn => by rw [hW9, hW8]; exact (Below.heap_setCell _ _ _ _ hn).trans (Below.heap_setCell _ _ _ _ hn)
              have hown9 := H6.out.1.below blockV_stays hB9
              obtain ⟨s3, m3, k3, hu3⟩ : ∃ a m k, u8 = .slice a m k := by
                obtain ⟨a, k, e⟩ := hown9.row
                exact ⟨_, _, _, e⟩
              have hvb : ∀ n, some n = u8.ownBlock → n < g := fun n e => by
                obtain ⟨cs, _, _, q3, _⟩ := H6.out.1
                rw [hgw]
                exact (q3.lt n e.symm).2
              have hzV := H6.out.2.2.2.2.2.2.2.2.1
              have hz6 := H7.out.1.size
              have hz7 := hb7.size
              have hbase : W5.heap.size ≤ g := by rw [hgw]; exact H6.out.2.1.size
              have ht1 : SlS (SxW W5.heap.size u8 W9) 6 InstV W9 (.slice a1 P1 c1) bk.phis := H7.out.2.2.2.keepF instV_stays (fun n hn => by rw [he9 n (by have := hn.1; omega)]; exact hb7.block n hn.2) (fun n hn => ⟨by have := hn.1; omega, by have := hn.2; omega, fun e => by have := hvb n e; have := hn.1; omega⟩)
              have ht2 : SlS (SxW W5.heap.size u8 W9) 6 InstV W9 (.slice a2 J1 c2) bk.insts := hs2.keepF instV_stays (fun n hn => he9 n (by have := hn.1; omega)) (fun n hn => ⟨by have := hn.1; omega, by have := hn.2; omega, fun e => by have := hvb n e; have := hn.1; omega⟩)
              have hx9 : BlockV (SxW W5.heap.size u8 W9) W9 [.slice a1 P1 c1, .slice a2 J1 c2, U8 bk.fin, I bk.arg, I bk.to, I bk.els] bk := ⟨_, _, rfl, ht1, ht2⟩
              obtain ⟨cs, q1', q2', q3', q4'⟩ := hown9
              obtain ⟨li, hli⟩ : ∃ n, n = (f.blocks.take k).length := ⟨_, rfl⟩
              have hlib : li ≤ 4000000 := by rw [hli, List.length_take]; have := H6.out.2.2.2.2.2.1; omega
              rw [← hli] at q3'
              have y0 := k7.get 0 (.slice pa P pc) rfl
              have g0 := k7.free 0
              have y1 := k8.get 1 (.slice ia J ic) rfl
              have g1 := k8.free 1
              have H9 := Lib.hid (And.intro k9 (And.intro hB9 (And.intro q1' (And.intro q2' (And.intro q3' (And.intro hx9 (And.intro hli (And.intro hlib hu3))))))))
              have HQ9 := Lib.hid q4'
              have HW8 := Lib.hid hW8
              have HW9 := Lib.hid hW9
              have hS7 : w7.cell? ⟨g, 0, none⟩ = some (.slice pa P pc) ∧ w7.cell? ⟨g, 1, none⟩ = some (.slice ia J ic) := ⟨k7.get 0 _ rfl, k7.get 1 _ rfl⟩
              refine hK _ _ (Or.inr hS7) ?_
              clear hK K hJ1 ho2 hb7 hB7 k7 hs2 hW8 k8 hW9 k9 hz9 hgw hB9 he9 hvb hzV hz6 hz7 hbase ht1 ht2 hx9 q1' q2' q3' q4' hli hlib HCI
              try simp only [Act.put, List.setIfInBounds_toArray, List.set_cons_zero, List.set_cons_succ]
              clear hS7
              refine wpAnyD_one (i := 7) rfl (by kernel_rfl) rfl (fun K hK => ?_)
              go_simp
              refine hK _ _ (Or.inl rfl) ?_
              clear hK K y0 g0
              rw [← HW8.out]
              try simp only [Act.put, List.setIfInBounds_toArray, List.set_cons_zero, List.set_cons_succ]
              refine wpAnyD_one (i := 8) rfl (by kernel_rfl) rfl (fun K hK => ?_)
              go_simp
              refine hK _ _ (Or.inl rfl) ?_
              clear hK K
              try simp only [Act.put, List.setIfInBounds_toArray, List.set_cons_zero, List.set_cons_succ]
              refine wpAnyD_one (i := 9) rfl (by kernel_rfl) rfl (fun K hK => ?_)
              go_simp
              refine hK _ _ (Or.inl rfl) ?_
              clear hK K y1 g1
              rw [← HW9.out]
              refine wpAnyD_done (by kernel_rfl) ?_ _
              have y0 := H9.out.1.get 0 (.slice a1 P1 c1) rfl
              have y1 := H9.out.1.get 1 (.slice a2 J1 c2) rfl
              have y2 := H9.out.1.get 2 (U8 bk.fin) rfl
              have y3 := H9.out.1.get 3 (I bk.arg) rfl
              have y4 := H9.out.1.get 4 (I bk.to) rfl
              have y5 := H9.out.1.get 5 (I bk.els) rfl
              go_wp2_with (first | (at_builtin; refine Hid.out ?_) | go_in)
              unfold Hid
              change wpList _ _ _ _ _ (W9.alloc (.cells #[.slice a1 P1 c1, .slice a2 J1 c2, U8 bk.fin, I bk.arg, I bk.to, I bk.els] 40))
              refine wpList_append_lies _ rfl (.tmp 52) (.tmp 54) 34 rfl W5.heap.size 40 iB (.agg #[.slice none 0 0, .slice none 0 0, U8 0, I 0, I 0, I 0]) 6 80 Try.underlying34 HB.out.1 HB.out.2.1 HB.out.2.2.1 HB.out.2.2.2 rfl (by decide) (.slice s3 m3 k3) li cs.flatten rfl (by rw [← H9.out.2.2.2.2.2.2.2.2]; exact H9.out.2.2.2.2.1.alloc _) ⟨W9.heap.size, 0, none⟩ 1 1 [.slice a1 P1 c1, .slice a2 J1 c2, U8 bk.fin, I bk.arg, I bk.to, I bk.els] rfl rfl (World.news_of_block (heap_alloc_new W9 _)) (by simp [Value.oneCell']) (by decide) (by have := H9.out.2.2.2.2.2.2.2.1; unfold maxLen; omega) (by have := H9.out.2.2.2.2.2.2.2.1; omega) (by have h1 := H9.out.2.1.size; have h2 := H6.out.2.1.size; simp; omega) _ rfl ?_
              intro gg cg w10 hown10 hgr10 hat10 hlt10
              have HN9 := Lib.hid (show TB3 W5 f.blocks (.slice (some ⟨gg, 0, none⟩) (li + 1) cg) (I ((k : Int) + 1)) w10 from ⟨k + 1, by have := H6.out.2.2.2.2.2.1; have := H5.out.2.2.2.2.1; omega, rfl, by
                rw [H6.out.2.2.2.2.1]
                refine OwnS.app blockV_stays H9.out.2.2.1 H9.out.2.2.2.1 HQ9.out H9.out.2.2.2.2.2.1 rfl (by rw [H9.out.2.2.2.2.2.2.2.2]; exact hgr10) (by rw [← H9.out.2.2.2.2.2.2.1]; exact hown10) ?_
                rw [H9.out.2.2.2.2.2.2.2.2]
                rcases hat10 with e | e
                · exact Or.inl (by rw [e]; rfl)
                · exact Or.inr (by rw [e]; rfl), by
                have hb9 := below_tr H6.out.2.1 H9.out.2.1
                exact (hb9.alloc hb9.size _).grown hgr10 (by have := hb9.size; simp; omega) (fun k hk => (H9.out.2.2.2.2.1.lt k (by rw [H9.out.2.2.2.2.2.2.2.2]; exact hk)).1)⟩)
              clear hown10 hgr10 hat10 hlt10 y0 y1 y2 y3 y4 y5
              go_wp2_with fail
              exact ⟨HN9.out, by have := H6.out.2.2.2.2.2.1; simp [intOf]; omega⟩
            · have hie : f.blocks.take k = f.blocks := List.take_of_length_le (by have := H5.out.2.2.2.2.1; omega)
              rw [hie] at hown
              have dk0 : decide (k < L) = false := by simpa using hkn
              obtain ⟨s5, k5, hu8⟩ : ∃ a k, u8 = .slice a f.blocks.length k := by
                obtain ⟨a, k, e⟩ := hown.row
                exact ⟨_, _, e⟩
              obtain ⟨M, hM⟩ : ∃ n, n = f.blocks.length := ⟨_, rfl⟩
              rw [← hM] at hu8
              subst hu8
              have hz5 := H5.out.2.2.2.2.2.2.2.2.2.2.1
              have hbf := H5.out.2.2.2.2.2.2.2.2.2.2.2.1
              have hbw := below_tr H5.out.2.2.2.2.2.2.2.2.1 hbe
              have kf := H5.out.2.2.2.2.2.2.2.2.2.1.below hbe (by omega)
              have ko := H5.out.2.2.1.below hbw H5.out.2.2.1.lt
              obtain ⟨W7, hW7⟩ : ∃ W, W = wr.setCell ⟨bf, 3, none⟩ (.slice s5 M k5) := ⟨_, rfl⟩
              have kf7 : Blk bf #[I f.params, I f.vars, I f.vals, .slice s5 M k5] 36 W7 := by rw [hW7]; exact kf.set 3 (.slice s5 M k5)
              have hbo : bo < W4.heap.size := by have h1 := H3.out.2.2.2.2.1; have h2 := H4.out.2.1.size; omega
              have hobf : bo ≠ bf := by have h1 := H5.out.2.1.size; omega
              have ko7 : Blk bo #[fv, sv, I c.main] 25 W7 := by rw [hW7]; exact ko.setOther hobf _ _
              have hB7 := hbw.setCell (p := ⟨bf, 3, none⟩) (by rw [hbf]; exact Nat.le_refl _) (.slice s5 M k5)
              rw [← hW7] at hB7
              have hown7 := H5.out.1.below funV_stays hB7
              obtain ⟨s4, m4, k4, hu4⟩ : ∃ a m k, fv = .slice a m k := by
                obtain ⟨a, k, e⟩ := hown7.row
                exact ⟨_, _, _, e⟩
              have hvb : ∀ n, some n = fv.ownBlock → n < bf := fun n e => by
                obtain ⟨cs, _, _, q3, _⟩ := H5.out.1
                rw [hbf]
                exact (q3.lt n e.symm).2
              have hW4s := H5.out.2.1.size
              have hx7 : FunV (SxW W4.heap.size fv W7) W7 [I f.params, I f.vars, I f.vals, .slice s5 M k5] f := ⟨_, rfl, (hown.sl blockV_stays).keepF blockV_stays (fun n hn => by rw [hW7]; exact Below.heap_setCell _ _ _ _ (show n ≠ bf by have := hn.1; omega)) (fun n hn => ⟨by have := hn.1; omega, by have := hn.2; rw [hW7]; simpa [World.setCell] using this, fun e => by have := hvb n e; have := hn.1; omega⟩)⟩
              obtain ⟨cs, q1', q2', q3', q4'⟩ := hown7
              obtain ⟨li, hli⟩ : ∃ n, n = (c.funs.take i).length := ⟨_, rfl⟩
              have hlib : li ≤ 4000000 := by rw [hli, List.length_take]; have := H5.out.2.2.2.2.2.2.2.1; omega
              rw [← hli] at q3'
              have hgr7 := grown_below H5.out.2.1 hB7
              have y3 := kf.get 3 (.slice ba L bc) rfl
              have f3 := kf.free 3
              have H7 := Lib.hid (And.intro kf7 (And.intro ko7 (And.intro q1' (And.intro q2' (And.intro q3' (And.intro hx7 (And.intro hli (And.intro hlib (And.intro hu4 (And.intro hgr7 hbo))))))))))
              have HQ7 := Lib.hid q4'
              have HW7 := Lib.hid hW7
              clear hM hz5 hbf hbw kf ko hW7 kf7 hobf hbo ko7 hB7 hvb hW4s hx7 q1' q2' q3' q4' hli hlib hgr7 hown hbe hk hkn hie HST3
              go_upto_region 18 with (fail)
              change Code.wp _ _ _ _ (wr.setCell ⟨bf, 3, none⟩ (.slice s5 M k5))
              rw [← HW7.out]
              clear y3 f3
              have y0 := H7.out.1.get 0 (I f.params) rfl
              have y1 := H7.out.1.get 1 (I f.vars) rfl
              have y2 := H7.out.1.get 2 (I f.vals) rfl
              have y3 := H7.out.1.get 3 (.slice s5 M k5) rfl
              have z0 := H7.out.2.1.get 0 (.slice s4 m4 k4) (by rw [H7.out.2.2.2.2.2.2.2.2.1]; rfl)
              go_wp2_with (first | (at_builtin; refine Hid.out ?_) | go_in)
              unfold Hid
              change wpList _ _ _ _ _ (W7.alloc (.cells #[I f.params, I f.vars, I f.vals, .slice s5 M k5] 36))
              refine wpList_append_lies _ rfl (.tmp 60) (.tmp 62) 22 rfl W4.heap.size 36 iF (.agg #[I 0, I 0, I 0, .slice none 0 0]) 4 48 Try.underlying22 HF.out.1 HF.out.2.1 HF.out.2.2.1 HF.out.2.2.2 rfl (by decide) (.slice s4 m4 k4) li cs.flatten rfl (by rw [← H7.out.2.2.2.2.2.2.2.2.1]; exact H7.out.2.2.2.2.1.alloc _) ⟨W7.heap.size, 0, none⟩ 1 1 [I f.params, I f.vars, I f.vals, .slice s5 M k5] rfl rfl (World.news_of_block (heap_alloc_new W7 _)) (by simp [Value.oneCell']) (by decide) (by have := H7.out.2.2.2.2.2.2.2.1; unfold maxLen; omega) (by have := H7.out.2.2.2.2.2.2.2.1; omega) (by have h1 := H7.out.2.2.2.2.2.2.2.2.2.1.size; simp; omega) _ rfl ?_
              intro gg cg w9 hown9 hgr9 hat9 hlt9
              have hgr9' : (W7.alloc (.cells #[I f.params, I f.vars, I f.vals, .slice s5 M k5] 36)).grownBy w9 fv.ownBlock := by rw [H7.out.2.2.2.2.2.2.2.2.1]; exact hgr9
              have hbase : ∀ k, fv.ownBlock = some k → W4.heap.size ≤ k := fun k e => (H7.out.2.2.2.2.1.lt k e).1
              have hne : some bo ≠ fv.ownBlock := fun e => by have := hbase bo e.symm; have := H7.out.2.2.2.2.2.2.2.2.2.2; omega
              have ko9 := (H7.out.2.1.alloc (.cells #[I f.params, I f.vars, I f.vals, .slice s5 M k5] 36)).other hgr9' hne
              have hown9' : OwnS W4.heap.size 36 4 FunV w9 (.slice (some ⟨gg, 0, none⟩) (li + 1) cg) (c.funs.take (i + 1)) := by
                rw [H5.out.2.2.2.2.2.2.1]
                refine OwnS.app funV_stays H7.out.2.2.1 H7.out.2.2.2.1 HQ7.out H7.out.2.2.2.2.2.1 rfl hgr9' (by rw [← H7.out.2.2.2.2.2.2.1]; exact hown9) ?_
                rw [H7.out.2.2.2.2.2.2.2.2.1]
                rcases hat9 with e | e
                · exact Or.inl (by rw [e]; rfl)
                · exact Or.inr (by rw [e]; rfl)
              obtain ⟨W10, hW10⟩ : ∃ W, W = w9.setCell ⟨bo, 0, none⟩ (.slice (some ⟨gg, 0, none⟩) (li + 1) cg) := ⟨_, rfl⟩
              have HN := Lib.hid (show TF2 W4 bo sv c (I ((i : Int) + 1)) W10 from ⟨i + 1, _, by have := H5.out.2.2.2.2.2.2.2.1; have := HA.out.2.2.1; omega, rfl, by rw [hW10]; exact ko9.set 0 (.slice (some ⟨gg, 0, none⟩) (li + 1) cg), by rw [hW10]; exact hown9'.set funV_stays H7.out.2.2.2.2.2.2.2.2.2.2 _ _, by rw [hW10]; exact grown_cell (grown_app H7.out.2.2.2.2.2.2.2.2.2.1 hgr9' hbase) _ _⟩)
              have z0' := ko9.get 0 (.slice s4 m4 k4) (by rw [H7.out.2.2.2.2.2.2.2.2.1]; rfl)
              have f0' := ko9.free 0
              have HW10 := Lib.hid hW10
              clear hown9 hgr9 hat9 hlt9 hgr9' hbase hne ko9 hown9' hW10 y0 y1 y2 y3 z0
              go_upto_region 19 with (fail)
              change Code.wp _ _ _ _ (w9.setCell ⟨bo, 0, none⟩ (.slice (some ⟨gg, 0, none⟩) (li + 1) cg))
              rw [← HW10.out]
              clear z0' f0'
              go_wp2_with fail
              exact ⟨HN.out, by have := H5.out.2.2.2.2.2.2.2.1; simp [intOf]; omega⟩
        · have d0 : decide (i < nf) = false := by simpa using hin
          have hie : c.funs.take i = c.funs := List.take_of_length_le (by have := HA.out.2.2.1; omega)
          rw [hie] at hown
          obtain ⟨s4, k4, hu4⟩ : ∃ a k, fv = .slice a c.funs.length k := by
            obtain ⟨a, k, e⟩ := hown.row
            exact ⟨_, _, e⟩
          obtain ⟨s6, k6, hu6⟩ : ∃ a k, sv = .slice a c.stops.length k := by
            obtain ⟨a, k, e⟩ := H4.out.1.row
            exact ⟨_, _, e⟩
          obtain ⟨M4, hM4⟩ : ∃ n, n = c.funs.length := ⟨_, rfl⟩
          obtain ⟨M6, hM6⟩ : ∃ n, n = c.stops.length := ⟨_, rfl⟩
          rw [← hM4] at hu4
          rw [← hM6] at hu6
          subst hu4 hu6
          have hbr := H3.out.2.2.2.2.2.2.1
          have hbo := H3.out.2.2.2.2.2.2.2
          have hz3 := H3.out.2.2.2.2.1
          have hs4 := H4.out.2.1.size
          have kr := H4.out.2.2.2.other hgr (by simp; omega)
          obtain ⟨W7, hW7⟩ : ∃ W, W = ((wr.setCell ⟨br, 0, none⟩ (.slice s4 M4 k4)).setCell ⟨br, 1, none⟩ (.slice s6 M6 k6)).setCell ⟨br, 2, none⟩ (I c.main) := ⟨_, rfl⟩
          have kr7 : Blk br #[.slice s4 M4 k4, .slice s6 M6 k6, I c.main] 25 W7 := by rw [hW7]; exact ((kr.set 0 (.slice s4 M4 k4)).set 1 (.slice s6 M6 k6)).set 2 (I c.main)
          have he7 : ∀ n, n ≠ br → W7.heap[n]? = wr.heap[n]? := fun n hn => by rw [hW7]; exact (Below.heap_setCell _ _ _ _ hn).trans ((Below.heap_setCell _ _ _ _ hn).trans (Below.heap_setCell _ _ _ _ hn))
          have hz7 : W7.heap.size = wr.heap.size := by rw [hW7]; simp [World.setCell]
          have hgz := hgr.size
          have hw3 := H3.out.1.size
          have hF7 : SlS (GeW w.heap.size W7) 4 FunV W7 (.slice s4 M4 k4) c.funs := (hown.sl funV_stays).keepF funV_stays (fun n hn => he7 n (by have := hn.1; omega)) (fun n hn => ⟨by have := hn.1; omega, by rw [hz7]; exact hn.2⟩)
          have hS7 : SlS (GeW w.heap.size W7) 1 StopV W7 (.slice s6 M6 k6) c.stops := (H4.out.1.sl stopV_stays).keepF stopV_stays (fun n hn => (he7 n (by have := hn.1; omega)).trans (hgr.block n hn.2 (by have := hn.1; simp; omega))) (fun n hn => ⟨by have := hn.1; omega, by have := hn.2; omega⟩)
          have hB7 : Below w.heap.size w wr := (H3.out.1.grown H4.out.2.1 hw3 (fun k hk => by cases hk; omega)).grown hgr (by omega) (fun k hk => by cases hk; omega)
          have hB7' : Below w.heap.size w W7 := by rw [hW7]; exact ((hB7.setCell (p := ⟨br, 0, none⟩) (by show w.heap.size ≤ br; omega) _).setCell (p := ⟨br, 1, none⟩) (by show w.heap.size ≤ br; omega) _).setCell (p := ⟨br, 2, none⟩) (by show w.heap.size ≤ br; omega) _
          have FIN := Lib.hid (show TwT w c W7 (.returned (.agg #[.slice s4 M4 k4, .slice s6 M6 k6, I c.main])) from ⟨_, rfl, ⟨_, _, rfl, hF7, hS7⟩, hB7'⟩)
          have z0 := hko.get 0 (.slice s4 M4 k4) rfl
          have z1 := hko.get 1 (.slice s6 M6 k6) rfl
          have z2 := hko.get 2 (I c.main) rfl
          have w0 := kr.get 0 (.slice none 0 0) rfl
          have w1 := kr.get 1 (.slice none 0 0) rfl
          have w2 := kr.get 2 (I 0) rfl
          have g0 := kr.free 0
          have g1 := kr.free 1
          have g2 := kr.free 2
          have HW7 := Lib.hid hW7
          have HK7 := Lib.hid kr7
          clear hM4 hM6 hbr hbo hz3 hs4 kr hW7 kr7 he7 hz7 hgz hw3 hF7 hS7 hB7 hB7' hko hown hgr hin hi hie HST2 H4
          go_upto_region 20 with (fail)
          go_wp2_with fail
          change bodyPost _ _ _ _ _ (((wr.setCell ⟨br, 0, none⟩ (.slice s4 M4 k4)).setCell ⟨br, 1, none⟩ (.slice s6 M6 k6)).setCell ⟨br, 2, none⟩ (I c.main))
          rw [← HW7.out]
          have g0 := HK7.out.get 0 (.slice s4 M4 k4) rfl
          have g1 := HK7.out.get 1 (.slice s6 M6 k6) rfl
          have g2 := HK7.out.get 2 (I c.main) rfl
          exact bodyPost_ret (v := .agg #[.slice s4 M4 k4, .slice s6 M6 k6, I c.main]) (by simp [results, Try.results7, go_sem, g0, g1, g2]) rfl FIN.out
end Go.Proofs.Ytjlmkcamefaodaa
