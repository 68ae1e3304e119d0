/-
  Joined: KH.
-/
import Derived.Test.YtjlmkcamefaodaaJ16
import Derived.Deep.RegionHeld3
/-! KH: Is each phi and each instruction of the form of its Op: the walk, which notes where values are made. -/

namespace Go.Proofs.Ytjlmkcamefaodaa
open Go Go.RowKit Go.Maps Go.Sort Cd

namespace Cd
/-- How many phis and instructions stand ahead of a block. -/
def cB (f : FunP) : Nat → Nat
  | 0 => 0
  | k + 1 => cB f k + (match f.blocks[k]? with | some b => b.phis.length + b.insts.length | none => 0)
theorem cB_succ (f : FunP) {k : Nat} (h : k < f.blocks.length) : cB f (k + 1) = cB f k + (f.blocks[k].phis.length + f.blocks[k].insts.length) := by
  show cB f k + _ = _
  rw [List.getElem?_eq_getElem h]
theorem cB_mono (f : FunP) {k m : Nat} (h : k ≤ m) : cB f k ≤ cB f m := by
  induction m with
  | zero => obtain rfl : k = 0 := by omega
            exact Nat.le_refl _
  | succ m ih =>
    by_cases e : k = m + 1
    · rw [e]; exact Nat.le_refl _
    · exact Nat.le_trans (ih (by omega)) (Nat.le_add_right _ _)
def BlkSh (c : CodeP) (f : FunP) (i : Nat) (b : BlockP) : Prop := (∀ x ∈ b.phis, PhiOk f i x) ∧ ∀ x ∈ b.insts, InstOk c f i x
end Cd
/-- Who goes on to whom, as a checker keeps it. -/
structure IntoK (bm bl : Nat) (f : FunP) (w : World) : Prop where
  ne : bl ≠ bm
  lt : bl < w.heap.size
  row : ∀ i, i < f.blocks.length → ∃ a c, w.cell? ⟨bl, i, none⟩ = some (.slice a (intoN f i).length c) ∧ ∀ j (h : j < (intoN f i).length), ∃ g, a = some ⟨g, 0, none⟩ ∧ g ≠ bm ∧ g < w.heap.size ∧ w.cell? ⟨g, j, none⟩ = some (I (((intoN f i)[j] : Nat) : Int))
theorem cell_grown {w w' : World} {bm : Nat} (hg : w.grownBy w' (some bm)) {g i : Nat} (hne : g ≠ bm) (hl : g < w.heap.size) {v : Value} (h : w.cell? ⟨g, i, none⟩ = some v) : w'.cell? ⟨g, i, none⟩ = some v := by
  unfold World.cell? at h ⊢
  rw [hg.block g hl (by simpa using hne)]
  exact h
theorem IntoK.grown {bm bl : Nat} {f : FunP} {w w' : World} (h : IntoK bm bl f w) (hg : w.grownBy w' (some bm)) : IntoK bm bl f w' :=
  ⟨h.ne, Nat.lt_of_lt_of_le h.lt hg.size, fun i hi => by
    obtain ⟨a, c, h1, h2⟩ := h.row i hi
    refine ⟨a, c, cell_grown hg h.ne h.lt h1, fun j hj => ?_⟩
    obtain ⟨g, e, g1, g2, g3⟩ := h2 j hj
    exact ⟨g, e, g1, Nat.lt_of_lt_of_le g2 hg.size, cell_grown hg g1 g2 g3⟩⟩
/-- What is small of a function. -/
structure SmF (f : FunP) : Prop where
  bl : f.blocks.length ≤ 1000000
  cb : cB f f.blocks.length ≤ 900000
  ins : ∀ i (h : i < f.blocks.length), (∀ x ∈ f.blocks[i].phis, SmI x) ∧ (∀ x ∈ f.blocks[i].insts, SmI x) ∧ WfB f.blocks[i]
def S1 (bm : Nat) (c : CodeP) (f : FunP) (w : World) (iv : Value) (W : World) : Prop :=
  ∃ i : Nat, i ≤ f.blocks.length ∧ iv = I (i : Int) ∧ MadeW bm (mapOf (mkBl f i)) (cB f i) W ∧ w.grownBy W (some bm) ∧ (∀ j (h : j < f.blocks.length), j < i → BlkSh c f j f.blocks[j]) ∧ DOk f.vals (mkBl f i)
def S2 (bm : Nat) (f : FunP) (i : Nat) (b : BlockP) (w : World) (kv : Value) (W : World) : Prop :=
  ∃ k : Nat, k ≤ b.phis.length ∧ kv = I (k : Int) ∧ MadeW bm (mapOf (preP f i b k)) (cB f i + k) W ∧ w.grownBy W (some bm) ∧ (∀ j (h : j < b.phis.length), j < k → PhiOk f i b.phis[j]) ∧ DOk f.vals (preP f i b k)
def S3 (bm : Nat) (c : CodeP) (f : FunP) (i : Nat) (b : BlockP) (w : World) (kv : Value) (W : World) : Prop :=
  ∃ k : Nat, k ≤ b.insts.length ∧ kv = I (k : Int) ∧ MadeW bm (mapOf (preI f i b k)) (cB f i + b.phis.length + k) W ∧ w.grownBy W (some bm) ∧ (∀ j (h : j < b.insts.length), j < k → InstOk c f i b.insts[j]) ∧ DOk f.vals (preI f i b k)
def ShT (bm : Nat) (c : CodeP) (f : FunP) (w : World) (e : Ending) (w' : World) : Prop :=
  ∃ v, e = .returned (.bool v) ∧ (v = true ↔ ShapesOk c f) ∧ (v = true → MadeW bm (mapOf (mks f)) (cB f f.blocks.length) w') ∧ w.grownBy w' (some bm)
theorem sh_no {bm : Nat} {c : CodeP} {f : FunP} {w w' : World} (h : ¬ ShapesOk c f) (hg : w.grownBy w' (some bm)) : ShT bm c f w (.returned (.bool false)) w' :=
  ⟨false, rfl, by simp only [Bool.false_eq_true, false_iff]; exact h, fun h => absurd h (by decide), hg⟩
theorem no_phi {c : CodeP} {f : FunP} {i : Nat} (hi : i < f.blocks.length) {k : Nat} (hk : k < f.blocks[i].phis.length) (h : ¬ (PhiOk f i f.blocks[i].phis[k] ∧ f.blocks[i].phis[k].dst ∉ (preP f i f.blocks[i] k).map (·.1) ∧ 0 ≤ f.blocks[i].phis[k].dst ∧ f.blocks[i].phis[k].dst ≤ f.vals - 1)) : ¬ ShapesOk c f := fun hs => by
  apply h
  refine ⟨(hs.1 i hi).1 _ (List.getElem_mem hk), ?_⟩
  obtain ⟨R, hR⟩ := preP_mks f hi (k := k + 1)
  have h2 := hs.2
  rw [hR] at h2
  have h3 := h2.left
  rw [preP_succ f i _ hk, DOk.snoc] at h3
  exact h3.2
theorem no_inst {c : CodeP} {f : FunP} {i : Nat} (hi : i < f.blocks.length) {k : Nat} (hk : k < f.blocks[i].insts.length) (h : ¬ InsP c f (preI f i f.blocks[i] k) i f.blocks[i].insts[k]) : ¬ ShapesOk c f := fun hs => by
  apply h
  refine ⟨(hs.1 i hi).2 _ (List.getElem_mem hk), ?_⟩
  obtain ⟨R, hR⟩ := preI_mks f hi (k := k + 1) hk
  have h2 := hs.2
  rw [hR] at h2
  have h3 := h2.left
  rw [preI_succ f i _ hk] at h3
  by_cases e : f.blocks[i].insts[k].dst = -1
  · exact Or.inl e
  · right
    unfold mk1 at h3
    rw [if_neg e, DOk.snoc] at h3
    exact h3.2
theorem dok_inst {f : FunP} {i k : Nat} {c : CodeP} {b : BlockP} (hk : k < b.insts.length) (hd : DOk f.vals (preI f i b k)) (h : InsP c f (preI f i b k) i b.insts[k]) : DOk f.vals (preI f i b (k + 1)) := by
  rw [preI_succ f i b hk]
  unfold mk1
  split
  · rw [List.append_nil]; exact hd
  · rename_i e
    rw [DOk.snoc]
    rcases h.2 with h2 | h2
    · exact absurd h2 e
    · exact ⟨hd, h2⟩

set_option maxRecDepth 100000 in
set_option maxHeartbeats 3200000 in
theorem hasShapes_any (B bk bm bl cc : Nat) (bv fv sv c8 c9 : Value) (c : CodeP) (f : FunP) (hc : SmC c) (hf : SmF f) (hsz : SizesOk f) (w : World)
    (h : CkZ B bk bm bv fv sv (.slice (some ⟨bl, 0, none⟩) f.blocks.length cc) c8 c9 c f w) (hm : MadeW bm (mapOf []) 0 w) (hin : IntoK bm bl f w) :
    Calls Try.prog 27 #[.pointer (some ⟨bk, 0, none⟩)] w fun e w' => ShT bm c f w e w' := by
  obtain ⟨ba, bc, rfl⟩ := h.fb.size
  obtain ⟨n, hn⟩ : ∃ n, n = f.blocks.length := ⟨_, rfl⟩
  have c3 := h.ck.get 3 (.slice ba f.blocks.length bc) rfl
  rw [← hn] at c3
  have hnb : (n : Int) ≤ 1000000 := by have := hf.bl; omega
  have HST := Lib.hid (show S1 bm c f w (I 0) w from ⟨0, Nat.zero_le _, rfl, hm, ⟨rfl, rfl, rfl, Nat.le_refl _, fun _ _ _ => rfl⟩, fun j _ h => absurd h (by omega), DOk.nil _⟩)
  have HH := Lib.hid (And.intro h (And.intro hin (And.intro hc (And.intro hf (And.intro hsz hn)))))
  clear h hm hin hc hf hsz hn
  go_enter Try.func27, Try.ntmps27
  go_wp2_with fail
  clear c3
  go_loopw [15] (fun iv W => S1 bm c f w iv W) (fun iv _ => n - (intOf iv).toNat)
  case atStart => exact HST.out
  case round =>
    obtain ⟨i, hi, rfl, hm, hg, hbs, hdk⟩ := hrel
    clear HST
    by_cases hin : i < n
    · have il : i < f.blocks.length := by have := HH.out.2.2.2.2.2; omega
      have hck := HH.out.1.grown hg
      obtain ⟨g1, _, e1, gl, cw, pv, iv, rfl, hpz, hiz⟩ := hck.fb.at i il
      subst e1
      obtain ⟨pa, pc, rfl⟩ := hpz.size
      obtain ⟨ia, ic, rfl⟩ := hiz.size
      obtain ⟨x, hx⟩ : ∃ x, x = f.blocks[i] := ⟨_, rfl⟩
      rw [← hx] at cw hpz hiz
      obtain ⟨P, hP⟩ : ∃ P, P = x.phis.length := ⟨_, rfl⟩
      obtain ⟨J, hJ⟩ : ∃ J, J = x.insts.length := ⟨_, rfl⟩
      have hcnt : cB f i + (P + J) ≤ 900000 := by
        have h1 := cB_succ f il
        have h2 := cB_mono f (show i + 1 ≤ f.blocks.length from il)
        have h3 := HH.out.2.2.2.1.cb
        rw [← hx, ← hP, ← hJ] at h1
        omega
      have hPb : (P : Int) ≤ 1000000 := by omega
      have hJb : (J : Int) ≤ 1000000 := by omega
      rw [← hP, ← hJ] at cw
      have x0 := cw.f0
      have x1 := cw.f1
      have x2 := cw.f2
      have x3 := cw.f3
      have x4 := cw.f4
      have x5 := cw.f5
      obtain ⟨W4, hW4⟩ : ∃ W, W = wr.alloc (.cells #[.slice pa P pc, .slice ia J ic, U8 x.fin, I x.arg, I x.to, I x.els] 40) := ⟨_, rfl⟩
      obtain ⟨b4, hb4⟩ : ∃ b, b = wr.heap.size := ⟨_, rfl⟩
      have hB4 : Below wr.heap.size wr W4 := by rw [hW4]; exact (Below.refl _ _).alloc (Nat.le_refl _) _
      have k4 : Blk b4 #[.slice pa P pc, .slice ia J ic, U8 x.fin, I x.arg, I x.to, I x.els] 40 W4 := by rw [hW4, hb4]; exact Blk.new _ _ _
      have hbmw : bm < wr.heap.size := by obtain ⟨D, h1, _⟩ := hm; exact h1.lt
      have hb4m : b4 ≠ bm := by omega
      have y0 := k4.get 0 (.slice pa P pc) rfl
      have hck4 := hck.below hB4
      have hg4 : w.grownBy W4 (some bm) := grownTr hg (grownOf hB4 bm)
      have hpz4 : SlS (fun k => k < B) 6 InstV W4 (.slice pa x.phis.length pc) x.phis := hpz.keep instV_stays (fun k hk => hB4.block k (Nat.lt_of_lt_of_le hk hck.hB)) (fun _ h => h)
      have hiz4 : SlS (fun k => k < B) 6 InstV W4 (.slice ia x.insts.length ic) x.insts := hiz.keep instV_stays (fun k hk => hB4.block k (Nat.lt_of_lt_of_le hk hck.hB)) (fun _ h => h)
      rw [← hP] at hpz4
      rw [← hJ] at hiz4
      have HS2 := Lib.hid (show S2 bm f i x W4 (I 0) W4 from ⟨0, Nat.zero_le _, rfl, by rw [preP_zero]; exact hm.kept' hB4, ⟨rfl, rfl, rfl, Nat.le_refl _, fun _ _ _ => rfl⟩, fun j _ h => absurd h (by omega), by rw [preP_zero]; exact hdk⟩)
      have H4 := Lib.hid (And.intro hck4 (And.intro (HH.out.2.1.grown hg4) (And.intro hg4 (And.intro k4 (And.intro hpz4 (And.intro hiz4 hb4m))))))
      have HX := Lib.hid (And.intro hx (And.intro hP (And.intro hJ (And.intro hcnt (And.intro hbs hin)))))
      have HW4 := Lib.hid (And.intro hW4 hb4)
      have d0 : decide (i < n) = true := by simpa using hin
      have d1 : (0 : Int) ≤ (i : Int) := by omega
      have d2 : (i : Int) < (n : Int) := by omega
      have d3 : (i : Int) ≤ 1000000 := by omega
      clear hm hg hbs hdk hck gl cw hpz hiz hx hP hJ hcnt hW4 hb4 hB4 k4 hbmw hb4m hck4 hg4 hpz4 hiz4 hin hi
      go_upto_region 4 with (fail)
      rw [← HW4.out.2]
      change Code.wp _ _ _ _ (wr.alloc (.cells #[.slice pa P pc, .slice ia J ic, U8 x.fin, I x.arg, I x.to, I x.els] 40))
      rw [← HW4.out.1]
      clear x0 x1 x2 x3 x4 x5
      go_wp2_with fail
      clear y0
      go_loopw [23] (fun kv W => S2 bm f i x W4 kv W) (fun kv _ => P - (intOf kv).toNat)
      case atStart => exact HS2.out
      case round =>
        obtain ⟨k, hk, rfl, hm, hg, hps, hdk⟩ := hrel
        clear HS2
        by_cases hkP : k < P
        · have kx : k < x.phis.length := by have := HX.out.2.1; omega
          have hBW : B ≤ W4.heap.size := H4.out.1.hB
          have hlo := H4.out.1.lo
          obtain ⟨pb, _, e1, pl, cw, av, dv, rfl, haz, hdz⟩ := (slB_grown instV_stays H4.out.2.2.2.2.1 hg hBW hlo.2.1).at k kx
          subst e1
          obtain ⟨aa, ac, rfl⟩ := haz.size
          obtain ⟨da, dc, rfl⟩ := hdz.size
          obtain ⟨A, hA⟩ : ∃ A, A = x.phis[k].args.length := ⟨_, rfl⟩
          obtain ⟨D, hD⟩ : ∃ A, A = x.phis[k].dbg.length := ⟨_, rfl⟩
          obtain ⟨op, hop⟩ : ∃ A, A = x.phis[k].op := ⟨_, rfl⟩
          obtain ⟨dst, hdst⟩ : ∃ A, A = x.phis[k].dst := ⟨_, rfl⟩
          obtain ⟨imm, himm⟩ : ∃ A, A = x.phis[k].imm := ⟨_, rfl⟩
          obtain ⟨site, hsite⟩ : ∃ A, A = x.phis[k].site := ⟨_, rfl⟩
          rw [← hA, ← hD, ← hop, ← hdst, ← himm, ← hsite] at cw
          have hsi : SmI x.phis[k] := by
            have h1 := HX.out.1
            subst h1
            exact (HH.out.2.2.2.1.ins i (by have := HX.out.2.2.2.2.2; have := HH.out.2.2.2.2.2; omega)).1 _ (List.getElem_mem kx)
          have hAb : (A : Int) ≤ 1000000 := by have := hsi.al; omega
          have hwd : (Lit.int .i64 dst).wf = true := by rw [hdst]; exact hsi.wf.2.1
          have x0 := cw.f0
          have x1 := cw.f1
          have x2 := cw.f2
          have x3 := cw.f3
          have x4 := cw.f4
          have x5 := cw.f5
          have hck := H4.out.1.grown hg
          obtain ⟨ra, rc, zr0, _⟩ := (H4.out.2.1.grown hg).row i (by have := HX.out.2.2.2.2.2; have := HH.out.2.2.2.2.2; omega)
          obtain ⟨m, hmm⟩ : ∃ m, m = (intoN f i).length := ⟨_, rfl⟩
          rw [← hmm] at zr0
          obtain ⟨W6, hW6⟩ : ∃ W, W = wr.alloc (.cells #[U8 op, I dst, .slice aa A ac, I imm, I site, .slice da D dc] 44) := ⟨_, rfl⟩
          obtain ⟨b6, hb6⟩ : ∃ b, b = wr.heap.size := ⟨_, rfl⟩
          have hB6 : Below wr.heap.size wr W6 := by rw [hW6]; exact (Below.refl _ _).alloc (Nat.le_refl _) _
          have k6 : Blk b6 #[U8 op, I dst, .slice aa A ac, I imm, I site, .slice da D dc] 44 W6 := by rw [hW6, hb6]; exact Blk.new _ _ _
          have hbmw : bm < wr.heap.size := by obtain ⟨D', h1, _⟩ := hm; exact h1.lt
          have hb6m : b6 ≠ bm := by omega
          have z0 := k6.get 0 (U8 op) rfl
          have z1 := k6.get 1 (I dst) rfl
          have z2 := k6.get 2 (.slice aa A ac) rfl
          have z7 : W6.cell? ⟨bk, 7, none⟩ = some (.slice (some ⟨bl, 0, none⟩) n cc) := by
            have h1 := (hck.below hB6).ck.get 7 (.slice (some ⟨bl, 0, none⟩) f.blocks.length cc) rfl
            rw [HH.out.2.2.2.2.2]; exact h1
          have zr : W6.cell? ⟨bl, i, none⟩ = some (.slice ra m rc) := cellA_below hB6 (a := ⟨bl, i, none⟩) (H4.out.2.1.grown hg).lt zr0
          have hg6 : W4.grownBy W6 (some bm) := grownTr hg (grownOf hB6 bm)
          have HK := Lib.hid (And.intro kx (And.intro hkP (And.intro hwd (And.intro hsi hmm))))
          have HD := Lib.hid (And.intro hA (And.intro hop (And.intro hdst (And.intro hps hdk))))
          have HNO := Lib.hid (show ∀ W', W6.grownBy W' (some bm) → ¬ (PhiOk f i x.phis[k] ∧ x.phis[k].dst ∉ (preP f i x k).map (·.1) ∧ 0 ≤ x.phis[k].dst ∧ x.phis[k].dst ≤ f.vals - 1) → ShT bm c f w (.returned (.bool false)) W' from fun W' hW' hno => sh_no (by
            have h1 := HX.out.1
            subst h1
            exact no_phi (by have := HX.out.2.2.2.2.2; have := HH.out.2.2.2.2.2; omega) kx hno) (grownTr H4.out.2.2.1 (grownTr hg6 hW')))
          have HKP := Lib.hid (show ∀ W', W6.grownBy W' (some bm) → W'.cell? ⟨b6, 0, none⟩ = some (U8 op) ∧ W'.cell? ⟨b6, 1, none⟩ = some (I dst) ∧ W'.cell? ⟨b6, 2, none⟩ = some (.slice aa A ac) ∧ W'.cell? ⟨bk, 7, none⟩ = some (.slice (some ⟨bl, 0, none⟩) n cc) ∧ W'.cell? ⟨bl, i, none⟩ = some (.slice ra m rc) from fun W' hW' =>
            have hb6l := k6.lt
            have hbkl := (hck.below hB6).ck.lt
            ⟨cell_grown hW' hb6m hb6l z0, cell_grown hW' hb6m hb6l z1, cell_grown hW' hb6m hb6l z2, cell_grown hW' hlo.2.2 hbkl z7, cell_grown hW' H4.out.2.1.ne (Nat.lt_of_lt_of_le (H4.out.2.1.grown hg).lt hB6.size) zr⟩)
          have HMK := Lib.hid (fun q => makes_any bk bm (I f.params) (I f.vars) _ fv sv (I c.main) (.slice (some ⟨bl, 0, none⟩) f.blocks.length cc) c8 c9 f.vals (mapOf (preP f i x k)) (cB f i + k) (by have := HX.out.2.2.2.1; omega) dst (i : Int) (-1) HH.out.2.2.2.2.1.2.2.1 hwd (W6.drewN q) ((hck.below hB6).below (below_drewN (Below.refl _ _) q)).ck ((hm.kept' hB6).kept' (below_drewN (Below.refl _ _) q)) hlo.2.2)
          have HNEXT := Lib.hid (show PhiOk f i x.phis[k] → ∀ W', MadeW bm (mapOf (preP f i x k ++ [(dst, (i : Int), -1)])) (cB f i + k + 1) W' → W6.grownBy W' (some bm) → true = (!(mapOf (preP f i x k) dst).isSome && decide (0 ≤ dst ∧ dst ≤ f.vals - 1)) → S2 bm f i x W4 (I ((k : Int) + 1)) W' from fun hph W' h1 h2 h3 => by
            have h4 := h3.symm
            rw [Bool.and_eq_true, decide_eq_true_eq, Bool.not_eq_true', Option.isSome_eq_false_iff, Option.isNone_iff_eq_none, mapOf_none] at h4
            refine ⟨k + 1, kx, rfl, by rw [preP_succ f i x kx, ← hdst]; exact h1, grownTr hg6 h2, fun j hj hjk => ?_, ?_⟩
            · rcases Nat.lt_or_ge j k with h | h
              · exact hps j hj h
              · obtain rfl : j = k := by omega
                exact hph
            · rw [preP_succ f i x kx, ← hdst, DOk.snoc]
              exact ⟨hdk, h4.1, h4.2⟩)
          have HW6 := Lib.hid (And.intro hW6 hb6)
          have hPI : Hid (PhiOk f i x.phis[k] ↔ i ≠ 0 ∧ op = 45 ∧ A = m) := by
            unfold Hid PhiOk
            rw [hop, hA, hmm]
          have e0 : decide (k < P) = true := by simpa using hkP
          have e1 : (0 : Int) ≤ (k : Int) := by omega
          have e2 : (k : Int) < (P : Int) := by omega
          clear hm hg hps hdk hBW hlo pl cw haz hdz hA hD hop hdst himm hsite hsi hwd hck zr0 hmm hW6 hb6 hB6 k6 hbmw hb6m hg6 hkP hk
          go_upto_region 7 with (fail)
          rw [← HW6.out.2]
          change Code.wp _ _ _ _ (wr.alloc (.cells #[U8 op, I dst, .slice aa A ac, I imm, I site, .slice da D dc] 44))
          rw [← HW6.out.1]
          clear x0 x1 x2 x3 x4 x5
          by_cases q1 : i = 0
          · have g1 : ((i : Int) == 0) = true := by simp; omega
            have HF := Lib.hid (fun q => HNO.out (W6.drewN q) (grownOf (below_drewN (Below.refl _ _) q) bm) (fun h => (hPI.out.1 h.1).1 q1))
            go_upto_region 7 with (fail)
            go_quiet (fail)
            go_wp2_with fail
            go_ret
            exact HF.out _
          · have g1 : ((i : Int) == 0) = false := by simp; omega
            by_cases q2 : op = 45
            · have g2 : (op != 45) = false := by simpa using q2
              by_cases q3 : A = m
              · have g3 : ((A : Int) != (m : Int)) = false := by simp; omega
                replace HNEXT := Lib.hid (HNEXT.out (hPI.out.2 ⟨q1, q2, q3⟩))
                clear q1 q2 q3
                obtain ⟨r, hr⟩ : ∃ r, r = (!(mapOf (preP f i x k) dst).isSome && decide (0 ≤ dst ∧ dst ≤ f.vals - 1)) := ⟨_, rfl⟩
                cases r
                · have HCM := Lib.hid (show ∀ q, Calls Try.prog 47 #[.pointer (some ⟨bk, 0, none⟩), I dst, placeV (i : Int) (-1)] (W6.drewN q) fun e w' => e = .returned (.bool false) ∧ MadeW bm (mapOf (preP f i x k ++ [(dst, (i : Int), -1)])) (cB f i + k + 1) w' ∧ W6.grownBy w' (some bm) from fun q => (HMK.out q).mono (by
                      rintro e w' ⟨rfl, h1, h2⟩
                      exact ⟨ret_bool hr.symm, by rw [mapOf_app]; exact h1, h2.os, h2.tape, h2.output, h2.size, h2.block⟩))
                  have HR := Lib.hid hr
                  clear hr
                  go_upto_region 7 with (fail)
                  go_region_held3 (fun w' => w'.cell? ⟨b6, 0, none⟩ = some (U8 op) ∧ w'.cell? ⟨b6, 1, none⟩ = some (I dst) ∧ w'.cell? ⟨b6, 2, none⟩ = some (.slice aa A ac) ∧ w'.cell? ⟨bk, 7, none⟩ = some (.slice (some ⟨bl, 0, none⟩) n cc) ∧ w'.cell? ⟨bl, i, none⟩ = some (.slice ra m rc)) (first | exact hS9 | exact ⟨z0, z1, z2, z7, zr⟩ | go_keep) (first | (go_at_call 47; refine (HCM.out _).mono ?_; rintro e w9 ⟨rfl, hN, hgN⟩; have hS9 := HKP.out w9 hgN))
                  have HF := Lib.hid (HNO.out w9 hgN (fun h => by
                    have h1 := HR.out
                    have h2 := h.2
                    rw [← HD.out.2.2.1, ← mapOf_none] at h2
                    rw [h2.1] at h1
                    simp at h1
                    omega))
                  clear hN hgN hS9
                  go_wp2_with fail
                  go_ret
                  exact HF.out
                · have HCM := Lib.hid (show ∀ q, Calls Try.prog 47 #[.pointer (some ⟨bk, 0, none⟩), I dst, placeV (i : Int) (-1)] (W6.drewN q) fun e w' => e = .returned (.bool true) ∧ MadeW bm (mapOf (preP f i x k ++ [(dst, (i : Int), -1)])) (cB f i + k + 1) w' ∧ W6.grownBy w' (some bm) from fun q => (HMK.out q).mono (by
                      rintro e w' ⟨rfl, h1, h2⟩
                      exact ⟨ret_bool hr.symm, by rw [mapOf_app]; exact h1, h2.os, h2.tape, h2.output, h2.size, h2.block⟩))
                  have HR := Lib.hid hr
                  clear hr
                  go_upto_region 7 with (fail)
                  go_region_held3 (fun w' => w'.cell? ⟨b6, 0, none⟩ = some (U8 op) ∧ w'.cell? ⟨b6, 1, none⟩ = some (I dst) ∧ w'.cell? ⟨b6, 2, none⟩ = some (.slice aa A ac) ∧ w'.cell? ⟨bk, 7, none⟩ = some (.slice (some ⟨bl, 0, none⟩) n cc) ∧ w'.cell? ⟨bl, i, none⟩ = some (.slice ra m rc)) (first | exact hS9 | exact ⟨z0, z1, z2, z7, zr⟩ | go_keep) (first | (go_at_call 47; refine (HCM.out _).mono ?_; rintro e w9 ⟨rfl, hN, hgN⟩; have hS9 := HKP.out w9 hgN))
                  have HNX := Lib.hid (show S2 bm f i x W4 (I ((k : Int) + 1)) w9 from HNEXT.out w9 hN hgN HR.out)
                  clear hN hgN hS9
                  go_wp2_with fail
                  exact ⟨HNX.out, by have := HK.out.2.1; simp [intOf]; omega⟩
              · have g3 : ((A : Int) != (m : Int)) = true := by simp; omega
                have HF := Lib.hid (fun q => HNO.out (W6.drewN q) (grownOf (below_drewN (Below.refl _ _) q) bm) (fun h => q3 (hPI.out.1 h.1).2.2))
                go_upto_region 7 with (fail)
                go_quiet (fail)
                go_wp2_with fail
                go_ret
                exact HF.out _
            · have g2 : (op != 45) = true := by simpa using q2
              have HF := Lib.hid (fun q => HNO.out (W6.drewN q) (grownOf (below_drewN (Below.refl _ _) q) bm) (fun h => q2 (hPI.out.1 h.1).2.1))
              go_upto_region 7 with (fail)
              go_quiet (fail)
              go_wp2_with fail
              go_ret
              exact HF.out _
        · have e0 : decide (k < P) = false := by simpa using hkP
          have hkl : x.phis.length ≤ k := by have := HX.out.2.1; omega
          rw [preP_all f i x hkl] at hm hdk
          have hkP2 : k = x.phis.length := by omega
          have HS3 := Lib.hid (show S3 bm c f i x W4 (I 0) wr from ⟨0, Nat.zero_le _, rfl, by rw [hkP2] at hm; exact hm, hg, fun j _ h => absurd h (by omega), hdk⟩)
          have y1 := (H4.out.2.2.2.1.other hg (by have := H4.out.2.2.2.2.2.2; simp; exact this)).get 1 (.slice ia J ic) rfl
          have HPS := Lib.hid (show ∀ y ∈ x.phis, PhiOk f i y from fun y hy => by
            obtain ⟨j, hj, rfl⟩ := List.getElem_of_mem hy
            exact hps j hj (by omega))
          clear hm hg hps hdk hkl hkP2 hkP hk
          go_wp2_with fail
          clear y1
          go_loopw [61] (fun kv W => S3 bm c f i x W4 kv W) (fun kv _ => J - (intOf kv).toNat)
          case atStart => exact HS3.out
          case round =>
            obtain ⟨k, hk, rfl, hm, hg, hps, hdk⟩ := hrel
            clear HS3
            by_cases hkJ : k < J
            · have kx : k < x.insts.length := by have := HX.out.2.2.1; omega
              have hBW : B ≤ W4.heap.size := H4.out.1.hB
              have hlo := H4.out.1.lo
              obtain ⟨pb, _, e1, pl, cw, av, dv, rfl, haz, hdz⟩ := (slB_grown instV_stays H4.out.2.2.2.2.2.1 hg hBW hlo.2.1).at k kx
              subst e1
              obtain ⟨aa, ac, hav⟩ := haz.size
              obtain ⟨da, dc, hdv⟩ := hdz.size
              have hsi : SmI x.insts[k] := by
                have h1 := HX.out.1
                subst h1
                exact (HH.out.2.2.2.1.ins i (by have := HX.out.2.2.2.2.2; have := HH.out.2.2.2.2.2; omega)).2.1 _ (List.getElem_mem kx)
              obtain ⟨y, hy⟩ : ∃ y, y = x.insts[k] := ⟨_, rfl⟩
              rw [← hy] at cw haz hdz hsi hav hdv
              obtain ⟨A, hA⟩ : ∃ A, A = y.args.length := ⟨_, rfl⟩
              obtain ⟨D, hD⟩ : ∃ A, A = y.dbg.length := ⟨_, rfl⟩
              subst hav hdv
              obtain ⟨op, dst, imm, site, hyy⟩ : ∃ op dst imm site, y.op = op ∧ y.dst = dst ∧ y.imm = imm ∧ y.site = site := ⟨_, _, _, _, rfl, rfl, rfl, rfl⟩
              have hck := H4.out.1.grown hg
              obtain ⟨W6, hW6⟩ : ∃ W, W = wr.alloc (.cells #[U8 op, I dst, .slice aa A ac, I imm, I site, .slice da D dc] 44) := ⟨_, rfl⟩
              obtain ⟨b6, hb6⟩ : ∃ b, b = wr.heap.size := ⟨_, rfl⟩
              have hB6 : Below wr.heap.size wr W6 := by rw [hW6]; exact (Below.refl _ _).alloc (Nat.le_refl _) _
              have k6 : Blk b6 #[U8 op, I dst, .slice aa A ac, I imm, I site, .slice da D dc] 44 W6 := by rw [hW6, hb6]; exact Blk.new _ _ _
              have HC : Hid (Calls Try.prog 48 #[.pointer (some ⟨bk, 0, none⟩), .agg #[U8 y.op, I y.dst, .slice aa y.args.length ac, I y.imm, I y.site, .slice da y.dbg.length dc], placeV (i : Int) (k : Int)] W6 fun e w' => InsT bm (cB f i + x.phis.length + k) c f (preI f i x k) (i : Int) (k : Int) y W6 e w') := Lib.hid (isInst_any B bk bm (cB f i + x.phis.length + k) _ fv sv (.slice (some ⟨bl, 0, none⟩) f.blocks.length cc) c8 c9 c f HH.out.2.2.1 HH.out.2.2.2.2.1 (preI f i x k) (by have := HX.out.2.2.2.1; have := HX.out.2.1; omega) y hsi (.slice aa y.args.length ac) (.slice da y.dbg.length dc) (i : Int) (k : Int) W6 (hck.below hB6) (hm.kept' hB6)
                (haz.keep intV_stays (fun j hj => hB6.block j (Nat.lt_of_lt_of_le hj hck.hB)) (fun _ h => h)) (hdz.keep dbgV_stays (fun j hj => hB6.block j (Nat.lt_of_lt_of_le hj hck.hB)) (fun _ h => h)))
              rw [hyy.1, hyy.2.1, hyy.2.2.1, hyy.2.2.2, ← hA, ← hD] at cw HC
              have x0 := cw.f0
              have x1 := cw.f1
              have x2 := cw.f2
              have x3 := cw.f3
              have x4 := cw.f4
              have x5 := cw.f5
              have z0 := k6.get 0 (U8 op) rfl
              have z1 := k6.get 1 (I dst) rfl
              have z2 := k6.get 2 (.slice aa A ac) rfl
              have z3 := k6.get 3 (I imm) rfl
              have z4 := k6.get 4 (I site) rfl
              have z5 := k6.get 5 (.slice da D dc) rfl
              have hg6 : W4.grownBy W6 (some bm) := grownTr hg (grownOf hB6 bm)
              have HNO := Lib.hid (show ∀ W', W6.grownBy W' (some bm) → ¬ InsP c f (preI f i x k) i y → ShT bm c f w (.returned (.bool false)) W' from fun W' hW' hno => sh_no (by
                have h1 := HX.out.1
                subst h1
                subst hy
                exact no_inst (by have := HX.out.2.2.2.2.2; have := HH.out.2.2.2.2.2; omega) kx hno) (grownTr H4.out.2.2.1 (grownTr hg6 hW')))
              have HNEXT := Lib.hid (show InsP c f (preI f i x k) i y → ∀ W', MadeW bm (mapOf (preI f i x k ++ mk1 i k y)) (cB f i + x.phis.length + k + 1) W' → W6.grownBy W' (some bm) → S3 bm c f i x W4 (I ((k : Int) + 1)) W' from fun hip W' h1 h2 => by
                subst hy
                refine ⟨k + 1, kx, rfl, by rw [preI_succ f i x kx]; exact h1, grownTr hg6 h2, fun j hj hjk => ?_, dok_inst kx hdk hip⟩
                rcases Nat.lt_or_ge j k with h | h
                · exact hps j hj h
                · obtain rfl : j = k := by omega
                  exact hip.1)
              have HK := Lib.hid hkJ
              have HW6 := Lib.hid (And.intro hW6 hb6)
              have e0 : decide (k < J) = true := by simpa using hkJ
              have e1 : (0 : Int) ≤ (k : Int) := by omega
              have e2 : (k : Int) < (J : Int) := by omega
              clear hm hg hps hdk hBW hlo pl cw haz hdz hA hD hyy hsi hck hW6 hb6 hB6 k6 hg6 hkJ hk hy kx
              go_upto_region 13 with (fail)
              rw [← HW6.out.2]
              change Code.wp _ _ _ _ (wr.alloc (.cells #[U8 op, I dst, .slice aa A ac, I imm, I site, .slice da D dc] 44))
              rw [← HW6.out.1]
              clear x0 x1 x2 x3 x4 x5
              go_wp2_with fail
              refine HC.out.mono ?_
              rintro e w9 ⟨v, rfl, hv, hmv, hgv⟩
              cases v
              · have HF := Lib.hid (HNO.out w9 hgv (fun h => absurd (hv.2 h) (by decide)))
                clear hv hmv hgv z0 z1 z2 z3 z4 z5
                go_wp2_with fail
                go_ret
                exact HF.out
              · have HF := Lib.hid (HNEXT.out (hv.1 rfl) w9 (hmv rfl) hgv)
                clear hv hmv hgv z0 z1 z2 z3 z4 z5
                go_wp2_with fail
                exact ⟨HF.out, by have := HK.out; simp [intOf]; omega⟩
            · have e0 : decide (k < J) = false := by simpa using hkJ
              have hkJ2 : k = x.insts.length := by have := HX.out.2.2.1; omega
              have HNX := Lib.hid (show S1 bm c f w (I ((i : Int) + 1)) wr by
                have h1 := HX.out.1
                have il : i < f.blocks.length := by have := HX.out.2.2.2.2.2; have := HH.out.2.2.2.2.2; omega
                subst h1
                subst hkJ2
                rw [preI_all f il] at hm hdk
                refine ⟨i + 1, il, rfl, by rw [cB_succ f il, ← Nat.add_assoc]; exact hm, grownTr H4.out.2.2.1 hg, fun j hj hji => ?_, hdk⟩
                rcases Nat.lt_or_ge j i with h | h
                · exact HX.out.2.2.2.2.1 j hj h
                · obtain rfl : j = i := by omega
                  exact ⟨HPS.out, fun y hy => by
                    obtain ⟨q, hq, rfl⟩ := List.getElem_of_mem hy
                    exact hps q hq hq⟩)
              have HI := Lib.hid HX.out.2.2.2.2.2
              clear hm hg hps hdk hkJ2 hkJ hk
              go_wp2_with fail
              exact ⟨HNX.out, by have := HI.out; simp [intOf]; omega⟩
    · have d0 : decide (i < n) = false := by simpa using hin
      obtain rfl : i = f.blocks.length := by have := HH.out.2.2.2.2.2; omega
      have FIN := Lib.hid (show ShT bm c f w (.returned (.bool true)) wr from ⟨true, rfl, by simp only [true_iff]; exact ⟨fun j hj => hbs j hj hj, hdk⟩, fun _ => hm, hg⟩)
      clear hm hg hbs hdk hin hi
      go_wp2_with fail
      go_ret
      exact FIN.out
end Go.Proofs.Ytjlmkcamefaodaa
