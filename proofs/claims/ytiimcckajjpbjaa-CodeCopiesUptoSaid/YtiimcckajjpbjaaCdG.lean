/-
  The ways of a function of code, walked; and the document's own answer.
-/
import Derived.Test.YtiimcckajjpbjaaCdQ
namespace Go.Proofs.Ytiimcckajjpbjaa
open Go Go.RowKit Cd

namespace Cd
/-- Where a block goes on. -/
def waysB (b : BlockP) : List Int := if b.fin = 1 then [b.to] else if b.fin = 2 then [b.to, b.els] else []
end Cd
def RowV (S : Nat → Prop) (W : World) (vs : List Value) (l : List Int) : Prop := ∃ sv, vs = [sv] ∧ SlS S 1 IntV W sv l
theorem rowV_stays : StaysV RowV := fun _ _ _ _ _ _ ⟨sv, h1, h2⟩ he hS => ⟨sv, h1, h2.keep intV_stays he hS⟩
def GrR (w : World) (g n : Nat) (l : List (List Int)) (iv : Value) (W : World) : Prop := ∃ i : Nat, i ≤ n ∧ iv = I (i : Int) ∧ FillS w.heap.size g 47 1 n RowV W l i ∧ (∀ x, i ≤ x → x < n → W.cell? ⟨g, x, none⟩ = some (.slice none 0 0)) ∧ Below w.heap.size w W
def WaysT (w : World) (f : FunP) (W : World) (e : Ending) : Prop := ∃ u, e = .returned u ∧ SlS (LtW W) 1 RowV W u (f.blocks.map waysB) ∧ Below w.heap.size w W
theorem mkGs (n : Nat) (hn : n ≤ 1000000) (u : World) : (Instr.makeSlice 36 (I (n : Int)) (I (n : Int))).run Try.prog u = .ok (.slice (some ⟨u.heap.size, 0, none⟩) n n) (u.alloc (.cells (Array.replicate n (.slice none 0 0)) 47)) := by
  obtain ⟨i0, hi, hz0, hz1, hz2⟩ := info_parts (show (Try.prog.info? 47).map (fun i => (i.zero, i.size, i.bytes)) = some (some (.slice none 0 0), 1, 24) by kernel_rfl)
  have h := run_makeSlice (P := Try.prog) (w := u) 36 47 i0 _ Try.underlying36 hi hz0 .i64 .i64 (n : Int) (n : Int) (by omega) (Int.le_refl _) (by rw [hz1]; simp; omega) (by rw [hz2]; simp; omega) (by omega)
  rw [hz1, show (Value.slice none 0 0).cells = #[.slice none 0 0] from rfl, madeOne] at h
  simpa using h
/-- A row of a block that is new. -/
theorem row_new {W : World} {g : Nat} (l : List Int) (h : Blk g (l.map I).toArray 3 W) (S : Nat → Prop) (hS : S g) : SlS S 1 IntV W (.slice (some ⟨g, 0, none⟩) l.length l.length) l := by
  refine ⟨_, _, rfl, fun i hi => ⟨⟨g, 0, none⟩, [I l[i]], rfl, hS, fun j v hj => ?_, rfl⟩⟩
  have hj0 : j = 0 := by
    have := (List.getElem?_eq_some_iff.1 hj).1
    simp at this
    exact this
  subst hj0
  obtain rfl : I l[i] = v := by simpa using hj
  rw [add_own, add_own2, Nat.mul_one, Nat.add_zero]
  exact h.get i _ (by simp [hi])
/-- One more row. -/
theorem GrR.put {w W W' : World} {g n i : Nat} {l : List (List Int)} {sv : Value} (hf : FillS w.heap.size g 47 1 n RowV W l i) (hz : ∀ x, i ≤ x → x < n → W.cell? ⟨g, x, none⟩ = some (.slice none 0 0)) (hn : i < n) (hi : i < l.length) (hb : Below w.heap.size w W) (hB : Below W.heap.size W W') (hx : SlS (GeW W.heap.size W') 1 IntV W' sv l[i]) : GrR w g n l (I ((i : Int) + 1)) (W'.setCell ⟨g, i, none⟩ sv) := by
  have hgw : g < W.heap.size := by obtain ⟨_, _, h1, _⟩ := hf; exact h1.lt
  have hgb : w.heap.size ≤ g := by obtain ⟨_, _, _, _, h3, _⟩ := hf; exact h3
  have h2 := hf.sets rowV_stays (vs := [sv]) hn hi hB ⟨sv, rfl, hx.keepF intV_stays (fun _ _ => rfl) (fun m hm => ⟨by have := hm.1; omega, hm.2, by have := hm.1; omega⟩)⟩ rfl
  rw [Nat.mul_one] at h2
  refine ⟨i + 1, hn, rfl, h2, fun x h3 h4 => ?_, (below_tr hb hB).setCell (p := ⟨g, i, none⟩) hgb _⟩
  have h5 := cellA_below hB (a := ⟨g, x, none⟩) hgw (hz x (by omega) h4)
  exact (World.cell?_setCell_other (w := W') (a := ⟨g, i, none⟩) (b := ⟨g, x, none⟩) (v := sv) (by intro e; injection e with _ e2; omega)).trans h5
theorem GrR.skip {w W W' : World} {g n i : Nat} {l : List (List Int)} (hf : FillS w.heap.size g 47 1 n RowV W l i) (hz : ∀ x, i ≤ x → x < n → W.cell? ⟨g, x, none⟩ = some (.slice none 0 0)) (hn : i < n) (hi : i < l.length) (hb : Below w.heap.size w W) (hB : Below W.heap.size W W') (hx : l[i] = []) : GrR w g n l (I ((i : Int) + 1)) W' := by
  obtain ⟨cur, cs, h1, h2, h3, h4, h5, h6, h7⟩ := hf
  have hc : cur[i]? = some (.slice none 0 0) := by
    have := hz i (Nat.le_refl _) hn
    unfold Blk at h1
    simpa [World.cell?, h1] using this
  refine ⟨i + 1, hn, rfl, FillS.put rowV_stays (W := W) (W' := W') (vs := [.slice none 0 0]) hi h2 h3 h4 h5 h6 h7 hB (by rw [hx]; exact ⟨_, rfl, SlS.nil _ _⟩) rfl (h1.below hB h1.lt) rfl (fun _ _ => rfl) (fun j hj => ?_) (fun _ _ => rfl) (Nat.le_refl _), fun x h8 h9 => cellA_below hB (a := ⟨g, x, none⟩) h1.lt (hz x (by omega) h9), below_tr hb hB⟩
  obtain rfl : j = 0 := by omega
  rw [Nat.mul_one, Nat.add_zero]
  exact hc

/-- Blocks, few. -/
def SmallL (f : FunP) : Prop := f.blocks.length ≤ 1000000
set_option maxRecDepth 100000 in
set_option maxHeartbeats 3200000 in
theorem graph_any (f : FunP) (hs : SmallL f) (ba : Option Addr) (L bc : Nat) (w : World) (h : BlocksZ w (.slice ba L bc) f.blocks) :
    Calls Try.prog 17 #[.agg #[I f.params, I f.vars, I f.vals, .slice ba L bc]] w fun e w' => WaysT w f w' e := by
  obtain ⟨n, hn⟩ : ∃ n, n = f.blocks.length := ⟨_, rfl⟩
  have e2 : L = n := by
    obtain ⟨a', c', e, _⟩ := h
    injection e with _ e2 _
    rw [e2, hn]
  subst e2
  have hnb : L ≤ 1000000 := by unfold SmallL at hs; omega
  have hmk := mkGs L hnb
  obtain ⟨bx, hbx⟩ : ∃ g, g = w.heap.size := ⟨_, rfl⟩
  obtain ⟨g, hg⟩ : ∃ g, g = w.heap.size + 1 := ⟨_, rfl⟩
  obtain ⟨W1, hW1⟩ : ∃ W, W = (w.alloc (.cells #[I f.params, I f.vars, I f.vals, .slice ba L bc] 35)).alloc (.cells (Array.replicate L (.slice none 0 0)) 47) := ⟨_, rfl⟩
  have hB1 : Below w.heap.size w W1 := by rw [hW1]; exact ((Below.refl _ _).alloc (Nat.le_refl _) _).alloc (by simp) _
  have kx : Blk bx #[I f.params, I f.vars, I f.vals, .slice ba L bc] 35 W1 := by rw [hW1, hbx]; exact (Blk.new _ _ _).alloc _
  have kg : Blk g (Array.replicate L (.slice none 0 0)) 47 W1 := by rw [hW1, hg]; exact Blk.new' _ _ _ (by simp)
  have HST := Lib.hid (show GrR w g L (f.blocks.map waysB) (I 0) W1 from ⟨0, Nat.zero_le _, rfl, fill_start kg (by simp) (by omega), fun x _ hx => kg.get x _ (by simp [hx]), hB1⟩)
  have HH := Lib.hid (And.intro h (And.intro hn hnb))
  have HW1 := Lib.hid (And.intro hW1 (And.intro hbx hg))
  have x3 := kx.get 3 (.slice ba L bc) rfl
  clear h hn hs hW1 hbx hg hB1 kx kg
  go_enter Try.func17, Try.ntmps17
  go_upto_region 2 with (fail)
  rw [← HW1.out.2.2, ← HW1.out.2.1]
  change Code.wp _ _ _ _ ((w.alloc (.cells #[I f.params, I f.vars, I f.vals, .slice ba L bc] 35)).alloc (.cells (Array.replicate L (.slice none 0 0)) 47))
  rw [← HW1.out.1]
  go_wp2_with fail
  go_loopw [13] (fun iv W => GrR w g L (f.blocks.map waysB) iv W) (fun iv _ => L - (intOf iv).toNat)
  case atStart => exact HST.out
  case round =>
    obtain ⟨i, hi, rfl, hf, hz, hb⟩ := hrel
    clear x3
    by_cases hin : i < L
    · have il : i < f.blocks.length := by have := HH.out.2.1; omega
      obtain ⟨g1, _, e1, gl, c0, pv, iv, rfl, hpz, hiz⟩ := (HH.out.1.below blockV_stays hb).at i il
      subst e1
      obtain ⟨pa, pc, rfl⟩ := hpz.size
      obtain ⟨ia, ic, rfl⟩ := hiz.size
      obtain ⟨x, hx⟩ : ∃ x, x = f.blocks[i] := ⟨_, rfl⟩
      have hli : i < (f.blocks.map waysB).length := by simpa using il
      have hwi : (f.blocks.map waysB)[i] = waysB x := by rw [hx]; simp
      rw [← hx] at c0
      obtain ⟨P, hP⟩ : ∃ P, P = x.phis.length := ⟨_, rfl⟩
      obtain ⟨J, hJ⟩ : ∃ J, J = x.insts.length := ⟨_, rfl⟩
      rw [← hP, ← hJ] at c0
      have x0 := c0.f0
      have x1 := c0.f1
      have x2 := c0.f2
      have x3 := c0.f3
      have x4 := c0.f4
      have x5 := c0.f5
      have z0 := hz i (Nat.le_refl _) hin
      have hgw : g < wr.heap.size := by obtain ⟨_, _, h1, _⟩ := hf; exact h1.lt
      have hgf : ∀ W', Below wr.heap.size wr W' → W'.cell? ⟨g, i, none⟩ = some (.slice none 0 0) ∧ W'.frozen? ⟨g, i, none⟩ = false := fun W' hB => ⟨cellA_below hB (a := ⟨g, i, none⟩) hgw z0, by obtain ⟨_, _, h1, _⟩ := hf; exact (h1.below hB h1.lt).free i⟩
      have hgf2 := hgf
      obtain ⟨W5, hW5⟩ : ∃ W, W = wr.alloc (.cells #[.slice pa P pc, .slice ia J ic, U8 x.fin, I x.arg, I x.to, I x.els] 45) := ⟨_, rfl⟩
      have hB5 : Below wr.heap.size wr W5 := by rw [hW5]; exact (Below.refl _ _).alloc (Nat.le_refl _) _
      have hz5 : W5.heap.size = wr.heap.size + 1 := by rw [hW5]; simp
      have hN1 : x.fin = 1 → GrR w g L (f.blocks.map waysB) (I ((i : Int) + 1)) ((W5.alloc (.cells #[I x.to] 3)).setCell ⟨g, i, none⟩ (.slice (some ⟨W5.heap.size, 0, none⟩) 1 1)) := fun h1 => GrR.put hf hz hin hli hb (hB5.alloc hB5.size _) (by
        rw [hwi]
        unfold waysB
        rw [if_pos h1]
        exact row_new [x.to] (Blk.new W5 _ _) _ ⟨⟨hB5.size, by simp⟩, ⟨_, _, Blk.new W5 _ _⟩⟩)
      have hN2 : x.fin ≠ 1 → x.fin = 2 → GrR w g L (f.blocks.map waysB) (I ((i : Int) + 1)) ((W5.alloc (.cells #[I x.to, I x.els] 3)).setCell ⟨g, i, none⟩ (.slice (some ⟨W5.heap.size, 0, none⟩) 2 2)) := fun h1 h2 => GrR.put hf hz hin hli hb (hB5.alloc hB5.size _) (by
        rw [hwi]
        unfold waysB
        rw [if_neg h1, if_pos h2]
        exact row_new [x.to, x.els] (Blk.new W5 _ _) _ ⟨⟨hB5.size, by simp⟩, ⟨_, _, Blk.new W5 _ _⟩⟩)
      have hN3 : x.fin ≠ 1 → x.fin ≠ 2 → GrR w g L (f.blocks.map waysB) (I ((i : Int) + 1)) W5 := fun h1 h2 => GrR.skip hf hz hin hli hb hB5 (by
        rw [hwi]
        unfold waysB
        rw [if_neg h1, if_neg h2])
      have HN := Lib.hid (And.intro hN1 (And.intro hN2 hN3))
      have HG := Lib.hid hgf
      have HB5 := Lib.hid (And.intro hB5 hz5)
      have HW5 := Lib.hid hW5
      have d0 : decide (i < L) = true := by simpa using hin
      have d1 : (0 : Int) ≤ (i : Int) := by omega
      have d2 : (i : Int) < (L : Int) := by omega
      have HI := Lib.hid hin
      clear hgf hgf2 hN1 hN2 hN3 hB5 hz5 hW5 c0 hx hP hJ hli hwi z0 hgw il hin hi hb hf hz hpz hiz gl HST hmk
      by_cases h1 : x.fin = 1
      · have g1 : (x.fin == 1) = true := by simpa using h1
        have HN1 := Lib.hid (HN.out.1 h1)
        obtain ⟨y0, f0⟩ := HG.out ((wr.alloc (.cells #[.slice pa P pc, .slice ia J ic, U8 x.fin, I x.arg, I x.to, I x.els] 45)).alloc (.cells #[I x.to] 3)) (((Below.refl _ _).alloc (Nat.le_refl _) _).alloc (by simp) _)
        rw [HB5.out.2, HW5.out] at HN1
        clear h1 HN HG
        go_wp2_with fail
        exact ⟨HN1.out, by have := HI.out; simp [intOf]; omega⟩
      · have g1 : (x.fin == 1) = false := by simpa using h1
        by_cases h2 : x.fin = 2
        · have g2 : (x.fin == 2) = true := by simpa using h2
          have HN1 := Lib.hid (HN.out.2.1 h1 h2)
          obtain ⟨y0, f0⟩ := HG.out ((wr.alloc (.cells #[.slice pa P pc, .slice ia J ic, U8 x.fin, I x.arg, I x.to, I x.els] 45)).alloc (.cells #[I x.to, I x.els] 3)) (((Below.refl _ _).alloc (Nat.le_refl _) _).alloc (by simp) _)
          rw [HB5.out.2, HW5.out] at HN1
          clear h1 h2 HN HG
          go_wp2_with fail
          exact ⟨HN1.out, by have := HI.out; simp [intOf]; omega⟩
        · have g2 : (x.fin == 2) = false := by simpa using h2
          have HN1 := Lib.hid (HN.out.2.2 h1 h2)
          rw [HW5.out] at HN1
          clear h1 h2 HN HG
          go_wp2_with fail
          exact ⟨HN1.out, by have := HI.out; simp [intOf]; omega⟩
    · have d0 : decide (i < L) = false := by simpa using hin
      obtain rfl : i = L := by omega
      have FIN := Lib.hid (show WaysT w f wr (.returned (.slice (some ⟨g, 0, none⟩) i i)) from ⟨_, rfl, (hf.done (by rw [List.length_map]; exact HH.out.2.1) (by have := HH.out.2.2; unfold maxLen; omega) rowV_stays).z rowV_stays, hb⟩)
      clear hf hz hb hin hi HST hmk
      go_wp2_with fail
      go_ret
      exact FIN.out
end Go.Proofs.Ytiimcckajjpbjaa
