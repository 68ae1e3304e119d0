/-
  Joined: TRdF, TRdG, TParsesW.
-/
import Derived.Test.YtcgllooeimacdaaGreatDoorTRdSt
import Derived.Test.YtcgllooeimacdaaGreatDoorTFun
import Derived.Test.YtcgllooeimacdaaGreatDoorRefScan
import Derived.Test.YtcgllooeimacdaaGreatDoorTSame
import Derived.Test.YtcgllooeimacdaaGreatDoorTAwake2
/-! The reference's reader in memory: a function. -/

namespace Go.Proofs.YtcgllooeimacdaaGreatDoor
open Go Go.RowKit Px
open Lx (Tok)

def PmsC (_ : World) (_ : Nat → Prop) (l : List Pm) (xs : List Value) : Prop := xs = l.flatMap PmC
def PmC1 (_ : World) (_ : Nat → Prop) (x : Pm) (cs : List Value) : Prop := cs = PmC x
theorem PmsC_st {w w' : World} {ok ok' : Nat → Prop} (_ : Stays w ok w' ok') : ∀ l xs, PmsC w ok l xs → PmsC w' ok' l xs := fun _ _ h => h
/-- A function that is answered. -/
def FnP' (b g cap : Nat) (ts : List Tok) (x : Fu) (s' : RdS) (w : World) (e : Ending) (w' : World) : Prop := ∃ (nm : Bytes) (y pos : Nat) (a1 : Option Addr) (m1 c1 : Nat) (a2 : Option Addr) (m2 c2 : Nat),
  e = .returned (.agg (fuCells nm (.slice a1 m1 c1) (.int .u8 (y : Int)) (.slice a2 m2 c2) pos)) ∧ FuC w' (fun h => w.heap.size ≤ h) x (fuCells nm (.slice a1 m1 c1) (.int .u8 (y : Int)) (.slice a2 m2 c2) pos).toList ∧ w.grownBy w' (some b) ∧ RW b g cap ts s' w'
/-- The boxes of a function. -/
structure FW (b g cap : Nat) (ts : List Tok) (s : RdS) (w : World) (M : Nat) (nm : Bytes) (l : List Pm) (y : Nat) (bd : List Sm) (pos : Nat) (v1 v2 : Value) (W : World) : Prop where
  grown : w.grownBy W (some b)
  res : Blk w.heap.size zFu 42 W
  box : Blk M (fuCells nm v1 (.int .u8 (y : Int)) v2 pos) 42 W
  pms : RMid PmsC (M + 1) 76 3 l v1 W
  bd : SmRow W (fun h => M + 1 ≤ h) bd v2
  rw : RW b g cap ts s W
  lt : w.heap.size < M
  bl : b < w.heap.size
  gl : g < w.heap.size
section
variable {b g cap : Nat} {ts : List Tok} {s s' : RdS} {w W W' : World} {M : Nat} {nm : Bytes} {l : List Pm} {y : Nat} {bd : List Sm} {pos : Nat} {v1 v2 : Value}
theorem FW.below (h : FW b g cap ts s w M nm l y bd pos v1 v2 W) (hb : Below W.heap.size W W') : FW b g cap ts s w M nm l y bd pos v1 v2 W' :=
  ⟨gtrans h.grown (grown_of_below hb), h.res.below hb h.res.lt, h.box.below hb h.box.lt, h.pms.below PmsC_st hb, SmRow.stays (fun k hk hl => ⟨hb.block k hl, hk⟩) h.bd, h.rw.below hb, h.lt, h.bl, h.gl⟩
theorem FW.call (h : FW b g cap ts s w M nm l y bd pos v1 v2 W) (hg : W.grownBy W' (some b)) (hr : RW b g cap ts s' W') : FW b g cap ts s' w M nm l y bd pos v1 v2 W' :=
  have h1 := h.bl
  have h2 := h.lt
  ⟨gtrans h.grown hg, h.res.other hg (by simp; omega), h.box.other hg (by simp; omega), h.pms.keep PmsC_st (b := b) (by omega) hg, SmRow.stays (fun k hk hl => ⟨hg.block k hl (by simp; omega), hk⟩) h.bd, hr, h.lt, h.bl, h.gl⟩
theorem FW.put (h : FW b g cap ts s w M nm l y bd pos v1 v2 W) (j : Nat) (u : Value) : ∀ X, X = W.setCell ⟨M, j, none⟩ u → w.grownBy X (some b) ∧ Blk w.heap.size zFu 42 X ∧ Blk M ((fuCells nm v1 (.int .u8 (y : Int)) v2 pos).setIfInBounds j u) 42 X ∧
    (∀ l v, RMid PmsC (M + 1) 76 3 l v W → RMid PmsC (M + 1) 76 3 l v X) ∧ (∀ l v, SmRow W (fun h => M + 1 ≤ h) l v → SmRow X (fun h => M + 1 ≤ h) l v) ∧ RW b g cap ts s X := by
  rintro X rfl
  have hg : W.grownBy (W.setCell ⟨M, j, none⟩ u) (some M) := Lib.grownBy_setCell _ _ _ _
  have h1 := h.lt
  have h2 := h.bl
  have h3 := h.gl
  exact ⟨gnew h.grown (by omega) hg, h.res.other hg (by simp; omega), h.box.set j u, fun l v hm => hm.keep PmsC_st (b := M) (by omega) hg, fun l v hr => SmRow.stays (fun k hk hl => ⟨hg.block k hl (by simp; omega), hk⟩) hr, h.rw.other hg (by simp; omega) (by simp; omega)⟩
theorem FW.putNm (h : FW b g cap ts s w M nm l y bd pos v1 v2 W) (nm' : Bytes) : FW b g cap ts s w M nm' l y bd pos v1 v2 (W.setCell ⟨M, 0, none⟩ (.string ⟨nm'.toArray⟩)) := by
  obtain ⟨p1, p2, p3, p4, p5, p6⟩ := h.put 0 (.string ⟨nm'.toArray⟩) _ rfl
  exact ⟨p1, p2, p3, p4 _ _ h.pms, p5 _ _ h.bd, p6, h.lt, h.bl, h.gl⟩
theorem FW.putY (h : FW b g cap ts s w M nm l y bd pos v1 v2 W) (y' : Nat) : FW b g cap ts s w M nm l y' bd pos v1 v2 (W.setCell ⟨M, 2, none⟩ (.int .u8 (y' : Int))) := by
  obtain ⟨p1, p2, p3, p4, p5, p6⟩ := h.put 2 (.int .u8 (y' : Int)) _ rfl
  exact ⟨p1, p2, p3, p4 _ _ h.pms, p5 _ _ h.bd, p6, h.lt, h.bl, h.gl⟩
theorem FW.putBd (h : FW b g cap ts s w M nm l y bd pos v1 v2 W) {bd' : List Sm} {v2' : Value} (hr : SmRow W (fun h => M + 1 ≤ h) bd' v2') : FW b g cap ts s w M nm l y bd' pos v1 v2' (W.setCell ⟨M, 3, none⟩ v2') := by
  obtain ⟨p1, p2, p3, p4, p5, p6⟩ := h.put 3 v2' _ rfl
  exact ⟨p1, p2, p3, p4 _ _ h.pms, p5 _ _ hr, p6, h.lt, h.bl, h.gl⟩
theorem FW.ltW (h : FW b g cap ts s w M nm l y bd pos v1 v2 W) : M < W.heap.size := h.box.lt
theorem FW.fin {a1 : Option Addr} {m1 c1 : Nat} {a2 : Option Addr} {m2 c2 : Nat} (h : FW b g cap ts s w M nm l y bd pos (.slice a1 m1 c1) (.slice a2 m2 c2) W) :
    ∀ U, U = set5 W w.heap.size (.string ⟨nm.toArray⟩) (.slice a1 m1 c1) (.int .u8 (y : Int)) (.slice a2 m2 c2) (.int .i64 (pos : Int)) →
      Blk w.heap.size (fuCells nm (.slice a1 m1 c1) (.int .u8 (y : Int)) (.slice a2 m2 c2) pos) 42 U ∧ FnP' b g cap ts ⟨nm, l, y, bd, pos⟩ s w (.returned (.agg (fuCells nm (.slice a1 m1 c1) (.int .u8 (y : Int)) (.slice a2 m2 c2) pos))) U := by
  rintro U rfl
  have h1 := h.lt
  have h2 := h.bl
  have h3 := h.gl
  have hs := grown_set5 W w.heap.size (.string ⟨nm.toArray⟩) (.slice a1 m1 c1) (.int .u8 (y : Int)) (.slice a2 m2 c2) (.int .i64 (pos : Int))
  have hst : Stays W (fun h => M + 1 ≤ h) (set5 W w.heap.size (.string ⟨nm.toArray⟩) (.slice a1 m1 c1) (.int .u8 (y : Int)) (.slice a2 m2 c2) (.int .i64 (pos : Int))) (fun h => w.heap.size ≤ h) := stays_of_grown hs fun g hg => ⟨by omega, by omega⟩
  exact ⟨h.res.set5 _ _ _ _ _, nm, y, pos, a1, m1, c1, a2, m2, c2, rfl, ⟨_, _, rfl, PmRow.stays hst (h.pms.row PmsC_st), SmRow.stays hst h.bd⟩, gnew h.grown (Nat.le_refl _) hs, h.rw.other hs (by simp; omega) (by simp; omega)⟩
end
/-- With a parameter's box. -/
structure QW (b g cap : Nat) (ts : List Tok) (s : RdS) (w : World) (M : Nat) (nm : Bytes) (l : List Pm) (pos : Nat) (v1 : Value) (Q : Nat) (p : Pm) (W : World) : Prop where
  fw : FW b g cap ts s w M nm l 0 [] pos v1 (.slice none 0 0) W
  q : Blk Q #[.string ⟨p.name.toArray⟩, .int .u8 (p.typ : Int), .int .i64 (p.pos : Int)] 76 W
  hM : M < Q
  ne : v1.ownBlock ≠ some Q
section
variable {b g cap : Nat} {ts : List Tok} {s s' : RdS} {w W W' : World} {M : Nat} {nm : Bytes} {l : List Pm} {pos : Nat} {v1 : Value} {Q : Nat} {p : Pm}
theorem QW.call (h : QW b g cap ts s w M nm l pos v1 Q p W) (hg : W.grownBy W' (some b)) (hr : RW b g cap ts s' W') : QW b g cap ts s' w M nm l pos v1 Q p W' :=
  have h1 := h.fw.bl
  have h2 := h.fw.lt
  have h3 := h.hM
  ⟨h.fw.call hg hr, h.q.other hg (by simp; omega), h.hM, h.ne⟩
theorem QW.new (h : FW b g cap ts s w M nm l 0 [] pos v1 (.slice none 0 0) W) (p : Pm) : QW b g cap ts s w M nm l pos v1 W.heap.size p (W.alloc (.cells #[.string ⟨p.name.toArray⟩, .int .u8 (p.typ : Int), .int .i64 (p.pos : Int)] 76)) := by
  refine ⟨h.below ((Below.refl _ _).alloc (Nat.le_refl _) _), Blk.new _ _ _, h.ltW, ?_⟩
  obtain ⟨xs, ho, _⟩ := h.pms
  intro e
  have := (ho.lt _ e).2
  omega
theorem QW.put (h : QW b g cap ts s w M nm l pos v1 Q p W) (j : Nat) (u : Value) (p' : Pm) (hp : (#[.string ⟨p.name.toArray⟩, .int .u8 (p.typ : Int), .int .i64 (p.pos : Int)] : Array Value).setIfInBounds j u = #[.string ⟨p'.name.toArray⟩, .int .u8 (p'.typ : Int), .int .i64 (p'.pos : Int)]) : QW b g cap ts s w M nm l pos v1 Q p' (W.setCell ⟨Q, j, none⟩ u) := by
  have hg : W.grownBy (W.setCell ⟨Q, j, none⟩ u) (some Q) := Lib.grownBy_setCell _ _ _ _
  have h1 := h.fw.lt
  have h2 := h.fw.bl
  have h3 := h.fw.gl
  have h4 := h.hM
  obtain ⟨xs, ho, hx⟩ := h.fw.pms
  refine ⟨⟨gnew h.fw.grown (by omega) hg, h.fw.res.other hg (by simp; omega), h.fw.box.other hg (by simp; omega), ⟨xs, ho.kept hg ?_, hx⟩, Or.inl ⟨rfl, rfl⟩, h.fw.rw.other hg (by simp; omega) (by simp; omega), h1, h2, h3⟩, by rw [← hp]; exact h.q.set j u, h4, h.ne⟩
  cases hu : v1.ownBlock with
  | none => exact Or.inl rfl
  | some k => exact Or.inr (by have := h.ne; rw [hu] at this; exact this)
/-- One more parameter, appended out of a new block. -/
theorem QW.app (h : QW b g cap ts s w M nm l pos v1 Q p W) {xs : List Value} (ho : W.ownsRow (M + 1) 76 3 v1 l.length xs) (hxs : xs = l.flatMap PmC) {g' c' : Nat} {w4 : World} (ho4 : w4.ownsRow (M + 1) 76 3 (.slice (some ⟨g', 0, none⟩) (l.length + 1) c') (l.length + 1) (xs ++ PmC p))
    (hg4 : (W.alloc (.cells #[.string ⟨p.name.toArray⟩, .int .u8 (p.typ : Int), .int .i64 (p.pos : Int)] 76)).grownBy w4 v1.ownBlock) :
    Blk M (fuCells nm v1 (.int .u8 0) (.slice none 0 0) pos) 42 w4 ∧ FW b g cap ts s w M nm (l ++ [p]) 0 [] pos (.slice (some ⟨g', 0, none⟩) (l.length + 1) c') (.slice none 0 0) (w4.setCell ⟨M, 1, none⟩ (.slice (some ⟨g', 0, none⟩) (l.length + 1) c')) := by
  have h1 := h.fw.lt
  have h2 := h.fw.bl
  have h3 := h.fw.gl
  have hbA : Below W.heap.size W (W.alloc (.cells #[.string ⟨p.name.toArray⟩, .int .u8 (p.typ : Int), .int .i64 (p.pos : Int)] 76)) := (Below.refl _ _).alloc (Nat.le_refl _) _
  have hA := h.fw.below hbA
  have hv : ∀ j, v1.ownBlock = some j → M + 1 ≤ j := fun j e => (ho.lt j e).1
  have hne : ∀ j, j ≤ M → some j ≠ v1.ownBlock := fun j hj e => by have := hv j e.symm; omega
  have hw4 : w.grownBy w4 (some b) :=
    ⟨hg4.os.trans hA.grown.os, hg4.tape.trans hA.grown.tape, hg4.output.trans hA.grown.output, Nat.le_trans hA.grown.size hg4.size, fun i hi hni => (hg4.block i (Nat.lt_of_lt_of_le hi hA.grown.size) (hne i (by omega))).trans (hA.grown.block i hi hni)⟩
  have hbox : Blk M (fuCells nm v1 (.int .u8 0) (.slice none 0 0) pos) 42 w4 := hA.box.other hg4 (hne M (Nat.le_refl _))
  refine ⟨hbox, ?_⟩
  have hg : w4.grownBy (w4.setCell ⟨M, 1, none⟩ (.slice (some ⟨g', 0, none⟩) (l.length + 1) c')) (some M) := Lib.grownBy_setCell _ _ _ _
  have hr4 : RMid PmsC (M + 1) 76 3 (l ++ [p]) (.slice (some ⟨g', 0, none⟩) (l.length + 1) c') w4 := ⟨xs ++ PmC p, by rw [List.length_append]; exact ho4, by unfold PmsC; rw [hxs]; simp⟩
  exact ⟨gnew hw4 (by omega) hg, (hA.res.other hg4 (hne _ (by omega))).other hg (by simp; omega), hbox.set 1 _, hr4.keep PmsC_st (b := M) (by omega) hg, Or.inl ⟨rfl, rfl⟩, (hA.rw.other hg4 (hne _ (by omega)) (hne _ (by omega))).other hg (by simp; omega) (by simp; omega), h1, h2, h3⟩
end
/-- What holds ahead of each parameter. -/
def PmRel (b g cap : Nat) (ts : List Tok) (w : World) (M : Nat) (nm : Bytes) (pos : Nat) (ps : List Pm) (sE : RdS) (F : Nat) (gk : Nat) (v : Value) (W : World) : Prop :=
  ∃ (l0 : List Pm) (s1 : RdS) (a : Option Addr) (c : Nat), gk ≤ F ∧ FW b g cap ts s1 w M nm l0 0 [] pos (.slice a l0.length c) (.slice none 0 0) W ∧ ((v = .bool true ∧ pmLoopM ts gk l0 s1 = some (ps, sE)) ∨ (v = .bool false ∧ l0 = ps ∧ s1 = sE))

set_option maxRecDepth 100000 in
set_option maxHeartbeats 8000000 in
theorem fn_w (F : Nat) (b g cap : Nat) (ts : List Tok) (s : RdS) (x : Fu) (s' : RdS) (w : World) (hw : RW b g cap ts s w) (h : fnM ts F s = some (x, s')) :
    Calls Tryz.prog 23 #[.pointer (some ⟨b, 0, none⟩)] w (FnP' b g cap ts x s' w) := by
  unfold fnM at h
  obtain ⟨t, s1, h1, h2⟩ := bindO_inv h
  obtain ⟨rfl, _⟩ := nowM_inv h1
  obtain ⟨⟨⟩, s2, h3, h4⟩ := bindO_inv h2
  obtain ⟨nm, s3, h5, h6⟩ := bindO_inv h4
  obtain ⟨⟨⟩, s4, h7, h8⟩ := bindO_inv h6
  obtain ⟨v, s5, h9, h10⟩ := bindO_inv h8
  obtain ⟨rfl, _⟩ := isM_inv h9
  obtain ⟨ps, s6, h11, h12⟩ := bindO_inv h10
  obtain ⟨⟨⟩, s7, h13, h14⟩ := bindO_inv h12
  obtain ⟨v2, s8, h15, h16⟩ := bindO_inv h14
  obtain ⟨y, s9, h17, h18⟩ := bindO_inv h16
  obtain ⟨bl, s10, h19, h20⟩ := bindO_inv h18
  obtain ⟨rfl, rfl⟩ := Prod.mk.inj (Option.some.inj h20)
  have H11 := Lib.hid h11
  have H17 := Lib.hid h17
  have hbl := hw.lt
  have hgl := hw.toks.lt
  obtain ⟨W, hW⟩ : ∃ W, W = w.alloc (.cells zFu 42) := ⟨_, rfl⟩
  have hbW : Below w.heap.size w W := by rw [hW]; exact (Below.refl _ _).alloc (Nat.le_refl _) _
  have hz : Blk w.heap.size zFu 42 W := by rw [hW]; exact Blk.new _ _ _
  have HN := Lib.hid (now_w b g cap ts s1 s1 t W (hw.below hbW) h1)
  have HH := Lib.hid (And.intro hbW (And.intro hz (hw.below hbW)))
  have HWW := Lib.hid hW
  have HBk := Lib.hid (stmts_w F).2
  obtain ⟨i0, hi, hz0, hz1, hz2⟩ := info_parts Tryz.infoPm
  have hft := fTok1
  clear h h1 h2 h4 h6 h8 h10 h11 h12 h14 h16 h17 h18 h20 hw hbW hz hW
  obtain ⟨tk, tp, tt, tn⟩ := t
  go_enter Tryz.func23, Tryz.ntmps23
  go_wp2_with fail
  rw [← HWW.out]
  refine HN.out.mono ?_
  rintro e w1 ⟨rfl, hb1⟩
  unfold tokV'
  obtain ⟨V, hV⟩ : ∃ V, V = w1.alloc (.cells #[.string ⟨#[]⟩, .slice none 0 0, .int .u8 0, .slice none 0 0, .int .i64 (tp : Int)] 42) := ⟨_, rfl⟩
  have hbV : Below w1.heap.size w1 V := by rw [hV]; exact (Below.refl _ _).alloc (Nat.le_refl _) _
  have hMw : w.heap.size < w1.heap.size := by have := hb1.size; have := HH.out.2.1.lt; omega
  have hF0 : FW b g cap ts s1 w w1.heap.size [] [] 0 [] tp (.slice none 0 0) (.slice none 0 0) V :=
    ⟨gtrans (grown_of_below (HH.out.1.trans (hb1.mono HH.out.1.size))) (grown_of_below hbV), (HH.out.2.1.below hb1 HH.out.2.1.lt).below hbV hMw, by rw [hV]; exact Blk.new _ _ _, ⟨[], World.ownsRow_nil _ _ _ _, rfl⟩, Or.inl ⟨rfl, rfl⟩, (HH.out.2.2.below hb1).below hbV, hMw, hbl, hgl⟩
  have HS0 := Lib.hid hF0
  have HVV := Lib.hid hV
  clear hb1 hV hbV hF0 HH HN HWW hMw
  go_upto_region 2 with (fail)
  rw [← HVV.out]
  clear HVV
  generalize w1.heap.size = M at *
  have HC1 := Lib.hid (skip_w b g cap ts s1 s2 [102, 110] V HS0.out.rw h3)
  go_wp2_with fail
  refine HC1.out.mono ?_
  rintro e u1x ⟨rfl, hg, hr⟩
  have HS1 := Lib.hid (HS0.out.call hg hr)
  clear hg hr HC1 HS0
  have HC2 := Lib.hid (name_w b g cap ts s2 s3 nm u1x HS1.out.rw h5)
  go_wp2_with fail
  refine HC2.out.mono ?_
  rintro e u2x ⟨rfl, hg, hr⟩
  have HS2 := Lib.hid (HS1.out.call hg hr)
  clear hg hr HC2 HS1
  obtain ⟨u3x, hX⟩ : ∃ X, X = u2x.setCell ⟨M, 0, none⟩ (.string ⟨nm.toArray⟩) := ⟨_, rfl⟩
  have cc := HS2.out.box.get 0 (.string ⟨#[]⟩) rfl
  have ee := HS2.out.box.free 0
  have HS3 := Lib.hid (show FW b g cap ts s3 w M nm [] 0 [] tp (.slice none 0 0) (.slice none 0 0) u3x by rw [hX]; exact HS2.out.putNm nm)
  have HXX := Lib.hid hX
  clear hX
  go_upto_region 4 with (fail)
  rw [← HXX.out]
  clear cc ee HXX HS2
  have HC4 := Lib.hid (skip_w b g cap ts s3 s5 [40] u3x HS3.out.rw h7)
  go_wp2_with fail
  refine HC4.out.mono ?_
  rintro e u4x ⟨rfl, hg, hr⟩
  have HS4 := Lib.hid (HS3.out.call hg hr)
  clear hg hr HC4 HS3
  go_upto_region 5 with (fail)
  go_cut [4] from 17 to 27 (fun q W => ∃ u : Bool, q = .bool u ∧ PmRel b g cap ts w M nm tp ps s6 F F (.bool u) W)
  case first =>
    have HC5 := Lib.hid (is_w b g cap ts s5 s5 [41] v u4x HS4.out.rw h9)
    go_wp2_with fail
    refine HC5.out.mono ?_
    rintro e u5x ⟨rfl, hb⟩
    have HS5 := Lib.hid (HS4.out.below hb)
    clear hb HC5 HS4
    have HREL : Hid (∀ (q : Bool), q = (!v && (s5.e == 0)) → PmRel b g cap ts w M nm tp ps s6 F F (.bool q) u5x) := by
      intro q hq
      have h11 := H11.out
      refine ⟨[], s5, none, 0, Nat.le_refl _, HS5.out, ?_⟩
      by_cases hc : v = false ∧ s5.e = 0
      · rw [if_pos hc] at h11
        exact Or.inl ⟨by rw [hq, hc.1, hc.2]; rfl, h11⟩
      · rw [if_neg hc] at h11
        obtain ⟨rfl, rfl⟩ := Prod.mk.inj (Option.some.inj h11)
        refine Or.inr ⟨?_, rfl, rfl⟩
        rw [hq]
        cases v with
        | true => rfl
        | false =>
          have : s5.e ≠ 0 := fun e => hc ⟨rfl, e⟩
          simp [this]
    have c5 := HS5.out.rw.c5
    have e0 : ((s5.e : Int) == 0) = (s5.e == 0) := by rw [Bool.eq_iff_iff, beq_iff_eq, beq_iff_eq]; omega
    clear H11
    cases v with
    | true =>
      go_wp2_with fail
      go_meet
      case rel => exact ⟨_, rfl, HREL.out _ rfl⟩
    | false =>
      go_wp2_with fail
      go_meet
      case rel => exact ⟨_, rfl, HREL.out _ (by simp)⟩
  case rest =>
    obtain ⟨u, rfl, hrel0⟩ := hcut
    have HREL := Lib.hid hrel0
    clear hrel0 H11 HS4 h9
    go_wp2_with fail
    go_loopg [4] F (fun gk v wr => PmRel b g cap ts w M nm tp ps s6 F gk v wr)
    case atStart => exact HREL.out
    case round =>
      clear HREL
      obtain ⟨l0, r1, a, c, hgk, hF, hcs⟩ := hrel
      have HS1 := Lib.hid hF
      clear hF
      rcases hcs with ⟨rfl, hlp⟩ | ⟨rfl, hps, hss⟩
      · match gk, hgk, hlp with
        | 0, _, hlp => rw [pmLoopM] at hlp; cases hlp
        | gk + 1, hgk, hlp =>
          rw [pmLoopM] at hlp
          by_cases hlen : 100000 ≤ l0.length
          · rw [if_pos hlen] at hlp; cases hlp
          · rw [if_neg hlen] at hlp
            obtain ⟨q, r2, g1, g2⟩ := bindO_inv hlp
            obtain ⟨rfl, _⟩ := nowM_inv g1
            obtain ⟨n2, r3, g3, g4⟩ := bindO_inv g2
            obtain ⟨⟨⟩, r4, g5, g6⟩ := bindO_inv g4
            obtain ⟨y2, r5, g7, g8⟩ := bindO_inv g6
            obtain ⟨u2, r6, g9, g10⟩ := bindO_inv g8
            have HK := Lib.hid g10
            have HN2 := Lib.hid (now_w b g cap ts r2 r2 q wr HS1.out.rw g1)
            have hlb : l0.length + 1 ≤ maxLen := by unfold maxLen; omega
            have hlb2 : (l0.length + 1) * 32 ≤ 140737488355328 := by omega
            have HLB := Lib.hid (And.intro hlb hlb2)
            have HGF := Lib.hid (show gk ≤ F by omega)
            clear hlp g1 g2 g4 g6 g8 g10 hlen hlb hlb2 hgk
            obtain ⟨qk, qp, qt, qn⟩ := q
            go_wp2_with fail
            refine HN2.out.mono ?_
            rintro e w2 ⟨rfl, hb2⟩
            unfold tokV'
            have HSB := Lib.hid (HS1.out.below hb2)
            obtain ⟨V, hV⟩ : ∃ V, V = w2.alloc (.cells #[.string ⟨#[]⟩, .int .u8 0, .int .i64 (qp : Int)] 76) := ⟨_, rfl⟩
            have HQ0 := Lib.hid (show QW b g cap ts r2 w M nm l0 tp (.slice a l0.length c) w2.heap.size ⟨[], 0, qp⟩ V by rw [hV]; exact QW.new HSB.out ⟨[], 0, qp⟩)
            have HVV := Lib.hid hV
            clear hb2 hV HSB HN2 HS1
            go_upto_region 9 with (fail)
            rw [← HVV.out]
            clear HVV
            generalize w2.heap.size = Q at *
            have HC5 := Lib.hid (name_w b g cap ts r2 r3 n2 V HQ0.out.fw.rw g3)
            go_wp2_with fail
            refine HC5.out.mono ?_
            rintro e u5x ⟨rfl, hg, hr⟩
            have HS5 := Lib.hid (HQ0.out.call hg hr)
            clear hg hr HC5 HQ0
            obtain ⟨X1, hX⟩ : ∃ X, X = u5x.setCell ⟨Q, 0, none⟩ (.string ⟨n2.toArray⟩) := ⟨_, rfl⟩
            have cc := HS5.out.q.get 0 (.string ⟨#[]⟩) rfl
            have ee := HS5.out.q.free 0
            have HQ1 := Lib.hid (show QW b g cap ts r3 w M nm l0 tp (.slice a l0.length c) Q ⟨n2, 0, qp⟩ X1 by rw [hX]; exact HS5.out.put 0 (.string ⟨n2.toArray⟩) ⟨n2, 0, qp⟩ rfl)
            have HXX := Lib.hid hX
            clear hX
            go_upto_region 10 with (fail)
            rw [← HXX.out]
            clear cc ee HXX HS5
            have HC6 := Lib.hid (skip_w b g cap ts r3 r4 [58] X1 HQ1.out.fw.rw g5)
            go_wp2_with fail
            refine HC6.out.mono ?_
            rintro e u6x ⟨rfl, hg, hr⟩
            have HS6 := Lib.hid (HQ1.out.call hg hr)
            clear hg hr HC6 HQ1
            have HC7 := Lib.hid (typed_w b g cap ts r4 r5 true y2 u6x HS6.out.fw.rw g7)
            go_wp2_with fail
            refine HC7.out.mono ?_
            rintro e u7x ⟨rfl, hg, hr⟩
            have HS7 := Lib.hid (HS6.out.call hg hr)
            clear hg hr HC7 HS6
            obtain ⟨X2, hX⟩ : ∃ X, X = u7x.setCell ⟨Q, 1, none⟩ (.int .u8 (y2 : Int)) := ⟨_, rfl⟩
            have cc := HS7.out.q.get 1 (.int .u8 0) rfl
            have ee := HS7.out.q.free 1
            have HQ2 := Lib.hid (show QW b g cap ts r5 w M nm l0 tp (.slice a l0.length c) Q ⟨n2, y2, qp⟩ X2 by rw [hX]; exact HS7.out.put 1 (.int .u8 (y2 : Int)) ⟨n2, y2, qp⟩ rfl)
            have HXX := Lib.hid hX
            clear hX
            go_upto_region 12 with (fail)
            rw [← HXX.out]
            clear cc ee HXX HS7
            obtain ⟨xs, ho, hxs⟩ := HQ2.out.fw.pms
            have HO := Lib.hid (ho.alloc (.cells #[.string ⟨n2.toArray⟩, .int .u8 (y2 : Int), .int .i64 (qp : Int)] 76))
            have HA := Lib.hid fun g' c' w4 ho4 hg4 => HQ2.out.app (g' := g') (c' := c') (w4 := w4) ho hxs ho4 hg4
            have HTOP := Lib.hid (show M + 1 ≤ (X2.alloc (.cells #[.string ⟨n2.toArray⟩, .int .u8 (y2 : Int), .int .i64 (qp : Int)] 76)).heap.size by have := HQ2.out.fw.ltW; simp; omega)
            have d1 := HQ2.out.fw.box.get 1 (.slice a l0.length c) rfl
            have q0 := HQ2.out.q.get 0 (.string ⟨n2.toArray⟩) rfl
            have q1 := HQ2.out.q.get 1 (.int .u8 (y2 : Int)) rfl
            have q2 := HQ2.out.q.get 2 (.int .i64 (qp : Int)) rfl
            clear ho hxs
            go_wp2_with (at_builtin; refine Hid.out ?_)
            unfold Hid
            refine wpList_append_lies _ rfl (.tmp 43) (.tmp 45) 40 rfl (M + 1) 76 i0 _ 3 32 Tryz.underlying40 hi hz0 hz1 hz2 rfl (by omega) (.slice a l0.length c) l0.length xs rfl HO.out ⟨X2.heap.size, 0, none⟩ 1 1 (PmC ⟨n2, y2, qp⟩) rfl rfl (World.news_of_block (heap_alloc_new X2 _)) (pm_one ⟨n2, y2, qp⟩) (by omega) HLB.out.1 HLB.out.2 HTOP.out _ rfl ?_
            intro gg cg w9 hown hgrow hat hlt9
            have HF := Lib.hid (HA.out gg cg w9 hown hgrow)
            clear hown hgrow hat hlt9 HA HO HTOP HLB q0 q1 q2 d1
            have d1 := HF.out.1.get 1 (.slice a l0.length c) rfl
            have e1 := HF.out.1.free 1
            obtain ⟨Z, hZ⟩ : ∃ Z, Z = w9.setCell ⟨M, 1, none⟩ (.slice (some ⟨gg, 0, none⟩) (l0.length + 1) cg) := ⟨_, rfl⟩
            have HS9 := Lib.hid (show FW b g cap ts r5 w M nm (l0 ++ [⟨n2, y2, qp⟩]) 0 [] tp (.slice (some ⟨gg, 0, none⟩) (l0.length + 1) cg) (.slice none 0 0) Z by rw [hZ]; exact HF.out.2)
            have HZZ := Lib.hid hZ
            clear hZ HF HQ2
            go_upto_region 7 with (fail)
            rw [← HZZ.out]
            clear d1 e1 HZZ
            have HC8 := Lib.hid (has_w b g cap ts r5 r6 [44] u2 Z HS9.out.rw g9)
            go_wp2_with fail
            refine HC8.out.mono ?_
            rintro e u8x ⟨rfl, hg, hr⟩
            have HS8 := Lib.hid (HS9.out.call hg hr)
            clear hg hr HC8 HS9
            have HREL := Lib.hid (show PmRel b g cap ts w M nm tp ps s6 F gk (.bool u2) u8x by
              refine ⟨l0 ++ [⟨n2, y2, qp⟩], r6, some ⟨gg, 0, none⟩, cg, HGF.out, by rw [List.length_append]; exact HS8.out, ?_⟩
              have g10 := HK.out
              cases u2 with
              | true => rw [if_pos rfl] at g10; exact Or.inl ⟨rfl, g10⟩
              | false =>
                rw [if_neg (by decide)] at g10
                obtain ⟨rfl, rfl⟩ := Prod.mk.inj (Option.some.inj g10)
                exact Or.inr ⟨rfl, rfl, rfl⟩)
            go_wp2
            go_roundg gk
            case measure => omega
            case rel => exact HREL.out
      · subst hps hss
        have HC51 := Lib.hid (skip_w b g cap ts r1 s7 [41] wr HS1.out.rw h13)
        go_wp2_with fail
        refine HC51.out.mono ?_
        rintro e u51x ⟨rfl, hg, hr⟩
        have HS51 := Lib.hid (HS1.out.call hg hr)
        clear hg hr HC51 HS1
        have HC52 := Lib.hid (has_w b g cap ts s7 s8 [58] v2 u51x HS51.out.rw h15)
        go_wp2_with fail
        refine HC52.out.mono ?_
        rintro e u52x ⟨rfl, hg, hr⟩
        have HS52 := Lib.hid (HS51.out.call hg hr)
        clear hg hr HC52 HS51
        cases v2 with
        | true =>
          have h17 := H17.out
          rw [if_pos rfl] at h17
          clear H17
          have HC53 := Lib.hid (typed_w b g cap ts s8 s9 false y u52x HS52.out.rw h17)
          go_wp2_with fail
          refine HC53.out.mono ?_
          rintro e u53x ⟨rfl, hg, hr⟩
          have HS53 := Lib.hid (HS52.out.call hg hr)
          clear hg hr HC53 HS52
          obtain ⟨u54x, hX⟩ : ∃ X, X = u53x.setCell ⟨M, 2, none⟩ (.int .u8 (y : Int)) := ⟨_, rfl⟩
          have cc := HS53.out.box.get 2 (.int .u8 0) rfl
          have ee := HS53.out.box.free 2
          have HS54 := Lib.hid (show FW b g cap ts s9 w M nm l0 y [] tp (.slice a l0.length c) (.slice none 0 0) u54x by rw [hX]; exact HS53.out.putY y)
          have HXX := Lib.hid hX
          clear hX
          go_upto_region 16 with (fail)
          rw [← HXX.out]
          clear cc ee HXX HS53
          have HC55 := Lib.hid (HBk.out b g cap ts s9 bl s10 u54x HS54.out.rw h19)
          go_wp2_with fail
          refine HC55.out.mono ?_
          rintro e v55x ⟨a55, c55, rfl, hrow, hg, hr⟩
          have hSC := HS54.out.call hg hr
          have hwM := HS54.out.ltW
          have hrow' : SmRow v55x (fun h => M + 1 ≤ h) bl (.slice a55 bl.length c55) := SmRow.stays (stays_weaken fun h hh _ => by omega) hrow
          obtain ⟨u55x, hX⟩ : ∃ X, X = v55x.setCell ⟨M, 3, none⟩ (.slice a55 bl.length c55) := ⟨_, rfl⟩
          have hSX := hSC.putBd hrow'
          rw [← hX] at hSX
          have cc := hSC.box.get 3 (.slice none 0 0) rfl
          have ee := hSC.box.free 3
          have HS55 := Lib.hid (show FW b g cap ts s10 w M nm l0 y bl tp (.slice a l0.length c) (.slice a55 bl.length c55) u55x from hSX)
          have HXX := Lib.hid hX
          clear hSC hwM hrow hrow' hX hSX hg hr HC55
          go_upto_region 17 with (fail)
          rw [← HXX.out]
          clear cc ee HXX HS54
          have FIN := Lib.hid (HS55.out.fin _ rfl)
          have FB := Lib.hid (show Blk w.heap.size #[.string ⟨nm.toArray⟩, .slice a l0.length c, .int .u8 (y : Int), .slice a55 bl.length c55, .int .i64 (tp : Int)] 42 (set5 u55x w.heap.size (.string ⟨nm.toArray⟩) (.slice a l0.length c) (.int .u8 (y : Int)) (.slice a55 bl.length c55) (.int .i64 (tp : Int))) from FIN.out.1)
          have hbx : Blk M #[.string ⟨nm.toArray⟩, .slice a l0.length c, .int .u8 (y : Int), .slice a55 bl.length c55, .int .i64 (tp : Int)] 42 u55x := HS55.out.box
          obtain ⟨k0, k1, k2, k3, k4⟩ := hbx.get5
          obtain ⟨z0, z1, z2, z3, z4⟩ := HS55.out.res.get5
          obtain ⟨e0, e1, e2, e3, e4⟩ := HS55.out.res.free5
          clear hbx
          go_wp2
          rw [← set5_eq]
          obtain ⟨y0, y1, y2, y3, y4⟩ := FB.out.get5
          clear k0 k1 k2 k3 k4 z0 z1 z2 z3 z4 e0 e1 e2 e3 e4
          exact bodyPost_ret (v := .agg #[.string ⟨nm.toArray⟩, .slice a l0.length c, .int .u8 (y : Int), .slice a55 bl.length c55, .int .i64 (tp : Int)]) (by simp [results, Tryz.results23, go_sem, y0, y1, y2, y3, y4]) rfl FIN.out.2
        | false =>
          have h17 := H17.out
          rw [if_neg (by decide)] at h17
          obtain ⟨rfl, rfl⟩ := Prod.mk.inj (Option.some.inj h17)
          clear H17 h17
          have HC53 := Lib.hid (HBk.out b g cap ts s8 bl s10 u52x HS52.out.rw h19)
          go_wp2_with fail
          refine HC53.out.mono ?_
          rintro e v53x ⟨a53, c53, rfl, hrow, hg, hr⟩
          have hSC := HS52.out.call hg hr
          have hwM := HS52.out.ltW
          have hrow' : SmRow v53x (fun h => M + 1 ≤ h) bl (.slice a53 bl.length c53) := SmRow.stays (stays_weaken fun h hh _ => by omega) hrow
          obtain ⟨u53x, hX⟩ : ∃ X, X = v53x.setCell ⟨M, 3, none⟩ (.slice a53 bl.length c53) := ⟨_, rfl⟩
          have hSX := hSC.putBd hrow'
          rw [← hX] at hSX
          have cc := hSC.box.get 3 (.slice none 0 0) rfl
          have ee := hSC.box.free 3
          have HS53 := Lib.hid (show FW b g cap ts s10 w M nm l0 0 bl tp (.slice a l0.length c) (.slice a53 bl.length c53) u53x from hSX)
          have HXX := Lib.hid hX
          clear hSC hwM hrow hrow' hX hSX hg hr HC53
          go_upto_region 17 with (fail)
          rw [← HXX.out]
          clear cc ee HXX HS52
          have FIN := Lib.hid (HS53.out.fin _ rfl)
          have FB := Lib.hid (show Blk w.heap.size #[.string ⟨nm.toArray⟩, .slice a l0.length c, .int .u8 0, .slice a53 bl.length c53, .int .i64 (tp : Int)] 42 (set5 u53x w.heap.size (.string ⟨nm.toArray⟩) (.slice a l0.length c) (.int .u8 0) (.slice a53 bl.length c53) (.int .i64 (tp : Int))) from FIN.out.1)
          have hbx : Blk M #[.string ⟨nm.toArray⟩, .slice a l0.length c, .int .u8 0, .slice a53 bl.length c53, .int .i64 (tp : Int)] 42 u53x := HS53.out.box
          obtain ⟨k0, k1, k2, k3, k4⟩ := hbx.get5
          obtain ⟨z0, z1, z2, z3, z4⟩ := HS53.out.res.get5
          obtain ⟨e0, e1, e2, e3, e4⟩ := HS53.out.res.free5
          clear hbx
          go_wp2
          rw [← set5_eq]
          obtain ⟨y0, y1, y2, y3, y4⟩ := FB.out.get5
          clear k0 k1 k2 k3 k4 z0 z1 z2 z3 z4 e0 e1 e2 e3 e4
          exact bodyPost_ret (v := .agg #[.string ⟨nm.toArray⟩, .slice a l0.length c, .int .u8 0, .slice a53 bl.length c53, .int .i64 (tp : Int)]) (by simp [results, Tryz.results23, go_sem, y0, y1, y2, y3, y4]) rfl FIN.out.2
end Go.Proofs.YtcgllooeimacdaaGreatDoor

/-! The reference's Parse, whole. -/

namespace Go.Proofs.YtcgllooeimacdaaGreatDoor
open Go Go.RowKit Px
open Lx (Tok)

theorem Px.fusF_n99 {ts : List Tok} (hw : EndT ts) (h0 : 0 < ts.length) {pn : Nat × Nat} (h : fusF ts (fuel ts) [] ⟨0, 0, 0⟩ = .error pn) : pn.2 ≠ 99 := by
  have := fusF_G hw (fuel ts) [] ⟨0, 0, 0⟩ h0
  rw [h] at this
  exact this.2 (by unfold fuel; simp; omega)
/-- What stands behind a function. -/
def fnsT (ts : List Tok) (gk : Nat) (l : List Fu) (s : RdS) : MO (List Fu) := if s.e = 0 then bindO (nowM ts s) fun t s => if t.kind = 0 then some (l, s) else fnsM ts gk l s else some (l, s)
theorem fnsM_succ (ts : List Tok) (gk : Nat) (l : List Fu) (s : RdS) : fnsM ts (gk + 1) l s = if 100000 ≤ l.length then none else bindO (fnM ts gk s) fun x s => fnsT ts gk (l ++ [x]) s := rfl
theorem FusC_st {w w' : World} {ok ok' : Nat → Prop} (hs : Stays w ok w' ok') : ∀ l xs, FusC w ok l xs → FusC w' ok' l xs := FusC.stays hs
theorem FuC_st {w w' : World} {ok ok' : Nat → Prop} (hs : Stays w ok w' ok') : ∀ x cs, FuC w ok x cs → FuC w' ok' x cs := fun _ _ h => h.stays hs

/-- The boxes of a program. -/
structure GW (b g cap : Nat) (ts : List Tok) (s : RdS) (w : World) (Q : Nat) (l : List Fu) (v : Value) (W : World) : Prop where
  bel : Below w.heap.size w W
  res : Blk w.heap.size zProg 24 W
  box : Blk Q #[v] 24 W
  row : RMid FusC (Q + 1) 42 5 l v W
  rw : RW b g cap ts s W
  lt : w.heap.size < b
  bq : b < Q
  gl : w.heap.size < g
  gq : g < Q
section
variable {b g cap : Nat} {ts : List Tok} {s s' : RdS} {w W W' : World} {Q : Nat} {l : List Fu} {v : Value}
theorem GW.ltW (h : GW b g cap ts s w Q l v W) : Q < W.heap.size := h.box.lt
theorem GW.below (h : GW b g cap ts s w Q l v W) (hb : Below W.heap.size W W') : GW b g cap ts s w Q l v W' :=
  ⟨h.bel.trans (hb.mono h.bel.size), h.res.below hb h.res.lt, h.box.below hb h.box.lt, h.row.below FusC_st hb, h.rw.below hb, h.lt, h.bq, h.gl, h.gq⟩
theorem GW.call (h : GW b g cap ts s w Q l v W) (hg : W.grownBy W' (some b)) (hr : RW b g cap ts s' W') : GW b g cap ts s' w Q l v W' :=
  have h1 := h.lt
  have h2 := h.bq
  ⟨h.bel.grown hg h.bel.size (fun k e => by cases e; omega), h.res.other hg (by simp; omega), h.box.other hg (by simp; omega), h.row.keep FusC_st (b := b) (by omega) hg, hr, h.lt, h.bq, h.gl, h.gq⟩
/-- One more function, appended out of a new block. -/
theorem GW.app (h : GW b g cap ts s w Q l v W) {x : Fu} {cs : Array Value} {D : Nat} (hD : Q + 1 ≤ D) (hvD : ∀ h, v.ownBlock = some h → h < D) (hx : FuC W (fun h => D ≤ h) x cs.toList) {xs : List Value}
    (ho : W.ownsRow (Q + 1) 42 5 v l.length xs) (hxs : FusC W (fun h => Q + 1 ≤ h ∧ some h ≠ v.ownBlock) l xs) {g' c' : Nat} {w4 : World} (ho4 : w4.ownsRow (Q + 1) 42 5 (.slice (some ⟨g', 0, none⟩) (l.length + 1) c') (l.length + 1) (xs ++ cs.toList))
    (hg4 : (W.alloc (.cells cs 42)).grownBy w4 v.ownBlock) (hat : v.ownBlock = some g' ∨ g' = (W.alloc (.cells cs 42)).heap.size) :
    Blk Q #[v] 24 w4 ∧ GW b g cap ts s w Q (l ++ [x]) (.slice (some ⟨g', 0, none⟩) (l.length + 1) c') (w4.setCell ⟨Q, 0, none⟩ (.slice (some ⟨g', 0, none⟩) (l.length + 1) c')) := by
  have h1 := h.lt
  have h2 := h.bq
  have h3 := h.gl
  have h4 := h.gq
  have hat' : (Value.slice (some ⟨g', 0, none⟩) (l.length + 1) c').ownBlock = v.ownBlock ∨ (Value.slice (some ⟨g', 0, none⟩) (l.length + 1) c').ownBlock = some (W.alloc (.cells cs 42)).heap.size := by
    rcases hat with e | e
    · exact Or.inl e.symm
    · exact Or.inr (congrArg some e)
  obtain ⟨q1, q2, -⟩ := RMid.snoc (C := FuC) (Cs := FusC) FusC_st FuC_st (fun h l xs => FusC_snoc h l xs) (by omega) (by omega) h.rw ho hxs hx hD hvD ho4 hg4 hat'
  have hbA : Below W.heap.size W (W.alloc (.cells cs 42)) := (Below.refl _ _).alloc (Nat.le_refl _) _
  have hA := h.below hbA
  have hv : ∀ j, v.ownBlock = some j → Q + 1 ≤ j := fun j e => (ho.lt j e).1
  have hne : ∀ j, j ≤ Q → some j ≠ v.ownBlock := fun j hj e => by have := hv j e.symm; omega
  have hbox : Blk Q #[v] 24 w4 := hA.box.other hg4 (hne Q (Nat.le_refl _))
  refine ⟨hbox, ?_⟩
  have hg : w4.grownBy (w4.setCell ⟨Q, 0, none⟩ (.slice (some ⟨g', 0, none⟩) (l.length + 1) c')) (some Q) := Lib.grownBy_setCell _ _ _ _
  have hb4 : Below w.heap.size w w4 := hA.bel.grown hg4 hA.bel.size (fun k e => by have := hv k e; omega)
  exact ⟨hb4.grown hg hb4.size (fun k e => by cases e; omega), (hA.res.other hg4 (hne _ (by omega))).other hg (by simp; omega), hbox.set 0 _, q1.keep FusC_st (b := Q) (by omega) hg, q2.other hg (by simp; omega) (by simp; omega), h1, h2, h3, h4⟩
end
/-- What holds ahead of each function. -/
def GRel (b g cap : Nat) (ts : List Tok) (w : World) (Q : Nat) (L : List Fu) (sE : RdS) (F : Nat) (gk : Nat) (v : Value) (W : World) : Prop :=
  ∃ (l0 : List Fu) (s1 : RdS) (a : Option Addr) (c : Nat), gk ≤ F ∧ GW b g cap ts s1 w Q l0 (.slice a l0.length c) W ∧ ((v = .bool true ∧ s1.e = 0 ∧ fnsM ts gk l0 s1 = some (L, sE)) ∨ (v = .bool false ∧ fnsT ts gk l0 s1 = some (L, sE)))

set_option maxRecDepth 100000 in
set_option maxHeartbeats 4000000 in
theorem refParse_any (s : ByteArray) (hs : s.size ≤ 9223372036854775806) (w : World) : Calls Tryz.prog 10 #[.string s] w (ParsePost w (parseR (Bs s))) := by
  obtain ⟨W, hW⟩ : ∃ W, W = w.alloc (.cells zProg 24) := ⟨_, rfl⟩
  have hbW : Below w.heap.size w W := by rw [hW]; exact (Below.refl _ _).alloc (Nat.le_refl _) _
  have hzW : Blk w.heap.size zProg 24 W := by rw [hW]; exact Blk.new _ _ _
  have HS := Lib.hid (refScan_any s hs W)
  have HH := Lib.hid (And.intro hbW hzW)
  have HWW := Lib.hid hW
  cases hsc : Lx.scan (Bs s) with
  | error pn =>
    obtain ⟨p, n⟩ := pn
    have hn := scan_err hsc
    have HP := Lib.hid (show parseR (Bs s) = .error (p, n) by unfold parseR; rw [hsc])
    have HSC := Lib.hid hsc
    have hnb : ((n : Int) != 0) = true := by simp; omega
    clear hsc hW hbW hzW hn
    go_enter Tryz.func10, Tryz.ntmps10
    go_wp2_with fail
    rw [← HWW.out]
    refine HS.out.mono ?_
    rintro e w1 ⟨hb1, h1⟩
    rw [HSC.out] at h1
    obtain rfl : e = .returned (.tuple #[.slice none 0 0, .int .i64 (p : Int), .int .i64 (n : Int)]) := h1
    have hz1 := HH.out.2.below hb1 HH.out.2.lt
    have c0 := hz1.get 0 _ rfl
    have e0 := hz1.free 0
    obtain ⟨U, hU⟩ : ∃ U, U = w1.setCell ⟨w.heap.size, 0, none⟩ (.slice none 0 0) := ⟨_, rfl⟩
    have hzU : Blk w.heap.size zProg 24 U := by rw [hU]; exact hz1.set 0 _
    have hbU : Below w.heap.size w U := by
      have h := HH.out.1.trans (hb1.mono HH.out.1.size)
      rw [hU]
      exact h.grown (Lib.grownBy_setCell _ _ _ _) h.size (fun k e => by cases e; omega)
    have FIN := Lib.hid (show ParsePost w (parseR (Bs s)) (.returned (.tuple #[.agg #[.slice none 0 0], .int .i64 (p : Int), .int .i64 (n : Int)])) U from ⟨hbU, by rw [HP.out]⟩)
    have y0 := hzU.get 0 _ rfl
    have HU := Lib.hid hU
    clear hb1 hz1 hU hzU hbU HS HH HWW
    go_wp2
    rw [← HU.out]
    clear c0 e0
    exact bodyPost_ret (v := .tuple #[.agg #[.slice none 0 0], .int .i64 (p : Int), .int .i64 (n : Int)]) (by simp [results, Tryz.results10, go_sem, y0]) rfl FIN.out
  | ok ts =>
    obtain ⟨hl0, hl1, hfin⟩ := scan_wf hsc
    have hend : EndT ts := (scan_ok hsc).1.end
    obtain ⟨F, hF⟩ := ref_reads hsc hfin hl0 hl1
    have hP : parseR (Bs s) = fusF ts (fuel ts) [] ⟨0, 0, 0⟩ := by unfold parseR; rw [hsc]
    have hx : ∃ (L : List Fu) (sE : RdS), fnsM ts F [] ⟨0, 0, 0, 0, 0⟩ = some (L, sE) ∧ ((sE.e = 0 ∧ ∃ s', parseR (Bs s) = .ok (L, s')) ∨ (sE.e ≠ 0 ∧ parseR (Bs s) = .error (sE.pl, sE.e))) := by
      rw [hP]
      cases hr : fusF ts (fuel ts) [] ⟨0, 0, 0⟩ with
      | error pn =>
        rw [hr] at hF
        obtain ⟨h1, y, s', h2, h3, h4⟩ := hF (fusF_n99 hend hl0 hr)
        exact ⟨y, s', h2, Or.inr ⟨by rw [h4]; exact h1, by rw [h3, h4]⟩⟩
      | ok q =>
        obtain ⟨L, s'⟩ := q
        rw [hr] at hF
        exact ⟨L, inj s', hF.1, Or.inl ⟨rfl, s', rfl⟩⟩
    obtain ⟨L, sE, hm, hres⟩ := hx
    have HRES := Lib.hid hres
    have HM := Lib.hid hm
    have HSC := Lib.hid hsc
    obtain ⟨i0, hi, hz0, hz1, hz2⟩ := info_parts Tryz.infoFu
    have hf0 := fTok0
    clear hsc hW hbW hzW hfin hend hF hP hm hres
    go_enter Tryz.func10, Tryz.ntmps10
    go_wp2_with fail
    rw [← HWW.out]
    refine HS.out.mono ?_
    rintro e w1 ⟨hb1, h1⟩
    rw [HSC.out] at h1
    obtain ⟨v, rfl, ho⟩ := h1
    have hv : ∃ g cap, v = .slice (some ⟨g, 0, none⟩) ts.length cap := by
      rcases ho.2 with ⟨_, h⟩ | ⟨g, cap, cur, rfl, _⟩
      · omega
      · exact ⟨g, cap, rfl⟩
    obtain ⟨g, cap, rfl⟩ := hv
    obtain ⟨V, hV⟩ : ∃ V, V = (w1.alloc (.cells #[.slice (some ⟨g, 0, none⟩) ts.length cap, .int .i64 0, .int .i64 0, .int .i64 0, .int .i64 0, .int .i64 0] 70)).alloc (.cells zProg 24) := ⟨_, rfl⟩
    have hbV : Below w1.heap.size w1 V := by rw [hV]; exact ((Below.refl _ _).alloc (Nat.le_refl _) _).alloc (by simp) _
    obtain ⟨hg0, hgl⟩ := ho.lt g rfl
    have hsz := HH.out.2.lt
    have hs1 := hb1.size
    have hrw : RW w1.heap.size g cap ts ⟨0, 0, 0, 0, 0⟩ V :=
      ⟨by rw [hV]; exact blk_alloc (Blk.new _ _ _) _, (toks_own ho).stays (Nat.lt_of_lt_of_le hgl hbV.size) (hbV.block g hgl), by omega, hl1⟩
    have hG : GW w1.heap.size g cap ts ⟨0, 0, 0, 0, 0⟩ w (w1.heap.size + 1) [] (.slice none 0 0) V :=
      ⟨(HH.out.1.trans (hb1.mono HH.out.1.size)).trans (hbV.mono (Nat.le_trans HH.out.1.size hs1)), (HH.out.2.below hb1 hsz).below hbV (by omega), by rw [hV]; exact Blk.new' _ _ _ (by simp), ⟨[], World.ownsRow_nil _ _ _ _, rfl⟩, hrw, by omega, by omega, by omega, by omega⟩
    have HREL := Lib.hid (show GRel w1.heap.size g cap ts w (w1.heap.size + 1) L sE F F (.bool true) V from ⟨[], ⟨0, 0, 0, 0, 0⟩, none, 0, Nat.le_refl _, hG, Or.inl ⟨rfl, rfl, HM.out⟩⟩)
    have HVV := Lib.hid hV
    clear hb1 ho hV hbV hg0 hgl hsz hs1 hrw hG HS HH HWW HSC HM hl0 hl1
    go_upto_region 6 with (fail)
    rw [← HVV.out]
    clear HVV
    generalize hbq : w1.heap.size + 1 = Q at *
    generalize w1.heap.size = b at *
    clear hbq
    go_wp2_with fail
    go_loopg [10] F (fun gk v wr => GRel b g cap ts w Q L sE F gk v wr)
    case atStart => exact HREL.out
    case round =>
      clear HREL
      obtain ⟨l0, s1, a, c, hgk, hG, hcs⟩ := hrel
      have HG := Lib.hid hG
      have HCS := Lib.hid hcs
      have p5 := hG.rw.c5
      clear hG hcs
      go_upto_region 7 with (fail)
      go_cut [38] from 25 to 39 (fun q W => ∃ u : Bool, q = .bool u ∧ GW b g cap ts s1 w Q l0 (.slice a l0.length c) W ∧ (u = true → s1.e = 0 ∧ fnsM ts gk l0 s1 = some (L, sE)) ∧ (u = false → l0 = L ∧ s1 = sE))
      case first =>
        rcases HCS.out with ⟨rfl, he, hm⟩ | ⟨rfl, hm⟩
        · have he' : ((s1.e : Int) == 0) = true := by simp [he]
          have HX := Lib.hid (And.intro he hm)
          clear he hm HCS
          go_wp2_with fail
          go_meet
          case rel => exact ⟨true, rfl, HG.out, fun _ => HX.out, fun h => by cases h⟩
        · unfold fnsT at hm
          by_cases he : s1.e = 0
          · rw [if_pos he] at hm
            have he' : ((s1.e : Int) == 0) = true := by simp [he]
            obtain ⟨t, s2, h1, h2⟩ := bindO_inv hm
            obtain ⟨rfl, _⟩ := nowM_inv h1
            have HN := Lib.hid (now_w b g cap ts s2 s2 t wr HG.out.rw h1)
            have HX := Lib.hid (And.intro he h2)
            clear he hm h1 h2 HCS
            obtain ⟨tk, tp, tt, tn⟩ := t
            go_wp2_with fail
            refine HN.out.mono ?_
            rintro e w3 ⟨rfl, hb3⟩
            have HG3 := Lib.hid (HG.out.below hb3)
            clear hb3
            unfold tokV'
            by_cases hk : tk = 0
            · have hkb : ((tk : Int) != 0) = false := by simp [hk]
              have HX2 := Lib.hid (show l0 = L ∧ s2 = sE by
                have h2 := HX.out.2
                rw [if_pos (show (⟨tk, tp, tt, tn⟩ : Tok).kind = 0 from hk)] at h2
                exact Prod.mk.inj (Option.some.inj h2))
              clear hk
              go_wp2_with fail
              go_meet
              case rel => exact ⟨false, rfl, HG3.out, (fun h => by cases h), fun _ => HX2.out⟩
            · have hkb : ((tk : Int) != 0) = true := by simp; omega
              have HX2 := Lib.hid (show fnsM ts gk l0 s2 = some (L, sE) by
                have h2 := HX.out.2
                rw [if_neg (show ¬ (⟨tk, tp, tt, tn⟩ : Tok).kind = 0 from hk)] at h2
                exact h2)
              clear hk
              go_wp2_with fail
              go_meet
              case rel => exact ⟨true, rfl, HG3.out, (fun _ => ⟨HX.out.1, HX2.out⟩), fun h => by cases h⟩
          · rw [if_neg he] at hm
            have he' : ((s1.e : Int) == 0) = false := by simp; omega
            have HX := Lib.hid (Prod.mk.inj (Option.some.inj hm))
            clear he hm HCS
            go_wp2_with fail
            go_meet
            case rel => exact ⟨false, rfl, HG.out, (fun h => by cases h), fun _ => HX.out⟩
      case rest =>
        obtain ⟨u, rfl, hG3, hT, hF3⟩ := hcut
        have HG3 := Lib.hid hG3
        have HT := Lib.hid hT
        have HF3 := Lib.hid hF3
        clear hG3 hT hF3 HG HCS p5
        cases u with
        | false =>
          obtain ⟨h1, h2⟩ := HF3.out rfl
          subst h1 h2
          clear HF3 HT
          have p5 := HG3.out.rw.c5
          have p4 := HG3.out.rw.c4
          have z0 := HG3.out.res.get 0 (.slice none 0 0) rfl
          have f0 := HG3.out.res.free 0
          rcases HRES.out with ⟨he, s', hp⟩ | ⟨he, hp⟩
          · have he' : ((s1.e : Int) != 0) = false := by simp [he]
            obtain ⟨U, hU⟩ : ∃ U, U = wc.setCell ⟨w.heap.size, 0, none⟩ (.slice a l0.length c) := ⟨_, rfl⟩
            have hUb : Blk w.heap.size #[.slice a l0.length c] 24 U := by rw [hU]; exact HG3.out.res.set 0 _
            have hgU : wc.grownBy U (some w.heap.size) := by rw [hU]; exact Lib.grownBy_setCell _ _ _ _
            have h1 := HG3.out.lt
            have h2 := HG3.out.bq
            have FIN := Lib.hid (show ParsePost w (parseR (Bs s)) (.returned (.tuple #[.agg #[.slice a l0.length c], .int .i64 0, .int .i64 0])) U from ⟨HG3.out.bel.grown hgU HG3.out.bel.size (fun k e => by cases e; omega), by
              rw [hp]
              exact ⟨a, l0.length, c, rfl, FuRow.stays (stays_of_grown hgU fun k hk => ⟨by omega, by omega⟩) (HG3.out.row.row FusC_st)⟩⟩)
            have q0 := HG3.out.box.get 0 (.slice a l0.length c) rfl
            have y0 := hUb.get 0 _ rfl
            have HU := Lib.hid hU
            clear hU hUb hgU h1 h2 he hp
            go_wp2
            rw [← HU.out]
            clear z0 f0 q0 p4 p5
            exact bodyPost_ret (v := .tuple #[.agg #[.slice a l0.length c], .int .i64 0, .int .i64 0]) (by simp [results, Tryz.results10, go_sem, y0]) rfl FIN.out
          · have he' : ((s1.e : Int) != 0) = true := by simp; omega
            obtain ⟨U, hU⟩ : ∃ U, U = (wc.setCell ⟨w.heap.size, 0, none⟩ (.slice none 0 0)).drew := ⟨_, rfl⟩
            have hUb : Blk w.heap.size #[.slice none 0 0] 24 U := by rw [hU]; exact HG3.out.res.set 0 _
            have hbU : Below w.heap.size w U := by
              rw [hU]
              exact (HG3.out.bel.grown (Lib.grownBy_setCell _ _ _ _) HG3.out.bel.size (fun k e => by cases e; omega)).drew
            have FIN := Lib.hid (show ParsePost w (parseR (Bs s)) (.returned (.tuple #[.agg #[.slice none 0 0], .int .i64 (s1.pl : Int), .int .i64 (s1.e : Int)])) U from ⟨hbU, by rw [hp]⟩)
            have y0 := hUb.get 0 _ rfl
            have HU := Lib.hid hU
            have hzb := HG3.out.lt
            have hzb' : ¬ b = w.heap.size := by omega
            clear hU hUb hbU he hp
            go_upto_region 11 with (fail)
            go_region
            all_goals (go_wp2_with fail; rw [← HU.out]; exact bodyPost_ret (v := .tuple #[.agg #[.slice none 0 0], .int .i64 (s1.pl : Int), .int .i64 (s1.e : Int)]) (by simp [results, Tryz.results10, go_sem, y0]) rfl FIN.out)
        | true =>
          obtain ⟨he, hm⟩ := HT.out rfl
          clear HT HF3 he
          match gk, hgk, hm with
          | 0, _, hm => rw [fnsM] at hm; cases hm
          | gk + 1, hgk, hm =>
            rw [fnsM_succ] at hm
            by_cases hlen : 100000 ≤ l0.length
            · rw [if_pos hlen] at hm; cases hm
            · rw [if_neg hlen] at hm
              obtain ⟨x, s3, h3, h4⟩ := bindO_inv hm
              have HK := Lib.hid h4
              have HGF := Lib.hid (show gk ≤ F by omega)
              have HLB := Lib.hid (And.intro (show l0.length + 1 ≤ maxLen by unfold maxLen; omega) (show (l0.length + 1) * 80 ≤ 140737488355328 by omega))
              clear hm h4 hlen hgk
              go_upto_region 9 with (fail)
              have c6 := HG3.out.box.get 0 (.slice a l0.length c) rfl
              have hS : (fun w' : World => w'.cell? ⟨Q, 0, none⟩ = some (.slice a l0.length c)) wc.drew := c6
              have hwd : Below wc.heap.size wc wc.drew := (Below.refl _ _).drew
              have HSD := Lib.hid (HG3.out.below hwd)
              have HC := Lib.hid (fn_w gk b g cap ts s1 x s3 wc.drew HSD.out.rw h3)
              clear hwd h3
              refine wp_region_dep (S := fun w' => w'.cell? ⟨Q, 0, none⟩ = some (.slice a l0.length c)) (dep := [6, 7]) (by kernel_rfl) ?_
              change wpAnyD _ _ _ _ _ _ _ _ _ (World.drew _)
              refine wpAnyD_take (i := 0) (v := ?_) rfl (by kernel_rfl) (by kernel_rfl) (by kernel_rfl) (by kernel_rfl) (by kernel_rfl) (fun _ _ _ h => h) hS (Or.inl ⟨by rfl, ?_⟩) ?_
              rotate_left
              · intro w hSw; go_simp
                try with_reducible rfl
              try simp only [Act.put, List.setIfInBounds_toArray, List.set_cons_zero, List.set_cons_succ]
              refine wpAnyD_take (i := 1) (v := ?_) rfl (by kernel_rfl) (by kernel_rfl) (by kernel_rfl) (by kernel_rfl) (by kernel_rfl) (fun _ _ _ h => h) hS (Or.inl ⟨by rfl, ?_⟩) ?_
              rotate_left
              · intro w hSw; go_simp
                try with_reducible rfl
              try simp only [Act.put, List.setIfInBounds_toArray, List.set_cons_zero, List.set_cons_succ]
              refine wpAnyD_take (i := 2) (v := ?_) rfl (by kernel_rfl) (by kernel_rfl) (by kernel_rfl) (by kernel_rfl) (by kernel_rfl) (fun _ _ _ h => h) hS (Or.inl ⟨by rfl, ?_⟩) ?_
              rotate_left
              · intro w hSw; go_simp
                try with_reducible rfl
              try simp only [Act.put, List.setIfInBounds_toArray, List.set_cons_zero, List.set_cons_succ]
              clear hS c6
              refine wpAnyD_one (i := 3) rfl (by kernel_rfl) rfl (fun K hK => ?_)
              go_simp
              refine HC.out.mono ?_
              rintro e w7 ⟨nm, y, pos, a1, m1, c1, a2, m2, c2, rfl, hx, hg, hr⟩
              have HCC7 := Lib.hid (HSD.out.call hg hr)
              have hDM : Q + 1 ≤ wc.drew.heap.size := HSD.out.ltW
              obtain ⟨xs, ho, hxs⟩ := HCC7.out.row
              have hvD : ∀ h, (Value.slice a l0.length c).ownBlock = some h → h < wc.drew.heap.size := by
                obtain ⟨xs', ho', _⟩ := HSD.out.row
                intro h e
                exact (ho'.lt h e).2
              have HA := Lib.hid fun g' c' w4 ho4 hg4 hat => HCC7.out.app (g' := g') (c' := c') (w4 := w4) hDM hvD hx ho hxs ho4 hg4 hat
              have HO := Lib.hid (ho.alloc (.cells (fuCells nm (.slice a1 m1 c1) (.int .u8 (y : Int)) (.slice a2 m2 c2) pos) 42))
              have hbZ : Below w7.heap.size w7 (w7.alloc (.cells (fuCells nm (.slice a1 m1 c1) (.int .u8 (y : Int)) (.slice a2 m2 c2) pos) 42)) := (Below.refl _ _).alloc (Nat.le_refl _) _
              have HTOP := Lib.hid (show Q + 1 ≤ (w7.alloc (.cells (fuCells nm (.slice a1 m1 c1) (.int .u8 (y : Int)) (.slice a2 m2 c2) pos) 42)).heap.size by have := hg.size; simp; omega)
              have c6 := HCC7.out.box.get 0 (.slice a l0.length c) rfl
              have c6' := (HCC7.out.below hbZ).box.get 0 (.slice a l0.length c) rfl
              clear ho hxs hvD hDM hx hg hr hbZ HC HSD HCC7 HG3
              refine hK _ _ (Or.inr c6) ?_
              clear hK K
              try simp only [Act.put, List.setIfInBounds_toArray, List.set_cons_zero, List.set_cons_succ]
              refine wpAnyD_one (i := 4) rfl (by kernel_rfl) rfl (fun K hK => ?_)
              go_simp
              refine hK _ _ (Or.inr c6') ?_
              clear hK K c6 c6'
              try simp only [Act.put, List.setIfInBounds_toArray, List.set_cons_zero, List.set_cons_succ]
              refine wpAnyD_one (i := 5) rfl (by kernel_rfl) rfl (fun K hK => ?_)
              refine wp_append_lies _ (.tmp 40) (.tmp 43) 22 rfl (Q + 1) 42 i0 _ 5 80 Tryz.underlying22 hi hz0 hz1 hz2 rfl (by omega) (.slice a l0.length c) l0.length xs rfl HO.out ⟨w7.heap.size, 0, none⟩ 1 1 (fuCells nm (.slice a1 m1 c1) (.int .u8 (y : Int)) (.slice a2 m2 c2) pos).toList rfl rfl (World.news_of_block (heap_alloc_new w7 _)) (fu_one nm a1 m1 c1 y pos a2 m2 c2) (by omega) HLB.out.1 HLB.out.2 HTOP.out _ rfl ?_
              intro gg cg w9 hown hgrow hat hlt9
              have HF := Lib.hid (HA.out gg cg w9 hown hgrow hat)
              clear hown hgrow hat hlt9 HA HO HTOP
              refine hK _ _ (Or.inr (HF.out.1.get 0 (.slice a l0.length c) rfl)) ?_
              clear hK K
              try simp only [Act.put, List.setIfInBounds_toArray, List.set_cons_zero, List.set_cons_succ]
              refine wpAnyD_free (i := 6) (v := ?_) rfl (by kernel_rfl) (by kernel_rfl) (by kernel_rfl) (by kernel_rfl) (fun _ _ _ h => h) (Or.inl ⟨by rfl, ?_⟩) ?_
              rotate_left
              · intro w hSw; clear hSw; go_simp
                try with_reducible rfl
              try simp only [Act.put, List.setIfInBounds_toArray, List.set_cons_zero, List.set_cons_succ]
              have c6 := HF.out.1.get 0 (.slice a l0.length c) rfl
              have k6 := HF.out.1.free 0
              refine wpAnyD_one (i := 7) rfl (by kernel_rfl) rfl (fun K hK => ?_)
              go_simp
              refine hK _ _ (Or.inl rfl) ?_
              clear hK K
              try simp only [Act.put, List.setIfInBounds_toArray, List.set_cons_zero, List.set_cons_succ]
              refine wpAnyD_done (by kernel_rfl) ?_ _
              clear c6 k6
              obtain ⟨Z, hZ⟩ : ∃ Z, Z = w9.setCell ⟨Q, 0, none⟩ (.slice (some ⟨gg, 0, none⟩) (l0.length + 1) cg) := ⟨_, rfl⟩
              have HREL := Lib.hid (show GRel b g cap ts w Q L sE F gk (.bool false) Z from ⟨l0 ++ [x], s3, some ⟨gg, 0, none⟩, cg, HGF.out, by rw [hZ, List.length_append]; exact HF.out.2, Or.inr ⟨rfl, HK.out⟩⟩)
              rw [← hZ]
              clear hZ HF
              go_wp2
              go_roundg gk
              case measure => omega
              case rel => exact HREL.out
end Go.Proofs.YtcgllooeimacdaaGreatDoor

/-! TreeParses: the program's parser and the reference's own come to the same. -/

namespace Go.Proofs.YtcgllooeimacdaaGreatDoor
open Go Go.RowKit Px
open Lx (Tok)

theorem par_both {w w' : World} {r : R (List Fu)} {e : Ending} (h : ParsePost w r e w') : ∃ (L : List Fu) (a : Option Addr) (m c p n : Nat), e = .returned (.tuple #[.agg #[.slice a m c], .int .i64 (p : Int), .int .i64 (n : Int)]) ∧ Below w.heap.size w w' ∧ FuRow w' ok0 L (.slice a m c) ∧
    ((r = .error (p, n) ∧ L = []) ∨ ∃ s', r = .ok (L, s') ∧ p = 0 ∧ n = 0) := by
  obtain ⟨hb, h⟩ := h
  cases r with
  | error pn =>
    obtain ⟨p, n⟩ := pn
    exact ⟨[], none, 0, 0, p, n, h, hb, Or.inl ⟨rfl, rfl⟩, Or.inl ⟨rfl, rfl⟩⟩
  | ok q =>
    obtain ⟨L, s'⟩ := q
    obtain ⟨a, m, c, he, hrow⟩ := h
    exact ⟨L, a, m, c, 0, 0, he, hb, hrow.stays (stays_weaken fun _ _ _ => trivial), Or.inr ⟨s', rfl, rfl, rfl⟩⟩
theorem par_agree {r : R (List Fu)} {L L' : List Fu} {p p' n n' : Nat} (h : (r = .error (p, n) ∧ L = []) ∨ ∃ s', r = .ok (L, s') ∧ p = 0 ∧ n = 0) (h' : (r = .error (p', n') ∧ L' = []) ∨ ∃ s', r = .ok (L', s') ∧ p' = 0 ∧ n' = 0) : L' = L ∧ p' = p ∧ n' = n := by
  rcases h with ⟨e, rfl⟩ | ⟨s, e, rfl, rfl⟩
  · rcases h' with ⟨e', rfl⟩ | ⟨s', e', rfl, rfl⟩
    · rw [e] at e'; cases e'; exact ⟨rfl, rfl, rfl⟩
    · rw [e] at e'; cases e'
  · rcases h' with ⟨e', rfl⟩ | ⟨s', e', rfl, rfl⟩
    · rw [e] at e'; cases e'
    · rw [e] at e'; cases e'; exact ⟨rfl, rfl, rfl⟩

set_option maxRecDepth 100000 in
set_option maxHeartbeats 2000000 in
theorem treeParses_any (s : ByteArray) (hs : s.size ≤ 9223372036854775806) (w : World) (hT : Tabs w.heap.size w) : Calls Tryz.prog 3 #[.string s] w fun e w' => e = .returned (.bool true) ∧ Below w.heap.size w w' := by
  have HT := Lib.hid hT
  have HP := Lib.hid (treeParse_any s hs w hT)
  have HRP := Lib.hid fun w1 => refParse_any s hs w1
  clear hT
  go_enter Tryz.func3, Tryz.ntmps3
  go_wp2_with fail
  refine HP.out.mono ?_
  rintro e w1 h1
  obtain ⟨L, a, m, c, p, n, rfl, hb1, hrow1, hc1⟩ := par_both h1
  obtain ⟨V, hV⟩ : ∃ V, V = w1.alloc (.cells #[.slice a m c] 24) := ⟨_, rfl⟩
  have hbV : Below w1.heap.size w1 V := by rw [hV]; exact (Below.refl _ _).alloc (Nat.le_refl _) _
  have H1 := Lib.hid (And.intro (hb1.trans (hbV.mono hb1.size)) (And.intro (show Blk w1.heap.size #[.slice a m c] 24 V by rw [hV]; exact Blk.new _ _ _) (And.intro (FuRow.stays (ok0_stays hbV) hrow1) hc1)))
  have HVV := Lib.hid hV
  have HR := Lib.hid (HRP.out V)
  clear h1 hb1 hrow1 hc1 hV hbV
  go_upto_region 2 with (fail)
  rw [← HVV.out]
  clear HVV
  go_wp2_with fail
  refine HR.out.mono ?_
  rintro e w2 h2
  obtain ⟨L', a', m', c', p', n', rfl, hb2, hrow2, hc2⟩ := par_both h2
  obtain ⟨rfl, rfl, rfl⟩ := par_agree H1.out.2.2.2 hc2
  obtain ⟨U, hU⟩ : ∃ U, U = w2.alloc (.cells #[.slice a' m' c'] 24) := ⟨_, rfl⟩
  have hbU : Below w2.heap.size w2 U := by rw [hU]; exact (Below.refl _ _).alloc (Nat.le_refl _) _
  have hb2U : Below V.heap.size V U := hb2.trans (hbU.mono hb2.size)
  have H2 := Lib.hid (And.intro (H1.out.1.trans (hb2U.mono H1.out.1.size)) (And.intro (H1.out.2.1.below hb2U H1.out.2.1.lt) (And.intro (show Blk w2.heap.size #[.slice a' m' c'] 24 U by rw [hU]; exact Blk.new _ _ _) (And.intro (FuRow.stays (ok0_stays hb2U) H1.out.2.2.1) (FuRow.stays (ok0_stays hbU) hrow2)))))
  have HUU := Lib.hid hU
  have HA := Lib.hid (awake_tree U ((HT.out.below H2.out.1).mono H2.out.1.size))
  clear h2 hb2 hrow2 hc2 hU hbU hb2U H1
  go_upto_region 3 with (fail)
  rw [← HUU.out]
  clear HUU
  go_wp2_with fail
  refine HA.out.mono ?_
  rintro e w3 ⟨rfl, hb3⟩
  have hkA := H2.out.2.1.below hb3 H2.out.2.1.lt
  have hkB := H2.out.2.2.1.below hb3 H2.out.2.2.1.lt
  have HS := Lib.hid (same_any true L' L' a a' m m' c c' w3 ⟨rfl, fun _ => rfl⟩ (FuRow.stays (ok0_stays hb3) H2.out.2.2.2.1) (FuRow.stays (ok0_stays hb3) H2.out.2.2.2.2))
  have HB3 := Lib.hid (H2.out.1.trans (hb3.mono H2.out.1.size))
  have c1 := hkA.get 0 _ rfl
  have c2 := hkB.get 0 _ rfl
  have e1 : ((p' : Int) == (p' : Int)) = true := by simp
  have e2 : ((n' : Int) == (n' : Int)) = true := by simp
  clear hb3 hkA hkB
  go_wp2_with fail
  refine HS.out.mono ?_
  rintro e w4 ⟨rfl, hb4⟩
  have HB4 := Lib.hid (HB3.out.trans (hb4.mono HB3.out.size))
  clear hb4
  go_wp2
  go_ret
  exact ⟨rfl, HB4.out⟩
end Go.Proofs.YtcgllooeimacdaaGreatDoor
