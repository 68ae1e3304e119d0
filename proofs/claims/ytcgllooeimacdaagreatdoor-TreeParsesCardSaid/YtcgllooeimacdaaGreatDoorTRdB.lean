/-
  Joined: TRdU, TRdL, TRdT, TRdB.
-/
import Derived.Test.YtcgllooeimacdaaGreatDoorTRdX
/-! The reference's reader in memory: expressions of one. -/

namespace Go.Proofs.YtcgllooeimacdaaGreatDoor
open Go Go.RowKit Px
open Lx (Tok)

theorem blk_alloc {b : Nat} {cs : Array Value} {T : TypeId} {w : World} (h : Blk b cs T w) (o : Obj) : Blk b cs T (w.alloc o) := h.below (B := w.heap.size) ((Below.refl _ _).alloc (Nat.le_refl _) o) h.lt
/-- The boxes of an expression of one: the result's, the token's, that of what is being made. -/
structure UW (b g cap : Nat) (ts : List Tok) (s : RdS) (w : World) (M : Nat) (t : Tok) (cs : Array Value) (W : World) : Prop where
  grown : w.grownBy W (some b)
  res : Blk w.heap.size zEx 36 W
  tok : Blk M #[.int .u8 (t.kind : Int), .int .i64 (t.pos : Int), .string ⟨t.text.toArray⟩, .int .i64 (t.num : Int)] 55 W
  box : Blk (M + 1) cs 36 W
  rw : RW b g cap ts s W
  lt : w.heap.size < M
  bl : b < w.heap.size
  gl : g < w.heap.size
section
variable {b g cap : Nat} {ts : List Tok} {s s' : RdS} {w W W' : World} {M : Nat} {t : Tok} {cs : Array Value}
theorem UW.below (h : UW b g cap ts s w M t cs W) (hb : Below W.heap.size W W') : UW b g cap ts s w M t cs W' :=
  ⟨gtrans h.grown (grown_of_below hb), h.res.below hb h.res.lt, h.tok.below hb h.tok.lt, h.box.below hb h.box.lt, h.rw.below hb, h.lt, h.bl, h.gl⟩
theorem UW.call (h : UW b g cap ts s w M t cs W) (hg : W.grownBy W' (some b)) (hr : RW b g cap ts s' W') : UW b g cap ts s' w M t cs W' :=
  ⟨gtrans h.grown hg, h.res.other hg (by have := h.bl; simp; omega), h.tok.other hg (by have := h.bl; have := h.lt; simp; omega), h.box.other hg (by have := h.bl; have := h.lt; simp; omega), hr, h.lt, h.bl, h.gl⟩
theorem UW.put (h : UW b g cap ts s w M t cs W) (j : Nat) (u : Value) : UW b g cap ts s w M t (cs.setIfInBounds j u) (W.setCell ⟨M + 1, j, none⟩ u) := by
  have hg : W.grownBy (W.setCell ⟨M + 1, j, none⟩ u) (some (M + 1)) := Lib.grownBy_setCell _ _ _ _
  have h1 := h.lt
  have h2 := h.bl
  have h3 := h.gl
  exact ⟨gnew h.grown (by omega) hg, h.res.other hg (by simp; omega), h.tok.other hg (by simp), h.box.set j u, h.rw.other hg (by simp; omega) (by simp; omega), h1, h2, h3⟩
theorem UW.grown1 (M j : Nat) (u : Value) (W : World) : W.grownBy (W.setCell ⟨M + 1, j, none⟩ u) (some (M + 1)) := Lib.grownBy_setCell _ _ _ _
theorem UW.ltW (h : UW b g cap ts s w M t cs W) : M + 1 < W.heap.size := h.box.lt
end
/-- A token that doesn't come moves nothing on. -/
theorem has_false {ts : List Tok} {x : Bytes} {s s' : RdS} (h : hasM ts x s = some (false, s')) : s'.i = s.i := by
  unfold hasM at h
  obtain ⟨v, s1, h1, h2⟩ := bindO_inv h
  obtain ⟨rfl, _⟩ := isM_inv h1
  cases v with
  | false => rw [if_pos rfl] at h2; cases h2; rfl
  | true =>
    rw [if_neg (by decide)] at h2
    obtain ⟨⟨⟩, s2, h3, h4⟩ := bindO_inv h2
    obtain ⟨h5, rfl⟩ := Prod.mk.inj (Option.some.inj h4)
    have he : s2.e ≠ 0 := by simpa using h5
    have h0 := (isM_true h1).1
    have hfail : ∀ n, failM ts n s1 = some ((), s2) → s2.i = s1.i := fun n h => by
      unfold failM at h
      by_cases a : s1.e = 0
      · rw [if_pos a] at h
        by_cases c : s1.i < ts.length
        · rw [if_pos c] at h; cases h; rfl
        · rw [if_neg c] at h; cases h
      · rw [if_neg a] at h; cases h; rfl
    unfold skipM at h3
    rw [h1, bindO_some, if_neg (by decide)] at h3
    split at h3
    · split at h3
      · exact hfail _ h3
      · split at h3
        · cases h3; exact absurd h0 he
        · cases h3
    · split at h3
      · split at h3
        · cases h3; exact absurd h0 he
        · cases h3
      · cases h3; exact absurd h0 he
/-- A row of one expression in a new block. -/
theorem ex_row1 {w : World} {B : Nat} {x : Ex} {k op : Nat} {nm : Bytes} {n pos : Nat} {a : Option Addr} {m c : Nat} {G : Nat} (hG : B ≤ G) (hrow : Blk G (exCells k op nm n pos a m c) 36 w) (hx : ExC w (fun h => B ≤ h) x (exCells k op nm n pos a m c).toList) :
    ExRow w (fun h => B ≤ h) [x] (.slice (some ⟨G, 0, none⟩) 1 1) := by
  refine Or.inr ⟨G, 1, (exCells k op nm n pos a m c).toList, rfl, hG, ⟨rfl, Or.inr ⟨_, _, _, rfl, Nat.zero_le _, hrow, Nat.le_refl _, by decide, rfl, rfl⟩⟩, ?_⟩
  simp only [ExsC]
  exact ⟨_, [], by simp, hx, rfl⟩
theorem exc_of {w : World} {ok : Nat → Prop} {k op : Nat} {nm : Bytes} {n pos : Nat} {l : List Ex} {a : Option Addr} {m c : Nat} (h : ExRow w ok l (.slice a m c)) : ExC w ok (.mk k op nm n pos l) (exCells k op nm n pos a m c).toList := by
  simp only [ExC]
  exact ⟨_, rfl, h⟩
theorem exc_nil {w : World} {ok : Nat → Prop} {k op : Nat} {nm : Bytes} {n pos : Nat} : ExC w ok (.mk k op nm n pos []) (exCells k op nm n pos none 0 0).toList := exc_of (Or.inl ⟨rfl, rfl⟩)
/-- What one part that was read, laid into a new row, leaves. -/
theorem un_part {b g cap : Nat} {ts : List Tok} {s s3 : RdS} {w X w3 : World} {M : Nat} {t : Tok} {cs : Array Value} {x : Ex} {k op : Nat} {nm : Bytes} {n pos : Nat} {a : Option Addr} {m c : Nat} (h : UW b g cap ts s w M t cs X) (hx : ExC w3 (fun h => X.heap.size ≤ h) x (exCells k op nm n pos a m c).toList)
    (hg : X.grownBy w3 (some b)) (hr : RW b g cap ts s3 w3) :
    UW b g cap ts s3 w M t (cs.setIfInBounds 5 (.slice (some ⟨w3.heap.size + 1, 0, none⟩) 1 1)) (((w3.alloc (.cells (exCells k op nm n pos a m c) 36)).alloc (.cells (exCells k op nm n pos a m c) 36)).setCell ⟨M + 1, 5, none⟩ (.slice (some ⟨w3.heap.size + 1, 0, none⟩) 1 1)) ∧
    ExRow (((w3.alloc (.cells (exCells k op nm n pos a m c) 36)).alloc (.cells (exCells k op nm n pos a m c) 36)).setCell ⟨M + 1, 5, none⟩ (.slice (some ⟨w3.heap.size + 1, 0, none⟩) 1 1)) (fun h => w.heap.size < h) [x] (.slice (some ⟨w3.heap.size + 1, 0, none⟩) 1 1) := by
  have hMX := h.ltW
  have hXs := hg.size
  have hlt := h.lt
  have hbY : Below w3.heap.size w3 ((w3.alloc (.cells (exCells k op nm n pos a m c) 36)).alloc (.cells (exCells k op nm n pos a m c) 36)) := ((Below.refl _ _).alloc (Nat.le_refl _) _).alloc (by simp) _
  have hUY := (h.call hg hr).below hbY
  have hgs := UW.grown1 M 5 (.slice (some ⟨w3.heap.size + 1, 0, none⟩) 1 1) ((w3.alloc (.cells (exCells k op nm n pos a m c) 36)).alloc (.cells (exCells k op nm n pos a m c) 36))
  refine ⟨hUY.put 5 _, ?_⟩
  have hrow : Blk (w3.heap.size + 1) (exCells k op nm n pos a m c) 36 ((w3.alloc (.cells (exCells k op nm n pos a m c) 36)).alloc (.cells (exCells k op nm n pos a m c) 36)) := Blk.new' _ _ _ (by simp)
  have hxY := (hx.stays (keeps_below hbY)).stays (keeps_grown (B := X.heap.size) hgs (by omega))
  exact (ex_row1 (B := X.heap.size) (by omega) (hrow.other hgs (by simp; omega)) hxY).stays (stays_weaken fun h hh _ => by omega)

set_option maxRecDepth 100000 in
set_option maxHeartbeats 8000000 in
theorem unary_w {F : Nat} (hU : ∀ G, G ≤ F → UnaC G) (hL : ∀ G, G ≤ F → LevC G) (hP : ∀ G, G ≤ F → PlcC G) (hA : ∀ G, G ≤ F → ArgC G) : UnaC (F + 1) := by
  intro b g cap ts s x s' w hw h
  rw [unaryM] at h
  obtain ⟨t, s1, h1, h2⟩ := bindO_inv h
  obtain ⟨rfl, hn⟩ := nowM_inv h1
  have H2 := Lib.hid h2
  have HN0 := Lib.hid hn
  have hlen := hw.len
  have hbl := hw.lt
  have hgl := hw.toks.lt
  obtain ⟨W, hW⟩ : ∃ W, W = w.alloc ex0 := ⟨_, rfl⟩
  have hbW : Below w.heap.size w W := by rw [hW]; exact (Below.refl _ _).alloc (Nat.le_refl _) _
  have hz : Blk w.heap.size zEx 36 W := by rw [hW]; exact Blk.new _ _ _
  have HN := Lib.hid (now_w b g cap ts s1 s1 t W (hw.below hbW) h1)
  have HH := Lib.hid (And.intro hbW (And.intro hz (hw.below hbW)))
  have HWW := Lib.hid hW
  have HSG := Lib.hid refSigns_any
  have HUn := Lib.hid hU
  have HLv := Lib.hid hL
  have HPl := Lib.hid hP
  have HAr := Lib.hid hA
  clear h h1 h2 hn hw hbW hz hW hU hL hP hA
  obtain ⟨tk, tp, tt, tn⟩ := t
  go_enter Tryz.func89, Tryz.ntmps89
  go_wp2_with fail
  rw [← HWW.out]
  refine HN.out.mono ?_
  rintro e w1 ⟨rfl, hb1⟩
  unfold tokV'
  obtain ⟨V, hV⟩ : ∃ V, V = (w1.alloc (.cells #[.int .u8 (tk : Int), .int .i64 (tp : Int), .string ⟨tt.toArray⟩, .int .i64 (tn : Int)] 55)).alloc (.cells #[.int .u8 0, .int .u8 0, .string ⟨#[]⟩, .int .i64 0, .int .i64 (tp : Int), .slice none 0 0] 36) := ⟨_, rfl⟩
  have hbV : Below w1.heap.size w1 V := by rw [hV]; exact ((Below.refl _ _).alloc (Nat.le_refl _) _).alloc (by simp) _
  have hU0 : UW b g cap ts s1 w w1.heap.size ⟨tk, tp, tt, tn⟩ (exCells 0 0 [] 0 tp none 0 0) V := by
    have hM : w.heap.size < w1.heap.size := by have := hb1.size; have := HH.out.2.1.lt; omega
    refine ⟨gtrans (grown_of_below (HH.out.1.trans (hb1.mono HH.out.1.size))) (grown_of_below hbV), (HH.out.2.1.below hb1 HH.out.2.1.lt).below hbV hM, ?_, ?_, (HH.out.2.2.below hb1).below hbV, hM, hbl, hgl⟩
    · rw [hV]; exact blk_alloc (Blk.new _ _ _) _
    · rw [hV]; exact Blk.new' _ _ _ (by simp)
  have q1 : (w1.alloc (.cells #[.int .u8 (tk : Int), .int .i64 (tp : Int), .string ⟨tt.toArray⟩, .int .i64 (tn : Int)] 55)).cell? ⟨w1.heap.size, 1, none⟩ = some (.int .i64 (tp : Int)) := (Blk.new _ _ _).get 1 _ rfl
  have HV := Lib.hid hU0
  have HVV := Lib.hid hV
  clear hb1 hbV hU0 hV HH HN HWW
  go_upto_region 3 with (fail)
  rw [← HVV.out]
  clear q1 HVV
  generalize w1.heap.size = M at *
  go_upto_region 4 with (fail)
  refine wp_loop_rounds 4 ?_
  rw [rounds_succ]
  have HG0 := Lib.hid (HSG.out 19 (by omega) V)
  go_wp2_with fail
  refine HG0.out.mono ?_
  rintro e V0b ⟨he, hb⟩
  obtain rfl : e = .returned (.tuple #[.string ⟨#[45]⟩, .int .i64 11]) := he
  have HB0 := Lib.hid (HV.out.below hb)
  clear hb
  obtain ⟨v0, s2, h1, h2⟩ := bindO_inv H2.out
  have HH0 := Lib.hid (has_w b g cap ts s1 s2 [45] v0 V0b HB0.out.rw h1)
  have HK0 := Lib.hid h2
  have HQ0 := Lib.hid h1
  clear h1 h2
  go_wp2_with fail
  refine HH0.out.mono ?_
  rintro e V1 ⟨rfl, hg, hr⟩
  have HV1 := Lib.hid (HB0.out.call hg hr)
  clear hg hr
  cases v0 with
  | true =>
    have h2 := HK0.out
    rw [if_pos rfl] at h2
    obtain ⟨y, s8, h3, h4⟩ := bindO_inv h2
    obtain ⟨rfl, rfl⟩ := Prod.mk.inj (Option.some.inj h4)
    obtain ⟨X, hX⟩ : ∃ X, X = (V1.setCell ⟨M + 1, 0, none⟩ (.int .u8 8)).setCell ⟨M + 1, 1, none⟩ (.int .u8 19) := ⟨_, rfl⟩
    have hUX : UW b g cap ts s2 w M ⟨tk, tp, tt, tn⟩ (exCells 8 19 [] 0 tp none 0 0) X := by rw [hX]; exact (HV1.out.put 0 (.int .u8 8)).put 1 (.int .u8 19)
    have HC := Lib.hid (HUn.out F (Nat.le_refl _) b g cap ts s2 y s8 X hUX.rw h3)
    have HX := Lib.hid hUX
    have HXX := Lib.hid hX
    have c0 := HV1.out.box.get 0 (.int .u8 0) rfl
    have c1 := HV1.out.box.get 1 (.int .u8 0) rfl
    have e0 := HV1.out.box.free 0
    have e1 := HV1.out.box.free 1
    clear h2 h3 h4 hX hUX
    go_upto_region 9 with (fail)
    rw [← HXX.out]
    clear c0 c1 e0 e1
    go_wp2_with fail
    refine HC.out.mono ?_
    rintro e w3 ⟨k, op, nm, n, pos, a, m, c, rfl, hx, hg3, hr3⟩
    obtain ⟨hUZ, hXZ⟩ := un_part HX.out hx hg3 hr3
    have hY0 : Blk w3.heap.size (exCells k op nm n pos a m c) 36 (w3.alloc (.cells (exCells k op nm n pos a m c) 36)) := Blk.new _ _ _
    have hbY : Below w3.heap.size w3 ((w3.alloc (.cells (exCells k op nm n pos a m c) 36)).alloc (.cells (exCells k op nm n pos a m c) 36)) := ((Below.refl _ _).alloc (Nat.le_refl _) _).alloc (by simp) _
    have hUY := (HX.out.call hg3 hr3).below hbY
    obtain ⟨k0, k1, k2, k3, k4, k5⟩ := hY0.get6
    have c5 := hUY.box.get 5 (.slice none 0 0) rfl
    have e5 := hUY.box.free 5
    have hbox := hUZ.box
    have HZ := Lib.hid hUZ
    have HXC := Lib.hid (exc_of (k := 8) (op := 19) (nm := []) (n := 0) (pos := tp) hXZ)
    obtain ⟨Z, hZ⟩ : ∃ Z, Z = ((w3.alloc (.cells (exCells k op nm n pos a m c) 36)).alloc (.cells (exCells k op nm n pos a m c) 36)).setCell ⟨M + 1, 5, none⟩ (.slice (some ⟨w3.heap.size + 1, 0, none⟩) 1 1) := ⟨_, rfl⟩
    rw [← hZ] at HZ HXC
    have HZZ := Lib.hid hZ
    clear hx hg3 hr3 hUZ hXZ hY0 hbY hUY hbox hZ
    go_upto_region 11 with (fail)
    rw [← HZZ.out]
    clear k0 k1 k2 k3 k4 k5 c5 e5 HZZ
    have FIN := Lib.hid (ex_finR HZ.out.bl HZ.out.gl HZ.out.grown HZ.out.res HZ.out.rw HXC.out)
    have FB := Lib.hid (show Blk w.heap.size #[.int .u8 8, .int .u8 19, .string ⟨#[]⟩, .int .i64 0, .int .i64 (tp : Int), .slice (some ⟨w3.heap.size + 1, 0, none⟩) 1 1] 36 (set6 Z w.heap.size (.int .u8 8) (.int .u8 19) (.string ⟨#[]⟩) (.int .i64 0) (.int .i64 (tp : Int)) (.slice (some ⟨w3.heap.size + 1, 0, none⟩) 1 1)) from FIN.out.1)
    have hbx : Blk (M + 1) #[.int .u8 8, .int .u8 19, .string ⟨#[]⟩, .int .i64 0, .int .i64 (tp : Int), .slice (some ⟨w3.heap.size + 1, 0, none⟩) 1 1] 36 Z := HZ.out.box
    obtain ⟨z0, z1, z2, z3, z4, z5⟩ := HZ.out.res.get6
    obtain ⟨f0, f1, f2, f3, f4, f5⟩ := HZ.out.res.free6
    obtain ⟨p0, p1, p2, p3, p4, p5⟩ := hbx.get6
    clear hbx
    go_wp2
    rw [← set6_eq]
    obtain ⟨y0, y1, y2, y3, y4, y5⟩ := FB.out.get6
    clear z0 z1 z2 z3 z4 z5 f0 f1 f2 f3 f4 f5 p0 p1 p2 p3 p4 p5
    exact bodyPost_ret (v := .agg #[.int .u8 8, .int .u8 19, .string ⟨#[]⟩, .int .i64 0, .int .i64 (tp : Int), .slice (some ⟨w3.heap.size + 1, 0, none⟩) 1 1]) (by simp [results, Tryz.results89, go_sem, y0, y1, y2, y3, y4, y5]) rfl FIN.out.2
  | false =>
  have h2 := HK0.out
  rw [if_neg (by decide)] at h2
  have H3 := Lib.hid h2
  have HJ0 := Lib.hid (has_false HQ0.out)
  clear h2
  go_wp2_with fail
  rw [rounds_succ]
  have HG1 := Lib.hid (HSG.out 20 (by omega) V1)
  go_wp2_with fail
  refine HG1.out.mono ?_
  rintro e V1b ⟨he, hb⟩
  obtain rfl : e = .returned (.tuple #[.string ⟨#[126]⟩, .int .i64 11]) := he
  have HB1 := Lib.hid (HV1.out.below hb)
  clear hb
  obtain ⟨v1, s3, h1, h2⟩ := bindO_inv H3.out
  have HH1 := Lib.hid (has_w b g cap ts s2 s3 [126] v1 V1b HB1.out.rw h1)
  have HK1 := Lib.hid h2
  have HQ1 := Lib.hid h1
  clear h1 h2
  go_wp2_with fail
  refine HH1.out.mono ?_
  rintro e V2 ⟨rfl, hg, hr⟩
  have HV2 := Lib.hid (HB1.out.call hg hr)
  clear hg hr
  cases v1 with
  | true =>
    have h2 := HK1.out
    rw [if_pos rfl] at h2
    obtain ⟨y, s8, h3, h4⟩ := bindO_inv h2
    obtain ⟨rfl, rfl⟩ := Prod.mk.inj (Option.some.inj h4)
    obtain ⟨X, hX⟩ : ∃ X, X = (V2.setCell ⟨M + 1, 0, none⟩ (.int .u8 8)).setCell ⟨M + 1, 1, none⟩ (.int .u8 20) := ⟨_, rfl⟩
    have hUX : UW b g cap ts s3 w M ⟨tk, tp, tt, tn⟩ (exCells 8 20 [] 0 tp none 0 0) X := by rw [hX]; exact (HV2.out.put 0 (.int .u8 8)).put 1 (.int .u8 20)
    have HC := Lib.hid (HUn.out F (Nat.le_refl _) b g cap ts s3 y s8 X hUX.rw h3)
    have HX := Lib.hid hUX
    have HXX := Lib.hid hX
    have c0 := HV2.out.box.get 0 (.int .u8 0) rfl
    have c1 := HV2.out.box.get 1 (.int .u8 0) rfl
    have e0 := HV2.out.box.free 0
    have e1 := HV2.out.box.free 1
    clear h2 h3 h4 hX hUX
    go_upto_region 9 with (fail)
    rw [← HXX.out]
    clear c0 c1 e0 e1
    go_wp2_with fail
    refine HC.out.mono ?_
    rintro e w3 ⟨k, op, nm, n, pos, a, m, c, rfl, hx, hg3, hr3⟩
    obtain ⟨hUZ, hXZ⟩ := un_part HX.out hx hg3 hr3
    have hY0 : Blk w3.heap.size (exCells k op nm n pos a m c) 36 (w3.alloc (.cells (exCells k op nm n pos a m c) 36)) := Blk.new _ _ _
    have hbY : Below w3.heap.size w3 ((w3.alloc (.cells (exCells k op nm n pos a m c) 36)).alloc (.cells (exCells k op nm n pos a m c) 36)) := ((Below.refl _ _).alloc (Nat.le_refl _) _).alloc (by simp) _
    have hUY := (HX.out.call hg3 hr3).below hbY
    obtain ⟨k0, k1, k2, k3, k4, k5⟩ := hY0.get6
    have c5 := hUY.box.get 5 (.slice none 0 0) rfl
    have e5 := hUY.box.free 5
    have hbox := hUZ.box
    have HZ := Lib.hid hUZ
    have HXC := Lib.hid (exc_of (k := 8) (op := 20) (nm := []) (n := 0) (pos := tp) hXZ)
    obtain ⟨Z, hZ⟩ : ∃ Z, Z = ((w3.alloc (.cells (exCells k op nm n pos a m c) 36)).alloc (.cells (exCells k op nm n pos a m c) 36)).setCell ⟨M + 1, 5, none⟩ (.slice (some ⟨w3.heap.size + 1, 0, none⟩) 1 1) := ⟨_, rfl⟩
    rw [← hZ] at HZ HXC
    have HZZ := Lib.hid hZ
    clear hx hg3 hr3 hUZ hXZ hY0 hbY hUY hbox hZ
    go_upto_region 11 with (fail)
    rw [← HZZ.out]
    clear k0 k1 k2 k3 k4 k5 c5 e5 HZZ
    have FIN := Lib.hid (ex_finR HZ.out.bl HZ.out.gl HZ.out.grown HZ.out.res HZ.out.rw HXC.out)
    have FB := Lib.hid (show Blk w.heap.size #[.int .u8 8, .int .u8 20, .string ⟨#[]⟩, .int .i64 0, .int .i64 (tp : Int), .slice (some ⟨w3.heap.size + 1, 0, none⟩) 1 1] 36 (set6 Z w.heap.size (.int .u8 8) (.int .u8 20) (.string ⟨#[]⟩) (.int .i64 0) (.int .i64 (tp : Int)) (.slice (some ⟨w3.heap.size + 1, 0, none⟩) 1 1)) from FIN.out.1)
    have hbx : Blk (M + 1) #[.int .u8 8, .int .u8 20, .string ⟨#[]⟩, .int .i64 0, .int .i64 (tp : Int), .slice (some ⟨w3.heap.size + 1, 0, none⟩) 1 1] 36 Z := HZ.out.box
    obtain ⟨z0, z1, z2, z3, z4, z5⟩ := HZ.out.res.get6
    obtain ⟨f0, f1, f2, f3, f4, f5⟩ := HZ.out.res.free6
    obtain ⟨p0, p1, p2, p3, p4, p5⟩ := hbx.get6
    clear hbx
    go_wp2
    rw [← set6_eq]
    obtain ⟨y0, y1, y2, y3, y4, y5⟩ := FB.out.get6
    clear z0 z1 z2 z3 z4 z5 f0 f1 f2 f3 f4 f5 p0 p1 p2 p3 p4 p5
    exact bodyPost_ret (v := .agg #[.int .u8 8, .int .u8 20, .string ⟨#[]⟩, .int .i64 0, .int .i64 (tp : Int), .slice (some ⟨w3.heap.size + 1, 0, none⟩) 1 1]) (by simp [results, Tryz.results89, go_sem, y0, y1, y2, y3, y4, y5]) rfl FIN.out.2
  | false =>
  have h2 := HK1.out
  rw [if_neg (by decide)] at h2
  have H4 := Lib.hid h2
  have HJ1 := Lib.hid (has_false HQ1.out)
  clear h2
  go_wp2_with fail
  rw [rounds_succ]
  have HG2 := Lib.hid (HSG.out 21 (by omega) V2)
  go_wp2_with fail
  refine HG2.out.mono ?_
  rintro e V2b ⟨he, hb⟩
  obtain rfl : e = .returned (.tuple #[.string ⟨#[33]⟩, .int .i64 11]) := he
  have HB2 := Lib.hid (HV2.out.below hb)
  clear hb
  obtain ⟨v2, s4, h1, h2⟩ := bindO_inv H4.out
  have HH2 := Lib.hid (has_w b g cap ts s3 s4 [33] v2 V2b HB2.out.rw h1)
  have HK2 := Lib.hid h2
  have HQ2 := Lib.hid h1
  clear h1 h2
  go_wp2_with fail
  refine HH2.out.mono ?_
  rintro e V3 ⟨rfl, hg, hr⟩
  have HV3 := Lib.hid (HB2.out.call hg hr)
  clear hg hr
  cases v2 with
  | true =>
    have h2 := HK2.out
    rw [if_pos rfl] at h2
    obtain ⟨y, s8, h3, h4⟩ := bindO_inv h2
    obtain ⟨rfl, rfl⟩ := Prod.mk.inj (Option.some.inj h4)
    obtain ⟨X, hX⟩ : ∃ X, X = (V3.setCell ⟨M + 1, 0, none⟩ (.int .u8 8)).setCell ⟨M + 1, 1, none⟩ (.int .u8 21) := ⟨_, rfl⟩
    have hUX : UW b g cap ts s4 w M ⟨tk, tp, tt, tn⟩ (exCells 8 21 [] 0 tp none 0 0) X := by rw [hX]; exact (HV3.out.put 0 (.int .u8 8)).put 1 (.int .u8 21)
    have HC := Lib.hid (HUn.out F (Nat.le_refl _) b g cap ts s4 y s8 X hUX.rw h3)
    have HX := Lib.hid hUX
    have HXX := Lib.hid hX
    have c0 := HV3.out.box.get 0 (.int .u8 0) rfl
    have c1 := HV3.out.box.get 1 (.int .u8 0) rfl
    have e0 := HV3.out.box.free 0
    have e1 := HV3.out.box.free 1
    clear h2 h3 h4 hX hUX
    go_upto_region 9 with (fail)
    rw [← HXX.out]
    clear c0 c1 e0 e1
    go_wp2_with fail
    refine HC.out.mono ?_
    rintro e w3 ⟨k, op, nm, n, pos, a, m, c, rfl, hx, hg3, hr3⟩
    obtain ⟨hUZ, hXZ⟩ := un_part HX.out hx hg3 hr3
    have hY0 : Blk w3.heap.size (exCells k op nm n pos a m c) 36 (w3.alloc (.cells (exCells k op nm n pos a m c) 36)) := Blk.new _ _ _
    have hbY : Below w3.heap.size w3 ((w3.alloc (.cells (exCells k op nm n pos a m c) 36)).alloc (.cells (exCells k op nm n pos a m c) 36)) := ((Below.refl _ _).alloc (Nat.le_refl _) _).alloc (by simp) _
    have hUY := (HX.out.call hg3 hr3).below hbY
    obtain ⟨k0, k1, k2, k3, k4, k5⟩ := hY0.get6
    have c5 := hUY.box.get 5 (.slice none 0 0) rfl
    have e5 := hUY.box.free 5
    have hbox := hUZ.box
    have HZ := Lib.hid hUZ
    have HXC := Lib.hid (exc_of (k := 8) (op := 21) (nm := []) (n := 0) (pos := tp) hXZ)
    obtain ⟨Z, hZ⟩ : ∃ Z, Z = ((w3.alloc (.cells (exCells k op nm n pos a m c) 36)).alloc (.cells (exCells k op nm n pos a m c) 36)).setCell ⟨M + 1, 5, none⟩ (.slice (some ⟨w3.heap.size + 1, 0, none⟩) 1 1) := ⟨_, rfl⟩
    rw [← hZ] at HZ HXC
    have HZZ := Lib.hid hZ
    clear hx hg3 hr3 hUZ hXZ hY0 hbY hUY hbox hZ
    go_upto_region 11 with (fail)
    rw [← HZZ.out]
    clear k0 k1 k2 k3 k4 k5 c5 e5 HZZ
    have FIN := Lib.hid (ex_finR HZ.out.bl HZ.out.gl HZ.out.grown HZ.out.res HZ.out.rw HXC.out)
    have FB := Lib.hid (show Blk w.heap.size #[.int .u8 8, .int .u8 21, .string ⟨#[]⟩, .int .i64 0, .int .i64 (tp : Int), .slice (some ⟨w3.heap.size + 1, 0, none⟩) 1 1] 36 (set6 Z w.heap.size (.int .u8 8) (.int .u8 21) (.string ⟨#[]⟩) (.int .i64 0) (.int .i64 (tp : Int)) (.slice (some ⟨w3.heap.size + 1, 0, none⟩) 1 1)) from FIN.out.1)
    have hbx : Blk (M + 1) #[.int .u8 8, .int .u8 21, .string ⟨#[]⟩, .int .i64 0, .int .i64 (tp : Int), .slice (some ⟨w3.heap.size + 1, 0, none⟩) 1 1] 36 Z := HZ.out.box
    obtain ⟨z0, z1, z2, z3, z4, z5⟩ := HZ.out.res.get6
    obtain ⟨f0, f1, f2, f3, f4, f5⟩ := HZ.out.res.free6
    obtain ⟨p0, p1, p2, p3, p4, p5⟩ := hbx.get6
    clear hbx
    go_wp2
    rw [← set6_eq]
    obtain ⟨y0, y1, y2, y3, y4, y5⟩ := FB.out.get6
    clear z0 z1 z2 z3 z4 z5 f0 f1 f2 f3 f4 f5 p0 p1 p2 p3 p4 p5
    exact bodyPost_ret (v := .agg #[.int .u8 8, .int .u8 21, .string ⟨#[]⟩, .int .i64 0, .int .i64 (tp : Int), .slice (some ⟨w3.heap.size + 1, 0, none⟩) 1 1]) (by simp [results, Tryz.results89, go_sem, y0, y1, y2, y3, y4, y5]) rfl FIN.out.2
  | false =>
  have h2 := HK2.out
  rw [if_neg (by decide)] at h2
  have H5 := Lib.hid h2
  have HJ2 := Lib.hid (has_false HQ2.out)
  clear h2
  go_wp2_with fail
  rw [rounds_succ]
  have HI0 := Lib.hid (show s4.i = s1.i by have := HJ0.out; have := HJ1.out; have := HJ2.out; omega)
  cases F with
  | zero => exact absurd H5.out (by rw [operandM]; simp)
  | succ F =>
  have h5 := H5.out
  rw [operandM] at h5
  have t0 := HV3.out.tok.get 0 (.int .u8 (tk : Int)) rfl
  by_cases k3 : tk = 3
  · have ek : ((tk : Int) == 3) = true := by simp [k3]
    rw [if_pos (show (⟨tk, tp, tt, tn⟩ : Tok).kind = 3 from k3)] at h5
    obtain ⟨rfl, rfl⟩ := Prod.mk.inj (Option.some.inj h5)
    have hi : s4.i < ts.length := by
      have e0 := HI0.out
      rcases HN0.out with h | h
      · omega
      · have : tk = 0 := congrArg Tok.kind h.2
        omega
    have hib : (s4.i : Int) < 30000 := by omega
    obtain ⟨X, hX⟩ : ∃ X, X = V3.setCell ⟨b, 1, none⟩ (.int .i64 ((s4.i : Int) + 1)) := ⟨_, rfl⟩
    have hg : V3.grownBy X (some b) := by rw [hX]; exact Lib.grownBy_setCell _ _ _ _
    have hB : Blk b (rdCells g ts.length cap ⟨s4.i + 1, s4.o, s4.n, s4.pl, s4.e⟩) 70 X := by rw [hX]; exact HV3.out.rw.blk.set 1 _
    have hUX := HV3.out.call hg (HV3.out.rw.step hg hB)
    have c1 := HV3.out.rw.c1
    have f1 := HV3.out.rw.blk.free 1
    have HX := Lib.hid hUX
    have HXX := Lib.hid hX
    clear h5 hX hg hB hUX hi k3
    go_upto_region 22 with (fail)
    rw [← HXX.out]
    clear c1 f1 t0 ek
    have t3 := HX.out.tok.get 3 (.int .i64 (tn : Int)) rfl
    have c0 := HX.out.box.get 0 (.int .u8 0) rfl
    have c3 := HX.out.box.get 3 (.int .i64 0) rfl
    have e0 := HX.out.box.free 0
    have e3 := HX.out.box.free 3
    obtain ⟨Z, hZ⟩ : ∃ Z, Z = ((X.setCell ⟨M + 1, 0, none⟩ (.int .u8 1)).setCell ⟨M + 1, 3, none⟩ (.int .i64 (tn : Int))).drew := ⟨_, rfl⟩
    have hUZ : UW b g cap ts ⟨s4.i + 1, s4.o, s4.n, s4.pl, s4.e⟩ w M ⟨tk, tp, tt, tn⟩ (exCells 1 0 [] tn tp none 0 0) Z := by rw [hZ]; exact ((HX.out.put 0 (.int .u8 1)).put 3 (.int .i64 (tn : Int))).below (Below.refl _ _).drew
    have HZ := Lib.hid hUZ
    have HXC := Lib.hid (show ExC Z (fun h => w.heap.size < h) (.mk 1 0 [] tn tp []) (exCells 1 0 [] tn tp none 0 0).toList from exc_nil)
    have HZZ := Lib.hid hZ
    clear hUZ hZ
    go_region
    all_goals (
      rw [← HZZ.out]
      clear t3 c0 c3 e0 e3
      have FIN := Lib.hid (ex_finR HZ.out.bl HZ.out.gl HZ.out.grown HZ.out.res HZ.out.rw HXC.out)
      have FB := Lib.hid (show Blk w.heap.size #[.int .u8 1, .int .u8 0, .string ⟨#[]⟩, .int .i64 (tn : Int), .int .i64 (tp : Int), .slice none 0 0] 36 (set6 Z w.heap.size (.int .u8 1) (.int .u8 0) (.string ⟨#[]⟩) (.int .i64 (tn : Int)) (.int .i64 (tp : Int)) (.slice none 0 0)) from FIN.out.1)
      have hbx : Blk (M + 1) #[.int .u8 1, .int .u8 0, .string ⟨#[]⟩, .int .i64 (tn : Int), .int .i64 (tp : Int), .slice none 0 0] 36 Z := HZ.out.box
      obtain ⟨z0, z1, z2, z3, z4, z5⟩ := HZ.out.res.get6
      obtain ⟨f0, f1, f2, f3, f4, f5⟩ := HZ.out.res.free6
      obtain ⟨p0, p1, p2, p3, p4, p5⟩ := hbx.get6
      clear hbx
      go_wp2
      rw [← set6_eq]
      obtain ⟨y0, y1, y2, y3, y4, y5⟩ := FB.out.get6
      clear z0 z1 z2 z3 z4 z5 f0 f1 f2 f3 f4 f5 p0 p1 p2 p3 p4 p5
      exact bodyPost_ret (v := .agg #[.int .u8 1, .int .u8 0, .string ⟨#[]⟩, .int .i64 (tn : Int), .int .i64 (tp : Int), .slice none 0 0]) (by simp [results, Tryz.results89, go_sem, y0, y1, y2, y3, y4, y5]) rfl FIN.out.2)
  have ek : ((tk : Int) == 3) = false := by simp; omega
  rw [if_neg (show ¬ (⟨tk, tp, tt, tn⟩ : Tok).kind = 3 from k3)] at h5
  have HO0 := Lib.hid h5
  clear h5 k3
  obtain ⟨v4, s5, h1, h2⟩ := bindO_inv HO0.out
  have HH4 := Lib.hid (has_w b g cap ts s4 s5 [116, 114, 117, 101] v4 V3 HV3.out.rw h1)
  have HK4 := Lib.hid h2
  clear h1 h2
  go_wp2_with fail
  refine HH4.out.mono ?_
  rintro e V4 ⟨rfl, hg, hr⟩
  have HV4 := Lib.hid (HV3.out.call hg hr)
  clear hg hr
  cases v4 with
  | true =>
    have h2 := HK4.out
    rw [if_pos rfl] at h2
    obtain ⟨rfl, rfl⟩ := Prod.mk.inj (Option.some.inj h2)
    clear h2
    obtain ⟨Z, hZ⟩ : ∃ Z, Z = ((V4.setCell ⟨M + 1, 0, none⟩ (.int .u8 2)).setCell ⟨M + 1, 3, none⟩ (.int .i64 1)) := ⟨_, rfl⟩
    have hUZ : UW b g cap ts s5 w M ⟨tk, tp, tt, tn⟩ (exCells 2 0 [] 1 tp none 0 0) Z := by rw [hZ]; exact ((HV4.out.put 0 (.int .u8 2)).put 3 (.int .i64 1))
    have c0 := HV4.out.box.get 0 (.int .u8 0) rfl
    have e0 := HV4.out.box.free 0
    have c3 := HV4.out.box.get 3 (.int .i64 0) rfl
    have e3 := HV4.out.box.free 3
    have HZ := Lib.hid hUZ
    have HXC := Lib.hid (show ExC Z (fun h => w.heap.size < h) (.mk 2 0 [] 1 tp []) (exCells 2 0 [] 1 tp none 0 0).toList from exc_nil)
    have HZZ := Lib.hid hZ
    clear hUZ hZ
    go_upto_region 40 with (fail)
    rw [← HZZ.out]
    clear c0 e0 c3 e3
    have FIN := Lib.hid (ex_finR HZ.out.bl HZ.out.gl HZ.out.grown HZ.out.res HZ.out.rw HXC.out)
    have FB := Lib.hid (show Blk w.heap.size #[.int .u8 2, .int .u8 0, .string ⟨#[]⟩, .int .i64 1, .int .i64 (tp : Int), .slice none 0 0] 36 (set6 Z w.heap.size (.int .u8 2) (.int .u8 0) (.string ⟨#[]⟩) (.int .i64 1) (.int .i64 (tp : Int)) (.slice none 0 0)) from FIN.out.1)
    have hbx : Blk (M + 1) #[.int .u8 2, .int .u8 0, .string ⟨#[]⟩, .int .i64 1, .int .i64 (tp : Int), .slice none 0 0] 36 Z := HZ.out.box
    obtain ⟨z0, z1, z2, z3, z4, z5⟩ := HZ.out.res.get6
    obtain ⟨f0, f1, f2, f3, f4, f5⟩ := HZ.out.res.free6
    obtain ⟨p0, p1, p2, p3, p4, p5⟩ := hbx.get6
    clear hbx
    go_wp2
    rw [← set6_eq]
    obtain ⟨y0, y1, y2, y3, y4, y5⟩ := FB.out.get6
    clear z0 z1 z2 z3 z4 z5 f0 f1 f2 f3 f4 f5 p0 p1 p2 p3 p4 p5
    exact bodyPost_ret (v := .agg #[.int .u8 2, .int .u8 0, .string ⟨#[]⟩, .int .i64 1, .int .i64 (tp : Int), .slice none 0 0]) (by simp [results, Tryz.results89, go_sem, y0, y1, y2, y3, y4, y5]) rfl FIN.out.2
  | false =>
  have h2 := HK4.out
  rw [if_neg (by decide)] at h2
  have HO1 := Lib.hid h2
  clear h2
  obtain ⟨v5, s6, h1, h2⟩ := bindO_inv HO1.out
  have HH5 := Lib.hid (has_w b g cap ts s5 s6 [102, 97, 108, 115, 101] v5 V4 HV4.out.rw h1)
  have HK5 := Lib.hid h2
  clear h1 h2
  go_wp2_with fail
  refine HH5.out.mono ?_
  rintro e V5 ⟨rfl, hg, hr⟩
  have HV5 := Lib.hid (HV4.out.call hg hr)
  clear hg hr
  cases v5 with
  | true =>
    have h2 := HK5.out
    rw [if_pos rfl] at h2
    obtain ⟨rfl, rfl⟩ := Prod.mk.inj (Option.some.inj h2)
    clear h2
    obtain ⟨Z, hZ⟩ : ∃ Z, Z = (V5.setCell ⟨M + 1, 0, none⟩ (.int .u8 2)) := ⟨_, rfl⟩
    have hUZ : UW b g cap ts s6 w M ⟨tk, tp, tt, tn⟩ (exCells 2 0 [] 0 tp none 0 0) Z := by rw [hZ]; exact (HV5.out.put 0 (.int .u8 2))
    have c0 := HV5.out.box.get 0 (.int .u8 0) rfl
    have e0 := HV5.out.box.free 0
    have HZ := Lib.hid hUZ
    have HXC := Lib.hid (show ExC Z (fun h => w.heap.size < h) (.mk 2 0 [] 0 tp []) (exCells 2 0 [] 0 tp none 0 0).toList from exc_nil)
    have HZZ := Lib.hid hZ
    clear hUZ hZ
    go_upto_region 40 with (fail)
    rw [← HZZ.out]
    clear c0 e0
    have FIN := Lib.hid (ex_finR HZ.out.bl HZ.out.gl HZ.out.grown HZ.out.res HZ.out.rw HXC.out)
    have FB := Lib.hid (show Blk w.heap.size #[.int .u8 2, .int .u8 0, .string ⟨#[]⟩, .int .i64 0, .int .i64 (tp : Int), .slice none 0 0] 36 (set6 Z w.heap.size (.int .u8 2) (.int .u8 0) (.string ⟨#[]⟩) (.int .i64 0) (.int .i64 (tp : Int)) (.slice none 0 0)) from FIN.out.1)
    have hbx : Blk (M + 1) #[.int .u8 2, .int .u8 0, .string ⟨#[]⟩, .int .i64 0, .int .i64 (tp : Int), .slice none 0 0] 36 Z := HZ.out.box
    obtain ⟨z0, z1, z2, z3, z4, z5⟩ := HZ.out.res.get6
    obtain ⟨f0, f1, f2, f3, f4, f5⟩ := HZ.out.res.free6
    obtain ⟨p0, p1, p2, p3, p4, p5⟩ := hbx.get6
    clear hbx
    go_wp2
    rw [← set6_eq]
    obtain ⟨y0, y1, y2, y3, y4, y5⟩ := FB.out.get6
    clear z0 z1 z2 z3 z4 z5 f0 f1 f2 f3 f4 f5 p0 p1 p2 p3 p4 p5
    exact bodyPost_ret (v := .agg #[.int .u8 2, .int .u8 0, .string ⟨#[]⟩, .int .i64 0, .int .i64 (tp : Int), .slice none 0 0]) (by simp [results, Tryz.results89, go_sem, y0, y1, y2, y3, y4, y5]) rfl FIN.out.2
  | false =>
  have h2 := HK5.out
  rw [if_neg (by decide)] at h2
  have HO2 := Lib.hid h2
  clear h2
  obtain ⟨v6, s7, h1, h2⟩ := bindO_inv HO2.out
  have HH6 := Lib.hid (has_w b g cap ts s6 s7 [114, 101, 97, 100] v6 V5 HV5.out.rw h1)
  have HK6 := Lib.hid h2
  clear h1 h2
  go_wp2_with fail
  refine HH6.out.mono ?_
  rintro e V6 ⟨rfl, hg, hr⟩
  have HV6 := Lib.hid (HV5.out.call hg hr)
  clear hg hr
  cases v6 with
  | true =>
    have h2 := HK6.out
    rw [if_pos rfl] at h2
    obtain ⟨⟨⟩, r1, h3, h4⟩ := bindO_inv h2
    obtain ⟨⟨⟩, r2, h5, h6⟩ := bindO_inv h4
    obtain ⟨rfl, rfl⟩ := Prod.mk.inj (Option.some.inj h6)
    clear h2 h4 h6
    have HSkR1 := Lib.hid (skip_w b g cap ts s7 r1 [40] V6 HV6.out.rw h3)
    clear h3
    go_wp2_with fail
    refine HSkR1.out.mono ?_
    rintro e R1 ⟨rfl, hg, hr⟩
    have HR1 := Lib.hid (HV6.out.call hg hr)
    clear hg hr
    have HSkR2 := Lib.hid (skip_w b g cap ts r1 r2 [41] R1 HR1.out.rw h5)
    clear h5
    go_wp2_with fail
    refine HSkR2.out.mono ?_
    rintro e R2 ⟨rfl, hg, hr⟩
    have HR2 := Lib.hid (HR1.out.call hg hr)
    clear hg hr
    obtain ⟨Z, hZ⟩ : ∃ Z, Z = (R2.setCell ⟨M + 1, 0, none⟩ (.int .u8 6)) := ⟨_, rfl⟩
    have hUZ : UW b g cap ts r2 w M ⟨tk, tp, tt, tn⟩ (exCells 6 0 [] 0 tp none 0 0) Z := by rw [hZ]; exact (HR2.out.put 0 (.int .u8 6))
    have c0 := HR2.out.box.get 0 (.int .u8 0) rfl
    have e0 := HR2.out.box.free 0
    have HZ := Lib.hid hUZ
    have HXC := Lib.hid (show ExC Z (fun h => w.heap.size < h) (.mk 6 0 [] 0 tp []) (exCells 6 0 [] 0 tp none 0 0).toList from exc_nil)
    have HZZ := Lib.hid hZ
    clear hUZ hZ
    go_upto_region 40 with (fail)
    rw [← HZZ.out]
    clear c0 e0
    have FIN := Lib.hid (ex_finR HZ.out.bl HZ.out.gl HZ.out.grown HZ.out.res HZ.out.rw HXC.out)
    have FB := Lib.hid (show Blk w.heap.size #[.int .u8 6, .int .u8 0, .string ⟨#[]⟩, .int .i64 0, .int .i64 (tp : Int), .slice none 0 0] 36 (set6 Z w.heap.size (.int .u8 6) (.int .u8 0) (.string ⟨#[]⟩) (.int .i64 0) (.int .i64 (tp : Int)) (.slice none 0 0)) from FIN.out.1)
    have hbx : Blk (M + 1) #[.int .u8 6, .int .u8 0, .string ⟨#[]⟩, .int .i64 0, .int .i64 (tp : Int), .slice none 0 0] 36 Z := HZ.out.box
    obtain ⟨z0, z1, z2, z3, z4, z5⟩ := HZ.out.res.get6
    obtain ⟨f0, f1, f2, f3, f4, f5⟩ := HZ.out.res.free6
    obtain ⟨p0, p1, p2, p3, p4, p5⟩ := hbx.get6
    clear hbx
    go_wp2
    rw [← set6_eq]
    obtain ⟨y0, y1, y2, y3, y4, y5⟩ := FB.out.get6
    clear z0 z1 z2 z3 z4 z5 f0 f1 f2 f3 f4 f5 p0 p1 p2 p3 p4 p5
    exact bodyPost_ret (v := .agg #[.int .u8 6, .int .u8 0, .string ⟨#[]⟩, .int .i64 0, .int .i64 (tp : Int), .slice none 0 0]) (by simp [results, Tryz.results89, go_sem, y0, y1, y2, y3, y4, y5]) rfl FIN.out.2
  | false =>
  have h2 := HK6.out
  rw [if_neg (by decide)] at h2
  have HO3 := Lib.hid h2
  clear h2
  obtain ⟨v7, s8, h1, h2⟩ := bindO_inv HO3.out
  have HH7 := Lib.hid (has_w b g cap ts s7 s8 [108, 101, 110] v7 V6 HV6.out.rw h1)
  have HK7 := Lib.hid h2
  clear h1 h2
  go_wp2_with fail
  refine HH7.out.mono ?_
  rintro e V7 ⟨rfl, hg, hr⟩
  have HV7 := Lib.hid (HV6.out.call hg hr)
  clear hg hr
  cases v7 with
  | true =>
    have h2 := HK7.out
    rw [if_pos rfl] at h2
    obtain ⟨⟨⟩, r1, h3, h4⟩ := bindO_inv h2
    obtain ⟨nm, r2, h5, h6⟩ := bindO_inv h4
    obtain ⟨⟨⟩, r3, h7, h8⟩ := bindO_inv h6
    obtain ⟨rfl, rfl⟩ := Prod.mk.inj (Option.some.inj h8)
    clear h2 h4 h6 h8
    have HSkR1 := Lib.hid (skip_w b g cap ts s8 r1 [40] V7 HV7.out.rw h3)
    clear h3
    go_wp2_with fail
    refine HSkR1.out.mono ?_
    rintro e R1 ⟨rfl, hg, hr⟩
    have HR1 := Lib.hid (HV7.out.call hg hr)
    clear hg hr
    have HNmR2 := Lib.hid (name_w b g cap ts r1 r2 nm R1 HR1.out.rw h5)
    clear h5
    go_wp2_with fail
    refine HNmR2.out.mono ?_
    rintro e R2 ⟨rfl, hg, hr⟩
    have HR2 := Lib.hid (HR1.out.call hg hr)
    clear hg hr
    obtain ⟨R3, hR3⟩ : ∃ R3, R3 = (R2.setCell ⟨M + 1, 0, none⟩ (.int .u8 7)).setCell ⟨M + 1, 2, none⟩ (.string ⟨nm.toArray⟩) := ⟨_, rfl⟩
    have hU3 : UW b g cap ts r2 w M ⟨tk, tp, tt, tn⟩ (exCells 7 0 nm 0 tp none 0 0) R3 := by rw [hR3]; exact (HR2.out.put 0 (.int .u8 7)).put 2 (.string ⟨nm.toArray⟩)
    have c0 := HR2.out.box.get 0 (.int .u8 0) rfl
    have c2 := HR2.out.box.get 2 (.string ⟨#[]⟩) rfl
    have e0 := HR2.out.box.free 0
    have e2 := HR2.out.box.free 2
    have HR3 := Lib.hid hU3
    have HRR := Lib.hid hR3
    clear hU3 hR3
    go_upto_region 34 with (fail)
    rw [← HRR.out]
    clear c0 c2 e0 e2
    have HSkZ := Lib.hid (skip_w b g cap ts r2 r3 [41] R3 HR3.out.rw h7)
    clear h7
    go_wp2_with fail
    refine HSkZ.out.mono ?_
    rintro e Z ⟨rfl, hg, hr⟩
    have HZ := Lib.hid (HR3.out.call hg hr)
    clear hg hr
    have HXC := Lib.hid (show ExC Z (fun h => w.heap.size < h) (.mk 7 0 nm 0 tp []) (exCells 7 0 nm 0 tp none 0 0).toList from exc_nil)
    have FIN := Lib.hid (ex_finR HZ.out.bl HZ.out.gl HZ.out.grown HZ.out.res HZ.out.rw HXC.out)
    have FB := Lib.hid (show Blk w.heap.size #[.int .u8 7, .int .u8 0, .string ⟨nm.toArray⟩, .int .i64 0, .int .i64 (tp : Int), .slice none 0 0] 36 (set6 Z w.heap.size (.int .u8 7) (.int .u8 0) (.string ⟨nm.toArray⟩) (.int .i64 0) (.int .i64 (tp : Int)) (.slice none 0 0)) from FIN.out.1)
    have hbx : Blk (M + 1) #[.int .u8 7, .int .u8 0, .string ⟨nm.toArray⟩, .int .i64 0, .int .i64 (tp : Int), .slice none 0 0] 36 Z := HZ.out.box
    obtain ⟨z0, z1, z2, z3, z4, z5⟩ := HZ.out.res.get6
    obtain ⟨f0, f1, f2, f3, f4, f5⟩ := HZ.out.res.free6
    obtain ⟨p0, p1, p2, p3, p4, p5⟩ := hbx.get6
    clear hbx
    go_wp2
    rw [← set6_eq]
    obtain ⟨y0, y1, y2, y3, y4, y5⟩ := FB.out.get6
    clear z0 z1 z2 z3 z4 z5 f0 f1 f2 f3 f4 f5 p0 p1 p2 p3 p4 p5
    exact bodyPost_ret (v := .agg #[.int .u8 7, .int .u8 0, .string ⟨nm.toArray⟩, .int .i64 0, .int .i64 (tp : Int), .slice none 0 0]) (by simp [results, Tryz.results89, go_sem, y0, y1, y2, y3, y4, y5]) rfl FIN.out.2
  | false =>
  have h2 := HK7.out
  rw [if_neg (by decide)] at h2
  have HO4 := Lib.hid h2
  clear h2
  obtain ⟨v8, s9, h1, h2⟩ := bindO_inv HO4.out
  obtain ⟨rfl, _⟩ := isM_inv h1
  have HH8 := Lib.hid (is_w b g cap ts s9 s9 [40] v8 V7 HV7.out.rw h1)
  have HK8 := Lib.hid h2
  clear h1 h2
  go_wp2_with fail
  refine HH8.out.mono ?_
  rintro e V8 ⟨rfl, hb⟩
  have HV8 := Lib.hid (HV7.out.below hb)
  clear hb
  cases v8 with
  | true =>
    have h2 := HK8.out
    rw [if_pos rfl] at h2
    obtain ⟨⟨⟩, r1, h3, h4⟩ := bindO_inv h2
    obtain ⟨y, r2, h5, h6⟩ := bindO_inv h4
    obtain ⟨⟨⟩, r3, h7, h8⟩ := bindO_inv h6
    obtain ⟨rfl, rfl⟩ := Prod.mk.inj (Option.some.inj h8)
    clear h2 h4 h6 h8
    have HSkR1 := Lib.hid (skip_w b g cap ts s9 r1 [40] V8 HV8.out.rw h3)
    clear h3
    go_wp2_with fail
    refine HSkR1.out.mono ?_
    rintro e R1 ⟨rfl, hg, hr⟩
    have HR1 := Lib.hid (HV8.out.call hg hr)
    clear hg hr
    have HC := Lib.hid (HLv.out F (by omega) b g cap ts 1 r1 y r2 R1 HR1.out.rw (by omega) h5)
    clear h5
    go_wp2_with fail
    refine HC.out.mono ?_
    rintro e w3 ⟨k, op, nm, n, pos, a, m, c, rfl, hx, hg3, hr3⟩
    obtain ⟨Y, hY⟩ : ∃ Y, Y = w3.alloc (.cells (exCells k op nm n pos a m c) 36) := ⟨_, rfl⟩
    have hbY : Below w3.heap.size w3 Y := by rw [hY]; exact (Below.refl _ _).alloc (Nat.le_refl _) _
    have hY0 : Blk w3.heap.size (exCells k op nm n pos a m c) 36 Y := by rw [hY]; exact Blk.new _ _ _
    have HY := Lib.hid ((HR1.out.call hg3 hr3).below hbY)
    have hszb : b < w3.heap.size := by have := hg3.size; have := HR1.out.rw.lt; omega
    have hszR : w.heap.size < R1.heap.size := by have := HR1.out.ltW; have := HR1.out.lt; omega
    have HX := Lib.hid (And.intro hY0 (hx.stays (keeps_below hbY)))
    have HSk := Lib.hid (skip_w b g cap ts r2 r3 [41] Y HY.out.rw h7)
    have HYY := Lib.hid hY
    clear hx hg3 hr3 hbY hY0 hY h7
    go_wp2_with fail
    rw [← HYY.out]
    refine HSk.out.mono ?_
    rintro e Z ⟨rfl, hg, hr⟩
    have HZ := Lib.hid (HY.out.call hg hr)
    have hpb := HX.out.1.other hg (by simp; omega)
    have hbR : b < R1.heap.size := HR1.out.rw.lt
    have FIN := Lib.hid (ex_finR HZ.out.bl HZ.out.gl HZ.out.grown HZ.out.res HZ.out.rw ((HX.out.2.stays (keeps_grown hg hbR)).stays (stays_weaken fun h hh _ => by omega)))
    obtain ⟨z0, z1, z2, z3, z4, z5⟩ := HZ.out.res.get6
    obtain ⟨f0, f1, f2, f3, f4, f5⟩ := HZ.out.res.free6
    obtain ⟨p0, p1, p2, p3, p4, p5⟩ := hpb.get6
    clear hg hr hpb
    go_wp2
    rw [← set6_eq]
    obtain ⟨y0, y1, y2, y3, y4, y5⟩ := FIN.out.1.get6
    clear z0 z1 z2 z3 z4 z5 f0 f1 f2 f3 f4 f5 p0 p1 p2 p3 p4 p5
    exact bodyPost_ret (v := .agg (exCells k op nm n pos a m c)) (by simp [results, Tryz.results89, go_sem, y0, y1, y2, y3, y4, y5]) rfl FIN.out.2
  | false =>
  have h2 := HK8.out
  rw [if_neg (by decide)] at h2
  obtain ⟨nm, s10, h3, h4⟩ := bindO_inv h2
  have HO9 := Lib.hid h4
  clear h2 h4
  have HNmN0 := Lib.hid (name_w b g cap ts s9 s10 nm V8 HV8.out.rw h3)
  clear h3
  go_wp2_with fail
  refine HNmN0.out.mono ?_
  rintro e N0 ⟨rfl, hg, hr⟩
  have HN0b := Lib.hid (HV8.out.call hg hr)
  clear hg hr
  obtain ⟨N1, hN1⟩ : ∃ N1, N1 = (N0.setCell ⟨M + 1, 0, none⟩ (.int .u8 3)).setCell ⟨M + 1, 2, none⟩ (.string ⟨nm.toArray⟩) := ⟨_, rfl⟩
  have hU3 : UW b g cap ts s10 w M ⟨tk, tp, tt, tn⟩ (exCells 3 0 nm 0 tp none 0 0) N1 := by rw [hN1]; exact (HN0b.out.put 0 (.int .u8 3)).put 2 (.string ⟨nm.toArray⟩)
  have c0 := HN0b.out.box.get 0 (.int .u8 0) rfl
  have c2 := HN0b.out.box.get 2 (.string ⟨#[]⟩) rfl
  have e0 := HN0b.out.box.free 0
  have e2 := HN0b.out.box.free 2
  have HN1 := Lib.hid hU3
  have HNN := Lib.hid hN1
  clear hU3 hN1
  go_upto_region 13 with (fail)
  rw [← HNN.out]
  clear c0 c2 e0 e2
  obtain ⟨v9, s11, h1, h2⟩ := bindO_inv HO9.out
  obtain ⟨rfl, _⟩ := isM_inv h1
  have HH9 := Lib.hid (is_w b g cap ts s11 s11 [91] v9 N1 HN1.out.rw h1)
  have HK9 := Lib.hid h2
  clear h1 h2
  go_wp2_with fail
  refine HH9.out.mono ?_
  rintro e N2 ⟨rfl, hb⟩
  have HN2 := Lib.hid (HN1.out.below hb)
  clear hb
  cases v9 with
  | true =>
    have h2 := HK9.out
    rw [if_pos rfl] at h2
    obtain ⟨y, s8, h3, h4⟩ := bindO_inv h2
    obtain ⟨rfl, rfl⟩ := Prod.mk.inj (Option.some.inj h4)
    obtain ⟨X, hX⟩ : ∃ X, X = N2.setCell ⟨M + 1, 0, none⟩ (.int .u8 4) := ⟨_, rfl⟩
    have hUX : UW b g cap ts s11 w M ⟨tk, tp, tt, tn⟩ (exCells 4 0 nm 0 tp none 0 0) X := by rw [hX]; exact HN2.out.put 0 (.int .u8 4)
    have HC := Lib.hid (HPl.out F (by omega) b g cap ts s11 y s8 X hUX.rw h3)
    have HX := Lib.hid hUX
    have HXX := Lib.hid hX
    have c0 := HN2.out.box.get 0 (.int .u8 3) rfl
    have e0 := HN2.out.box.free 0
    clear h2 h3 h4 hX hUX
    go_upto_region 15 with (fail)
    rw [← HXX.out]
    clear c0 e0
    go_wp2_with fail
    refine HC.out.mono ?_
    rintro e w3 ⟨k, op, nm2, n, pos, a, m, c, rfl, hx, hg3, hr3⟩
    obtain ⟨hUZ, hXZ⟩ := un_part HX.out hx hg3 hr3
    have hY0 : Blk w3.heap.size (exCells k op nm2 n pos a m c) 36 (w3.alloc (.cells (exCells k op nm2 n pos a m c) 36)) := Blk.new _ _ _
    have hbY : Below w3.heap.size w3 ((w3.alloc (.cells (exCells k op nm2 n pos a m c) 36)).alloc (.cells (exCells k op nm2 n pos a m c) 36)) := ((Below.refl _ _).alloc (Nat.le_refl _) _).alloc (by simp) _
    have hUY := (HX.out.call hg3 hr3).below hbY
    obtain ⟨k0, k1, k2, k3, k4, k5⟩ := hY0.get6
    have c5 := hUY.box.get 5 (.slice none 0 0) rfl
    have e5 := hUY.box.free 5
    have HZ := Lib.hid hUZ
    have HXC := Lib.hid (exc_of (k := 4) (op := 0) (nm := nm) (n := 0) (pos := tp) hXZ)
    obtain ⟨Z, hZ⟩ : ∃ Z, Z = ((w3.alloc (.cells (exCells k op nm2 n pos a m c) 36)).alloc (.cells (exCells k op nm2 n pos a m c) 36)).setCell ⟨M + 1, 5, none⟩ (.slice (some ⟨w3.heap.size + 1, 0, none⟩) 1 1) := ⟨_, rfl⟩
    rw [← hZ] at HZ HXC
    have HZZ := Lib.hid hZ
    clear hx hg3 hr3 hUZ hXZ hY0 hbY hUY hZ
    go_upto_region 40 with (fail)
    rw [← HZZ.out]
    clear k0 k1 k2 k3 k4 k5 c5 e5 HZZ
    have FIN := Lib.hid (ex_finR HZ.out.bl HZ.out.gl HZ.out.grown HZ.out.res HZ.out.rw HXC.out)
    have FB := Lib.hid (show Blk w.heap.size #[.int .u8 4, .int .u8 0, .string ⟨nm.toArray⟩, .int .i64 0, .int .i64 (tp : Int), .slice (some ⟨w3.heap.size + 1, 0, none⟩) 1 1] 36 (set6 Z w.heap.size (.int .u8 4) (.int .u8 0) (.string ⟨nm.toArray⟩) (.int .i64 0) (.int .i64 (tp : Int)) (.slice (some ⟨w3.heap.size + 1, 0, none⟩) 1 1)) from FIN.out.1)
    have hbx : Blk (M + 1) #[.int .u8 4, .int .u8 0, .string ⟨nm.toArray⟩, .int .i64 0, .int .i64 (tp : Int), .slice (some ⟨w3.heap.size + 1, 0, none⟩) 1 1] 36 Z := HZ.out.box
    obtain ⟨z0, z1, z2, z3, z4, z5⟩ := HZ.out.res.get6
    obtain ⟨f0, f1, f2, f3, f4, f5⟩ := HZ.out.res.free6
    obtain ⟨p0, p1, p2, p3, p4, p5⟩ := hbx.get6
    clear hbx
    go_wp2
    rw [← set6_eq]
    obtain ⟨y0, y1, y2, y3, y4, y5⟩ := FB.out.get6
    clear z0 z1 z2 z3 z4 z5 f0 f1 f2 f3 f4 f5 p0 p1 p2 p3 p4 p5
    exact bodyPost_ret (v := .agg #[.int .u8 4, .int .u8 0, .string ⟨nm.toArray⟩, .int .i64 0, .int .i64 (tp : Int), .slice (some ⟨w3.heap.size + 1, 0, none⟩) 1 1]) (by simp [results, Tryz.results89, go_sem, y0, y1, y2, y3, y4, y5]) rfl FIN.out.2
  | false =>
  have h2 := HK9.out
  rw [if_neg (by decide)] at h2
  obtain ⟨v10, s12, h1, h3⟩ := bindO_inv h2
  obtain ⟨rfl, _⟩ := isM_inv h1
  have HH10 := Lib.hid (is_w b g cap ts s12 s12 [40] v10 N2 HN2.out.rw h1)
  have HK10 := Lib.hid h3
  clear h1 h2 h3
  go_wp2_with fail
  refine HH10.out.mono ?_
  rintro e N3 ⟨rfl, hb⟩
  have HN3 := Lib.hid (HN2.out.below hb)
  clear hb
  cases v10 with
  | true =>
    have h2 := HK10.out
    rw [if_pos rfl] at h2
    obtain ⟨l, s8, h3, h4⟩ := bindO_inv h2
    obtain ⟨rfl, rfl⟩ := Prod.mk.inj (Option.some.inj h4)
    obtain ⟨X, hX⟩ : ∃ X, X = N3.setCell ⟨M + 1, 0, none⟩ (.int .u8 5) := ⟨_, rfl⟩
    have hUX : UW b g cap ts s12 w M ⟨tk, tp, tt, tn⟩ (exCells 5 0 nm 0 tp none 0 0) X := by rw [hX]; exact HN3.out.put 0 (.int .u8 5)
    have HC := Lib.hid (HAr.out F (by omega) b g cap ts s12 l s8 X hUX.rw h3)
    have HX := Lib.hid hUX
    have HXX := Lib.hid hX
    have c0 := HN3.out.box.get 0 (.int .u8 3) rfl
    have e0 := HN3.out.box.free 0
    clear h2 h3 h4 hX hUX
    go_upto_region 19 with (fail)
    rw [← HXX.out]
    clear c0 e0
    go_wp2_with fail
    refine HC.out.mono ?_
    rintro e w3 ⟨a, c, rfl, hx, hg3, hr3⟩
    have hU3 := HX.out.call hg3 hr3
    have hMX : M + 1 < X.heap.size := HX.out.ltW
    have hMw : w.heap.size < M := HX.out.lt
    obtain ⟨Z, hZ⟩ : ∃ Z, Z = w3.setCell ⟨M + 1, 5, none⟩ (.slice a l.length c) := ⟨_, rfl⟩
    have hgs : w3.grownBy Z (some (M + 1)) := by rw [hZ]; exact UW.grown1 M 5 _ _
    have HZ := Lib.hid (show UW b g cap ts s8 w M ⟨tk, tp, tt, tn⟩ (exCells 5 0 nm 0 tp a l.length c) Z by rw [hZ]; exact hU3.put 5 (.slice a l.length c))
    have HXC := Lib.hid (exc_of (k := 5) (op := 0) (nm := nm) (n := 0) (pos := tp) (ExRow.stays (stays_weaken (ok' := fun h => w.heap.size < h) fun h hh _ => by omega) (ExRow.stays (keeps_grown (B := X.heap.size) hgs hMX) hx)))
    have c5 := hU3.box.get 5 (.slice none 0 0) rfl
    have e5 := hU3.box.free 5
    have HZZ := Lib.hid hZ
    clear hx hg3 hr3 hU3 hZ hgs
    go_upto_region 40 with (fail)
    rw [← HZZ.out]
    clear c5 e5 HZZ
    have FIN := Lib.hid (ex_finR HZ.out.bl HZ.out.gl HZ.out.grown HZ.out.res HZ.out.rw HXC.out)
    have FB := Lib.hid (show Blk w.heap.size #[.int .u8 5, .int .u8 0, .string ⟨nm.toArray⟩, .int .i64 0, .int .i64 (tp : Int), .slice a l.length c] 36 (set6 Z w.heap.size (.int .u8 5) (.int .u8 0) (.string ⟨nm.toArray⟩) (.int .i64 0) (.int .i64 (tp : Int)) (.slice a l.length c)) from FIN.out.1)
    have hbx : Blk (M + 1) #[.int .u8 5, .int .u8 0, .string ⟨nm.toArray⟩, .int .i64 0, .int .i64 (tp : Int), .slice a l.length c] 36 Z := HZ.out.box
    obtain ⟨z0, z1, z2, z3, z4, z5⟩ := HZ.out.res.get6
    obtain ⟨f0, f1, f2, f3, f4, f5⟩ := HZ.out.res.free6
    obtain ⟨p0, p1, p2, p3, p4, p5⟩ := hbx.get6
    clear hbx
    go_wp2
    rw [← set6_eq]
    obtain ⟨y0, y1, y2, y3, y4, y5⟩ := FB.out.get6
    clear z0 z1 z2 z3 z4 z5 f0 f1 f2 f3 f4 f5 p0 p1 p2 p3 p4 p5
    exact bodyPost_ret (v := .agg #[.int .u8 5, .int .u8 0, .string ⟨nm.toArray⟩, .int .i64 0, .int .i64 (tp : Int), .slice a l.length c]) (by simp [results, Tryz.results89, go_sem, y0, y1, y2, y3, y4, y5]) rfl FIN.out.2
  | false =>
    have h2 := HK10.out
    rw [if_neg (by decide)] at h2
    obtain ⟨rfl, rfl⟩ := Prod.mk.inj (Option.some.inj h2)
    clear h2
    have HXC := Lib.hid (show ExC N3 (fun h => w.heap.size < h) (.mk 3 0 nm 0 tp []) (exCells 3 0 nm 0 tp none 0 0).toList from exc_nil)
    have FIN := Lib.hid (ex_finR HN3.out.bl HN3.out.gl HN3.out.grown HN3.out.res HN3.out.rw HXC.out)
    have FB := Lib.hid (show Blk w.heap.size #[.int .u8 3, .int .u8 0, .string ⟨nm.toArray⟩, .int .i64 0, .int .i64 (tp : Int), .slice none 0 0] 36 (set6 N3 w.heap.size (.int .u8 3) (.int .u8 0) (.string ⟨nm.toArray⟩) (.int .i64 0) (.int .i64 (tp : Int)) (.slice none 0 0)) from FIN.out.1)
    have hbx : Blk (M + 1) #[.int .u8 3, .int .u8 0, .string ⟨nm.toArray⟩, .int .i64 0, .int .i64 (tp : Int), .slice none 0 0] 36 N3 := HN3.out.box
    obtain ⟨z0, z1, z2, z3, z4, z5⟩ := HN3.out.res.get6
    obtain ⟨f0, f1, f2, f3, f4, f5⟩ := HN3.out.res.free6
    obtain ⟨p0, p1, p2, p3, p4, p5⟩ := hbx.get6
    clear hbx
    go_wp2
    rw [← set6_eq]
    obtain ⟨y0, y1, y2, y3, y4, y5⟩ := FB.out.get6
    clear z0 z1 z2 z3 z4 z5 f0 f1 f2 f3 f4 f5 p0 p1 p2 p3 p4 p5
    exact bodyPost_ret (v := .agg #[.int .u8 3, .int .u8 0, .string ⟨nm.toArray⟩, .int .i64 0, .int .i64 (tp : Int), .slice none 0 0]) (by simp [results, Tryz.results89, go_sem, y0, y1, y2, y3, y4, y5]) rfl FIN.out.2
end Go.Proofs.YtcgllooeimacdaaGreatDoor

/-! The reference's reader in memory: expressions, level by level. -/

namespace Go.Proofs.YtcgllooeimacdaaGreatDoor
open Go Go.RowKit Px
open Lx (Tok)

/-- The boxes of a level: the result's, that of what stands at the left. -/
structure LW (b g cap : Nat) (ts : List Tok) (s : RdS) (w : World) (P : Nat) (l : Ex) (cs : Array Value) (W : World) : Prop where
  grown : w.grownBy W (some b)
  res : Blk w.heap.size zEx 36 W
  box : Blk P cs 36 W
  exc : ExC W (fun h => w.heap.size < h ∧ h ≠ P) l cs.toList
  rw : RW b g cap ts s W
  lt : w.heap.size < P
  bl : b < w.heap.size
  gl : g < w.heap.size
section
variable {b g cap : Nat} {ts : List Tok} {s s' : RdS} {w W W' : World} {P : Nat} {l : Ex} {cs : Array Value}
theorem LW.below (h : LW b g cap ts s w P l cs W) (hb : Below W.heap.size W W') : LW b g cap ts s w P l cs W' :=
  ⟨gtrans h.grown (grown_of_below hb), h.res.below hb h.res.lt, h.box.below hb h.box.lt, h.exc.stays (fun k hk hl => ⟨hb.block k hl, hk⟩), h.rw.below hb, h.lt, h.bl, h.gl⟩
theorem LW.call (h : LW b g cap ts s w P l cs W) (hg : W.grownBy W' (some b)) (hr : RW b g cap ts s' W') : LW b g cap ts s' w P l cs W' :=
  ⟨gtrans h.grown hg, h.res.other hg (by have := h.bl; simp; omega), h.box.other hg (by have := h.bl; have := h.lt; simp; omega), h.exc.stays (fun k hk hl => ⟨hg.block k hl (by have := h.bl; simp; omega), hk⟩), hr, h.lt, h.bl, h.gl⟩
end
theorem lev_round {b g cap : Nat} {ts : List Tok} {s s3 : RdS} {w V w3 : World} {P T op pos : Nat} {l r : Ex} {k0 p0 : Nat} {nm0 : Bytes} {n0 q0 : Nat} {a0 : Option Addr} {m0 c0 : Nat} {k1 p1 : Nat} {nm1 : Bytes} {n1 q1 : Nat} {a1 : Option Addr} {m1 c1 : Nat}
    (h : LW b g cap ts s w P l (exCells k0 p0 nm0 n0 q0 a0 m0 c0) V) (hT : Blk T #[.int .u8 9, .int .u8 (op : Int), .string ⟨#[]⟩, .int .i64 0, .int .i64 (pos : Int), .slice none 0 0] 36 V) (hTP : P < T) (he : ExC V (fun h => w.heap.size < h ∧ h ≠ P ∧ h ≠ T) l (exCells k0 p0 nm0 n0 q0 a0 m0 c0).toList) (hg : V.grownBy w3 (some b)) (hr : RW b g cap ts s3 w3)
    (hx : ExC w3 (fun h => V.heap.size ≤ h) r (exCells k1 p1 nm1 n1 q1 a1 m1 c1).toList) :
    ∀ w5 w6 w7, w5 = (w3.alloc (.cells (exCells k1 p1 nm1 n1 q1 a1 m1 c1) 36)).alloc (.cells (exCells k0 p0 nm0 n0 q0 a0 m0 c0 ++ exCells k1 p1 nm1 n1 q1 a1 m1 c1) 36) →
      w6 = w5.setCell ⟨T, 5, none⟩ (.slice (some ⟨w3.heap.size + 1, 0, none⟩) 2 2) → w7 = set6 w6 P (.int .u8 9) (.int .u8 (op : Int)) (.string ⟨#[]⟩) (.int .i64 0) (.int .i64 (pos : Int)) (.slice (some ⟨w3.heap.size + 1, 0, none⟩) 2 2) →
      Blk P (exCells k0 p0 nm0 n0 q0 a0 m0 c0) 36 (w3.alloc (.cells (exCells k1 p1 nm1 n1 q1 a1 m1 c1) 36)) ∧ Blk w3.heap.size (exCells k1 p1 nm1 n1 q1 a1 m1 c1) 36 (w3.alloc (.cells (exCells k1 p1 nm1 n1 q1 a1 m1 c1) 36)) ∧
      Blk T #[.int .u8 9, .int .u8 (op : Int), .string ⟨#[]⟩, .int .i64 0, .int .i64 (pos : Int), .slice none 0 0] 36 w5 ∧
      Blk T #[.int .u8 9, .int .u8 (op : Int), .string ⟨#[]⟩, .int .i64 0, .int .i64 (pos : Int), .slice (some ⟨w3.heap.size + 1, 0, none⟩) 2 2] 36 w6 ∧ Blk P (exCells k0 p0 nm0 n0 q0 a0 m0 c0) 36 w6 ∧
      LW b g cap ts s3 w P (.mk 9 op [] 0 pos [l, r]) (exCells 9 op [] 0 pos (some ⟨w3.heap.size + 1, 0, none⟩) 2 2) w7 := by
  rintro w5 w6 w7 h5 h6 h7
  have hbl := h.bl
  have hgl := h.gl
  have hlt := h.lt
  have hTl := hT.lt
  have hVs := hg.size
  have h3 : LW b g cap ts s3 w P l (exCells k0 p0 nm0 n0 q0 a0 m0 c0) w3 := h.call hg hr
  have hb4 : Below w3.heap.size w3 (w3.alloc (.cells (exCells k1 p1 nm1 n1 q1 a1 m1 c1) 36)) := (Below.refl _ _).alloc (Nat.le_refl _) _
  have hb5 : Below w3.heap.size w3 w5 := by rw [h5]; exact hb4.alloc (by simp) _
  have hT3 := hT.other hg (by simp; omega)
  have h5L := h3.below hb5
  have hT5 := hT3.below hb5 hT3.lt
  have hG5 : Blk (w3.heap.size + 1) (exCells k0 p0 nm0 n0 q0 a0 m0 c0 ++ exCells k1 p1 nm1 n1 q1 a1 m1 c1) 36 w5 := by rw [h5]; exact Blk.new' _ _ _ (by simp)
  have hg6 : w5.grownBy w6 (some T) := by rw [h6]; exact Lib.grownBy_setCell _ _ _ _
  have hg7 : w6.grownBy w7 (some P) := by rw [h7]; exact grown_set6 _ _ _ _ _ _ _ _
  have hT6 : Blk T #[.int .u8 9, .int .u8 (op : Int), .string ⟨#[]⟩, .int .i64 0, .int .i64 (pos : Int), .slice (some ⟨w3.heap.size + 1, 0, none⟩) 2 2] 36 w6 := by rw [h6]; exact hT5.set 5 _
  have hP6 := h5L.box.other hg6 (by simp; omega)
  have hPl := h3.box.lt
  refine ⟨h3.box.below hb4 hPl, Blk.new _ _ _, hT5, hT6, hP6, ?_⟩
  have hP7 : Blk P (exCells 9 op [] 0 pos (some ⟨w3.heap.size + 1, 0, none⟩) 2 2) 36 w7 := by rw [h7]; exact hP6.set6 _ _ _ _ _ _
  have hG6 := hG5.other hg6 (by simp; omega)
  have hG7 := hG6.other hg7 (by simp; omega)
  have hl7 : ExC w7 (fun h => w.heap.size < h ∧ h ≠ P) l (exCells k0 p0 nm0 n0 q0 a0 m0 c0).toList := by
    have a3 : ExC w3 (fun h => w.heap.size < h ∧ h ≠ P ∧ h ≠ T) l (exCells k0 p0 nm0 n0 q0 a0 m0 c0).toList := he.stays (fun k hk hl => ⟨hg.block k hl (by simp; omega), hk⟩)
    have a5 : ExC w5 (fun h => w.heap.size < h ∧ h ≠ P ∧ h ≠ T) l (exCells k0 p0 nm0 n0 q0 a0 m0 c0).toList := a3.stays (fun k hk hl => ⟨hb5.block k hl, hk⟩)
    have a6 : ExC w6 (fun h => w.heap.size < h ∧ h ≠ P ∧ h ≠ T) l (exCells k0 p0 nm0 n0 q0 a0 m0 c0).toList := a5.stays (fun k hk hl => ⟨hg6.block k hl (by simp; omega), hk⟩)
    exact a6.stays (fun k hk hl => ⟨hg7.block k hl (by simp; omega), hk.1, hk.2.1⟩)
  have hr7 : ExC w7 (fun h => w.heap.size < h ∧ h ≠ P) r (exCells k1 p1 nm1 n1 q1 a1 m1 c1).toList := by
    have a5 : ExC w5 (fun h => V.heap.size ≤ h) r (exCells k1 p1 nm1 n1 q1 a1 m1 c1).toList := hx.stays (keeps_below hb5)
    have a6 := a5.stays (keeps_grown hg6 hTl)
    have a7 := a6.stays (keeps_grown hg7 (by omega))
    exact a7.stays (stays_weaken fun k hk _ => by omega)
  refine ⟨?_, ?_, hP7, ?_, ?_, hlt, hbl, hgl⟩
  · exact gnew (gnew h5L.grown (by omega) hg6) (by omega) hg7
  · exact (h5L.res.other hg6 (by simp; omega)).other hg7 (by simp; omega)
  · refine exc_of (Or.inr ⟨w3.heap.size + 1, 2, (exCells k0 p0 nm0 n0 q0 a0 m0 c0 ++ exCells k1 p1 nm1 n1 q1 a1 m1 c1).toList, rfl, ⟨by omega, by omega⟩, ⟨by simp, Or.inr ⟨_, _, _, rfl, Nat.zero_le _, hG7, Nat.le_refl _, by decide, by simp, by simp⟩⟩, ?_⟩)
    simp only [ExsC]
    exact ⟨(exCells k0 p0 nm0 n0 q0 a0 m0 c0).toList, (exCells k1 p1 nm1 n1 q1 a1 m1 c1).toList, by simp, hl7, (exCells k1 p1 nm1 n1 q1 a1 m1 c1).toList, [], by simp, hr7, rfl⟩
  · exact (h5L.rw.other hg6 (by simp; omega) (by simp; omega)).other hg7 (by simp; omega) (by simp; omega)

def LevRel (b g cap : Nat) (ts : List Tok) (k : Nat) (x : Ex) (s' : RdS) (w : World) (P F : Nat) (gk : Nat) (W : World) : Prop := ∃ (l : Ex) (s1 : RdS) (k0 p0 : Nat) (nm0 : Bytes) (n0 q0 : Nat) (a0 : Option Addr) (m0 c0 : Nat), gk ≤ F ∧ levLoopM ts gk k l s1 = some (x, s') ∧ LW b g cap ts s1 w P l (exCells k0 p0 nm0 n0 q0 a0 m0 c0) W
def OpRel (ts : List Tok) (k : Nat) (t : Tok) (OP : Nat) (V : World) (gk : Nat) (v6 v7 : Value) (W : World) : Prop := ∃ (a : Nat), gk ≤ 18 ∧ v6 = .int .u8 (a : Int) ∧ v7 = .int .u8 ((19 - gk : Nat) : Int) ∧ Px.opAt k t gk (19 - gk) a = OP ∧ a ≤ 18 ∧ Below V.heap.size V W

set_option maxRecDepth 100000 in
set_option maxHeartbeats 8000000 in
theorem level_w {F : Nat} (hU : ∀ G, G ≤ F → UnaC G) (hL : ∀ G, G ≤ F → LevC G) : LevC (F + 1) := by
  intro b g cap ts k s x s' w hw hk h
  rw [levelM] at h
  have hbl := hw.lt
  have hgl := hw.toks.lt
  have hlen := hw.len
  obtain ⟨W, hW⟩ : ∃ W, W = w.alloc ex0 := ⟨_, rfl⟩
  have hbW : Below w.heap.size w W := by rw [hW]; exact (Below.refl _ _).alloc (Nat.le_refl _) _
  have hz : Blk w.heap.size zEx 36 W := by rw [hW]; exact Blk.new _ _ _
  have hsz : W.heap.size = w.heap.size + 1 := by rw [hW]; simp
  have hrW := hw.below hbW
  have r5 := hrW.c5
  have HH := Lib.hid (And.intro (grown_of_below (row := some b) hbW) (And.intro hz (And.intro hrW hsz)))
  have HWW := Lib.hid hW
  by_cases he : s.e = 0
  · rw [if_pos he] at h
    have he' : ((s.e : Int) != 0) = false := by simp [he]
    by_cases hk11 : k = 11
    · rw [if_pos hk11] at h
      have hk' : ((k : Int) == 11) = true := by simp [hk11]
      have HC := Lib.hid (hU F (Nat.le_refl _) b g cap ts s x s' W hrW h)
      clear h hw hbW hz hW hrW hU hL hk11 he hsz
      go_enter Tryz.func72, Tryz.ntmps72
      go_upto_region 1 with (fail)
      rw [← HWW.out]
      go_wp2_with fail
      refine HC.out.mono ?_
      rintro e w2 ⟨k2, op, nm, n, pos, a, m, c, rfl, hx, hg, hr⟩
      have hz2 := HH.out.2.1.other hg (by simp; omega)
      have FIN := Lib.hid (ex_finR hbl hgl (gtrans HH.out.1 hg) hz2 hr (hx.stays (stays_weaken fun j hj _ => by have := HH.out.2.2.2; omega)))
      obtain ⟨z0, z1, z2, z3, z4, z5⟩ := hz2.get6
      obtain ⟨f0, f1, f2, f3, f4, f5⟩ := hz2.free6
      clear hz2 hx hg hr
      go_wp2
      rw [← set6_eq]
      obtain ⟨y0, y1, y2, y3, y4, y5⟩ := FIN.out.1.get6
      clear z0 z1 z2 z3 z4 z5 f0 f1 f2 f3 f4 f5
      exact bodyPost_ret (v := .agg (exCells k2 op nm n pos a m c)) (by simp [results, Tryz.results72, go_sem, y0, y1, y2, y3, y4, y5]) rfl FIN.out.2
    · rw [if_neg hk11] at h
      obtain ⟨l, s1, h1, h2⟩ := bindO_inv h
      have hk' : ((k : Int) == 11) = false := by rw [beq_eq_false_iff_ne]; omega
      have HC := Lib.hid (hL F (Nat.le_refl _) b g cap ts (k + 1) s l s1 W hrW (by omega) h1)
      have H2 := Lib.hid h2
      have HLv := Lib.hid hL
      have HSG := Lib.hid refSigns_any
      have hkb : (k : Int) < 11 := by omega
      have hk10 : k + 1 ≤ 11 := by omega
      clear h h1 h2 hw hbW hz hW hrW hU hL hk11 he hsz hk
      go_enter Tryz.func72, Tryz.ntmps72
      go_upto_region 1 with (fail)
      rw [← HWW.out]
      go_wp2_with fail
      refine HC.out.mono ?_
      rintro e w1 ⟨k0, p0, nm0, n0, q0, a0, m0, c0, rfl, hx, hg, hr⟩
      obtain ⟨V, hV⟩ : ∃ V, V = w1.alloc (.cells (exCells k0 p0 nm0 n0 q0 a0 m0 c0) 36) := ⟨_, rfl⟩
      have hbV : Below w1.heap.size w1 V := by rw [hV]; exact (Below.refl _ _).alloc (Nat.le_refl _) _
      have hLW : LW b g cap ts s1 w w1.heap.size l (exCells k0 p0 nm0 n0 q0 a0 m0 c0) V := by
        have h1 := HH.out.2.2.2
        have h2 := hg.size
        refine ⟨gtrans (gtrans HH.out.1 hg) (grown_of_below hbV), (HH.out.2.1.other hg (by simp; omega)).below hbV (by omega), by rw [hV]; exact Blk.new _ _ _, ?_, hr.below hbV, by omega, hbl, hgl⟩
        exact hx.stays (fun j hj hl => ⟨hbV.block j hl, by omega, by omega⟩)
      have HREL := Lib.hid (show LevRel b g cap ts k x s' w w1.heap.size F F V from ⟨l, s1, k0, p0, nm0, n0, q0, a0, m0, c0, Nat.le_refl _, H2.out, hLW⟩)
      have HVV := Lib.hid hV
      clear hx hg hr hV hbV hLW
      go_upto_region 6 with (fail)
      rw [← HVV.out]
      clear HVV r5
      generalize w1.heap.size = P at *
      clear he'
      go_loopg [] F (fun gk W => LevRel b g cap ts k x s' w P F gk W)
      case atStart => exact HREL.out
      case round =>
        obtain ⟨l, s1, k0, p0, nm0, n0, q0, a0, m0, c0, hgk, hll, hLW⟩ := hrel
        obtain ⟨WR, rfl⟩ : ∃ WR : World, WR = wr := ⟨_, rfl⟩
        match gk, hgk, hll with
        | 0, _, hll => rw [levLoopM] at hll; cases hll
        | fk + 1, hgk, hll =>
          rw [levLoopM] at hll
          have r5 := hLW.rw.c5
          have HL0 := Lib.hid hLW
          by_cases he : s1.e = 0
          · rw [if_pos he] at hll
            have he' : ((s1.e : Int) == 0) = true := by simp [he]
            by_cases hi : s1.i < ts.length
            · rw [if_pos hi] at hll
              have HLL := Lib.hid hll
              have HNOW := Lib.hid (show nowM ts s1 = some (tk ts s1.i, s1) by unfold nowM; rw [if_pos he, if_pos hi])
              have hib : (s1.i : Int) < 30000 := by omega
              obtain ⟨OP, hOP⟩ : ∃ OP, OP = Px.opAt k (tk ts s1.i) 18 1 0 := ⟨_, rfl⟩
              have HOP := Lib.hid hOP
              have HREL2 := Lib.hid (show OpRel ts k (tk ts s1.i) OP WR 18 (.int .u8 0) (.int .u8 1) WR from ⟨0, Nat.le_refl _, rfl, rfl, hOP.symm, by omega, Below.refl _ _⟩)
              clear hll he hi hLW hOP
              go_upto_region 9 with (fail)
              clear r5 he'
              go_loopg [6, 7] 18 (fun gk v6 v7 W => OpRel ts k (tk ts s1.i) OP WR gk v6 v7 W)
              case atStart => exact HREL2.out
              case round =>
                obtain ⟨a, hle, rfl, rfl, hop, hal, hb⟩ := hrel
                match gk, hle, hop with
                | 0, _, hop =>
                  rw [Px.opAt] at hop
                  subst hop
                  have HLW := Lib.hid (HL0.out.below hb)
                  clear hb HREL2
                  have hll := HLL.out
                  rw [← HOP.out] at hll
                  by_cases hz0 : a = 0
                  · rw [if_pos hz0] at hll
                    obtain ⟨rfl, rfl⟩ := Prod.mk.inj (Option.some.inj hll)
                    have ha0 : ((a : Int) == 0) = true := by simp [hz0]
                    have FIN := Lib.hid (ex_finR HLW.out.bl HLW.out.gl HLW.out.grown HLW.out.res HLW.out.rw (HLW.out.exc.stays (stays_weaken fun h hh _ => hh.1)))
                    clear hll hz0
                    obtain ⟨z0, z1, z2, z3, z4, z5⟩ := HLW.out.res.get6
                    obtain ⟨f0, f1, f2, f3, f4, f5⟩ := HLW.out.res.free6
                    obtain ⟨p0', p1', p2', p3', p4', p5'⟩ := HLW.out.box.get6
                    go_wp2
                    rw [← set6_eq]
                    obtain ⟨y0, y1, y2, y3, y4, y5⟩ := FIN.out.1.get6
                    clear z0 z1 z2 z3 z4 z5 f0 f1 f2 f3 f4 f5 p0' p1' p2' p3' p4' p5'
                    exact bodyPost_ret (v := .agg (exCells k0 p0 nm0 n0 q0 a0 m0 c0)) (by simp [results, Tryz.results72, go_sem, y0, y1, y2, y3, y4, y5]) rfl FIN.out.2
                  · rw [if_neg hz0] at hll
                    obtain ⟨r, s3, h3, h4⟩ := bindO_inv hll
                    have ha0 : ((a : Int) == 0) = false := by rw [beq_eq_false_iff_ne]; omega
                    have HN := Lib.hid (now_w b g cap ts s1 s1 _ _ HLW.out.rw HNOW.out)
                    have H4 := Lib.hid h4
                    have H3 := Lib.hid h3
                    clear hll hz0 h3 h4
                    generalize hTK : tk ts s1.i = T at *
                    obtain ⟨tk0, tp, tt, tn⟩ := T
                    go_wp2_with fail
                    refine HN.out.mono ?_
                    rintro e V1 ⟨rfl, hb1⟩
                    unfold tokV'
                    obtain ⟨V2, hV2⟩ : ∃ V2, V2 = V1.alloc (.cells #[.int .u8 9, .int .u8 (a : Int), .string ⟨#[]⟩, .int .i64 0, .int .i64 (tp : Int), .slice none 0 0] 36) := ⟨_, rfl⟩
                    have hb2 : Below V1.heap.size V1 V2 := by rw [hV2]; exact (Below.refl _ _).alloc (Nat.le_refl _) _
                    have hT2 : Blk V1.heap.size #[.int .u8 9, .int .u8 (a : Int), .string ⟨#[]⟩, .int .i64 0, .int .i64 (tp : Int), .slice none 0 0] 36 V2 := by rw [hV2]; exact Blk.new _ _ _
                    have hL1 := HLW.out.below hb1
                    have hL2 := hL1.below hb2
                    obtain ⟨V3, hV3⟩ : ∃ V3, V3 = V2.setCell ⟨b, 1, none⟩ (.int .i64 ((s1.i : Int) + 1)) := ⟨_, rfl⟩
                    have hg3 : V2.grownBy V3 (some b) := by rw [hV3]; exact Lib.grownBy_setCell _ _ _ _
                    have hB3 : Blk b (rdCells g ts.length cap ⟨s1.i + 1, s1.o, s1.n, s1.pl, s1.e⟩) 70 V3 := by rw [hV3]; exact hL2.rw.blk.set 1 _
                    have hL3 := hL2.call hg3 (hL2.rw.step hg3 hB3)
                    have hbT : b < V1.heap.size := hL1.rw.lt
                    have hPT : P < V1.heap.size := hL1.box.lt
                    have hT3 := hT2.other hg3 (by simp; omega)
                    have he3 : ExC V3 (fun h => w.heap.size < h ∧ h ≠ P ∧ h ≠ V1.heap.size) l (exCells k0 p0 nm0 n0 q0 a0 m0 c0).toList :=
                      ExC.stays (ok := fun h => w.heap.size < h ∧ h ≠ P ∧ h ≠ V1.heap.size) (fun j hj hl => ⟨hg3.block j hl (by have := hL1.bl; simp; omega), hj⟩) _ _ (hL1.exc.stays (fun j hj hl => ⟨hb2.block j hl, hj.1, hj.2, by omega⟩))
                    have HC3 := Lib.hid (HLv.out fk (by omega) b g cap ts (k + 1) ⟨s1.i + 1, s1.o, s1.n, s1.pl, s1.e⟩ r s3 V3 hL3.rw hk10 H3.out)
                    have c1 := hL2.rw.c1
                    have f1 := hL2.rw.blk.free 1
                    have HL3 := Lib.hid (And.intro hL3 (And.intro hT3 (And.intro he3 hPT)))
                    have HV2 := Lib.hid hV2
                    have HV3 := Lib.hid hV3
                    have hft := fTok1
                    clear hb1 hV2 hb2 hT2 hL1 hL2 hV3 hg3 hB3 hL3 hT3 he3
                    go_upto_region 16 with (fail)
                    rw [← HV2.out]
                    go_upto_region 17 with (fail)
                    rw [← HV3.out]
                    clear c1 f1 HV2 HV3
                    generalize V1.heap.size = T0 at *
                    go_wp2_with fail
                    refine HC3.out.mono ?_
                    rintro e w3 ⟨k1, p1, nm1, n1, q1, a1, m1, c1, rfl, hx, hg, hr⟩
                    obtain ⟨w5, hw5⟩ : ∃ w5, w5 = (w3.alloc (.cells (exCells k1 p1 nm1 n1 q1 a1 m1 c1) 36)).alloc (.cells (exCells k0 p0 nm0 n0 q0 a0 m0 c0 ++ exCells k1 p1 nm1 n1 q1 a1 m1 c1) 36) := ⟨_, rfl⟩
                    obtain ⟨w6, hw6⟩ : ∃ w6, w6 = w5.setCell ⟨T0, 5, none⟩ (.slice (some ⟨w3.heap.size + 1, 0, none⟩) 2 2) := ⟨_, rfl⟩
                    obtain ⟨w7, hw7⟩ : ∃ w7, w7 = set6 w6 P (.int .u8 9) (.int .u8 (a : Int)) (.string ⟨#[]⟩) (.int .i64 0) (.int .i64 (tp : Int)) (.slice (some ⟨w3.heap.size + 1, 0, none⟩) 2 2) := ⟨_, rfl⟩
                    obtain ⟨r1, r2, r3, r4, r6, r7⟩ := lev_round HL3.out.1 HL3.out.2.1 HL3.out.2.2.2 HL3.out.2.2.1 hg hr hx w5 w6 w7 hw5 hw6 hw7
                    obtain ⟨g0, g1, g2, g3, g4, g5⟩ := r1.get6
                    obtain ⟨d0, d1, d2, d3, d4, d5⟩ := r2.get6
                    have hw5' : w5 = (w3.alloc (.cells (exCells k1 p1 nm1 n1 q1 a1 m1 c1) 36)).alloc (.cells #[.int .u8 (k0 : Int), .int .u8 (p0 : Int), .string ⟨nm0.toArray⟩, .int .i64 (n0 : Int), .int .i64 (q0 : Int), .slice a0 m0 c0, .int .u8 (k1 : Int), .int .u8 (p1 : Int), .string ⟨nm1.toArray⟩, .int .i64 (n1 : Int), .int .i64 (q1 : Int), .slice a1 m1 c1] 36) := hw5
                    have t5 := r3.get 5 (.slice none 0 0) rfl
                    have ft5 := r3.free 5
                    rw [hw5'] at t5 ft5
                    have HR := Lib.hid (And.intro r4 (And.intro r6 r7))
                    have HW6 := Lib.hid (show w6 = _ by rw [hw6, hw5'])
                    have HW7 := Lib.hid hw7
                    clear hx hg hr r1 r2 r3 r4 r6 r7 hw5 hw5' hw6 hw7
                    go_upto_region 19 with (fail)
                    rw [← HW6.out]
                    clear g0 g1 g2 g3 g4 g5 d0 d1 d2 d3 d4 d5 t5 ft5 HW6
                    obtain ⟨g0, g1, g2, g3, g4, g5⟩ := HR.out.1.get6
                    obtain ⟨d0, d1, d2, d3, d4, d5⟩ := HR.out.2.1.get6
                    obtain ⟨f0, f1, f2, f3, f4, f5⟩ := HR.out.2.1.free6
                    have HREL3 := Lib.hid (show LevRel b g cap ts k x s' w P F fk w7 from ⟨.mk 9 a [] 0 tp [l, r], s3, 9, a, [], 0, tp, some ⟨w3.heap.size + 1, 0, none⟩, 2, 2, by omega, H4.out, HR.out.2.2⟩)
                    go_wp2
                    rw [← set6_eq, ← HW7.out]
                    go_roundg fk
                    case measure => omega
                    case rel => exact HREL3.out
                | n + 1, hle, hop =>
                  obtain ⟨o, ho⟩ : ∃ o, o = 19 - (n + 1) := ⟨_, rfl⟩
                  rw [← ho] at hop ⊢
                  rw [Px.opAt] at hop
                  have hn19 : o + 1 = 19 - n := by omega
                  rw [hn19] at hop
                  have ho18 : decide ((o : Int) ≤ 18) = true := by simp; omega
                  have HSo := Lib.hid (HSG.out o (by omega))
                  have HB := Lib.hid hb
                  have hob : (o : Int) ≤ 18 := by omega
                  have HO := Lib.hid (And.intro ho hn19)
                  clear hb ho hn19
                  obtain ⟨sg, hsg⟩ : ∃ sg, sg = signOf o := ⟨_, rfl⟩
                  rw [← hsg] at hop HSo
                  have HSG2 := Lib.hid hsg
                  clear hsg
                  obtain ⟨x0, lv⟩ := sg
                  have HOPP := Lib.hid hop
                  clear hop
                  go_wp2_with fail
                  refine (HSo.out _).mono ?_
                  rintro e W1 ⟨he1, hb1⟩
                  obtain rfl : e = .returned (.tuple #[.string ⟨x0.toArray⟩, .int .i64 (lv : Int)]) := he1
                  have HB1 := Lib.hid (HB.out.trans (hb1.mono HB.out.size))
                  clear hb1
                  by_cases hlv : lv = k
                  · have e1 : ((lv : Int) == (k : Int)) = true := by simp [hlv]
                    have HI := Lib.hid (is_w b g cap ts s1 s1 x0 (isT x0 (tk ts s1.i)) W1 (HL0.out.rw.below HB1.out) (by unfold isM; rw [HNOW.out]; rfl))
                    generalize hIT : isT x0 (tk ts s1.i) = it at *
                    have HIT := Lib.hid (And.intro hlv hIT)
                    clear hlv hIT
                    go_wp2_with fail
                    refine HI.out.mono ?_
                    rintro e W2 ⟨rfl, hb2⟩
                    have HB2 := Lib.hid (HB1.out.trans (hb2.mono HB1.out.size))
                    clear hb2
                    cases it with
                    | true =>
                      have hop := HOPP.out
                      rw [if_pos ⟨HIT.out.1, by first | exact HIT.out.2 | rfl⟩] at hop
                      have FIN := Lib.hid (show OpRel ts k (tk ts s1.i) OP WR n (.int .u8 (o : Int)) (.int .u8 ((o : Int) + 1)) W2 from ⟨o, by omega, rfl, by rw [← HO.out.2]; rfl, hop, by omega, HB2.out⟩)
                      clear hop
                      go_wp2
                      go_roundg n
                      case measure => omega
                      case rel => exact FIN.out
                    | false =>
                      have hop := HOPP.out
                      rw [if_neg (fun h => by have := HIT.out.2; simp_all)] at hop
                      have FIN := Lib.hid (show OpRel ts k (tk ts s1.i) OP WR n (.int .u8 (a : Int)) (.int .u8 ((o : Int) + 1)) W2 from ⟨a, by omega, rfl, by rw [← HO.out.2]; rfl, hop, hal, HB2.out⟩)
                      clear hop
                      go_wp2
                      go_roundg n
                      case measure => omega
                      case rel => exact FIN.out
                  · have e1 : ((lv : Int) == (k : Int)) = false := by rw [beq_eq_false_iff_ne]; omega
                    have hop := HOPP.out
                    rw [if_neg (fun h => hlv h.1)] at hop
                    have FIN := Lib.hid (show OpRel ts k (tk ts s1.i) OP WR n (.int .u8 (a : Int)) (.int .u8 ((o : Int) + 1)) W1 from ⟨a, by omega, rfl, by rw [← HO.out.2]; rfl, hop, hal, HB1.out⟩)
                    clear hop hlv
                    go_wp2
                    go_roundg n
                    case measure => omega
                    case rel => exact FIN.out
            · rw [if_neg hi] at hll; cases hll
          · rw [if_neg he] at hll
            obtain ⟨rfl, rfl⟩ := Prod.mk.inj (Option.some.inj hll)
            have he' : ((s1.e : Int) == 0) = false := by rw [beq_eq_false_iff_ne]; omega
            have FIN := Lib.hid (ex_finR HL0.out.bl HL0.out.gl HL0.out.grown HL0.out.res HL0.out.rw (HL0.out.exc.stays (stays_weaken fun h hh _ => hh.1)))
            clear hll he hLW
            obtain ⟨z0, z1, z2, z3, z4, z5⟩ := HL0.out.res.get6
            obtain ⟨f0, f1, f2, f3, f4, f5⟩ := HL0.out.res.free6
            obtain ⟨p0', p1', p2', p3', p4', p5'⟩ := HL0.out.box.get6
            go_wp2
            rw [← set6_eq]
            obtain ⟨y0, y1, y2, y3, y4, y5⟩ := FIN.out.1.get6
            clear z0 z1 z2 z3 z4 z5 f0 f1 f2 f3 f4 f5 p0' p1' p2' p3' p4' p5'
            exact bodyPost_ret (v := .agg (exCells k0 p0 nm0 n0 q0 a0 m0 c0)) (by simp [results, Tryz.results72, go_sem, y0, y1, y2, y3, y4, y5]) rfl FIN.out.2
  · rw [if_neg he] at h
    obtain ⟨rfl, rfl⟩ := Prod.mk.inj (Option.some.inj h)
    have he' : ((s.e : Int) != 0) = true := by simp; omega
    have FIN := Lib.hid (ex_finR (x := exZ) (k := 0) (op := 0) (nm := []) (n := 0) (pos := 0) (a := none) (m := 0) (c := 0) hbl hgl HH.out.1 HH.out.2.1 hrW exc_nil)
    have FB := Lib.hid (show Blk w.heap.size zEx 36 (set6 W w.heap.size (.int .u8 0) (.int .u8 0) (.string ⟨#[]⟩) (.int .i64 0) (.int .i64 0) (.slice none 0 0)) from FIN.out.1)
    obtain ⟨z0, z1, z2, z3, z4, z5⟩ := hz.get6
    obtain ⟨f0, f1, f2, f3, f4, f5⟩ := hz.free6
    clear h hw hbW hz hW hrW hU hL he hsz
    go_enter Tryz.func72, Tryz.ntmps72
    go_upto_region 1 with (fail)
    rw [← HWW.out]
    go_wp2
    rw [← set6_eq]
    obtain ⟨y0, y1, y2, y3, y4, y5⟩ := FB.out.get6
    clear z0 z1 z2 z3 z4 z5 f0 f1 f2 f3 f4 f5
    exact bodyPost_ret (v := .agg zEx) (by simp [results, Tryz.results72, go_sem, y0, y1, y2, y3, y4, y5]) rfl FIN.out.2

theorem exprs_w : ∀ F, (∀ G, G ≤ F → LevC G) ∧ (∀ G, G ≤ F → UnaC G) ∧ (∀ G, G ≤ F → PlcC G) ∧ (∀ G, G ≤ F → ArgC G)
  | 0 => by
    refine ⟨fun G hG => ?_, fun G hG => ?_, fun G hG => ?_, fun G hG => ?_⟩
    · obtain rfl : G = 0 := by omega
      exact fun b g cap ts k s x s' w _ _ h => by rw [levelM] at h; cases h
    · obtain rfl : G = 0 := by omega
      exact fun b g cap ts s x s' w _ h => by rw [unaryM] at h; cases h
    · obtain rfl : G = 0 := by omega
      exact fun b g cap ts s x s' w _ h => by rw [placeM] at h; cases h
    · obtain rfl : G = 0 := by omega
      exact fun b g cap ts s x s' w _ h => by rw [argsM] at h; cases h
  | F + 1 => by
    obtain ⟨h1, h2, h3, h4⟩ := exprs_w F
    have up : ∀ {P : Nat → Prop}, (∀ G, G ≤ F → P G) → P (F + 1) → ∀ G, G ≤ F + 1 → P G := fun h h' G hG => by
      rcases Nat.lt_or_ge G (F + 1) with h5 | h5
      · exact h G (by omega)
      · obtain rfl : G = F + 1 := by omega
        exact h'
    exact ⟨up h1 (level_w h2 h1), up h2 (unary_w h2 h1 h3 h4), up h3 (place_w (h1 F (Nat.le_refl _))), up h4 (args_w h1)⟩
end Go.Proofs.YtcgllooeimacdaaGreatDoor

/-! The reference's reader in memory: statements: what is handed on; a block. -/

namespace Go.Proofs.YtcgllooeimacdaaGreatDoor
open Go Go.RowKit Px
open Lx (Tok)

/-- A statement that is answered. -/
def StP (b g cap : Nat) (ts : List Tok) (x : Sm) (s' : RdS) (w : World) (e : Ending) (w' : World) : Prop := ∃ (k id : Nat) (nm : Bytes) (t n pos : Nat) (a1 : Option Addr) (m1 c1 : Nat) (a2 : Option Addr) (m2 c2 : Nat) (a3 : Option Addr) (m3 c3 : Nat),
  e = .returned (.agg (smCells k id nm t n pos (.slice a1 m1 c1) (.slice a2 m2 c2) (.slice a3 m3 c3))) ∧ SmC w' (fun h => w.heap.size ≤ h) x (smCells k id nm t n pos (.slice a1 m1 c1) (.slice a2 m2 c2) (.slice a3 m3 c3)).toList ∧ w.grownBy w' (some b) ∧ RW b g cap ts s' w'
def StC (F : Nat) : Prop := ∀ (b g cap : Nat) (ts : List Tok) (s : RdS) (x : Sm) (s' : RdS) (w : World), RW b g cap ts s w → stmtM ts F s = some (x, s') → Calls Tryz.prog 57 #[.pointer (some ⟨b, 0, none⟩)] w (StP b g cap ts x s' w)
def BlP (b g cap : Nat) (ts : List Tok) (l : List Sm) (s' : RdS) (w : World) (e : Ending) (w' : World) : Prop := ∃ (a : Option Addr) (c : Nat), e = .returned (.slice a l.length c) ∧ SmRow w' (fun h => w.heap.size ≤ h) l (.slice a l.length c) ∧ w.grownBy w' (some b) ∧ RW b g cap ts s' w'
def BlcC (F : Nat) : Prop := ∀ (b g cap : Nat) (ts : List Tok) (s : RdS) (l : List Sm) (s' : RdS) (w : World), RW b g cap ts s w → blockM ts F s = some (l, s') → Calls Tryz.prog 40 #[.pointer (some ⟨b, 0, none⟩)] w (BlP b g cap ts l s' w)

/-- The boxes of a statement: the result's, and that of what is being made. -/
structure SW (b g cap : Nat) (ts : List Tok) (s : RdS) (w : World) (M k id : Nat) (nm : Bytes) (t n pos : Nat) (l : List Ex) (bd el : List Sm) (v1 v2 v3 : Value) (W : World) : Prop where
  grown : w.grownBy W (some b)
  res : Blk w.heap.size zSm 39 W
  box : Blk M (smCells k id nm t n pos v1 v2 v3) 39 W
  ex : RMid ExsC (M + 1) 36 6 l v1 W
  bd : SmRow W (fun h => M + 1 ≤ h) bd v2
  el : SmRow W (fun h => M + 1 ≤ h) el v3
  rw : RW b g cap ts s W
  lt : w.heap.size < M
  bl : b < w.heap.size
  gl : g < w.heap.size
section
variable {b g cap : Nat} {ts : List Tok} {s s' : RdS} {w W W' : World} {M k id : Nat} {nm : Bytes} {t n pos : Nat} {l : List Ex} {bd el : List Sm} {v1 v2 v3 : Value}
theorem SW.below (h : SW b g cap ts s w M k id nm t n pos l bd el v1 v2 v3 W) (hb : Below W.heap.size W W') : SW b g cap ts s w M k id nm t n pos l bd el v1 v2 v3 W' :=
  ⟨gtrans h.grown (grown_of_below hb), h.res.below hb h.res.lt, h.box.below hb h.box.lt, h.ex.below ExsC_st hb, SmRow.stays (fun k hk hl => ⟨hb.block k hl, hk⟩) h.bd, SmRow.stays (fun k hk hl => ⟨hb.block k hl, hk⟩) h.el, h.rw.below hb, h.lt, h.bl, h.gl⟩
theorem SW.call (h : SW b g cap ts s w M k id nm t n pos l bd el v1 v2 v3 W) (hg : W.grownBy W' (some b)) (hr : RW b g cap ts s' W') : SW b g cap ts s' w M k id nm t n pos l bd el v1 v2 v3 W' :=
  have h1 := h.bl
  have h2 := h.lt
  ⟨gtrans h.grown hg, h.res.other hg (by simp; omega), h.box.other hg (by simp; omega), h.ex.keep ExsC_st (b := b) (by omega) hg, SmRow.stays (fun k hk hl => ⟨hg.block k hl (by simp; omega), hk⟩) h.bd, SmRow.stays (fun k hk hl => ⟨hg.block k hl (by simp; omega), hk⟩) h.el, hr, h.lt, h.bl, h.gl⟩
/-- A write into the box. -/
theorem SW.put (h : SW b g cap ts s w M k id nm t n pos l bd el v1 v2 v3 W) (j : Nat) (u : Value) : ∀ X, X = W.setCell ⟨M, j, none⟩ u → w.grownBy X (some b) ∧ Blk w.heap.size zSm 39 X ∧ Blk M ((smCells k id nm t n pos v1 v2 v3).setIfInBounds j u) 39 X ∧
    (∀ l v, RMid ExsC (M + 1) 36 6 l v W → RMid ExsC (M + 1) 36 6 l v X) ∧ (∀ l v, SmRow W (fun h => M + 1 ≤ h) l v → SmRow X (fun h => M + 1 ≤ h) l v) ∧ RW b g cap ts s X := by
  rintro X rfl
  have hg : W.grownBy (W.setCell ⟨M, j, none⟩ u) (some M) := Lib.grownBy_setCell _ _ _ _
  have h1 := h.lt
  have h2 := h.bl
  have h3 := h.gl
  exact ⟨gnew h.grown (by omega) hg, h.res.other hg (by simp; omega), h.box.set j u, fun l v hm => hm.keep ExsC_st (b := M) (by omega) hg, fun l v hr => SmRow.stays (fun k hk hl => ⟨hg.block k hl (by simp; omega), hk⟩) hr, h.rw.other hg (by simp; omega) (by simp; omega)⟩
theorem SW.putK (h : SW b g cap ts s w M k id nm t n pos l bd el v1 v2 v3 W) (k' : Nat) : SW b g cap ts s w M k' id nm t n pos l bd el v1 v2 v3 (W.setCell ⟨M, 0, none⟩ (.int .u8 (k' : Int))) := by
  obtain ⟨p1, p2, p3, p4, p5, p6⟩ := h.put 0 (.int .u8 (k' : Int)) _ rfl
  exact ⟨p1, p2, p3, p4 _ _ h.ex, p5 _ _ h.bd, p5 _ _ h.el, p6, h.lt, h.bl, h.gl⟩
theorem SW.putNm (h : SW b g cap ts s w M k id nm t n pos l bd el v1 v2 v3 W) (nm' : Bytes) : SW b g cap ts s w M k id nm' t n pos l bd el v1 v2 v3 (W.setCell ⟨M, 2, none⟩ (.string ⟨nm'.toArray⟩)) := by
  obtain ⟨p1, p2, p3, p4, p5, p6⟩ := h.put 2 (.string ⟨nm'.toArray⟩) _ rfl
  exact ⟨p1, p2, p3, p4 _ _ h.ex, p5 _ _ h.bd, p5 _ _ h.el, p6, h.lt, h.bl, h.gl⟩
theorem SW.putT (h : SW b g cap ts s w M k id nm t n pos l bd el v1 v2 v3 W) (t' : Nat) : SW b g cap ts s w M k id nm t' n pos l bd el v1 v2 v3 (W.setCell ⟨M, 3, none⟩ (.int .u8 (t' : Int))) := by
  obtain ⟨p1, p2, p3, p4, p5, p6⟩ := h.put 3 (.int .u8 (t' : Int)) _ rfl
  exact ⟨p1, p2, p3, p4 _ _ h.ex, p5 _ _ h.bd, p5 _ _ h.el, p6, h.lt, h.bl, h.gl⟩
theorem SW.putN (h : SW b g cap ts s w M k id nm t n pos l bd el v1 v2 v3 W) (n' : Nat) : SW b g cap ts s w M k id nm t n' pos l bd el v1 v2 v3 (W.setCell ⟨M, 4, none⟩ (.int .i64 (n' : Int))) := by
  obtain ⟨p1, p2, p3, p4, p5, p6⟩ := h.put 4 (.int .i64 (n' : Int)) _ rfl
  exact ⟨p1, p2, p3, p4 _ _ h.ex, p5 _ _ h.bd, p5 _ _ h.el, p6, h.lt, h.bl, h.gl⟩
theorem SW.putBd (h : SW b g cap ts s w M k id nm t n pos l bd el v1 v2 v3 W) {bd' : List Sm} {v2' : Value} (hr : SmRow W (fun h => M + 1 ≤ h) bd' v2') : SW b g cap ts s w M k id nm t n pos l bd' el v1 v2' v3 (W.setCell ⟨M, 7, none⟩ v2') := by
  obtain ⟨p1, p2, p3, p4, p5, p6⟩ := h.put 7 v2' _ rfl
  exact ⟨p1, p2, p3, p4 _ _ h.ex, p5 _ _ hr, p5 _ _ h.el, p6, h.lt, h.bl, h.gl⟩
theorem SW.putEl (h : SW b g cap ts s w M k id nm t n pos l bd el v1 v2 v3 W) {el' : List Sm} {v3' : Value} (hr : SmRow W (fun h => M + 1 ≤ h) el' v3') : SW b g cap ts s w M k id nm t n pos l bd el' v1 v2 v3' (W.setCell ⟨M, 8, none⟩ v3') := by
  obtain ⟨p1, p2, p3, p4, p5, p6⟩ := h.put 8 v3' _ rfl
  exact ⟨p1, p2, p3, p4 _ _ h.ex, p5 _ _ h.bd, p5 _ _ hr, p6, h.lt, h.bl, h.gl⟩
theorem SW.putEx (h : SW b g cap ts s w M k id nm t n pos l bd el v1 v2 v3 W) {l' : List Ex} {v1' : Value} (hr : RMid ExsC (M + 1) 36 6 l' v1' W) : SW b g cap ts s w M k id nm t n pos l' bd el v1' v2 v3 (W.setCell ⟨M, 6, none⟩ v1') := by
  obtain ⟨p1, p2, p3, p4, p5, p6⟩ := h.put 6 v1' _ rfl
  exact ⟨p1, p2, p3, p4 _ _ hr, p5 _ _ h.bd, p5 _ _ h.el, p6, h.lt, h.bl, h.gl⟩
theorem SW.ltW (h : SW b g cap ts s w M k id nm t n pos l bd el v1 v2 v3 W) : M < W.heap.size := h.box.lt
/-- One more expression, appended out of a new block. -/
theorem SW.app (h : SW b g cap ts s w M k id nm t n pos l [] [] v1 (.slice none 0 0) (.slice none 0 0) W) {x : Ex} {cs : Array Value} {D : Nat} (hD : M + 1 ≤ D) (hvD : ∀ h, v1.ownBlock = some h → h < D) (hx : ExC W (fun h => D ≤ h) x cs.toList) {xs : List Value}
    (ho : W.ownsRow (M + 1) 36 6 v1 l.length xs) (hxs : ExsC W (fun h => M + 1 ≤ h ∧ some h ≠ v1.ownBlock) l xs) {g' c' : Nat} {w4 : World} (ho4 : w4.ownsRow (M + 1) 36 6 (.slice (some ⟨g', 0, none⟩) (l.length + 1) c') (l.length + 1) (xs ++ cs.toList))
    (hg4 : (W.alloc (.cells cs 36)).grownBy w4 v1.ownBlock) (hat : v1.ownBlock = some g' ∨ g' = (W.alloc (.cells cs 36)).heap.size) :
    Blk M (smCells k id nm t n pos v1 (.slice none 0 0) (.slice none 0 0)) 39 w4 ∧ SW b g cap ts s w M k id nm t n pos (l ++ [x]) [] [] (.slice (some ⟨g', 0, none⟩) (l.length + 1) c') (.slice none 0 0) (.slice none 0 0) (w4.setCell ⟨M, 6, none⟩ (.slice (some ⟨g', 0, none⟩) (l.length + 1) c')) := by
  have h1 := h.lt
  have h2 := h.bl
  have h3 := h.gl
  have hat' : (Value.slice (some ⟨g', 0, none⟩) (l.length + 1) c').ownBlock = v1.ownBlock ∨ (Value.slice (some ⟨g', 0, none⟩) (l.length + 1) c').ownBlock = some (W.alloc (.cells cs 36)).heap.size := by
    rcases hat with e | e
    · exact Or.inl e.symm
    · exact Or.inr (congrArg some e)
  obtain ⟨q1, q2, -⟩ := RMid.snoc (C := ExC) (Cs := ExsC) ExsC_st ExC_st (fun h l xs => ExsC_snoc h l xs) (by omega) (by omega) h.rw ho hxs hx hD hvD ho4 hg4 hat'
  have hbA : Below W.heap.size W (W.alloc (.cells cs 36)) := (Below.refl _ _).alloc (Nat.le_refl _) _
  have hA := h.below hbA
  have hv : ∀ j, v1.ownBlock = some j → M + 1 ≤ j := fun j e => (ho.lt j e).1
  have hne : ∀ j, j ≤ M → some j ≠ v1.ownBlock := fun j hj e => by have := hv j e.symm; omega
  have hw4 : w.grownBy w4 (some b) :=
    ⟨hg4.os.trans hA.grown.os, hg4.tape.trans hA.grown.tape, hg4.output.trans hA.grown.output, Nat.le_trans hA.grown.size hg4.size, fun i hi hni => (hg4.block i (Nat.lt_of_lt_of_le hi hA.grown.size) (hne i (by omega))).trans (hA.grown.block i hi hni)⟩
  have h4 : SW b g cap ts s w M k id nm t n pos [] [] [] v1 (.slice none 0 0) (.slice none 0 0) w4 → True := fun _ => trivial
  have hbox : Blk M (smCells k id nm t n pos v1 (.slice none 0 0) (.slice none 0 0)) 39 w4 := hA.box.other hg4 (hne M (Nat.le_refl _))
  refine ⟨hbox, ?_⟩
  have hg : w4.grownBy (w4.setCell ⟨M, 6, none⟩ (.slice (some ⟨g', 0, none⟩) (l.length + 1) c')) (some M) := Lib.grownBy_setCell _ _ _ _
  exact ⟨gnew hw4 (by omega) hg, (hA.res.other hg4 (hne _ (by omega))).other hg (by simp; omega), hbox.set 6 _, q1.keep ExsC_st (b := M) (by omega) hg, Or.inl ⟨rfl, rfl⟩, Or.inl ⟨rfl, rfl⟩, q2.other hg (by simp; omega) (by simp; omega), h1, h2, h3⟩
/-- A call as a statement: its expression is made in a block of its own, then laid into a row. -/
theorem SW.call1 {nm' : Bytes} {s4 : RdS} {Y w2 : World} {a : Option Addr} {c : Nat} {args : List Ex} (h : SW b g cap ts s w M k id nm t n pos [] [] [] (.slice none 0 0) (.slice none 0 0) (.slice none 0 0) W) (hY : Y = W.alloc (.cells (exCells 5 0 nm' 0 pos none 0 0) 36))
    (hg : Y.grownBy w2 (some b)) (hr : RW b g cap ts s4 w2) (hrow : ExRow w2 (fun h => Y.heap.size ≤ h) args (.slice a args.length c)) :
    Blk W.heap.size (exCells 5 0 nm' 0 pos none 0 0) 36 w2 ∧ Blk W.heap.size (exCells 5 0 nm' 0 pos a args.length c) 36 (w2.setCell ⟨W.heap.size, 5, none⟩ (.slice a args.length c)) ∧
      Blk M (smCells k id nm t n pos (.slice none 0 0) (.slice none 0 0) (.slice none 0 0)) 39 ((w2.setCell ⟨W.heap.size, 5, none⟩ (.slice a args.length c)).alloc (.cells (exCells 5 0 nm' 0 pos a args.length c) 36)) ∧
      SW b g cap ts s4 w M k id nm t n pos [.mk 5 0 nm' 0 pos args] [] [] (.slice (some ⟨w2.heap.size, 0, none⟩) 1 1) (.slice none 0 0) (.slice none 0 0)
        (((w2.setCell ⟨W.heap.size, 5, none⟩ (.slice a args.length c)).alloc (.cells (exCells 5 0 nm' 0 pos a args.length c) 36)).setCell ⟨M, 6, none⟩ (.slice (some ⟨w2.heap.size, 0, none⟩) 1 1)) := by
  have h1 := h.lt
  have h2 := h.bl
  have h3 := h.gl
  have hM := h.ltW
  have hbY : Below W.heap.size W Y := by rw [hY]; exact (Below.refl _ _).alloc (Nat.le_refl _) _
  have hYs : Y.heap.size = W.heap.size + 1 := by rw [hY]; simp
  have hE : Blk W.heap.size (exCells 5 0 nm' 0 pos none 0 0) 36 Y := by rw [hY]; exact Blk.new _ _ _
  have hE2 := hE.other hg (by simp; omega)
  have hS2 : SW b g cap ts s4 w M k id nm t n pos [] [] [] (.slice none 0 0) (.slice none 0 0) (.slice none 0 0) w2 := (h.below hbY).call hg hr
  obtain ⟨Z, hZ⟩ : ∃ Z, Z = w2.setCell ⟨W.heap.size, 5, none⟩ (.slice a args.length c) := ⟨_, rfl⟩
  have hgZ : w2.grownBy Z (some W.heap.size) := by rw [hZ]; exact Lib.grownBy_setCell _ _ _ _
  have hEZ : Blk W.heap.size (exCells 5 0 nm' 0 pos a args.length c) 36 Z := by rw [hZ]; exact hE2.set 5 _
  have hZs : Z.heap.size = w2.heap.size := by rw [hZ]; simp [World.setCell]
  have hSZ : SW b g cap ts s4 w M k id nm t n pos [] [] [] (.slice none 0 0) (.slice none 0 0) (.slice none 0 0) Z :=
    ⟨gnew hS2.grown (by omega) hgZ, hS2.res.other hgZ (by simp; omega), hS2.box.other hgZ (by simp; omega), ⟨[], World.ownsRow_nil _ _ _ _, rfl⟩, Or.inl ⟨rfl, rfl⟩, Or.inl ⟨rfl, rfl⟩, hS2.rw.other hgZ (by simp; omega) (by simp; omega), h1, h2, h3⟩
  obtain ⟨V, hV⟩ : ∃ V, V = Z.alloc (.cells (exCells 5 0 nm' 0 pos a args.length c) 36) := ⟨_, rfl⟩
  have hbV : Below Z.heap.size Z V := by rw [hV]; exact (Below.refl _ _).alloc (Nat.le_refl _) _
  have hSV := hSZ.below hbV
  have hGV : Blk w2.heap.size (exCells 5 0 nm' 0 pos a args.length c) 36 V := by rw [hV]; exact Blk.new' _ _ _ hZs.symm
  have hrV : ExRow V (fun h => M + 1 ≤ h ∧ h < w2.heap.size) args (.slice a args.length c) := by
    have a2 : ExRow w2 (fun h => M + 1 ≤ h ∧ h ≠ W.heap.size ∧ h < w2.heap.size) args (.slice a args.length c) := hrow.stays (fun h hh hl => ⟨rfl, by omega, by omega, hl⟩)
    exact ExRow.stays (fun h hh hl => ⟨(hbV.block h (by omega)).trans (hgZ.block h (by omega) (by simp; omega)), hh.1, hh.2.2⟩) a2
  have hgs := hg.size
  have hrow1 : RMid ExsC (M + 1) 36 6 [.mk 5 0 nm' 0 pos args] (.slice (some ⟨w2.heap.size, 0, none⟩) 1 1) V := by
    refine ⟨(exCells 5 0 nm' 0 pos a args.length c).toList, ⟨rfl, Or.inr ⟨_, _, _, rfl, by omega, hGV, Nat.le_refl _, by decide, rfl, rfl⟩⟩, ?_⟩
    simp only [ExsC]
    refine ⟨_, [], by simp, exc_of (hrV.stays (stays_weaken fun h hh _ => ⟨hh.1, ?_⟩)), rfl⟩
    intro e
    have : h = w2.heap.size := Option.some.inj e
    omega
  rw [← hZ, ← hV]
  exact ⟨hE2, hEZ, hSV.box, hSV.putEx hrow1⟩
/-- What is answered. -/
theorem SW.fin {a1 : Option Addr} {m1 c1 : Nat} {a2 : Option Addr} {m2 c2 : Nat} {a3 : Option Addr} {m3 c3 : Nat} (h : SW b g cap ts s w M k id nm t n pos l bd el (.slice a1 m1 c1) (.slice a2 m2 c2) (.slice a3 m3 c3) W) :
    ∀ U, U = set9 W w.heap.size (.int .u8 (k : Int)) (.int .i64 (id : Int)) (.string ⟨nm.toArray⟩) (.int .u8 (t : Int)) (.int .i64 (n : Int)) (.int .i64 (pos : Int)) (.slice a1 m1 c1) (.slice a2 m2 c2) (.slice a3 m3 c3) →
      Blk w.heap.size (smCells k id nm t n pos (.slice a1 m1 c1) (.slice a2 m2 c2) (.slice a3 m3 c3)) 39 U ∧ StP b g cap ts (.mk k id nm t n pos l bd el) s w (.returned (.agg (smCells k id nm t n pos (.slice a1 m1 c1) (.slice a2 m2 c2) (.slice a3 m3 c3)))) U := by
  rintro U rfl
  have h1 := h.lt
  have h2 := h.bl
  have h3 := h.gl
  have hs := grown_set9 W w.heap.size (.int .u8 (k : Int)) (.int .i64 (id : Int)) (.string ⟨nm.toArray⟩) (.int .u8 (t : Int)) (.int .i64 (n : Int)) (.int .i64 (pos : Int)) (.slice a1 m1 c1) (.slice a2 m2 c2) (.slice a3 m3 c3)
  have hst : Stays W (fun h => M + 1 ≤ h) (set9 W w.heap.size (.int .u8 (k : Int)) (.int .i64 (id : Int)) (.string ⟨nm.toArray⟩) (.int .u8 (t : Int)) (.int .i64 (n : Int)) (.int .i64 (pos : Int)) (.slice a1 m1 c1) (.slice a2 m2 c2) (.slice a3 m3 c3)) (fun h => w.heap.size ≤ h) := stays_of_grown hs fun g hg => ⟨by omega, by omega⟩
  refine ⟨h.res.set9 _ _ _ _ _ _ _ _ _, k, id, nm, t, n, pos, a1, m1, c1, a2, m2, c2, a3, m3, c3, rfl, ?_, gnew h.grown (Nat.le_refl _) hs, h.rw.other hs (by simp; omega) (by simp; omega)⟩
  simp only [SmC]
  exact ⟨_, _, _, rfl, ExRow.stays hst (h.ex.row ExsC_st), SmRow.stays hst h.bd, SmRow.stays hst h.el⟩
end
theorem SmsC_st {w w' : World} {ok ok' : Nat → Prop} (hs : Stays w ok w' ok') : ∀ l xs, SmsC w ok l xs → SmsC w' ok' l xs := SmsC.stays hs
theorem SmC_st {w w' : World} {ok ok' : Nat → Prop} (hs : Stays w ok w' ok') : ∀ x cs, SmC w ok x cs → SmC w' ok' x cs := SmC.stays hs
end Go.Proofs.YtcgllooeimacdaaGreatDoor

/-! The reference's reader in memory: a block. -/

namespace Go.Proofs.YtcgllooeimacdaaGreatDoor
open Go Go.RowKit Px
open Lx (Tok)

def BlkRel (b g cap : Nat) (ts : List Tok) (l : List Sm) (sE : RdS) (F : Nat) (w : World) (gk : Nat) (v : Value) (wr : World) : Prop := ∃ (l0 : List Sm) (s1 : RdS), gk ≤ F ∧ blkLoopM ts gk l0 s1 = some (l, sE) ∧ RMid SmsC w.heap.size 39 9 l0 v wr ∧ RW b g cap ts s1 wr ∧ w.grownBy wr (some b)

set_option maxRecDepth 100000 in
set_option maxHeartbeats 2000000 in
theorem block_w {F : Nat} (hL : ∀ G, G ≤ F → StC G) : BlcC (F + 1) := by
  intro b g cap ts s l s' w hw h
  rw [blockM] at h
  obtain ⟨⟨⟩, s1, h1, h2⟩ := bindO_inv h
  obtain ⟨l', s3, h5, h6⟩ := bindO_inv h2
  obtain ⟨⟨⟩, s4, h7, h8⟩ := bindO_inv h6
  obtain ⟨rfl, rfl⟩ := Prod.mk.inj (Option.some.inj h8)
  have hbl := hw.lt
  have hgl := hw.toks.lt
  have HS := Lib.hid (skip_w b g cap ts s s1 [123] w hw h1)
  have HS2 := Lib.hid fun w1 (hr : RW b g cap ts s3 w1) => skip_w b g cap ts s3 s4 [125] w1 hr h7
  have HLv := Lib.hid hL
  have H5 := Lib.hid h5
  obtain ⟨i0, hi, hz0, hz1, hz2⟩ := info_parts Tryz.infoSm
  clear h h1 h2 h5 h6 h7 h8 hw hL
  go_enter Tryz.func40, Tryz.ntmps40
  go_wp2_with fail
  refine HS.out.mono ?_
  rintro e w1 ⟨rfl, hg1, hr1⟩
  have TAIL : ∀ (v : Value) (W : World), RMid SmsC w.heap.size 39 9 l' v W → RW b g cap ts s3 W → w.grownBy W (some b) → Hid (∃ (a : Option Addr) (m c : Nat), v = .slice a m c ∧ ∀ w3, FailP b g cap ts s4 W (.returned (.tuple #[])) w3 → BlP b g cap ts l' s4 w (.returned v) w3) := by
    intro v W hm hr hg
    obtain ⟨a, c, rfl⟩ := hm.form
    refine ⟨a, l'.length, c, rfl, fun w3 h3 => ?_⟩
    obtain ⟨_, hg3, hr3⟩ := h3
    exact ⟨a, c, rfl, (hm.keep SmsC_st hbl hg3).row SmsC_st, gtrans hg hg3, hr3⟩
  have HT := Lib.hid TAIL
  clear TAIL
  have HREL := Lib.hid (show BlkRel b g cap ts l' s3 F w F (.slice none 0 0) w1 from ⟨[], s1, Nat.le_refl _, H5.out, ⟨[], World.ownsRow_nil _ _ _ _, rfl⟩, hr1, hg1⟩)
  clear hg1 hr1 H5
  go_wp2_with fail
  go_loopg [3] F (fun gk v wr => BlkRel b g cap ts l' s3 F w gk v wr)
  case atStart => exact HREL.out
  case round =>
    obtain ⟨l0, s6, hgk, hlp, hm, hr, hg⟩ := hrel
    match gk, hgk, hlp with
    | 0, _, hlp => rw [blkLoopM] at hlp; cases hlp
    | gk + 1, hgk, hlp =>
      rw [blkLoopM] at hlp
      obtain ⟨a5, c5, rfl⟩ := hm.form
      have HM := Lib.hid (And.intro hm hg)
      have p5 := hr.c5
      by_cases he : s6.e = 0
      · have he' : ((s6.e : Int) == 0) = true := by simp [he]
        rw [if_pos he] at hlp
        obtain ⟨u, s7, h1, h2⟩ := bindO_inv hlp
        obtain ⟨rfl, _⟩ := isM_inv h1
        have HH := Lib.hid (is_w b g cap ts s7 s7 [125] u wr hr h1)
        have HR := Lib.hid hr
        have H2' := Lib.hid h2
        clear hlp h1 h2 hm hr hg he
        go_wp2_with fail
        refine HH.out.mono ?_
        rintro e w5 ⟨rfl, hb5⟩
        have HM5 := Lib.hid (And.intro (HM.out.1.below SmsC_st hb5) (And.intro (HR.out.below hb5) (gtrans HM.out.2 (grown_of_below (row := some b) hb5))))
        clear hb5
        cases u with
        | true =>
          have h2 := H2'.out
          rw [if_neg (by decide)] at h2
          obtain ⟨rfl, rfl⟩ := Prod.mk.inj (Option.some.inj h2)
          have HS3 := Lib.hid (HS2.out w5 HM5.out.2.1)
          obtain ⟨a, m, c, ha, HFIN⟩ := (HT.out _ w5 HM5.out.1 HM5.out.2.1 HM5.out.2.2).out
          have HFN := Lib.hid HFIN
          clear h2 HFIN ha
          go_wp2_with fail
          refine HS3.out.mono ?_
          intro e w6 h3
          obtain rfl := h3.1
          have FIN := Lib.hid (HFN.out w6 h3)
          clear h3
          go_wp2
          go_ret
          exact FIN.out
        | false =>
          have h2 := H2'.out
          rw [if_pos rfl] at h2
          by_cases hlen : l0.length < 100000
          · rw [if_pos hlen] at h2
            obtain ⟨x2, s8, h6, h7⟩ := bindO_inv h2
            have HLV := Lib.hid (HLv.out gk (by omega) b g cap ts s7 x2 s8 w5 HM5.out.2.1 h6)
            have H8 := Lib.hid h7
            clear h2 h6 h7
            go_wp2_with fail
            refine HLV.out.mono ?_
            rintro e w6 ⟨k, id, nm, t, n, pos, b1, m1, c1, b2, m2, c2, b3, m3, c3, rfl, hx, hg6, hr6⟩
            obtain ⟨xs, ho, hxs⟩ := HM5.out.1.keep SmsC_st hbl hg6
            have hvD : ∀ h, (Value.slice a5 l0.length c5).ownBlock = some h → h < w5.heap.size := by
              obtain ⟨xs', ho', _⟩ := HM5.out.1
              intro h e
              exact (ho'.lt h e).2
            have H3 := Lib.hid (And.intro hx (And.intro (gtrans HM5.out.2.2 hg6) (And.intro hr6 (And.intro hxs hvD))))
            have hD : w.heap.size ≤ w5.heap.size := HM5.out.2.2.size
            have HSZ := Lib.hid (And.intro (show (l0.length + 1) ≤ maxLen by unfold maxLen; omega) (And.intro (show (l0.length + 1) * 128 ≤ 140737488355328 by omega) (show w.heap.size ≤ (w6.alloc (.cells (smCells k id nm t n pos (.slice b1 m1 c1) (.slice b2 m2 c2) (.slice b3 m3 c3)) 39)).heap.size by have := hg6.size; simp; omega)))
            have HO := Lib.hid ho
            clear hx hg6 hr6 ho hxs hvD hlen
            go_wp2_with (at_builtin; refine Hid.out ?_)
            unfold Hid
            refine wpList_append_own_at _ rfl _ _ 37 rfl w.heap.size 39 i0 _ 9 128 Tryz.underlying37 hi hz0 hz1 hz2 rfl (by decide) _ _ _ rfl (HO.out.alloc _) ⟨w6.heap.size, 0, none⟩ 1 1 (smCells k id nm t n pos (.slice b1 m1 c1) (.slice b2 m2 c2) (.slice b3 m3 c3)).toList rfl rfl (sm_new w6 k id nm t n pos (.slice b1 m1 c1) (.slice b2 m2 c2) (.slice b3 m3 c3)) (sm_one k id nm t n pos b1 m1 c1 b2 m2 c2 b3 m3 c3) HSZ.out.1 HSZ.out.2.1 HSZ.out.2.2 ?_
            intro v2 w7 ho4 hg4 hnl hat
            obtain ⟨q1, q2, q3⟩ := RMid.snoc (C := SmC) (Cs := SmsC) SmsC_st SmC_st (fun h l xs => SmsC_snoc h l xs) hbl hgl H3.out.2.2.1 HO.out H3.out.2.2.2.1 H3.out.1 hD H3.out.2.2.2.2 ho4 hg4 hat
            obtain ⟨a', c', hv'⟩ := q1.form
            have HREL := Lib.hid (show BlkRel b g cap ts l' s3 F w gk v2 w7 from ⟨l0 ++ [x2], s8, by omega, H8.out, q1, q2, q3 rfl H3.out.2.1⟩)
            have HV' := Lib.hid hv'
            clear ho4 hg4 hnl hat q1 q2 q3 hv'
            go_wp2
            go_roundg gk
            case measure => omega
            case rel => exact HREL.out
          · rw [if_neg hlen] at h2; cases h2
      · have he' : ((s6.e : Int) == 0) = false := by simp; omega
        rw [if_neg he] at hlp
        obtain ⟨rfl, rfl⟩ := Prod.mk.inj (Option.some.inj hlp)
        have HS3 := Lib.hid (HS2.out wr hr)
        obtain ⟨a, m, c, ha, HFIN⟩ := (HT.out _ wr hm hr hg).out
        have HFN := Lib.hid HFIN
        clear hlp HFIN ha he hm hr hg
        go_wp2_with fail
        refine HS3.out.mono ?_
        intro e w6 h3
        obtain rfl := h3.1
        have FIN := Lib.hid (HFN.out w6 h3)
        clear h3
        go_wp2
        go_ret
        exact FIN.out
end Go.Proofs.YtcgllooeimacdaaGreatDoor
