/-
  A function without parameters, with a result.
-/
import Derived.Test.YtoimhdejfeclpaaGreatDoorTList
namespace Go.Proofs.YtoimhdejfeclpaaGreatDoor
open Go Go.RowKit Px
open Lx (Tok)

def fuQ (ts : List Tok) (f : Nat) (s : St) : R Fu :=
  bindR (expectR [102, 110] ts s) fun t s => bindR (kindR 1 ts s) fun u s => bindR (listR ts s) fun _ s =>
  if (tk ts s.i).text = [58] then bindR (takeR ts s) fun _ s => bindR (typeR ts [1, 2] s) fun y s => bindR (blockF ts f s) fun b s => .ok (⟨u.text, [], y, b, t.pos⟩, s) else gone

theorem listR_n {ts : List Tok} {s s' : St} {u : Unit} (h : listR ts s = .ok (u, s')) : s'.n = s.n := by
  unfold listR at h
  obtain ⟨a, s1, e1, e2⟩ := bindR_inv h
  obtain ⟨a2, s2, e3, e4⟩ := bindR_inv e2
  obtain ⟨a3, s3, e5, e6⟩ := bindR_inv e4
  cases e6
  split at e3
  · cases e3
    exact (expectR_n e5).trans (expectR_n e1)
  · obtain ⟨a4, s4, e7, e8⟩ := bindR_inv e3
    cases e8
theorem typeR_n {ts : List Tok} : ∀ (ks : List Nat) {s s' : St} {y : Nat}, typeR ts ks s = .ok (y, s') → s'.n = s.n
  | [], s, s', y, h => by unfold typeR wrongR at h; cases h
  | k :: ks, s, s', y, h => by
    unfold typeR at h
    split at h
    · obtain ⟨a, s1, e1, e2⟩ := bindR_inv h
      cases e2; exact takeR_n e1
    · exact typeR_n ks h

abbrev fuCells (nm : Bytes) (v1 : Value) (y : Nat) (v2 : Value) (pos : Nat) : Array Value := #[.string ⟨nm.toArray⟩, v1, .int .u8 (y : Int), v2, .int .i64 (pos : Int)]
/-- A function that is answered. -/
def fuE (B : Nat) (x : Fu) (e : Ending) (w' : World) : Prop := ∃ (nm : Bytes) (y pos : Nat) (a : Option Addr) (m c : Nat),
  e = .returned (.agg (fuCells nm (.slice none 0 0) y (.slice a m c) pos)) ∧ FuC w' (fun g => B ≤ g) x (fuCells nm (.slice none 0 0) y (.slice a m c) pos).toList

abbrev zFu : Array Value := #[.string ⟨#[]⟩, .slice none 0 0, .int .u8 0, .slice none 0 0, .int .i64 0]

theorem blkC : ∀ F, BlkC F
  | 0 => fun b g cap ts s w _ _ h => absurd (by rw [blockF]) h
  | F + 1 => block_step F

section
variable {b : Nat} {T : TypeId} {w : World}
theorem Blk.get5 {v0 v1 v2 v3 v4 : Value} (h : Blk b #[v0, v1, v2, v3, v4] T w) : w.cell? ⟨b, 0, none⟩ = some v0 ∧ w.cell? ⟨b, 1, none⟩ = some v1 ∧ w.cell? ⟨b, 2, none⟩ = some v2 ∧ w.cell? ⟨b, 3, none⟩ = some v3 ∧ w.cell? ⟨b, 4, none⟩ = some v4 :=
  ⟨h.get 0 v0 rfl, h.get 1 v1 rfl, h.get 2 v2 rfl, h.get 3 v3 rfl, h.get 4 v4 rfl⟩
theorem Blk.free5 {cs : Array Value} (h : Blk b cs T w) : w.frozen? ⟨b, 0, none⟩ = false ∧ w.frozen? ⟨b, 1, none⟩ = false ∧ w.frozen? ⟨b, 2, none⟩ = false ∧ w.frozen? ⟨b, 3, none⟩ = false ∧ w.frozen? ⟨b, 4, none⟩ = false := ⟨h.free 0, h.free 1, h.free 2, h.free 3, h.free 4⟩
def set5 (w : World) (b : Nat) (u0 u1 u2 u3 u4 : Value) : World := ((((w.setCell ⟨b, 0, none⟩ u0).setCell ⟨b, 1, none⟩ u1).setCell ⟨b, 2, none⟩ u2).setCell ⟨b, 3, none⟩ u3).setCell ⟨b, 4, none⟩ u4
theorem set5_eq (w : World) (b : Nat) (u0 u1 u2 u3 u4 : Value) : set5 w b u0 u1 u2 u3 u4 = ((((w.setCell ⟨b, 0, none⟩ u0).setCell ⟨b, 1, none⟩ u1).setCell ⟨b, 2, none⟩ u2).setCell ⟨b, 3, none⟩ u3).setCell ⟨b, 4, none⟩ u4 := rfl
theorem Blk.set5 {v0 v1 v2 v3 v4 : Value} (h : Blk b #[v0, v1, v2, v3, v4] T w) (u0 u1 u2 u3 u4 : Value) : Blk b #[u0, u1, u2, u3, u4] T (set5 w b u0 u1 u2 u3 u4) := ((((h.set 0 u0).set 1 u1).set 2 u2).set 3 u3).set 4 u4
theorem grown_set5 (w : World) (b : Nat) (u0 u1 u2 u3 u4 : Value) : w.grownBy (Proofs.YtoimhdejfeclpaaGreatDoor.set5 w b u0 u1 u2 u3 u4) (some b) := gtrans (gtrans (gtrans (gtrans (Lib.grownBy_setCell _ _ _ _) (Lib.grownBy_setCell _ _ _ _)) (Lib.grownBy_setCell _ _ _ _)) (Lib.grownBy_setCell _ _ _ _)) (Lib.grownBy_setCell _ _ _ _)
end

/-- The boxes of a function: the parser's, the result's, the function's that is being made. -/
structure FnW (b g cap : Nat) (ts : List Tok) (s : St) (w : World) (M : Nat) (cs : Array Value) (w' : World) : Prop where
  grown : w.grownBy w' (some b)
  pbox : Blk w.heap.size #[.pointer (some ⟨b, 0, none⟩)] 102 w'
  res : Blk (w.heap.size + 1) zFu 42 w'
  box : Blk M cs 42 w'
  pw : PW b g cap ts s w'
  lt : w.heap.size + 1 < M
theorem FnW.below {b g cap : Nat} {ts : List Tok} {s : St} {w w1 w2 : World} {M : Nat} {cs : Array Value} (h : FnW b g cap ts s w M cs w1) (hb : Below w1.heap.size w1 w2) : FnW b g cap ts s w M cs w2 :=
  ⟨gtrans h.grown (grown_of_below hb), h.pbox.below hb h.pbox.lt, h.res.below hb h.res.lt, h.box.below hb h.box.lt, h.pw.below hb, h.lt⟩
theorem FnW.other {b g cap : Nat} {ts : List Tok} {s s' : St} {w w1 w2 : World} {M : Nat} {cs : Array Value} (hlt : b < w.heap.size) (h : FnW b g cap ts s w M cs w1) (hg : w1.grownBy w2 (some b)) (hp : PW b g cap ts s' w2) : FnW b g cap ts s' w M cs w2 :=
  ⟨gtrans h.grown hg, h.pbox.other hg (by simp; omega), h.res.other hg (by simp; omega), h.box.other hg (by have := h.lt; simp; omega), hp, h.lt⟩
theorem FnW.set {b g cap : Nat} {ts : List Tok} {s : St} {w w1 : World} {M : Nat} {cs : Array Value} (hlt : b < w.heap.size) (hgl : g < w.heap.size) (h : FnW b g cap ts s w M cs w1) (j : Nat) (u : Value) : FnW b g cap ts s w M (cs.setIfInBounds j u) (w1.setCell ⟨M, j, none⟩ u) := by
  have hg : w1.grownBy (w1.setCell ⟨M, j, none⟩ u) (some M) := Lib.grownBy_setCell _ _ _ _
  have := h.lt
  exact ⟨gnew h.grown (by omega) hg, h.pbox.other hg (by simp; omega), h.res.other hg (by simp; omega), h.box.set j u, h.pw.other hg (by simp; omega) (by simp; omega), h.lt⟩
theorem FnW.fin {b g cap : Nat} {ts : List Tok} {s s0 : St} {w w1 : World} {M : Nat} {cs : Array Value} (hw : PW b g cap ts s0 w) (h : FnW b g cap ts s w M cs w1) {x : Fu} {nm : Bytes} {y pos : Nat} {a : Option Addr} {m c : Nat}
    (hx : FuC w1 (fun h => w.heap.size + 1 < h) x (fuCells nm (.slice none 0 0) y (.slice a m c) pos).toList) :
    ∀ U, U = set5 w1 (w.heap.size + 1) (.string ⟨nm.toArray⟩) (.slice none 0 0) (.int .u8 (y : Int)) (.slice a m c) (.int .i64 (pos : Int)) →
    Blk (w.heap.size + 1) (fuCells nm (.slice none 0 0) y (.slice a m c) pos) 42 U ∧ w.grownBy U (some b) ∧ PW b g cap ts s U ∧ fuE w.heap.size x (.returned (.agg (fuCells nm (.slice none 0 0) y (.slice a m c) pos))) U := by
  rintro U rfl
  have hlt := hw.blk.lt
  have hgl := hw.toks.lt
  have hs := grown_set5 w1 (w.heap.size + 1) (.string ⟨nm.toArray⟩) (.slice none 0 0) (.int .u8 (y : Int)) (.slice a m c) (.int .i64 (pos : Int))
  exact ⟨h.res.set5 _ _ _ _ _, gnew h.grown (by omega) hs, h.pw.other hs (by simp; omega) (by simp; omega), nm, y, pos, a, m, c, rfl, hx.stays (stays_of_grown hs fun g hg => ⟨by omega, by omega⟩)⟩

set_option maxRecDepth 100000 in
set_option maxHeartbeats 2000000 in
theorem function_any (F : Nat) (b g cap : Nat) (ts : List Tok) (s : St) (w : World) (hw : PW b g cap ts s w) (hn : s.n + F < 90000) (hne : fuQ ts F s ≠ gone) :
    Calls Tryz.prog 33 #[.pointer (some ⟨b, 0, none⟩)] w (RPost b g cap ts w (fuE w.heap.size) (fuQ ts F s)) := by
  have HRB := Lib.hid (fuQ.eq_1 ts F s)
  have HNE := Lib.hid hne
  obtain ⟨W, hW⟩ : ∃ W, W = (w.alloc (.cells #[.pointer (some ⟨b, 0, none⟩)] 102)).alloc (.cells zFu 42) := ⟨_, rfl⟩
  have hbW : Below w.heap.size w W := by rw [hW]; exact ((Below.refl _ _).alloc (Nat.le_refl _) _).alloc (by simp) _
  have hz : Blk (w.heap.size + 1) zFu 42 W := by rw [hW]; exact Blk.new' _ _ _ (by simp)
  have hpb : Blk w.heap.size #[.pointer (some ⟨b, 0, none⟩)] 102 W := by rw [hW]; exact (Blk.new w _ _).below ((Below.refl _ _).alloc (Nat.le_refl _) _) (by simp)
  have hWs : W.heap.size = w.heap.size + 2 := by rw [hW]; simp
  have HE1 := Lib.hid (expect_any b g cap ts s [102, 110] (by simp) W (hw.below hbW))
  have HK := Lib.hid fun s' w1 (h1 : PW b g cap ts s' w1) => kind_any b g cap ts s' 1 (by decide) w1 h1
  have HL := Lib.hid fun s' w1 M (hM : M ≠ b) (h1 : PW b g cap ts s' w1) (h2 : listR ts s' ≠ gone) h3 h4 => list_any b g cap ts s' M w.heap.size (.slice none 0 0) hM (by have := hw.blk.lt; omega) w1 h1 h2 h3 ⟨_, _, _, rfl⟩ h4
  have HYes := Lib.hid fun s' w1 (h1 : PW b g cap ts s' w1) (h : (tk ts s'.i).text = [58]) => accept_yes b g cap ts s' [58] (by simp) w1 h1 h
  have HTy := Lib.hid fun s' w1 kb (h1 : PW b g cap ts s' w1) (h2 : kb < w1.heap.size) (h3 : kb ≠ b) h4 => type_any b g cap kb 2 [1, 2] (by decide) (by decide) ts s' w1 h1 h2 h3 h4
  have HB := Lib.hid fun s' w1 (h1 : PW b g cap ts s' w1) (h2 : s'.n + F < 90000) (h3 : blockF ts F s' ≠ gone) => blkC F b g cap ts s' w1 h1 h2 h3
  have HW := Lib.hid hw
  have HH := Lib.hid (And.intro hbW (And.intro hz (And.intro hpb hWs)))
  have HWW := Lib.hid hW
  have hlt := hw.blk.lt
  have hgl := hw.toks.lt
  have hf1 := fTok1
  have hf2 := fTok2
  have P0 := hpb.get 0 _ rfl
  clear hw hbW hz hW hWs hne hpb
  go_enter Tryz.func33, Tryz.ntmps33
  go_upto_region 1 with (fail)
  rw [← HWW.out]
  go_wp2_with fail
  refine HE1.out.mono ?_
  rintro e w1 h1
  rcases h1.elim with ⟨pn, hr, hg, rfl⟩ | ⟨⟨t0, t1, t2, t3⟩, s1, hr, hg, rfl, hp⟩
  · have FIN := Lib.hid (RPost.err (α := Fu) (g := g) (cap := cap) (ts := ts) (V := fuE w.heap.size) (HRB.out.trans (by rw [hr]; rfl)) (gtrans (row := some b) (grown_of_below HH.out.1) hg))
    clear hg hr h1 P0
    go_wp2
    exact ⟨rfl, FIN.out⟩
  · obtain ⟨V, hV⟩ : ∃ V, V = w1.alloc (.cells #[.string ⟨#[]⟩, .slice none 0 0, .int .u8 0, .slice none 0 0, .int .i64 (t1 : Int)] 42) := ⟨_, rfl⟩
    have hF : FnW b g cap ts s1 w w1.heap.size #[.string ⟨#[]⟩, .slice none 0 0, .int .u8 0, .slice none 0 0, .int .i64 (t1 : Int)] V := by
      have hbV : Below w1.heap.size w1 V := by rw [hV]; exact (Below.refl _ _).alloc (Nat.le_refl _) _
      have hs1 := hg.size
      obtain ⟨x1, x2, x3, x4⟩ := HH.out
      exact ⟨gtrans (gtrans (grown_of_below x1) hg) (grown_of_below hbV), (x3.other hg (by simp; omega)).below hbV (by omega), (x2.other hg (by simp; omega)).below hbV (by omega), by rw [hV]; exact Blk.new _ _ _, hp.below hbV, by omega⟩
    have HF := Lib.hid hF
    have P1 := hF.pbox.get 0 _ rfl
    have HVV := Lib.hid hV
    have HR1 := Lib.hid (HRB.out.trans (by rw [hr, bindR_ok]))
    have N1 := Lib.hid (expectR_n hr)
    have hne := HNE.out
    unfold fuQ at hne
    rw [hr, bindR_ok] at hne
    have HNE1 := Lib.hid hne
    clear hg hr h1 hp hF hV hne P0
    unfold tokV'
    go_upto_region 2 with (fail)
    rw [← HVV.out]
    clear HVV
    generalize w1.heap.size = M at *
    have hk := Lib.hid (HK.out s1 V HF.out.pw)
    go_wp2_with fail
    refine hk.out.mono ?_
    rintro e w2 h2
    rcases h2.elim with ⟨pn, hr, hg, rfl⟩ | ⟨⟨u0, u1, u2, u3⟩, s2, hr, hg, rfl, hp⟩
    · have FIN := Lib.hid (RPost.err (α := Fu) (g := g) (cap := cap) (ts := ts) (V := fuE w.heap.size) (HR1.out.trans (by rw [hr]; rfl)) (gtrans (row := some b) HF.out.grown hg))
      clear hg hr h2 P1
      go_wp2
      exact ⟨rfl, FIN.out⟩
    · have hF2 := HF.out.other (s' := s2) hlt hg hp
      obtain ⟨k0, k1, k2, k3, k4⟩ := hF2.box.get5
      have f0 := hF2.box.free 0
      obtain ⟨X, hX⟩ : ∃ X, X = w2.setCell ⟨M, 0, none⟩ (.string ⟨u2.toArray⟩) := ⟨_, rfl⟩
      have hF3 : FnW b g cap ts s2 w M #[.string ⟨u2.toArray⟩, .slice none 0 0, .int .u8 0, .slice none 0 0, .int .i64 (t1 : Int)] X := by rw [hX]; exact hF2.set hlt hgl 0 _
      have HF3 := Lib.hid hF3
      have P3 := hF3.pbox.get 0 _ rfl
      have HXX := Lib.hid hX
      have hne := HNE1.out
      rw [hr, bindR_ok] at hne
      have HNE2 := Lib.hid hne
      have HR2 := Lib.hid (HR1.out.trans (by rw [hr, bindR_ok]))
      have N2 := Lib.hid ((kindR_n hr).trans N1.out)
      have hl := Lib.hid (HL.out s2 X M (by have := hF3.lt; omega) hF3.pw (bindR_gone hne) (hF3.box.get 1 _ rfl) P3)
      clear hg hr h2 hp hF2 hF3 hX hne P1
      unfold tokV'
      go_upto_region 3 with (fail)
      rw [← HXX.out]
      clear HXX k0 k1 k2 k3 k4 f0
      have hmf : ∀ (fn : Fn) (first cap : Array Value) (w : World), (Instr.makeFunc fn first cap).run Tryz.prog w = .ok (.func fn first cap) w := fun _ _ _ _ => rfl
      go_wp2_with fail
      refine hl.out.mono ?_
      rintro e w3 h3
      rcases h3.elim with ⟨pn, hr, hg, rfl⟩ | ⟨⟨⟩, s3, hr, hg, rfl, hp⟩
      · have FIN := Lib.hid (RPost.err (α := Fu) (g := g) (cap := cap) (ts := ts) (V := fuE w.heap.size) (HR2.out.trans (by rw [hr]; rfl)) (gtrans (row := some b) HF3.out.grown hg))
        clear hg hr h3 P3
        go_wp2
        exact ⟨rfl, FIN.out⟩
      · have hF4 := HF3.out.other (s' := s3) hlt hg hp
        have HF4 := Lib.hid hF4
        have P4 := hF4.pbox.get 0 _ rfl
        have hne := HNE2.out
        rw [hr, bindR_ok] at hne
        have h58 : (tk ts s3.i).text = [58] := by
          rcases Decidable.em ((tk ts s3.i).text = [58]) with h | h
          · exact h
          · rw [if_neg h] at hne; exact absurd rfl hne
        rw [if_pos h58] at hne
        have HNE3 := Lib.hid hne
        have HR3 := Lib.hid (HR2.out.trans (by rw [hr, bindR_ok, if_pos h58]))
        have N3 := Lib.hid ((listR_n hr).trans N2.out)
        have hy := Lib.hid (HYes.out s3 w3 hF4.pw h58)
        clear hg hr h3 hp hF4 hne h58 P3
        go_wp2_with fail
        refine hy.out.mono ?_
        rintro e w4 h4
        rcases h4.elim with ⟨pn, hr, hg, rfl⟩ | ⟨tt, s4, hr, hg, rfl, hp⟩
        · have FIN := Lib.hid (RPost.err (α := Fu) (g := g) (cap := cap) (ts := ts) (V := fuE w.heap.size) (HR3.out.trans (by rw [hr]; rfl)) (gtrans (row := some b) HF4.out.grown hg))
          clear hg hr h4 P4
          go_wp2
          exact ⟨rfl, FIN.out⟩
        · have hF5 := HF4.out.other (s' := s4) hlt hg hp
          obtain ⟨Y, hY⟩ : ∃ Y, Y = w4.alloc (.cells #[.int .u8 1, .int .u8 2] 5) := ⟨_, rfl⟩
          have hbY : Below w4.heap.size w4 Y := by rw [hY]; exact (Below.refl _ _).alloc (Nat.le_refl _) _
          have hky : Blk w4.heap.size #[.int .u8 1, .int .u8 2] 5 Y := by rw [hY]; exact Blk.new _ _ _
          have HF5 := Lib.hid (hF5.below hbY)
          have P5 := hF5.pbox.get 0 _ rfl
          have hne := HNE3.out
          rw [hr, bindR_ok] at hne
          have HNE4 := Lib.hid hne
          have HR4 := Lib.hid (HR3.out.trans (by rw [hr, bindR_ok]))
          have N4 := Lib.hid ((takeR_n hr).trans N3.out)
          have hty := Lib.hid (HTy.out s4 Y w4.heap.size HF5.out.pw hky.lt (by have := hF5.pw.blk.lt; omega) (fun j hj => by
            have : j = 0 ∨ j = 1 := by simp at hj; omega
            rcases this with rfl | rfl
            · exact hky.get 0 _ rfl
            · exact hky.get 1 _ rfl))
          have HYY := Lib.hid hY
          clear hg hr h4 hp hF5 hne hY hbY hky P4
          go_wp2_with fail
          rw [← HYY.out]
          refine hty.out.mono ?_
          rintro e w5 h5
          rcases h5.elim with ⟨pn, hr, hg, rfl⟩ | ⟨y, s5, hr, hg, rfl, hp⟩
          · have FIN := Lib.hid (RPost.err (α := Fu) (g := g) (cap := cap) (ts := ts) (V := fuE w.heap.size) (HR4.out.trans (by rw [hr]; rfl)) (gtrans (row := some b) HF5.out.grown hg))
            clear hg hr h5 P5
            go_wp2
            exact ⟨rfl, FIN.out⟩
          · have hF6 := HF5.out.other (s' := s5) hlt hg hp
            obtain ⟨k0, k1, k2, k3, k4⟩ := hF6.box.get5
            have f2 := hF6.box.free 2
            obtain ⟨Z, hZ⟩ : ∃ Z, Z = w5.setCell ⟨M, 2, none⟩ (.int .u8 (y : Int)) := ⟨_, rfl⟩
            have hF7 : FnW b g cap ts s5 w M #[.string ⟨u2.toArray⟩, .slice none 0 0, .int .u8 (y : Int), .slice none 0 0, .int .i64 (t1 : Int)] Z := by rw [hZ]; exact hF6.set hlt hgl 2 _
            have HF7 := Lib.hid hF7
            have P7 := hF7.pbox.get 0 _ rfl
            have HZZ := Lib.hid hZ
            have hne := HNE4.out
            rw [hr, bindR_ok] at hne
            have HR5 := Lib.hid (HR4.out.trans (by rw [hr, bindR_ok]))
            have N5 := (typeR_n _ hr).trans N4.out
            have hn5 : s5.n + F < 90000 := by omega
            clear N5
            have hb := Lib.hid (HB.out s5 Z hF7.pw hn5 (bindR_gone hne))
            clear hg hr h5 hp hF6 hF7 hne hZ P5
            go_upto_region 6 with (fail)
            rw [← HZZ.out]
            clear HZZ k0 k1 k2 k3 k4 f2
            go_wp2_with fail
            refine hb.out.mono ?_
            rintro e w6 h6
            rcases h6.elim with ⟨pn, hr, hg, rfl⟩ | ⟨l, s6, hr, hg, ⟨a, m, c, rfl, hx⟩, hp⟩
            · have FIN := Lib.hid (RPost.err (α := Fu) (g := g) (cap := cap) (ts := ts) (V := fuE w.heap.size) (HR5.out.trans (by rw [hr]; rfl)) (gtrans (row := some b) HF7.out.grown hg))
              clear hg hr h6 P7
              go_wp2
              exact ⟨rfl, FIN.out⟩
            · have hF8 := HF7.out.other (s' := s6) hlt hg hp
              have hM7 := HF7.out.box.lt
              have hF9 := hF8.set hlt hgl 3 (.slice a m c)
              have hMN := HF7.out.lt
              have hne1 : ¬ M = w.heap.size + 1 := by omega
              have hx9 : SmRow (w6.setCell ⟨M, 3, none⟩ (.slice a m c)) (fun h => w.heap.size + 1 < h) l (.slice a m c) := hx.stays (stays_of_grown (Lib.grownBy_setCell _ M 3 _) fun h hh => ⟨by omega, by omega⟩)
              have hfin := FnW.fin HW.out hF9 (x := ⟨u2, [], y, l, t1⟩) (nm := u2) (y := y) (pos := t1) ⟨_, _, rfl, Or.inl ⟨rfl, rfl⟩, hx9⟩ _ rfl
              have FIN := Lib.hid hfin
              have HR6 := Lib.hid (HR5.out.trans (by rw [hr, bindR_ok]))
              obtain ⟨k0, k1, k2, k3, k4⟩ := hF8.box.get5
              obtain ⟨f0, f1, f2, f3, f4⟩ := hF8.box.free5
              obtain ⟨z0, z1, z2, z3, z4⟩ := hF8.res.get5
              obtain ⟨e0, e1, e2, e3, e4⟩ := hF8.res.free5
              clear hg hr h6 hp hF8 hF9 hx hx9 hfin P7
              go_wp2
              rw [← set5_eq]
              obtain ⟨y0, y1, y2, y3, y4⟩ := FIN.out.1.get5
              clear k0 k1 k2 k3 k4 f0 f1 f2 f3 f4 z0 z1 z2 z3 z4 e0 e1 e2 e3 e4
              exact bodyPost_ret (v := .agg (fuCells u2 (.slice none 0 0) y (.slice a m c) t1)) (by simp [results, Tryz.results33, go_sem, y0, y1, y2, y3, y4]) rfl (RPost.ok HR6.out FIN.out.2.1 FIN.out.2.2.2 FIN.out.2.2.1)
end Go.Proofs.YtoimhdejfeclpaaGreatDoor
