/-
  A declaration; a choice: each fills a statement's box.
-/
import Derived.Test.YtcgllooeimacdaaGreatDoorTNamed
namespace Go.Proofs.YtcgllooeimacdaaGreatDoor
open Go Go.RowKit Px
open Lx (Tok)

/-- On the way: the parser, a statement's box. -/
structure BxW (b g cap : Nat) (ts : List Tok) (s : St) (c : Nat) (w : World) (cs : Array Value) (w' : World) : Prop where
  grown : Grown2 b c w w'
  box : Blk c cs 39 w'
  pw : PW b g cap ts s w'
  lb : b < w.heap.size
  lg : g < w.heap.size
  lc : c < w.heap.size
  cb : c ≠ b
  cg : c ≠ g
section
variable {b g cap c : Nat} {ts : List Tok} {s s' : St} {w w1 w2 : World} {cs : Array Value}
theorem BxW.below (h : BxW b g cap ts s c w cs w1) (hb : Below w1.heap.size w1 w2) : BxW b g cap ts s c w cs w2 :=
  ⟨h.grown.trans (.below hb), h.box.below hb h.box.lt, h.pw.below hb, h.lb, h.lg, h.lc, h.cb, h.cg⟩
theorem BxW.other (h : BxW b g cap ts s c w cs w1) (hg : w1.grownBy w2 (some b)) (hp : PW b g cap ts s' w2) : BxW b g cap ts s' c w cs w2 :=
  ⟨h.grown.trans (.of1 hg), h.box.other hg (by have := h.cb; simpa using this), hp, h.lb, h.lg, h.lc, h.cb, h.cg⟩
theorem BxW.set (h : BxW b g cap ts s c w cs w1) (j : Nat) (u : Value) : BxW b g cap ts s c w (cs.setIfInBounds j u) (w1.setCell ⟨c, j, none⟩ u) := by
  have hg : w1.grownBy (w1.setCell ⟨c, j, none⟩ u) (some c) := Lib.grownBy_setCell _ _ _ _
  exact ⟨h.grown.trans (.of2 hg), h.box.set j u, h.pw.other hg (by have := h.cb; simp; omega) (by have := h.cg; simp; omega), h.lb, h.lg, h.lc, h.cb, h.cg⟩
end

theorem letF_eq (ts : List Tok) (f id pos : Nat) (s : St) : letF ts f id pos s = bindR (expectR [108, 101, 116] ts s) fun _ s => bindR (kindR 1 ts s) fun t s => bindR (expectR [58] ts s) fun _ s => bindR (typeR ts [1, 2, 3] s) fun y s =>
  if y = 3 then bindR (expectR [91] ts s) fun _ s => bindR (kindR 3 ts s) fun u s => bindR (expectR [93] ts s) fun _ s => bindR (expectR [59] ts s) fun _ s => .ok (.mk 1 id t.text 3 u.num pos [] [] [], s)
  else if (tk ts s.i).text = [61] then bindR (takeR ts s) fun _ s => bindR (binF ts f 1 s) fun x s => bindR (expectR [59] ts s) fun _ s => .ok (.mk 1 id t.text y 0 pos [x] [] [], s)
  else bindR (expectR [59] ts s) fun _ s => .ok (.mk 1 id t.text y 0 pos [] [] [], s) := rfl

set_option maxRecDepth 100000 in
set_option maxHeartbeats 2000000 in
theorem let_any (F : Nat) (b g cap : Nat) (ts : List Tok) (s : St) (c id pos : Nat) (w : World) (hw : PW b g cap ts s w) (hbox : Blk c (smZ id pos) 39 w) (hcb : c ≠ b) (hcg : c ≠ g) (hne : letF ts F id pos s ≠ gone) :
    Calls Tryz.prog 86 #[.pointer (some ⟨b, 0, none⟩), .pointer (some ⟨c, 0, none⟩)] w (NmPost b g cap ts c w (letF ts F id pos s)) := by
  have HR0 := Lib.hid (letF_eq ts F id pos s)
  have HNE := Lib.hid hne
  have HX := Lib.hid fun x (hx : x ≠ []) s' w1 (h1 : PW b g cap ts s' w1) => expect_any b g cap ts s' x hx w1 h1
  have HK := Lib.hid fun k (hk : k ≠ 0) s' w1 (h1 : PW b g cap ts s' w1) => kind_any b g cap ts s' k hk w1 h1
  have HTy := Lib.hid fun s' w1 kb (h1 : PW b g cap ts s' w1) (h2 : kb < w1.heap.size) (h3 : kb ≠ b) h4 => type_any b g cap kb 3 [1, 2, 3] (by decide) (by decide) ts s' w1 h1 h2 h3 h4
  have HNo := Lib.hid fun s' w1 (h1 : PW b g cap ts s' w1) h => accept_no b g cap ts s' [61] w1 h1 h
  have HYes := Lib.hid fun s' w1 (h1 : PW b g cap ts s' w1) h => accept_yes b g cap ts s' [61] (by simp) w1 h1 h
  have HSe := Lib.hid fun s' w1 (h1 : PW b g cap ts s' w1) => expect_any b g cap ts s' [59] (by simp) w1 h1
  have HOne := Lib.hid fun s' w1 (h1 : PW b g cap ts s' w1) (h : binF ts F 1 s' ≠ gone) => one_any F b g cap ts s' w1 h1 h
  have HB0 : Hid (BxW b g cap ts s c w #[.int .u8 0, .int .i64 (id : Int), .string ⟨#[]⟩, .int .u8 0, .int .i64 0, .int .i64 (pos : Int), .slice none 0 0, .slice none 0 0, .slice none 0 0] w) := ⟨.refl _ _ _, hbox, hw, hw.blk.lt, hw.toks.lt, hbox.lt, hcb, hcg⟩
  have hlb := hw.blk.lt
  have hf2 := fTok2
  have hf3 := fTok3
  clear hw hbox hcb hcg hne
  go_enter Tryz.func86, Tryz.ntmps86
  have HC := Lib.hid (HX.out [108, 101, 116] (by simp) s w HB0.out.pw)
  go_wp2_with fail
  refine HC.out.mono ?_
  rintro e w1 hq
  rcases hq.elim with ⟨pn, hr, hg, rfl⟩ | ⟨⟨q0, q1, q2, q3⟩, s1, hr, hg, rfl, hp⟩
  · have FIN := Lib.hid (NmPost.err (c := c) (g := g) (cap := cap) (ts := ts) (HR0.out.trans (by rw [hr]; rfl)) (HB0.out.grown.trans (.of1 hg)))
    clear hg hr hq
    go_wp2
    exact ⟨rfl, FIN.out⟩
  · have HB1 := Lib.hid (HB0.out.other hg hp)
    have HR1 := Lib.hid (HR0.out.trans (by rw [hr, bindR_ok]))
    clear hr hg hq hp HC
    unfold tokV'
    have kj := HB1.out.box.get 0 (.int .u8 0) rfl
    have fj := HB1.out.box.free 0
    go_upto_region 2 with (fail)
    obtain ⟨w2, hX⟩ : ∃ X, X = w1.setCell ⟨c, 0, none⟩ (.int .u8 1) := ⟨_, rfl⟩
    have HB2 : Hid (BxW b g cap ts s1 c w #[.int .u8 1, .int .i64 (id : Int), .string ⟨#[]⟩, .int .u8 0, .int .i64 0, .int .i64 (pos : Int), .slice none 0 0, .slice none 0 0, .slice none 0 0] w2) := by rw [hX]; exact HB1.out.set 0 (.int .u8 1)
    rw [← hX]
    clear hX kj fj
    have HC := Lib.hid (HK.out 1 (by decide) s1 w2 HB2.out.pw)
    go_wp2_with fail
    refine HC.out.mono ?_
    rintro e w3 hq
    rcases hq.elim with ⟨pn, hr, hg, rfl⟩ | ⟨⟨q0, q1, u2, q3⟩, s2, hr, hg, rfl, hp⟩
    · have FIN := Lib.hid (NmPost.err (c := c) (g := g) (cap := cap) (ts := ts) (HR1.out.trans (by rw [hr]; rfl)) (HB2.out.grown.trans (.of1 hg)))
      clear hg hr hq
      go_wp2
      exact ⟨rfl, FIN.out⟩
    · have HB3 := Lib.hid (HB2.out.other hg hp)
      have HR2 := Lib.hid (HR1.out.trans (by rw [hr, bindR_ok]))
      clear hr hg hq hp HC
      unfold tokV'
      have kj := HB3.out.box.get 2 (.string ⟨#[]⟩) rfl
      have fj := HB3.out.box.free 2
      go_upto_region 3 with (fail)
      obtain ⟨w4, hX⟩ : ∃ X, X = w3.setCell ⟨c, 2, none⟩ (.string ⟨u2.toArray⟩) := ⟨_, rfl⟩
      have HB4 : Hid (BxW b g cap ts s2 c w #[.int .u8 1, .int .i64 (id : Int), .string ⟨u2.toArray⟩, .int .u8 0, .int .i64 0, .int .i64 (pos : Int), .slice none 0 0, .slice none 0 0, .slice none 0 0] w4) := by rw [hX]; exact HB3.out.set 2 (.string ⟨u2.toArray⟩)
      rw [← hX]
      clear hX kj fj
      have HC := Lib.hid (HX.out [58] (by simp) s2 w4 HB4.out.pw)
      go_wp2_with fail
      refine HC.out.mono ?_
      rintro e w5 hq
      rcases hq.elim with ⟨pn, hr, hg, rfl⟩ | ⟨⟨q0, q1, q2, q3⟩, s3, hr, hg, rfl, hp⟩
      · have FIN := Lib.hid (NmPost.err (c := c) (g := g) (cap := cap) (ts := ts) (HR2.out.trans (by rw [hr]; rfl)) (HB4.out.grown.trans (.of1 hg)))
        clear hg hr hq
        go_wp2
        exact ⟨rfl, FIN.out⟩
      · have HB5 := Lib.hid (HB4.out.other hg hp)
        have HR3 := Lib.hid (HR2.out.trans (by rw [hr, bindR_ok]))
        clear hr hg hq hp HC
        unfold tokV'
        obtain ⟨Y, hY⟩ : ∃ Y, Y = w5.alloc (.cells #[.int .u8 1, .int .u8 2, .int .u8 3] 5) := ⟨_, rfl⟩
        have hbY : Below w5.heap.size w5 Y := by rw [hY]; exact (Below.refl _ _).alloc (Nat.le_refl _) _
        have hky : Blk w5.heap.size #[.int .u8 1, .int .u8 2, .int .u8 3] 5 Y := by rw [hY]; exact Blk.new _ _ _
        have HB6 := Lib.hid (HB5.out.below hbY)
        have HC := Lib.hid (HTy.out s3 Y w5.heap.size HB6.out.pw hky.lt (by have := HB5.out.grown.size; omega) (fun j hj => by
          have : j = 0 ∨ j = 1 ∨ j = 2 := by simp at hj; omega
          rcases this with rfl | rfl | rfl
          · exact hky.get 0 _ rfl
          · exact hky.get 1 _ rfl
          · exact hky.get 2 _ rfl))
        have HYY := Lib.hid hY
        clear hY hbY hky
        go_wp2_with fail
        rw [← HYY.out]
        refine HC.out.mono ?_
        rintro e w6 hq
        rcases hq.elim with ⟨pn, hr, hg, rfl⟩ | ⟨y, s4, hr, hg, rfl, hp⟩
        · have FIN := Lib.hid (NmPost.err (c := c) (g := g) (cap := cap) (ts := ts) (HR3.out.trans (by rw [hr]; rfl)) (HB6.out.grown.trans (.of1 hg)))
          clear hg hr hq
          go_wp2
          exact ⟨rfl, FIN.out⟩
        · have HB7 := Lib.hid (HB6.out.other hg hp)
          have HR4 := Lib.hid (HR3.out.trans (by rw [hr, bindR_ok]))
          have HNE4 := Lib.hid (show _ ≠ gone by have := HNE.out; rw [HR4.out] at this; exact this)
          clear hr hg hq hp HC HYY
          have kj := HB7.out.box.get 3 (.int .u8 0) rfl
          have fj := HB7.out.box.free 3
          go_upto_region 5 with (fail)
          obtain ⟨w7, hX⟩ : ∃ X, X = w6.setCell ⟨c, 3, none⟩ (.int .u8 (y : Int)) := ⟨_, rfl⟩
          have HB8 : Hid (BxW b g cap ts s4 c w #[.int .u8 1, .int .i64 (id : Int), .string ⟨u2.toArray⟩, .int .u8 (y : Int), .int .i64 0, .int .i64 (pos : Int), .slice none 0 0, .slice none 0 0, .slice none 0 0] w7) := by rw [hX]; exact HB7.out.set 3 (.int .u8 (y : Int))
          rw [← hX]
          clear hX kj fj
          have k3 := HB8.out.box.get 3 (.int .u8 (y : Int)) rfl
          by_cases hy : y = 3
          · subst hy
            have HR5 := Lib.hid (HR4.out.trans (if_pos rfl))
            have HC := Lib.hid (HX.out [91] (by simp) s4 w7 HB8.out.pw)
            go_wp2_with fail
            refine HC.out.mono ?_
            rintro e w8 hq
            rcases hq.elim with ⟨pn, hr, hg, rfl⟩ | ⟨⟨q0, q1, q2, q3⟩, s5, hr, hg, rfl, hp⟩
            · have FIN := Lib.hid (NmPost.err (c := c) (g := g) (cap := cap) (ts := ts) (HR5.out.trans (by rw [hr]; rfl)) (HB8.out.grown.trans (.of1 hg)))
              clear hg hr hq
              go_wp2
              exact ⟨rfl, FIN.out⟩
            · have HB9 := Lib.hid (HB8.out.other hg hp)
              have HR6 := Lib.hid (HR5.out.trans (by rw [hr, bindR_ok]))
              clear hr hg hq hp HC k3
              unfold tokV'
              have HC := Lib.hid (HK.out 3 (by decide) s5 w8 HB9.out.pw)
              go_wp2_with fail
              refine HC.out.mono ?_
              rintro e w9 hq
              rcases hq.elim with ⟨pn, hr, hg, rfl⟩ | ⟨⟨q0, q1, q2, v3⟩, s6, hr, hg, rfl, hp⟩
              · have FIN := Lib.hid (NmPost.err (c := c) (g := g) (cap := cap) (ts := ts) (HR6.out.trans (by rw [hr]; rfl)) (HB9.out.grown.trans (.of1 hg)))
                clear hg hr hq
                go_wp2
                exact ⟨rfl, FIN.out⟩
              · have HB10 := Lib.hid (HB9.out.other hg hp)
                have HR7 := Lib.hid (HR6.out.trans (by rw [hr, bindR_ok]))
                clear hr hg hq hp HC
                unfold tokV'
                have kj := HB10.out.box.get 4 (.int .i64 0) rfl
                have fj := HB10.out.box.free 4
                go_upto_region 8 with (fail)
                obtain ⟨w10, hX⟩ : ∃ X, X = w9.setCell ⟨c, 4, none⟩ (.int .i64 (v3 : Int)) := ⟨_, rfl⟩
                have HB11 : Hid (BxW b g cap ts s6 c w #[.int .u8 1, .int .i64 (id : Int), .string ⟨u2.toArray⟩, .int .u8 3, .int .i64 (v3 : Int), .int .i64 (pos : Int), .slice none 0 0, .slice none 0 0, .slice none 0 0] w10) := by rw [hX]; exact HB10.out.set 4 (.int .i64 (v3 : Int))
                rw [← hX]
                clear hX kj fj
                have HC := Lib.hid (HX.out [93] (by simp) s6 w10 HB11.out.pw)
                go_wp2_with fail
                refine HC.out.mono ?_
                rintro e w11 hq
                rcases hq.elim with ⟨pn, hr, hg, rfl⟩ | ⟨⟨q0, q1, q2, q3⟩, s7, hr, hg, rfl, hp⟩
                · have FIN := Lib.hid (NmPost.err (c := c) (g := g) (cap := cap) (ts := ts) (HR7.out.trans (by rw [hr]; rfl)) (HB11.out.grown.trans (.of1 hg)))
                  clear hg hr hq
                  go_wp2
                  exact ⟨rfl, FIN.out⟩
                · have HB12 := Lib.hid (HB11.out.other hg hp)
                  have HR8 := Lib.hid (HR7.out.trans (by rw [hr, bindR_ok]))
                  clear hr hg hq hp HC
                  unfold tokV'
                  have HC := Lib.hid (HSe.out s7 _ HB12.out.pw)
                  go_wp2_with fail
                  refine HC.out.mono ?_
                  rintro e w20 hq
                  rcases hq.elim with ⟨pn, hr, hg, rfl⟩ | ⟨⟨p0, p1, p2, p3⟩, s20, hr, hg, rfl, hp⟩
                  · have FIN := Lib.hid (NmPost.err (c := c) (g := g) (cap := cap) (ts := ts) (HR8.out.trans (by rw [hr]; rfl)) (HB12.out.grown.trans (.of1 hg)))
                    clear hg hr hq
                    go_wp2
                    exact ⟨rfl, FIN.out⟩
                  · have N20 := HB12.out.other hg hp
                    have FIN := Lib.hid (NmPost.ok (c := c) (g := g) (cap := cap) (ts := ts) (HR8.out.trans (by rw [hr, bindR_ok])) N20.grown (smB_of (k := 1) (id := id) (nm := u2) (t := 3) (n := v3) (pos := pos) (a1 := none) (m1 := 0) (c1 := 0) (a2 := none) (m2 := 0) (c2 := 0) (a3 := none) (m3 := 0) (c3 := 0) N20.box (by
                      simp only [SmC]
                      exact ⟨_, _, _, rfl, Or.inl ⟨rfl, rfl⟩, by simp, by simp⟩)) hp)
                    clear hg hr hq hp N20 HC
                    unfold tokV'
                    go_wp2
                    go_end0
                    exact FIN.out
          · have HR5 := Lib.hid (HR4.out.trans (if_neg hy))
            have hy' : ((y : Int) == 3) = false := by rw [beq_eq_false_iff_ne]; omega
            have HNE5 := Lib.hid (show _ ≠ gone by have := HNE4.out; rw [if_neg hy] at this; exact this)
            clear hy
            by_cases h61 : (tk ts s4.i).text = [61]
            · have HR6 := Lib.hid (HR5.out.trans (if_pos h61))
              have HNE6 := Lib.hid (show _ ≠ gone by have := HNE5.out; rw [if_pos h61] at this; exact this)
              have HC := Lib.hid (HYes.out s4 w7 HB8.out.pw h61)
              clear h61
              go_wp2_with fail
              refine HC.out.mono ?_
              rintro e w8 hq
              rcases hq.elim with ⟨pn, hr, hg, rfl⟩ | ⟨tt, s5, hr, hg, rfl, hp⟩
              · have FIN := Lib.hid (NmPost.err (c := c) (g := g) (cap := cap) (ts := ts) (HR6.out.trans (by rw [hr]; rfl)) (HB8.out.grown.trans (.of1 hg)))
                clear hg hr hq
                go_wp2
                exact ⟨rfl, FIN.out⟩
              · have HB9 := Lib.hid (HB8.out.other hg hp)
                have HR7 := Lib.hid (HR6.out.trans (by rw [hr, bindR_ok]))
                have hne7 := HNE6.out
                rw [hr, bindR_ok] at hne7
                have HC1 := Lib.hid (HOne.out s5 w8 hp (bindR_gone hne7))
                clear hr hg hq hp HC hne7 k3
                go_wp2_with fail
                refine HC1.out.mono ?_
                rintro e w9 hq
                rcases hq.elim with ⟨pn, hr, hg, rfl⟩ | ⟨x, s6, hr, hg, ⟨gr, rfl, hx⟩, hp⟩
                · have FIN := Lib.hid (NmPost.err (c := c) (g := g) (cap := cap) (ts := ts) (HR7.out.trans (by rw [hr]; rfl)) (HB9.out.grown.trans (.of1 hg)))
                  clear hg hr hq
                  go_wp2
                  exact ⟨rfl, FIN.out⟩
                · have HB10 := Lib.hid (HB9.out.other hg hp)
                  have HR8 := Lib.hid (HR7.out.trans (by rw [hr, bindR_ok]))
                  have hgw8 := HB9.out.grown.size
                  have hxr := hx.row
                  have hxw : ExRow (w9.setCell ⟨c, 6, none⟩ (.slice (some ⟨gr, 0, none⟩) 1 1)) (fun h => w.heap.size ≤ h) [x] (.slice (some ⟨gr, 0, none⟩) 1 1) := hxr.stays (stays_of_grown (Lib.grownBy_setCell _ c 6 _) fun h hh => ⟨by have := HB9.out.lc; omega, by omega⟩)
                  clear hr hg hq hp HC1 hx hxr
                  have kj := HB10.out.box.get 6 (.slice none 0 0) rfl
                  have fj := HB10.out.box.free 6
                  go_upto_region 11 with (fail)
                  obtain ⟨w10, hX⟩ : ∃ X, X = w9.setCell ⟨c, 6, none⟩ (.slice (some ⟨gr, 0, none⟩) 1 1) := ⟨_, rfl⟩
                  have HB11 : Hid (BxW b g cap ts s6 c w #[.int .u8 1, .int .i64 (id : Int), .string ⟨u2.toArray⟩, .int .u8 (y : Int), .int .i64 0, .int .i64 (pos : Int), .slice (some ⟨gr, 0, none⟩) 1 1, .slice none 0 0, .slice none 0 0] w10) := by rw [hX]; exact HB10.out.set 6 (.slice (some ⟨gr, 0, none⟩) 1 1)
                  rw [← hX] at hxw ⊢
                  have HXW := Lib.hid hxw
                  clear hxw
                  clear hX kj fj
                  have HC := Lib.hid (HSe.out s6 _ HB11.out.pw)
                  go_wp2_with fail
                  refine HC.out.mono ?_
                  rintro e w20 hq
                  rcases hq.elim with ⟨pn, hr, hg, rfl⟩ | ⟨⟨p0, p1, p2, p3⟩, s20, hr, hg, rfl, hp⟩
                  · have FIN := Lib.hid (NmPost.err (c := c) (g := g) (cap := cap) (ts := ts) (HR8.out.trans (by rw [hr]; rfl)) (HB11.out.grown.trans (.of1 hg)))
                    clear hg hr hq
                    go_wp2
                    exact ⟨rfl, FIN.out⟩
                  · have N20 := HB11.out.other hg hp
                    have hrow : ExRow w20 (fun h => w.heap.size ≤ h) [x] (.slice (some ⟨gr, 0, none⟩) 1 1) := HXW.out.stays (stays_of_grown hg fun h hh => ⟨by omega, hh⟩)
                    have FIN := Lib.hid (NmPost.ok (c := c) (g := g) (cap := cap) (ts := ts) (HR8.out.trans (by rw [hr, bindR_ok])) N20.grown (smB_of (k := 1) (id := id) (nm := u2) (t := y) (n := 0) (pos := pos) (a1 := some ⟨gr, 0, none⟩) (m1 := 1) (c1 := 1) (a2 := none) (m2 := 0) (c2 := 0) (a3 := none) (m3 := 0) (c3 := 0) N20.box (by
                      simp only [SmC]
                      exact ⟨_, _, _, rfl, hrow, by simp, by simp⟩)) hp)
                    clear hg hr hq hp N20 HC hrow
                    unfold tokV'
                    go_wp2
                    go_end0
                    exact FIN.out
            · have HR6 := Lib.hid (HR5.out.trans (if_neg h61))
              have HC := Lib.hid (HNo.out s4 w7 HB8.out.pw h61)
              clear h61
              go_wp2_with fail
              refine HC.out.mono ?_
              rintro e w8 ⟨rfl, hb8⟩
              have HB9 := Lib.hid (HB8.out.below hb8)
              clear hb8 HC k3
              have HC := Lib.hid (HSe.out s4 _ HB9.out.pw)
              go_wp2_with fail
              refine HC.out.mono ?_
              rintro e w20 hq
              rcases hq.elim with ⟨pn, hr, hg, rfl⟩ | ⟨⟨p0, p1, p2, p3⟩, s20, hr, hg, rfl, hp⟩
              · have FIN := Lib.hid (NmPost.err (c := c) (g := g) (cap := cap) (ts := ts) (HR6.out.trans (by rw [hr]; rfl)) (HB9.out.grown.trans (.of1 hg)))
                clear hg hr hq
                go_wp2
                exact ⟨rfl, FIN.out⟩
              · have N20 := HB9.out.other hg hp
                have FIN := Lib.hid (NmPost.ok (c := c) (g := g) (cap := cap) (ts := ts) (HR6.out.trans (by rw [hr, bindR_ok])) N20.grown (smB_of (k := 1) (id := id) (nm := u2) (t := y) (n := 0) (pos := pos) (a1 := none) (m1 := 0) (c1 := 0) (a2 := none) (m2 := 0) (c2 := 0) (a3 := none) (m3 := 0) (c3 := 0) N20.box (by
                  simp only [SmC]
                  exact ⟨_, _, _, rfl, Or.inl ⟨rfl, rfl⟩, by simp, by simp⟩)) hp)
                clear hg hr hq hp N20 HC
                unfold tokV'
                go_wp2
                go_end0
                exact FIN.out
end Go.Proofs.YtcgllooeimacdaaGreatDoor
