/-
  A choice: it fills a statement's box. What a block is read as: a contract.
-/
import Derived.Test.YtcgllooeimacdaaGreatDoorTLet
import Derived.Test.YtcgllooeimacdaaGreatDoorTBal
namespace Go.Proofs.YtcgllooeimacdaaGreatDoor
open Go Go.RowKit Px
open Lx (Tok)

/-- A list of statements that is answered. -/
def smsE (B : Nat) (l : List Sm) (e : Ending) (w' : World) : Prop := ∃ a m c, e = .returned (.slice a m c) ∧ SmRow w' (fun h => B ≤ h) l (.slice a m c)
def BlkC (F : Nat) : Prop := ∀ (b g cap : Nat) (ts : List Tok) (s : St) (w : World), PW b g cap ts s w → s.n ≤ s.i → F ≤ 1000000 → blockF ts F s ≠ gone →
  Calls Tryz.prog 55 #[.pointer (some ⟨b, 0, none⟩)] w (RPost b g cap ts w (smsE w.heap.size) (blockF ts F s))

theorem choiceB_eq (ts : List Tok) (f id pos : Nat) (blk : St → R (List Sm)) (s : St) : choiceB ts f id pos blk s = bindR (expectR [105, 102] ts s) fun _ s => bindR (binF ts f 1 s) fun x s => bindR (blk s) fun b s =>
  if (tk ts s.i).text = [101, 108, 115, 101] then bindR (takeR ts s) fun _ s => bindR (blk s) fun c s => .ok (.mk 4 id [] 0 0 pos [x] b c, s)
  else .ok (.mk 4 id [] 0 0 pos [x] b [], s) := rfl

set_option maxRecDepth 100000 in
set_option maxHeartbeats 2000000 in
theorem choice_any {F : Nat} (hB : BlkC F) (hF : F ≤ 1000000) (b g cap : Nat) (ts : List Tok) (s : St) (c id pos : Nat) (w : World) (hw : PW b g cap ts s w) (hn : s.n ≤ s.i + 1) (hbox : Blk c (smZ id pos) 39 w) (hcb : c ≠ b) (hcg : c ≠ g) (hne : choiceB ts F id pos (blockF ts F) s ≠ gone) :
    Calls Tryz.prog 87 #[.pointer (some ⟨b, 0, none⟩), .pointer (some ⟨c, 0, none⟩)] w (NmPost b g cap ts c w (choiceB ts F id pos (blockF ts F) s)) := by
  have HR0 := Lib.hid (choiceB_eq ts F id pos (blockF ts F) s)
  have HNE := Lib.hid hne
  have HX := Lib.hid fun x (hx : x ≠ []) s' w1 (h1 : PW b g cap ts s' w1) => expect_any b g cap ts s' x hx w1 h1
  have HNo := Lib.hid fun s' w1 (h1 : PW b g cap ts s' w1) h => accept_no b g cap ts s' [101, 108, 115, 101] w1 h1 h
  have HYes := Lib.hid fun s' w1 (h1 : PW b g cap ts s' w1) h => accept_yes b g cap ts s' [101, 108, 115, 101] (by simp) w1 h1 h
  have HOne := Lib.hid fun s' w1 (h1 : PW b g cap ts s' w1) (h : binF ts F 1 s' ≠ gone) => one_any F b g cap ts s' w1 h1 h
  have HBl := Lib.hid fun s' w1 (h1 : PW b g cap ts s' w1) (h2 : s'.n ≤ s'.i) (h : blockF ts F s' ≠ gone) => hB b g cap ts s' w1 h1 h2 hF h
  have HB0 : Hid (BxW b g cap ts s c w #[.int .u8 0, .int .i64 (id : Int), .string ⟨#[]⟩, .int .u8 0, .int .i64 0, .int .i64 (pos : Int), .slice none 0 0, .slice none 0 0, .slice none 0 0] w) := ⟨.refl _ _ _, hbox, hw, hw.blk.lt, hw.toks.lt, hbox.lt, hcb, hcg⟩
  have lb := hw.blk.lt
  have lc := hbox.lt
  clear hw hbox hcb hcg hne hB hF
  go_enter Tryz.func87, Tryz.ntmps87
  have HC := Lib.hid (HX.out [105, 102] (by simp) s w HB0.out.pw)
  go_wp2_with fail
  refine HC.out.mono ?_
  rintro e w1 hq
  rcases hq.elim with ⟨pn, hr, hg, rfl⟩ | ⟨⟨q0, q1, q2, q3⟩, s1, hr, hg, rfl, hp⟩
  · have FIN := Lib.hid (NmPost.err (c := c) (g := g) (cap := cap) (ts := ts) (HR0.out.trans (by rw [hr]; rfl)) (HB0.out.grown.trans (.of1 hg)))
    clear hg hr hq
    go_wp2
    exact ⟨rfl, FIN.out⟩
  · have HB1 := Lib.hid (HB0.out.other hg hp)
    have HR1 := Lib.hid (HR0.out.trans (by rw [hr, bindR_ok]))
    have b1 := expectR_bal hr
    have HNE1 := Lib.hid (show _ ≠ gone by have := HNE.out; rw [HR1.out] at this; exact this)
    clear hr hg hq hp HC
    unfold tokV'
    have HC := Lib.hid (HOne.out s1 w1 HB1.out.pw (bindR_gone HNE1.out))
    go_wp2_with fail
    refine HC.out.mono ?_
    rintro e w2 hq
    rcases hq.elim with ⟨pn, hr, hg, rfl⟩ | ⟨x, s2, hr, hg, ⟨gr, rfl, hx⟩, hp⟩
    · have FIN := Lib.hid (NmPost.err (c := c) (g := g) (cap := cap) (ts := ts) (HR1.out.trans (by rw [hr]; rfl)) (HB1.out.grown.trans (.of1 hg)))
      clear hg hr hq
      go_wp2
      exact ⟨rfl, FIN.out⟩
    · have HB2 := Lib.hid (HB1.out.other hg hp)
      have HR2 := Lib.hid (HR1.out.trans (by rw [hr, bindR_ok]))
      have b2 := bin_bal hr
      have HNE2 := Lib.hid (show _ ≠ gone by have := HNE1.out; rw [hr, bindR_ok] at this; exact this)
      have hs1 := HB1.out.grown.size
      have HXR := Lib.hid hx.row
      have hn2 : s2.n ≤ s2.i := by unfold Bal at b1 b2; omega
      clear hr hg hq hp hx HC
      have HC := Lib.hid (HBl.out s2 w2 HB2.out.pw hn2 (bindR_gone HNE2.out))
      go_wp2_with fail
      refine HC.out.mono ?_
      rintro e w3 hq
      rcases hq.elim with ⟨pn, hr, hg, rfl⟩ | ⟨l, s3, hr, hg, ⟨a2, m2, c2, rfl, hl⟩, hp⟩
      · have FIN := Lib.hid (NmPost.err (c := c) (g := g) (cap := cap) (ts := ts) (HR2.out.trans (by rw [hr]; rfl)) (HB2.out.grown.trans (.of1 hg)))
        clear hg hr hq
        go_wp2
        exact ⟨rfl, FIN.out⟩
      · have hB3 := HB2.out.other hg hp
        have HR3 := Lib.hid (HR2.out.trans (by rw [hr, bindR_ok]))
        have b3 := (stmts_bal ts F).1 _ _ _ hr
        have HNE3 := Lib.hid (show _ ≠ gone by have := HNE2.out; rw [hr, bindR_ok] at this; exact this)
        have hn3 : s3.n ≤ s3.i := by unfold Bal at b3; omega
        have hs2 := HB2.out.grown.size
        have hx3 : ExRow w3 (fun h => w.heap.size ≤ h) [x] (.slice (some ⟨gr, 0, none⟩) 1 1) := HXR.out.stays (stays_of_grown hg fun h hh => ⟨by omega, by omega⟩)
        have hl3 : SmRow w3 (fun h => w.heap.size ≤ h) l (.slice a2 m2 c2) := hl.stays (stays_weaken fun h hh _ => by omega)
        have HB3 := Lib.hid hB3
        have HL3 := Lib.hid (And.intro hx3 hl3)
        obtain ⟨k0, k1, k2, k3, k4, k5, k6, k7, k8⟩ := hB3.box.get9
        obtain ⟨f0, f1, f2, f3, f4, f5, f6, f7, f8⟩ := hB3.box.free9
        clear hr hg hq hp hl HC hB3 hx3 hl3
        go_upto_region 2 with (fail)
        obtain ⟨Z, hZ⟩ : ∃ Z, Z = ((w3.setCell ⟨c, 0, none⟩ (.int .u8 4)).setCell ⟨c, 6, none⟩ (.slice (some ⟨gr, 0, none⟩) 1 1)).setCell ⟨c, 7, none⟩ (.slice a2 m2 c2) := ⟨_, rfl⟩
        rw [← hZ]
        have hB4 : BxW b g cap ts s3 c w #[.int .u8 4, .int .i64 (id : Int), .string ⟨#[]⟩, .int .u8 0, .int .i64 0, .int .i64 (pos : Int), .slice (some ⟨gr, 0, none⟩) 1 1, .slice a2 m2 c2, .slice none 0 0] Z := by
          rw [hZ]; exact ((HB3.out.set 0 (.int .u8 4)).set 6 _).set 7 _
        have hst : Stays w3 (fun h => w.heap.size ≤ h) Z (fun h => w.heap.size ≤ h) := fun h hh hl => by
          have hh' : w.heap.size ≤ h := hh
          have hne : h ≠ c := by omega
          rw [hZ]
          exact ⟨(Below.heap_setCell _ _ _ _ hne).trans ((Below.heap_setCell _ _ _ _ hne).trans (Below.heap_setCell _ _ _ _ hne)), hh⟩
        have HB4 := Lib.hid hB4
        have HL4 := Lib.hid (And.intro (HL3.out.1.stays hst) (HL3.out.2.stays hst))
        clear hZ hB4 hst HB3 HL3 k0 k1 k2 k3 k4 k5 k6 k7 k8 f0 f1 f2 f3 f4 f5 f6 f7 f8
        by_cases hel : (tk ts s3.i).text = [101, 108, 115, 101]
        · have HR4 := Lib.hid (HR3.out.trans (if_pos hel))
          have HNE4 := Lib.hid (show _ ≠ gone by have := HNE3.out; rw [if_pos hel] at this; exact this)
          have HC := Lib.hid (HYes.out s3 Z HB4.out.pw hel)
          clear hel
          go_wp2_with fail
          refine HC.out.mono ?_
          rintro e w5 hq
          rcases hq.elim with ⟨pn, hr, hg, rfl⟩ | ⟨tt, s5, hr, hg, rfl, hp⟩
          · have FIN := Lib.hid (NmPost.err (c := c) (g := g) (cap := cap) (ts := ts) (HR4.out.trans (by rw [hr]; rfl)) (HB4.out.grown.trans (.of1 hg)))
            clear hg hr hq
            go_wp2
            exact ⟨rfl, FIN.out⟩
          · have HB5 := Lib.hid (HB4.out.other hg hp)
            have HR5 := Lib.hid (HR4.out.trans (by rw [hr, bindR_ok]))
            have b5 := takeR_bal hr
            have hne5 := HNE4.out
            rw [hr, bindR_ok] at hne5
            have hn5 : s5.n ≤ s5.i := by unfold Bal at b5; omega
            have HL5 := Lib.hid (And.intro (HL4.out.1.stays (stays_of_grown (ok' := fun h => w.heap.size ≤ h) hg fun h hh => ⟨by omega, hh⟩)) (HL4.out.2.stays (stays_of_grown (ok' := fun h => w.heap.size ≤ h) hg fun h hh => ⟨by omega, hh⟩)))
            have HC1 := Lib.hid (HBl.out s5 w5 hp hn5 (bindR_gone hne5))
            clear hr hg hq hp HC hne5
            go_wp2_with fail
            refine HC1.out.mono ?_
            rintro e w6 hq
            rcases hq.elim with ⟨pn, hr, hg, rfl⟩ | ⟨l3, s6, hr, hg, ⟨a3, m3, c3, rfl, hl⟩, hp⟩
            · have FIN := Lib.hid (NmPost.err (c := c) (g := g) (cap := cap) (ts := ts) (HR5.out.trans (by rw [hr]; rfl)) (HB5.out.grown.trans (.of1 hg)))
              clear hg hr hq
              go_wp2
              exact ⟨rfl, FIN.out⟩
            · have hB6 := HB5.out.other hg hp
              have HR6 := Lib.hid (HR5.out.trans (by rw [hr, bindR_ok]))
              have hs5 := HB5.out.grown.size
              have hst : Stays w6 (fun h => w.heap.size ≤ h) (w6.setCell ⟨c, 8, none⟩ (.slice a3 m3 c3)) (fun h => w.heap.size ≤ h) := stays_of_grown (Lib.grownBy_setCell _ c 8 _) fun h hh => ⟨by omega, hh⟩
              have h1 := (HL5.out.1.stays (stays_of_grown (ok' := fun h => w.heap.size ≤ h) hg fun h hh => ⟨by omega, hh⟩)).stays hst
              have h2 := (HL5.out.2.stays (stays_of_grown (ok' := fun h => w.heap.size ≤ h) hg fun h hh => ⟨by omega, hh⟩)).stays hst
              have h3 : SmRow (w6.setCell ⟨c, 8, none⟩ (.slice a3 m3 c3)) (fun h => w.heap.size ≤ h) l3 (.slice a3 m3 c3) := (hl.stays (stays_weaken (ok' := fun h => w.heap.size ≤ h) fun h hh _ => by omega)).stays hst
              have hB7 := hB6.set 8 (.slice a3 m3 c3)
              have FIN := Lib.hid (NmPost.ok (c := c) (g := g) (cap := cap) (ts := ts) HR6.out hB7.grown (smB_of (k := 4) (id := id) (nm := []) (t := 0) (n := 0) (pos := pos) (a1 := some ⟨gr, 0, none⟩) (m1 := 1) (c1 := 1) (a2 := a2) (m2 := m2) (c2 := c2) (a3 := a3) (m3 := m3) (c3 := c3) hB7.box (by
                simp only [SmC]
                exact ⟨_, _, _, rfl, h1, h2, h3⟩)) hB7.pw)
              have k8 := hB6.box.get 8 (.slice none 0 0) rfl
              have f8 := hB6.box.free 8
              clear hr hg hq hp hl HC1 hB6 hB7 hst h1 h2 h3
              go_wp2
              go_end0
              exact FIN.out
        · have HR4 := Lib.hid (HR3.out.trans (if_neg hel))
          have HC := Lib.hid (HNo.out s3 Z HB4.out.pw hel)
          clear hel
          go_wp2_with fail
          refine HC.out.mono ?_
          rintro e w5 ⟨rfl, hb5⟩
          have hB5 := HB4.out.below hb5
          have h1 := HL4.out.1.stays (stays_of_below (ok' := fun h => w.heap.size ≤ h) hb5 fun _ h => h)
          have h2 := HL4.out.2.stays (stays_of_below (ok' := fun h => w.heap.size ≤ h) hb5 fun _ h => h)
          have FIN := Lib.hid (NmPost.ok (c := c) (g := g) (cap := cap) (ts := ts) HR4.out hB5.grown (smB_of (k := 4) (id := id) (nm := []) (t := 0) (n := 0) (pos := pos) (a1 := some ⟨gr, 0, none⟩) (m1 := 1) (c1 := 1) (a2 := a2) (m2 := m2) (c2 := c2) (a3 := none) (m3 := 0) (c3 := 0) hB5.box (by
            simp only [SmC]
            exact ⟨_, _, _, rfl, h1, h2, by simp⟩)) hB5.pw)
          clear hb5 hB5 h1 h2 HC
          go_wp2
          go_end0
          exact FIN.out
end Go.Proofs.YtcgllooeimacdaaGreatDoor
