/-
  Joined: TBin, TUn.
-/
import Derived.Test.YtcgllooeimacdaaGreatDoorTExprBase
/-! A binary expression: unary ones with signs between them. -/

namespace Go.Proofs.YtcgllooeimacdaaGreatDoor
open Go Go.RowKit Px
open Lx (Tok)

theorem loopF_succ (ts : List Tok) (f least : Nat) (l : Ex) (s : St) : loopF ts (f + 1) least l s =
    if (infixOf (tk ts s.i).text).1 = 0 ∨ (infixOf (tk ts s.i).text).2 < least then .ok (l, s)
    else bindR (takeR ts s) fun t s' => bindR (binF ts f ((infixOf (tk ts s.i).text).2 + 1) s') fun r s'' => loopF ts f least (.mk 9 (infixOf (tk ts s.i).text).1 [] 0 t.pos [l, r]) s'' := by
  rw [loopF]

abbrev exCells (k op : Nat) (nm : Bytes) (n pos : Nat) (a : Option Addr) (m c : Nat) : Array Value := #[.int .u8 (k : Int), .int .u8 (op : Int), .string ⟨nm.toArray⟩, .int .i64 (n : Int), .int .i64 (pos : Int), .slice a m c]

/-- What holds at the head of each round: the left side in its box 'M', the result's box 'N', the rest of the reading. -/
def BinRel (b g cap : Nat) (ts : List Tok) (w : World) (M : Nat) (F least : Nat) (r0 : R Ex) (gf : Nat) (wr : World) : Prop :=
  ∃ (x : Ex) (s1 : St) (k op : Nat) (nm : Bytes) (n pos : Nat) (a : Option Addr) (m c : Nat), gf ≤ F ∧ r0 = loopF ts gf least x s1 ∧ loopF ts gf least x s1 ≠ gone ∧ Blk M (exCells k op nm n pos a m c) 36 wr ∧
    ExC wr (fun h => w.heap.size < h ∧ h ≠ M) x (exCells k op nm n pos a m c).toList ∧ Blk w.heap.size zEx 36 wr ∧ PW b g cap ts s1 wr ∧ w.grownBy wr (some b) ∧ w.heap.size < M

abbrev rowOf (k op : Nat) (nm : Bytes) (n pos : Nat) (a : Option Addr) (m c : Nat) (k2 op2 : Nat) (nm2 : Bytes) (n2 pos2 : Nat) (a2 : Option Addr) (m2 c2 : Nat) : Array Value :=
  #[.int .u8 (k : Int), .int .u8 (op : Int), .string ⟨nm.toArray⟩, .int .i64 (n : Int), .int .i64 (pos : Int), .slice a m c, .int .u8 (k2 : Int), .int .u8 (op2 : Int), .string ⟨nm2.toArray⟩, .int .i64 (n2 : Int), .int .i64 (pos2 : Int), .slice a2 m2 c2]

theorem bin_fin {b g cap : Nat} {ts : List Tok} {s1 s3 : St} {w wr w2 w3 w4 : World} {M F gf : Nat} {x1 x2 : Ex} {k op : Nat} {nm : Bytes} {n pos : Nat} {a : Option Addr} {m c : Nat} {k2 op2 : Nat} {nm2 : Bytes} {n2 pos2 : Nat} {a2 : Option Addr} {m2 c2 : Nat}
    (hR : Blk M (exCells k op nm n pos a m c) 36 wr ∧ ExC wr (fun h => w.heap.size < h ∧ h ≠ M) x1 (exCells k op nm n pos a m c).toList ∧ Blk w.heap.size zEx 36 wr ∧ PW b g cap ts s1 wr ∧ w.grownBy wr (some b) ∧ gf ≤ F)
    (hb2 : Below wr.heap.size wr w2) (hg3 : w2.grownBy w3 (some b)) (hg4 : w3.grownBy w4 (some b)) (hMN : w.heap.size < M) (hlt : b < w.heap.size) (hMl : M < wr.heap.size) (hgl : g < w.heap.size)
    (hx2 : ExC w4 (fun h => w3.heap.size ≤ h) x2 (exCells k2 op2 nm2 n2 pos2 a2 m2 c2).toList) (hp4 : PW b g cap ts s3 w4) (o t1 : Nat) :
    ∀ U', U' = ((set6 w4 M (.int .u8 9) (.int .u8 (o : Int)) (.string ⟨#[]⟩) (.int .i64 0) (.int .i64 (t1 : Int)) (.slice (some ⟨w4.heap.size + 1, 0, none⟩) 2 2)).alloc (.cells (exCells k2 op2 nm2 n2 pos2 a2 m2 c2) 36)).alloc (.cells (rowOf k op nm n pos a m c k2 op2 nm2 n2 pos2 a2 m2 c2) 36) →
      Blk M (exCells 9 o [] 0 t1 (some ⟨w4.heap.size + 1, 0, none⟩) 2 2) 36 U' ∧ ExC U' (fun h => w.heap.size < h ∧ h ≠ M) (.mk 9 o [] 0 t1 [x1, x2]) (exCells 9 o [] 0 t1 (some ⟨w4.heap.size + 1, 0, none⟩) 2 2).toList ∧
        Blk w.heap.size zEx 36 U' ∧ PW b g cap ts s3 U' ∧ w.grownBy U' (some b) := by
  obtain ⟨hM, hx1, hN, hp1, hg1, _⟩ := hR
  obtain ⟨X, hX⟩ : ∃ X, X = set6 w4 M (.int .u8 9) (.int .u8 (o : Int)) (.string ⟨#[]⟩) (.int .i64 0) (.int .i64 (t1 : Int)) (.slice (some ⟨w4.heap.size + 1, 0, none⟩) 2 2) := ⟨_, rfl⟩
  have hXs : X.heap.size = w4.heap.size := by rw [hX]; simp [set6, World.setCell]
  rw [← hX]
  intro U hU
  have hbU : Below X.heap.size X U := by rw [hU]; exact ((Below.refl _ _).alloc (Nat.le_refl _) _).alloc (by simp) _
  have hw2 := hb2.size
  have hw3 := hg3.size
  have hw4 := hg4.size
  have hwr := hg1.size
  have hrow : Blk (w4.heap.size + 1) (rowOf k op nm n pos a m c k2 op2 nm2 n2 pos2 a2 m2 c2) 36 U := by rw [hU]; exact Blk.new' _ _ _ (by simp [hXs])
  have hgX : w4.grownBy X (some M) := by rw [hX]; exact grown_set6 _ _ _ _ _ _ _ _
  have hgall : wr.grownBy w4 (some b) := gtrans (gtrans (grown_of_below hb2) hg3) hg4
  have hM4 : Blk M (exCells k op nm n pos a m c) 36 w4 := hM.other hgall (by simp; omega)
  have hMX : Blk M (exCells 9 o [] 0 t1 (some ⟨w4.heap.size + 1, 0, none⟩) 2 2) 36 X := by rw [hX]; exact hM4.set6 _ _ _ _ _ _
  have hgXU : w4.grownBy U (some M) := gtrans hgX (grown_of_below hbU)
  refine ⟨hMX.below hbU hMX.lt, ?_, (hN.other hgall (by simp; omega)).other hgXU (by simp; omega), ?_, ?_⟩
  · have h1 : ExC U (fun h => w.heap.size < h ∧ h ≠ M) x1 (exCells k op nm n pos a m c).toList :=
      (hx1.stays (ok' := fun h => w.heap.size < h ∧ h ≠ M) (stays_of_grown hgall fun h hh => ⟨by omega, hh⟩)).stays (stays_of_grown hgXU fun h hh => ⟨hh.2, hh⟩)
    have h2 : ExC U (fun h => w.heap.size < h ∧ h ≠ M) x2 (exCells k2 op2 nm2 n2 pos2 a2 m2 c2).toList :=
      hx2.stays (stays_of_grown hgXU fun h hh => ⟨by omega, by omega⟩)
    simp only [ExC]
    refine ⟨_, rfl, Or.inr ⟨w4.heap.size + 1, 2, (rowOf k op nm n pos a m c k2 op2 nm2 n2 pos2 a2 m2 c2).toList, rfl, ⟨by omega, by omega⟩, ⟨rfl, Or.inr ⟨_, _, _, rfl, Nat.zero_le _, hrow, Nat.le_refl _, by decide, rfl, rfl⟩⟩, ?_⟩⟩
    simp only [ExsC]
    exact ⟨_, _, rfl, h1, _, [], rfl, h2, rfl⟩
  · exact hp4.other hgXU (by simp; omega) (by simp; omega)
  · exact gnew (gtrans hg1 hgall) (Nat.le_of_lt hMN) hgXU

set_option maxRecDepth 100000 in
set_option maxHeartbeats 2000000 in
theorem binary_step {F : Nat} (hU : UnC F) (hB : ∀ f, f ≤ F → BinC f) : BinC (F + 1) := by
  intro b g cap ts s least w hw hl hne
  have hne1 : bindR (unF ts F s) (fun l s => loopF ts F least l s) ≠ gone := by have h := hne; rw [binF] at h; exact h
  have hun := bindR_gone hne1
  obtain ⟨W, hW⟩ : ∃ W, W = w.alloc ex0 := ⟨_, rfl⟩
  have hbW : Below w.heap.size w W := by rw [hW]; exact (Below.refl _ _).alloc (Nat.le_refl _) _
  have hz : Blk w.heap.size zEx 36 W := by rw [hW]; exact Blk.new _ _ _
  have hsz : W.heap.size = w.heap.size + 1 := by rw [hW]; simp
  have HC := Lib.hid (hU b g cap ts s W (hw.below hbW) hun)
  have HW := Lib.hid hw
  have HH := Lib.hid (And.intro hbW (And.intro hz hsz))
  have HWW := Lib.hid hW
  have HNE := Lib.hid hne1
  have HBin := Lib.hid hB
  have hlt := hw.blk.lt
  have HRB : Hid (binF ts (F + 1) least s = bindR (unF ts F s) fun l s => loopF ts F least l s) := by unfold Hid; rw [binF]
  clear hw hbW hz hW hne hU hsz hne1 hun hB
  go_enter Tryz.func120, Tryz.ntmps120
  go_wp2_with fail
  rw [← HWW.out]
  refine HC.out.mono ?_
  rintro e w1 h1
  rcases h1.elim with ⟨pn, hr, hg, rfl⟩ | ⟨x, s', hr, hg, ⟨k, op, nm, n, pos, a, m, c, rfl, hx⟩, hp⟩
  · have FIN := Lib.hid (RPost.err (α := Ex) (g := g) (cap := cap) (ts := ts) (V := exE w.heap.size) (HRB.out.trans (by rw [hr]; rfl)) (gtrans (row := some b) (grown_of_below HH.out.1) hg))
    clear hg hr h1
    go_wp2
    exact ⟨rfl, FIN.out⟩
  · obtain ⟨V, hV⟩ : ∃ V, V = w1.alloc (.cells (exCells k op nm n pos a m c) 36) := ⟨_, rfl⟩
    have hbV : Below w1.heap.size w1 V := by rw [hV]; exact (Below.refl _ _).alloc (Nat.le_refl _) _
    have hs1 := hg.size
    have hREL : BinRel b g cap ts w w1.heap.size F least (binF ts (F + 1) least s) F V := by
      refine ⟨x, s', k, op, nm, n, pos, a, m, c, Nat.le_refl _, by rw [HRB.out, hr]; rfl, ?_, ?_, ?_, ?_, hp.below hbV, gtrans (gtrans (grown_of_below HH.out.1) hg) (grown_of_below hbV), ?_⟩
      · have := HNE.out; rw [hr] at this; exact this
      · rw [hV]; exact Blk.new _ _ _
      · refine hx.stays ?_
        intro h h1 h2
        exact ⟨hbV.block h h2, by have := HH.out.2.2; omega, by omega⟩
      · exact (HH.out.2.1.other hg (by simp; omega)).below hbV (by have := HH.out.2.1.lt; omega)
      · have := HH.out.2.1.lt; omega
    have HREL := Lib.hid hREL
    have HVV := Lib.hid hV
    clear hg hr h1 hx hp hbV hREL hs1 hV
    go_upto_region 2 with (fail)
    rw [← HVV.out]
    have hf1 := fTok1
    have hf2 := fTok2
    clear HVV HC HNE HWW
    generalize hM : w1.heap.size = M at *
    clear hM
    go_loopg [] F (fun gf wr => BinRel b g cap ts w M F least (binF ts (F + 1) least s) gf wr)
    case atStart => exact HREL.out
    case round =>
      obtain ⟨x1, s1, k1, op1, nm1, n1, pos1, a1, m1, c1, hgf, h0, hng, hbM, hx1, hbN, hp1, hg1, hMN⟩ := hrel
      cases gk with
      | zero => exact absurd (by rw [loopF]) hng
      | succ f1 =>
        rw [loopF_succ] at h0 hng
        have HN := Lib.hid (next_any b g cap ts s1 wr hp1)
        obtain ⟨t, ht⟩ : ∃ t, t = (tk ts s1.i).text := ⟨_, rfl⟩
        rw [← ht] at h0 hng
        obtain ⟨ho19, hq12⟩ := infixOf_le t
        have hnt := Lib.hid (infixOf_ne (t := t))
        have HI := Lib.hid (infix_any t)
        have HT := Lib.hid ht
        clear ht
        generalize (infixOf t).1 = o at *
        generalize (infixOf t).2 = q at *
        have HR := Lib.hid (And.intro hbM (And.intro hx1 (And.intro hbN (And.intro hp1 (And.intro hg1 hgf)))))
        have H0 := Lib.hid h0
        have hMl := hbM.lt
        clear hx1 hbM hbN hp1 hg1 h0 hgf
        have hcase : (o = 0 ∨ (o ≠ 0 ∧ q < least)) ∨ (o ≠ 0 ∧ ¬ q < least) := by omega
        rcases hcase with hstop | ⟨ho, hq⟩
        · have H1 := Lib.hid (H0.out.trans (if_pos (by omega)))
          clear hng
          have ho' : ((o : Int) == 0) = decide (o = 0) := by rw [Bool.eq_iff_iff]; simp
          rcases hstop with rfl | ⟨ho, hq⟩
          all_goals
            try (rw [decide_eq_false ho] at ho')
            go_wp2_with fail
            refine HN.out.mono ?_
            rintro e w2 ⟨rfl, hb2⟩
            have hM2 := HR.out.1.below hb2 hMl
            have hN2 := HR.out.2.2.1.below hb2 HR.out.2.2.1.lt
            obtain ⟨m0, m1, m2, m3, m4, m5⟩ := hM2.get6
            obtain ⟨z0, z1, z2, z3, z4, z5⟩ := hN2.get6
            obtain ⟨f0, f1, f2, f3, f4, f5⟩ := hN2.free6
            have FIN := Lib.hid (ex_fin (s' := s1) HW.out (gtrans (row := some b) HR.out.2.2.2.2.1 (grown_of_below hb2)) hN2 (HR.out.2.2.2.1.below hb2) ((HR.out.2.1.stays (stays_of_below hb2 fun _ h => h)).stays (stays_weaken fun h hh _ => hh.1)))
            clear hb2 hM2 hN2
            unfold tokV'
            go_wp2_with fail
            rw [← HT.out]
            refine (HI.out w2).mono ?_
            rintro e w2' ⟨rfl, rfl⟩
            go_wp2
            rw [← set6_eq]
            obtain ⟨y0, y1, y2, y3, y4, y5⟩ := FIN.out.1.get6
            clear m0 m1 m2 m3 m4 m5 z0 z1 z2 z3 z4 z5 f0 f1 f2 f3 f4 f5
            exact bodyPost_ret (v := .agg (exCells k1 op1 nm1 n1 pos1 a1 m1 c1)) (by simp [results, Tryz.results120, go_sem, y0, y1, y2, y3, y4, y5]) rfl (RPost.ok H1.out FIN.out.2.1 FIN.out.2.2.2 FIN.out.2.2.1)
        · have H1 := Lib.hid (H0.out.trans (if_neg (by omega)))
          rw [if_neg (by omega)] at hng
          have ho' : ((o : Int) == 0) = false := by rw [beq_eq_false_iff_ne]; omega
          have HG := Lib.hid hng
          clear hng
          go_wp2_with fail
          refine HN.out.mono ?_
          rintro e w2 ⟨rfl, hb2⟩
          have HB2 := Lib.hid hb2
          have HTK := Lib.hid (take_R b g cap ts s1 w2 (HR.out.2.2.2.1.below hb2) (Or.inr (by rw [← HT.out]; exact hnt.out ho)))
          clear hb2
          unfold tokV'
          go_wp2_with fail
          rw [← HT.out]
          refine (HI.out w2).mono ?_
          rintro e w2' ⟨rfl, rfl⟩
          go_wp2_with fail
          refine HTK.out.mono ?_
          rintro e w3 h3
          rcases h3.elim with ⟨pn, hr, hg3, rfl⟩ | ⟨⟨t0, t1, t2, t3⟩, s2, hr, hg3, rfl, hp3⟩
          · have FIN := Lib.hid (RPost.err (α := Ex) (g := g) (cap := cap) (ts := ts) (V := exE w.heap.size) (H1.out.trans (by rw [hr]; rfl)) (gtrans (row := some b) (gtrans HR.out.2.2.2.2.1 (grown_of_below HB2.out)) hg3))
            clear hg3 hr h3
            go_wp2
            exact ⟨rfl, FIN.out⟩
          · have hg' := HG.out
            rw [hr, bindR_ok] at hg'
            have HG' := Lib.hid hg'
            have HC := (HBin.out f1 (by have := HR.out.2.2.2.2.2; omega)) b g cap ts s2 (q + 1) w3 hp3 (by omega) (bindR_gone hg')
            rw [show ((q + 1 : Nat) : Int) = (q : Int) + 1 from rfl] at HC
            have HC := Lib.hid HC
            have H3 := Lib.hid (And.intro hg3 (And.intro hp3 hr))
            clear hg3 hp3 hr h3 hg'
            unfold tokV'
            go_wp2_with fail
            refine HC.out.mono ?_
            rintro e w4 h4
            rcases h4.elim with ⟨pn, hr, hg4, rfl⟩ | ⟨x2, s3, hr, hg4, ⟨k2, op2, nm2, n2, pos2, a2, m2, c2, rfl, hx2⟩, hp4⟩
            · have FIN := Lib.hid (RPost.err (α := Ex) (g := g) (cap := cap) (ts := ts) (V := exE w.heap.size) (H1.out.trans (by rw [H3.out.2.2, bindR_ok, hr]; rfl)) (gtrans (row := some b) (gtrans (gtrans HR.out.2.2.2.2.1 (grown_of_below HB2.out)) H3.out.1) hg4))
              clear hg4 hr h4
              go_wp2
              exact ⟨rfl, FIN.out⟩
            · have hbM : b ≠ M := by omega
              have hM2 := HR.out.1.below HB2.out hMl
              have hM4 := (hM2.other H3.out.1 (by simpa using hbM.symm)).other hg4 (by simpa using hbM.symm)
              have hM4l := hM4.lt
              obtain ⟨m0, m1', m2', m3, m4, m5⟩ := hM4.get6
              obtain ⟨f0, f1', f2, f3, f4, f5⟩ := hM4.free6
              have FIN := Lib.hid (bin_fin HR.out HB2.out H3.out.1 hg4 hMN hlt hMl HW.out.toks.lt hx2 hp4 o t1)
              have HE := Lib.hid (H1.out.trans (by rw [H3.out.2.2, bindR_ok, hr, bindR_ok]))
              have HG2 := Lib.hid (show loopF ts f1 least (.mk 9 o [] 0 t1 [x1, x2]) s3 ≠ gone by have := HG'.out; rw [hr, bindR_ok] at this; exact this)
              have hf1F : f1 ≤ F := by have := HR.out.2.2.2.2.2; omega
              clear hM2 hM4 hg4 hr h4 hx2 hp4
              go_wp2
              rw [← set6_eq]
              go_roundg f1
              case measure => omega
              case rel => exact (fun ⟨h1, h2, h3, h4, h5⟩ => ⟨_, s3, 9, o, [], 0, t1, some ⟨w4.heap.size + 1, 0, none⟩, 2, 2, hf1F, HE.out, HG2.out, h1, h2, h3, h4, h5, hMN⟩) (FIN.out _ rfl)
end Go.Proofs.YtcgllooeimacdaaGreatDoor

/-! Unary expressions and operands. -/

namespace Go.Proofs.YtcgllooeimacdaaGreatDoor
open Go Go.RowKit Px
open Lx (Tok)

set_option maxRecDepth 100000 in
/-- Another token stands there: nothing has turned. -/
theorem accept_no (b g cap : Nat) (ts : List Tok) (s : St) (x : Bytes) (w : World) (hw : PW b g cap ts s w) (h : (tk ts s.i).text ≠ x) :
    Calls Tryz.prog 53 #[.pointer (some ⟨b, 0, none⟩), .string ⟨x.toArray⟩] w fun e w' => e = .returned (.bool false) ∧ Below w.heap.size w w' := by
  have HN := Lib.hid (is_any b g cap ts s x w hw)
  have hq : ((tk ts s.i).text == x) = false := by simpa using h
  rw [hq] at HN
  clear h hq hw
  go_enter Tryz.func53, Tryz.ntmps53
  go_wp2_with fail
  refine HN.out.mono ?_
  rintro e w1 ⟨rfl, hb⟩
  have HB := Lib.hid hb
  clear hb
  go_wp2
  go_ret
  exact ⟨rfl, HB.out⟩

/-- That token stands there, and is taken. -/
theorem accept_yes (b g cap : Nat) (ts : List Tok) (s : St) (x : Bytes) (hx : x ≠ []) (w : World) (hw : PW b g cap ts s w) (h : (tk ts s.i).text = x) :
    Calls Tryz.prog 53 #[.pointer (some ⟨b, 0, none⟩), .string ⟨x.toArray⟩] w (RPost b g cap ts w (fun _ e _ => e = .returned (.bool true)) (takeR ts s)) := by
  refine (accept_any b g cap ts s x hx w hw).mono ?_
  intro e w' h1
  have e1 : acceptR x ts s = bindR (takeR ts s) fun _ s => .ok (true, s) := by unfold acceptR; rw [if_pos h]
  rcases h1.elim with ⟨pn, hr, hg, rfl⟩ | ⟨a, s', hr, hg, rfl, hp⟩
  · refine RPost.err ?_ hg
    rw [e1] at hr
    rcases h4 : takeR ts s with pn' | ⟨a, s'⟩
    · rw [h4] at hr; simpa [bindR] using hr
    · rw [h4] at hr; simp [bindR] at hr
  · rw [e1] at hr
    rcases h4 : takeR ts s with pn' | ⟨a', s''⟩
    · rw [h4] at hr; simp [bindR] at hr
    · rw [h4] at hr
      simp only [bindR, Except.ok.injEq, Prod.mk.injEq] at hr
      obtain ⟨rfl, rfl⟩ := hr
      exact ⟨hg, rfl, hp⟩


def UnP (b g cap : Nat) (ts : List Tok) (s' : St) (x : Ex) (w : World) (e : Ending) (w' : World) : Prop := ∃ (k op : Nat) (nm : Bytes) (n pos : Nat) (a : Option Addr) (m c : Nat),
  e = .returned (.agg (exCells k op nm n pos a m c)) ∧ ExC w' (fun h => w.heap.size ≤ h) x (exCells k op nm n pos a m c).toList ∧ PW b g cap ts s' w' ∧ w.grownBy w' (some b)
def UnPan (b : Nat) (w : World) (r : R Ex) (e : Ending) (w' : World) : Prop := ∃ pn, r = .error pn ∧ w.grownBy w' (some b) ∧ e = .panicked (faultP pn.1 pn.2)

theorem un_box {b g cap : Nat} {ts : List Tok} {s0 s2 : St} {w w2 w3 Y : World} {M p t0 t1 : Nat} {t2 : Bytes} {t3 : Nat} {x : Ex} {k op : Nat} {nm : Bytes} {n pos : Nat} {a : Option Addr} {m c : Nat} (hw : PW b g cap ts s0 w) (hgw : w.grownBy w2 (some b))
    (hz : Blk w.heap.size zEx 36 w2) (ht : Blk M #[.int .u8 (t0 : Int), .int .i64 (t1 : Int), .string ⟨t2.toArray⟩, .int .i64 (t3 : Int)] 55 w2) (hM : w.heap.size < M) (hg : w2.grownBy w3 (some b))
    (hx : ExC w3 (fun h => w2.heap.size ≤ h) x (exCells k op nm n pos a m c).toList) (hp : PW b g cap ts s2 w3) (hY : Y = w3.alloc (.cells (exCells k op nm n pos a m c) 36)) :
    Y.cell? ⟨M, 1, none⟩ = some (.int .i64 (t1 : Int)) ∧ Blk w.heap.size zEx 36 Y ∧ ∀ U, U = set6 Y w.heap.size (.int .u8 8) (.int .u8 (p : Int)) (.string ⟨#[]⟩) (.int .i64 0) (.int .i64 (t1 : Int)) (.slice (some ⟨w3.heap.size, 0, none⟩) 1 1) →
      Blk w.heap.size #[.int .u8 8, .int .u8 (p : Int), .string ⟨#[]⟩, .int .i64 0, .int .i64 (t1 : Int), .slice (some ⟨w3.heap.size, 0, none⟩) 1 1] 36 U ∧ w.grownBy U (some b) ∧ PW b g cap ts s2 U ∧
        exE w.heap.size (.mk 8 p [] 0 t1 [x]) (.returned (.agg #[.int .u8 8, .int .u8 (p : Int), .string ⟨#[]⟩, .int .i64 0, .int .i64 (t1 : Int), .slice (some ⟨w3.heap.size, 0, none⟩) 1 1])) U := by
  have hlt := hw.blk.lt
  have hs := hg.size
  have hzl := hz.lt
  have htl := ht.lt
  have hbY : Below w3.heap.size w3 Y := by rw [hY]; exact (Below.refl _ _).alloc (Nat.le_refl _) _
  have hzY : Blk w.heap.size zEx 36 Y := (hz.other hg (by simp; omega)).below hbY (by omega)
  have htY := (ht.other hg (by simp; omega)).below hbY (by omega)
  have hrow : Y.heap[w3.heap.size]? = some (.cells (exCells k op nm n pos a m c) 36 (0, 0)) := by rw [hY]; exact heap_alloc_new w3 _
  refine ⟨htY.get 1 _ rfl, hzY, ?_⟩
  rintro U rfl
  refine ex_fin (k := 8) (op := p) (nm := []) (n := 0) (pos := t1) (a := some ⟨w3.heap.size, 0, none⟩) (m := 1) (c := 1) hw (gtrans (gtrans hgw hg) (grown_of_below hbY)) hzY (hp.below hbY) ?_
  simp only [ExC]
  refine ⟨_, rfl, Or.inr ⟨w3.heap.size, 1, (exCells k op nm n pos a m c).toList, rfl, by omega, ⟨rfl, Or.inr ⟨_, _, _, rfl, Nat.zero_le _, hrow, Nat.le_refl _, by decide, rfl, rfl⟩⟩, ?_⟩⟩
  simp only [ExsC]
  exact ⟨_, [], by simp, hx.stays (stays_of_below hbY fun h hh => by omega), rfl⟩

theorem prefix_ne {t : Bytes} (h : prefixOf t ≠ 0) : t ≠ [] := by
  rintro rfl
  exact h (by decide)

set_option maxRecDepth 100000 in
set_option maxHeartbeats 2000000 in
theorem unary_sign {F : Nat} (hU : UnC F) (b g cap : Nat) (ts : List Tok) (s : St) (w : World) (hw : PW b g cap ts s w) (hpre : prefixOf (tk ts s.i).text ≠ 0) (hne : unF ts (F + 1) s ≠ gone) :
    Calls Tryz.prog 141 #[.pointer (some ⟨b, 0, none⟩)] w (RPost b g cap ts w (exE w.heap.size) (unF ts (F + 1) s)) := by
  rw [unF, if_neg hpre] at hne
  have HRB := Lib.hid (show unF ts (F + 1) s = bindR (takeR ts s) fun _ s' => bindR (unF ts F s') fun x s'' => .ok (.mk 8 (prefixOf (tk ts s.i).text) [] 0 (tk ts s.i).pos [x], s'') by rw [unF, if_neg hpre])
  obtain ⟨W, hW⟩ : ∃ W, W = w.alloc ex0 := ⟨_, rfl⟩
  have hbW : Below w.heap.size w W := by rw [hW]; exact (Below.refl _ _).alloc (Nat.le_refl _) _
  have hz : Blk w.heap.size zEx 36 W := by rw [hW]; exact Blk.new _ _ _
  have HN := Lib.hid (next_any b g cap ts s W (hw.below hbW))
  have HTK := Lib.hid fun w1 (h1 : PW b g cap ts s w1) => take_R b g cap ts s w1 h1 (Or.inr (prefix_ne hpre))
  have HW := Lib.hid hw
  have HH := Lib.hid (And.intro hbW hz)
  have HWW := Lib.hid hW
  have HNE := Lib.hid hne
  have HUn := Lib.hid hU
  have hlt := hw.blk.lt
  have hgl := hw.toks.lt
  have HP := Lib.hid (prefix_any (tk ts s.i).text)
  have hzl := hz.lt
  generalize prefixOf (tk ts s.i).text = p at *
  have hp0 : ((p : Int) == 0) = false := by rw [beq_eq_false_iff_ne]; omega
  clear hw hbW hz hW hne hU hpre
  rcases htk : tk ts s.i with ⟨t0, t1, t2, t3⟩
  simp only [htk] at HN HP HRB HNE
  clear htk
  go_enter Tryz.func141, Tryz.ntmps141
  go_wp2_with fail
  rw [← HWW.out]
  refine HN.out.mono ?_
  rintro e w1 ⟨rfl, hb1⟩
  unfold tokV'
  obtain ⟨V, hV⟩ : ∃ V, V = w1.alloc (.cells #[.int .u8 (t0 : Int), .int .i64 (t1 : Int), .string ⟨t2.toArray⟩, .int .i64 (t3 : Int)] 55) := ⟨_, rfl⟩
  have hbV : Below w.heap.size w V := by rw [hV]; exact (HH.out.1.trans (hb1.mono HH.out.1.size)).alloc (by have := hb1.size; omega) _
  have hzV : Blk w.heap.size zEx 36 V := by rw [hV]; exact (HH.out.2.below hb1 hzl).below ((Below.refl _ _).alloc (Nat.le_refl _) _) (by have := hb1.size; omega)
  have htV : Blk w1.heap.size #[.int .u8 (t0 : Int), .int .i64 (t1 : Int), .string ⟨t2.toArray⟩, .int .i64 (t3 : Int)] 55 V := by rw [hV]; exact Blk.new _ _ _
  obtain ⟨c0, c1, c2, c3⟩ := htV.get4
  have hM : w.heap.size < w1.heap.size := by have := hb1.size; have := HH.out.2.lt; omega
  have HV := Lib.hid (And.intro hbV (And.intro hzV htV))
  have HVV := Lib.hid hV
  clear hb1 hbV hzV htV hV
  go_upto_region 2 with (fail)
  rw [← HVV.out]
  clear HVV
  generalize w1.heap.size = M at *
  go_wp2_with fail
  refine (HP.out V).mono ?_
  rintro e V' ⟨rfl, rfl⟩
  go_wp2_with fail
  refine (HTK.out V (HW.out.below HV.out.1)).mono ?_
  rintro e w2 h2
  rcases h2.elim with ⟨pn, hr, hg, rfl⟩ | ⟨tt, s1, hr, hg, rfl, hp⟩
  · have FIN := Lib.hid (RPost.err (α := Ex) (g := g) (cap := cap) (ts := ts) (V := exE w.heap.size) (HRB.out.trans (by rw [hr]; rfl)) (gtrans (row := some b) (grown_of_below HV.out.1) hg))
    clear hg hr h2
    go_wp2
    exact ⟨rfl, FIN.out⟩
  · have hne := HNE.out
    rw [hr, bindR_ok] at hne
    have HR := Lib.hid (HRB.out.trans (by rw [hr, bindR_ok]))
    have HT := Lib.hid (And.intro hp (And.intro (gtrans (row := some b) (grown_of_below HV.out.1) hg) (And.intro (HV.out.2.1.other hg (by simp; omega)) (HV.out.2.2.other hg (by simp; omega)))))
    have HUU := Lib.hid fun w1 (h1 : PW b g cap ts s1 w1) => HUn.out b g cap ts s1 w1 h1 (bindR_gone hne)
    clear hg hr h2 hp hne c0 c1 c2 c3 HV
    go_upto_region 5 with (fail)
    have c1 := HT.out.2.2.2.get 1 (.int .i64 (t1 : Int)) rfl
    rcases hres : unF ts F s1 with pn | ⟨x, s2⟩
    · have HC : Hid (∀ w1, PW b g cap ts s1 w1 → Calls Tryz.prog 141 #[.pointer (some ⟨b, 0, none⟩)] w1 (UnPan b w1 (unF ts F s1))) := by
        intro w1 h1
        refine (HUU.out w1 h1).mono ?_
        intro e w' h
        rcases h.elim with ⟨q, h1, h2, h3⟩ | ⟨a, s', h1, _⟩
        · exact ⟨q, h1, h2, h3⟩
        · rw [hres] at h1; cases h1
      clear hres
      refine wp_region_any (by kernel_rfl) ?_
      change wpAny _ _ _ _ _ _ _ (World.drew _)
      refine wpAny_take (i := 0) (v := ?_) rfl (by kernel_rfl) (by kernel_rfl) (by kernel_rfl) (fun _ _ _ h => h) (Or.inl ⟨by rfl, ?_⟩) ?_
      rotate_left
      · intro w; go_simp
        try with_reducible rfl
      refine wpAny_take (i := 1) (v := ?_) rfl (by kernel_rfl) (by kernel_rfl) (by kernel_rfl) (fun _ _ _ h => h) (Or.inl ⟨by rfl, ?_⟩) ?_
      rotate_left
      · intro w; go_simp
        try with_reducible rfl
      refine wpAny_take (i := 3) (v := ?_) rfl (by kernel_rfl) (by kernel_rfl) (by kernel_rfl) (fun _ _ _ h => h) (Or.inl ⟨by rfl, ?_⟩) ?_
      rotate_left
      · intro w; go_simp
        try with_reducible rfl
      refine wpAny_ready (rs := [2, 4]) (by kernel_rfl) (by simp) ?_
      refine AllReady.cons rfl (fun K hK => ?_) ?_
      · go_simp
        refine hK _ _ ?_
        clear hK K
        refine wpAny_ready (rs := [4]) (by kernel_rfl) (by simp) ?_
        refine AllReady.cons rfl (fun K hK => ?_) ?_
        · go_simp
          refine (HC.out _ (HT.out.1.below (Below.refl _ _).drew)).mono ?_
          rintro e w' ⟨pn', hr, hg, rfl⟩
          have FIN := RPost.err (α := Ex) (g := g) (cap := cap) (ts := ts) (V := exE w.heap.size) (HR.out.trans (by rw [hr]; rfl)) (gtrans HT.out.2.1 (gtrans (grown_of_below (Below.refl _ _).drew) hg))
          exact ⟨rfl, FIN⟩
        exact AllReady.nil
      refine AllReady.cons rfl (fun K hK => ?_) ?_
      · go_simp
        refine (HC.out _ (HT.out.1.below (Below.refl _ _).drew)).mono ?_
        rintro e w' ⟨pn', hr, hg, rfl⟩
        have FIN := RPost.err (α := Ex) (g := g) (cap := cap) (ts := ts) (V := exE w.heap.size) (HR.out.trans (by rw [hr]; rfl)) (gtrans HT.out.2.1 (gtrans (grown_of_below (Below.refl _ _).drew) hg))
        exact ⟨rfl, FIN⟩
      exact AllReady.nil
    · have HC : Hid (∀ w1, PW b g cap ts s1 w1 → Calls Tryz.prog 141 #[.pointer (some ⟨b, 0, none⟩)] w1 (UnP b g cap ts s2 x w1)) := by
        intro w1 h1
        refine (HUU.out w1 h1).mono ?_
        intro e w' h
        rcases h.elim with ⟨q, h1, h2, h3⟩ | ⟨a, s', h1, h2, ⟨k, op, nm, n, pos, a', m, c, h3, h4⟩, h5⟩
        · rw [hres] at h1; cases h1
        · rw [hres] at h1
          cases h1
          exact ⟨k, op, nm, n, pos, a', m, c, h3, h4, h5, h2⟩
      have HR3 := Lib.hid (HR.out.trans (by rw [hres, bindR_ok]))
      clear hres
      refine wp_region_any (by kernel_rfl) ?_
      change wpAny _ _ _ _ _ _ _ (World.drew _)
      refine wpAny_take (i := 0) (v := ?_) rfl (by kernel_rfl) (by kernel_rfl) (by kernel_rfl) (fun _ _ _ h => h) (Or.inl ⟨by rfl, ?_⟩) ?_
      rotate_left
      · intro w; go_simp
        try with_reducible rfl
      refine wpAny_take (i := 1) (v := ?_) rfl (by kernel_rfl) (by kernel_rfl) (by kernel_rfl) (fun _ _ _ h => h) (Or.inl ⟨by rfl, ?_⟩) ?_
      rotate_left
      · intro w; go_simp
        try with_reducible rfl
      refine wpAny_take (i := 3) (v := ?_) rfl (by kernel_rfl) (by kernel_rfl) (by kernel_rfl) (fun _ _ _ h => h) (Or.inl ⟨by rfl, ?_⟩) ?_
      rotate_left
      · intro w; go_simp
        try with_reducible rfl
      refine wpAny_ready (rs := [2, 4]) (by kernel_rfl) (by simp) ?_
      refine AllReady.cons rfl (fun K hK => ?_) ?_
      · go_simp
        refine hK _ _ ?_
        clear hK K
        refine wpAny_ready (rs := [4]) (by kernel_rfl) (by simp) ?_
        refine AllReady.cons rfl (fun K hK => ?_) ?_
        · go_simp
          refine (HC.out _ (HT.out.1.below (Below.refl _ _).drew)).mono ?_
          rintro e w3 ⟨k, op, nm, n, pos, a, m, c, rfl, hx, hp, hg⟩
          have hg' : w2.grownBy w3 (some b) := gtrans (grown_of_below (Below.refl _ _).drew) hg
          obtain ⟨Y, hY⟩ : ∃ Y, Y = w3.alloc (.cells (exCells k op nm n pos a m c) 36) := ⟨_, rfl⟩
          have HU := Lib.hid (un_box (p := p) HW.out HT.out.2.1 HT.out.2.2.1 HT.out.2.2.2 hM hg' hx hp hY)
          have c1 := (HT.out.2.2.2.other hg' (by simp; omega)).get 1 (.int .i64 (t1 : Int)) rfl
          have hYY := Lib.hid hY
          clear hx hp hg hg' hY
          refine hK _ _ ?_
          clear hK K
          refine wpAny_ready (rs := [5]) (by kernel_rfl) (by simp) ?_
          refine AllReady.cons rfl (fun K hK => ?_) ?_
          · go_simp
            refine hK _ _ ?_
            clear hK K
            rw [← hYY.out]
            clear c1
            have c1 := HU.out.1
            refine wpAny_take (i := 6) (v := ?_) rfl (by kernel_rfl) (by kernel_rfl) (by kernel_rfl) (fun _ _ _ h => h) (Or.inl ⟨by rfl, ?_⟩) ?_
            rotate_left
            · intro w; go_simp
              try with_reducible rfl
            obtain ⟨z0, z1, z2, z3, z4, z5⟩ := HU.out.2.1.get6
            obtain ⟨f0, f1, f2, f3, f4, f5⟩ := HU.out.2.1.free6
            clear c1
            refine wpAny_ready (rs := [7]) (by kernel_rfl) (by simp) ?_
            refine AllReady.cons rfl (fun K hK => ?_) ?_
            · go_simp
              refine hK _ _ ?_
              clear hK K
              refine wpAny_done (by kernel_rfl) ?_ _
              obtain ⟨U, hU⟩ : ∃ U, U = set6 Y w.heap.size (.int .u8 8) (.int .u8 (p : Int)) (.string ⟨#[]⟩) (.int .i64 0) (.int .i64 (t1 : Int)) (.slice (some ⟨w3.heap.size, 0, none⟩) 1 1) := ⟨_, rfl⟩
              have hfin := Lib.hid (HU.out.2.2 U hU)
              rw [← set6_eq, ← hU]
              obtain ⟨y0, y1, y2, y3, y4, y5⟩ := hfin.out.1.get6
              clear z0 z1 z2 z3 z4 z5 f0 f1 f2 f3 f4 f5
              go_wp2
              exact bodyPost_ret (v := .agg #[.int .u8 8, .int .u8 (p : Int), .string ⟨#[]⟩, .int .i64 0, .int .i64 (t1 : Int), .slice (some ⟨w3.heap.size, 0, none⟩) 1 1]) (by simp [results, Tryz.results141, go_sem, y0, y1, y2, y3, y4, y5]) rfl (RPost.ok HR3.out hfin.out.2.1 hfin.out.2.2.2 hfin.out.2.2.1)
            exact AllReady.nil
          exact AllReady.nil
        exact AllReady.nil
      refine AllReady.cons rfl (fun K hK => ?_) ?_
      · go_simp
        refine (HC.out _ (HT.out.1.below (Below.refl _ _).drew)).mono ?_
        rintro e w3 ⟨k, op, nm, n, pos, a, m, c, rfl, hx, hp, hg⟩
        have hg' : w2.grownBy w3 (some b) := gtrans (grown_of_below (Below.refl _ _).drew) hg
        obtain ⟨Y, hY⟩ : ∃ Y, Y = w3.alloc (.cells (exCells k op nm n pos a m c) 36) := ⟨_, rfl⟩
        have HU := Lib.hid (un_box (p := p) HW.out HT.out.2.1 HT.out.2.2.1 HT.out.2.2.2 hM hg' hx hp hY)
        have c1 := (HT.out.2.2.2.other hg' (by simp; omega)).get 1 (.int .i64 (t1 : Int)) rfl
        have hYY := Lib.hid hY
        clear hx hp hg hg' hY
        refine hK _ _ ?_
        clear hK K
        refine wpAny_ready (rs := [2, 5]) (by kernel_rfl) (by simp) ?_
        refine AllReady.cons rfl (fun K hK => ?_) ?_
        · go_simp
          refine hK _ _ ?_
          clear hK K
          refine wpAny_ready (rs := [5]) (by kernel_rfl) (by simp) ?_
          refine AllReady.cons rfl (fun K hK => ?_) ?_
          · go_simp
            refine hK _ _ ?_
            clear hK K
            rw [← hYY.out]
            clear c1
            have c1 := HU.out.1
            refine wpAny_take (i := 6) (v := ?_) rfl (by kernel_rfl) (by kernel_rfl) (by kernel_rfl) (fun _ _ _ h => h) (Or.inl ⟨by rfl, ?_⟩) ?_
            rotate_left
            · intro w; go_simp
              try with_reducible rfl
            obtain ⟨z0, z1, z2, z3, z4, z5⟩ := HU.out.2.1.get6
            obtain ⟨f0, f1, f2, f3, f4, f5⟩ := HU.out.2.1.free6
            clear c1
            refine wpAny_ready (rs := [7]) (by kernel_rfl) (by simp) ?_
            refine AllReady.cons rfl (fun K hK => ?_) ?_
            · go_simp
              refine hK _ _ ?_
              clear hK K
              refine wpAny_done (by kernel_rfl) ?_ _
              obtain ⟨U, hU⟩ : ∃ U, U = set6 Y w.heap.size (.int .u8 8) (.int .u8 (p : Int)) (.string ⟨#[]⟩) (.int .i64 0) (.int .i64 (t1 : Int)) (.slice (some ⟨w3.heap.size, 0, none⟩) 1 1) := ⟨_, rfl⟩
              have hfin := Lib.hid (HU.out.2.2 U hU)
              rw [← set6_eq, ← hU]
              obtain ⟨y0, y1, y2, y3, y4, y5⟩ := hfin.out.1.get6
              clear z0 z1 z2 z3 z4 z5 f0 f1 f2 f3 f4 f5
              go_wp2
              exact bodyPost_ret (v := .agg #[.int .u8 8, .int .u8 (p : Int), .string ⟨#[]⟩, .int .i64 0, .int .i64 (t1 : Int), .slice (some ⟨w3.heap.size, 0, none⟩) 1 1]) (by simp [results, Tryz.results141, go_sem, y0, y1, y2, y3, y4, y5]) rfl (RPost.ok HR3.out hfin.out.2.1 hfin.out.2.2.2 hfin.out.2.2.1)
            exact AllReady.nil
          exact AllReady.nil
        refine AllReady.cons rfl (fun K hK => ?_) ?_
        · go_simp
          refine hK _ _ ?_
          clear hK K
          rw [← hYY.out]
          clear c1
          have c1 := HU.out.1
          refine wpAny_ready (rs := [2]) (by kernel_rfl) (by simp) ?_
          refine AllReady.cons rfl (fun K hK => ?_) ?_
          · go_simp
            refine hK _ _ ?_
            clear hK K
            refine wpAny_take (i := 6) (v := ?_) rfl (by kernel_rfl) (by kernel_rfl) (by kernel_rfl) (fun _ _ _ h => h) (Or.inl ⟨by rfl, ?_⟩) ?_
            rotate_left
            · intro w; go_simp
              try with_reducible rfl
            obtain ⟨z0, z1, z2, z3, z4, z5⟩ := HU.out.2.1.get6
            obtain ⟨f0, f1, f2, f3, f4, f5⟩ := HU.out.2.1.free6
            clear c1
            refine wpAny_ready (rs := [7]) (by kernel_rfl) (by simp) ?_
            refine AllReady.cons rfl (fun K hK => ?_) ?_
            · go_simp
              refine hK _ _ ?_
              clear hK K
              refine wpAny_done (by kernel_rfl) ?_ _
              obtain ⟨U, hU⟩ : ∃ U, U = set6 Y w.heap.size (.int .u8 8) (.int .u8 (p : Int)) (.string ⟨#[]⟩) (.int .i64 0) (.int .i64 (t1 : Int)) (.slice (some ⟨w3.heap.size, 0, none⟩) 1 1) := ⟨_, rfl⟩
              have hfin := Lib.hid (HU.out.2.2 U hU)
              rw [← set6_eq, ← hU]
              obtain ⟨y0, y1, y2, y3, y4, y5⟩ := hfin.out.1.get6
              clear z0 z1 z2 z3 z4 z5 f0 f1 f2 f3 f4 f5
              go_wp2
              exact bodyPost_ret (v := .agg #[.int .u8 8, .int .u8 (p : Int), .string ⟨#[]⟩, .int .i64 0, .int .i64 (t1 : Int), .slice (some ⟨w3.heap.size, 0, none⟩) 1 1]) (by simp [results, Tryz.results141, go_sem, y0, y1, y2, y3, y4, y5]) rfl (RPost.ok HR3.out hfin.out.2.1 hfin.out.2.2.2 hfin.out.2.2.1)
            exact AllReady.nil
          exact AllReady.nil
        exact AllReady.nil
      exact AllReady.nil

set_option maxRecDepth 100000 in
set_option maxHeartbeats 1000000 in
theorem unary_step {F : Nat} (hO : OpC F) (hU : UnC F) : UnC (F + 1) := by
  intro b g cap ts s w hw hne
  rw [unF] at hne
  by_cases hpre : prefixOf (tk ts s.i).text = 0
  · rw [if_pos hpre] at hne
    have HRB := Lib.hid (show unF ts (F + 1) s = opF ts F s by rw [unF, if_pos hpre])
    obtain ⟨W, hW⟩ : ∃ W, W = w.alloc ex0 := ⟨_, rfl⟩
    have hbW : Below w.heap.size w W := by rw [hW]; exact (Below.refl _ _).alloc (Nat.le_refl _) _
    have hz : Blk w.heap.size zEx 36 W := by rw [hW]; exact Blk.new _ _ _
    have HN := Lib.hid (next_any b g cap ts s W (hw.below hbW))
    have HW := Lib.hid hw
    have HH := Lib.hid (And.intro hbW hz)
    have HWW := Lib.hid hW
    have HO := Lib.hid fun w1 (h1 : PW b g cap ts s w1) => hO b g cap ts s w1 h1 hne
    have hlt := hw.blk.lt
    have HP := Lib.hid (prefix_any (tk ts s.i).text)
    have HPR := Lib.hid hpre
    have hzl := hz.lt
    clear hw hbW hz hW hne hO hpre hU
    rcases htk : tk ts s.i with ⟨t0, t1, t2, t3⟩
    simp only [htk] at HN HP HPR
    clear htk
    go_enter Tryz.func141, Tryz.ntmps141
    go_wp2_with fail
    rw [← HWW.out]
    refine HN.out.mono ?_
    rintro e w1 ⟨rfl, hb1⟩
    unfold tokV'
    obtain ⟨V, hV⟩ : ∃ V, V = w1.alloc (.cells #[.int .u8 (t0 : Int), .int .i64 (t1 : Int), .string ⟨t2.toArray⟩, .int .i64 (t3 : Int)] 55) := ⟨_, rfl⟩
    have hbV : Below w.heap.size w V := by rw [hV]; exact (HH.out.1.trans (hb1.mono HH.out.1.size)).alloc (by have := hb1.size; omega) _
    have hzV : Blk w.heap.size zEx 36 V := by rw [hV]; exact (HH.out.2.below hb1 hzl).below ((Below.refl _ _).alloc (Nat.le_refl _) _) (by have := hb1.size; omega)
    have htV : Blk w1.heap.size #[.int .u8 (t0 : Int), .int .i64 (t1 : Int), .string ⟨t2.toArray⟩, .int .i64 (t3 : Int)] 55 V := by rw [hV]; exact Blk.new _ _ _
    obtain ⟨c0, c1, c2, c3⟩ := htV.get4
    have hVs : w.heap.size < V.heap.size := by have := hzV.lt; exact this
    have HV := Lib.hid (And.intro hbV hzV)
    have HVV := Lib.hid hV
    clear hb1 hbV hzV htV hV
    go_upto_region 2 with (fail)
    rw [← HVV.out]
    go_wp2_with fail
    refine (HP.out V).mono ?_
    rintro e V' ⟨rfl, rfl⟩
    rw [HPR.out]
    go_wp2_with fail
    refine (HO.out V (HW.out.below HV.out.1)).mono ?_
    rintro e w2 h2
    rcases h2.elim with ⟨pn, hr, hg, rfl⟩ | ⟨x, s', hr, hg, ⟨k, op, nm, n, pos, a, m, c, rfl, hx⟩, hp⟩
    · have FIN := Lib.hid (RPost.err (α := Ex) (g := g) (cap := cap) (ts := ts) (V := exE w.heap.size) (HRB.out.trans hr) (gtrans (row := some b) (grown_of_below HV.out.1) hg))
      clear hg hr h2
      go_wp2
      exact ⟨rfl, FIN.out⟩
    · have hz1 := HV.out.2.other hg (by simp; omega)
      have HR := Lib.hid (HRB.out.trans hr)
      have FIN := Lib.hid (ex_fin HW.out (gtrans (row := some b) (grown_of_below HV.out.1) hg) hz1 hp (hx.stays (stays_weaken fun k hk _ => by omega)))
      obtain ⟨z0, z1, z2, z3, z4, z5⟩ := hz1.get6
      obtain ⟨f0, f1, f2, f3, f4, f5⟩ := hz1.free6
      clear hg hp hz1 hr h2 hx c0 c1 c2 c3
      go_wp2
      rw [← set6_eq]
      obtain ⟨y0, y1, y2, y3, y4, y5⟩ := FIN.out.1.get6
      clear z0 z1 z2 z3 z4 z5 f0 f1 f2 f3 f4 f5
      exact bodyPost_ret (v := .agg (exCells k op nm n pos a m c)) (by simp [results, Tryz.results141, go_sem, y0, y1, y2, y3, y4, y5]) rfl (RPost.ok HR.out FIN.out.2.1 FIN.out.2.2.2 FIN.out.2.2.1)
  · exact unary_sign hU b g cap ts s w hw hpre (by rw [unF]; exact hne)

/-- The boxes of an operand: the result's, the token's, the expression's that is being made. -/
structure OpW (b g cap : Nat) (ts : List Tok) (s : St) (w : World) (M : Nat) (t : Tok) (cs : Array Value) (w' : World) : Prop where
  grown : w.grownBy w' (some b)
  res : Blk w.heap.size zEx 36 w'
  tok : Blk M #[.int .u8 (t.kind : Int), .int .i64 (t.pos : Int), .string ⟨t.text.toArray⟩, .int .i64 (t.num : Int)] 55 w'
  box : Blk (M + 1) cs 36 w'
  pw : PW b g cap ts s w'
  lt : w.heap.size < M

theorem OpW.below {b g cap : Nat} {ts : List Tok} {s : St} {w w1 w2 : World} {M : Nat} {t : Tok} {cs : Array Value} (h : OpW b g cap ts s w M t cs w1) (hb : Below w1.heap.size w1 w2) : OpW b g cap ts s w M t cs w2 :=
  ⟨gtrans h.grown (grown_of_below hb), h.res.below hb h.res.lt, h.tok.below hb h.tok.lt, h.box.below hb h.box.lt, h.pw.below hb, h.lt⟩
theorem OpW.other {b g cap : Nat} {ts : List Tok} {s s' : St} {w w1 w2 : World} {M : Nat} {t : Tok} {cs : Array Value} (hlt : b < w.heap.size) (h : OpW b g cap ts s w M t cs w1) (hg : w1.grownBy w2 (some b)) (hp : PW b g cap ts s' w2) : OpW b g cap ts s' w M t cs w2 :=
  ⟨gtrans h.grown hg, h.res.other hg (by simp; omega), h.tok.other hg (by have := h.lt; simp; omega), h.box.other hg (by have := h.lt; simp; omega), hp, h.lt⟩
end Go.Proofs.YtcgllooeimacdaaGreatDoor
