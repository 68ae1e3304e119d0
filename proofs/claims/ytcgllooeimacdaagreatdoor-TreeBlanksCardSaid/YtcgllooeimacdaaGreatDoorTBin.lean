/-
  A binary expression: unary ones with signs between them.
-/
import Derived.Test.YtcgllooeimacdaaGreatDoorTExprBase
namespace Go.Proofs.YtcgllooeimacdaaGreatDoor
open Go Go.RowKit Px
open Lx (Tok)

theorem loopF_succ (ts : List Tok) (f least : Nat) (l : Ex) (s : St) : loopF ts (f + 1) least l s =
    if (infixOf (tk ts s.i).text).1 = 0 ∨ (infixOf (tk ts s.i).text).2 < least then .ok (l, s)
    else bindR (takeR ts s) fun t s' => bindR (binF ts f ((infixOf (tk ts s.i).text).2 + 1) s') fun r s'' => loopF ts f least (.mk 9 (infixOf (tk ts s.i).text).1 [] 0 t.pos [l, r]) s'' := by
  rw [loopF]

abbrev exCells (k op : Nat) (nm : Bytes) (n pos : Nat) (a : Option Addr) (m c : Nat) : Array Value := #[.int .u8 (k : Int), .int .u8 (op : Int), .string ⟨nm.toArray⟩, .int .i64 (n : Int), .int .i64 (pos : Int), .slice a m c]

/-- What holds at the head of each round: the left side in its box 'M', the result's box 'N', the rest of the reading. -/
def BinRel (b g cap : Nat) (ts : List Tok) (w : World) (M : Nat) (F least : Nat) (r0 : R Ex) (gf : Nat) (wr : World) : Prop :=
  ∃ (x : Ex) (s1 : St) (k op : Nat) (nm : Bytes) (n pos : Nat) (a : Option Addr) (m c : Nat), gf ≤ F ∧ r0 = loopF ts gf least x s1 ∧ loopF ts gf least x s1 ≠ gone ∧ Blk M (exCells k op nm n pos a m c) 36 wr ∧
    ExC wr (fun h => w.heap.size < h ∧ h ≠ M) x (exCells k op nm n pos a m c).toList ∧ Blk w.heap.size zEx 36 wr ∧ PW b g cap ts s1 wr ∧ w.grownBy wr (some b) ∧ w.heap.size < M

abbrev rowOf (k op : Nat) (nm : Bytes) (n pos : Nat) (a : Option Addr) (m c : Nat) (k2 op2 : Nat) (nm2 : Bytes) (n2 pos2 : Nat) (a2 : Option Addr) (m2 c2 : Nat) : Array Value :=
  #[.int .u8 (k : Int), .int .u8 (op : Int), .string ⟨nm.toArray⟩, .int .i64 (n : Int), .int .i64 (pos : Int), .slice a m c, .int .u8 (k2 : Int), .int .u8 (op2 : Int), .string ⟨nm2.toArray⟩, .int .i64 (n2 : Int), .int .i64 (pos2 : Int), .slice a2 m2 c2]

theorem bin_fin {b g cap : Nat} {ts : List Tok} {s1 s3 : St} {w wr w2 w3 w4 : World} {M F gf : Nat} {x1 x2 : Ex} {k op : Nat} {nm : Bytes} {n pos : Nat} {a : Option Addr} {m c : Nat} {k2 op2 : Nat} {nm2 : Bytes} {n2 pos2 : Nat} {a2 : Option Addr} {m2 c2 : Nat}
    (hR : Blk M (exCells k op nm n pos a m c) 36 wr ∧ ExC wr (fun h => w.heap.size < h ∧ h ≠ M) x1 (exCells k op nm n pos a m c).toList ∧ Blk w.heap.size zEx 36 wr ∧ PW b g cap ts s1 wr ∧ w.grownBy wr (some b) ∧ gf ≤ F)
    (hb2 : Below wr.heap.size wr w2) (hg3 : w2.grownBy w3 (some b)) (hg4 : w3.grownBy w4 (some b)) (hMN : w.heap.size < M) (hlt : b < w.heap.size) (hMl : M < wr.heap.size) (hgl : g < w.heap.size)
    (hx2 : ExC w4 (fun h => w3.heap.size ≤ h) x2 (exCells k2 op2 nm2 n2 pos2 a2 m2 c2).toList) (hp4 : PW b g cap ts s3 w4) (o t1 : Nat) :
    ∀ U', U' = ((set6 w4 M (.int .u8 9) (.int .u8 (o : Int)) (.string ⟨#[]⟩) (.int .i64 0) (.int .i64 (t1 : Int)) (.slice (some ⟨w4.heap.size + 1, 0, none⟩) 2 2)).alloc (.cells (exCells k2 op2 nm2 n2 pos2 a2 m2 c2) 36)).alloc (.cells (rowOf k op nm n pos a m c k2 op2 nm2 n2 pos2 a2 m2 c2) 36) →
      Blk M (exCells 9 o [] 0 t1 (some ⟨w4.heap.size + 1, 0, none⟩) 2 2) 36 U' ∧ ExC U' (fun h => w.heap.size < h ∧ h ≠ M) (.mk 9 o [] 0 t1 [x1, x2]) (exCells 9 o [] 0 t1 (some ⟨w4.heap.size + 1, 0, none⟩) 2 2).toList ∧
        Blk w.heap.size zEx 36 U' ∧ PW b g cap ts s3 U' ∧ w.grownBy U' (some b) := by
  obtain ⟨hM, hx1, hN, hp1, hg1, _⟩ := hR
  obtain ⟨X, hX⟩ : ∃ X, X = set6 w4 M (.int .u8 9) (.int .u8 (o : Int)) (.string ⟨#[]⟩) (.int .i64 0) (.int .i64 (t1 : Int)) (.slice (some ⟨w4.heap.size + 1, 0, none⟩) 2 2) := ⟨_, rfl⟩
  have hXs : X.heap.size = w4.heap.size := by rw [hX]; simp [set6, World.setCell]
  rw [← hX]
  intro U hU
  have hbU : Below X.heap.size X U := by rw [hU]; exact ((Below.refl _ _).alloc (Nat.le_refl _) _).alloc (by simp) _
  have hw2 := hb2.size
  have hw3 := hg3.size
  have hw4 := hg4.size
  have hwr := hg1.size
  have hrow : Blk (w4.heap.size + 1) (rowOf k op nm n pos a m c k2 op2 nm2 n2 pos2 a2 m2 c2) 36 U := by rw [hU]; exact Blk.new' _ _ _ (by simp [hXs])
  have hgX : w4.grownBy X (some M) := by rw [hX]; exact grown_set6 _ _ _ _ _ _ _ _
  have hgall : wr.grownBy w4 (some b) := gtrans (gtrans (grown_of_below hb2) hg3) hg4
  have hM4 : Blk M (exCells k op nm n pos a m c) 36 w4 := hM.other hgall (by simp; omega)
  have hMX : Blk M (exCells 9 o [] 0 t1 (some ⟨w4.heap.size + 1, 0, none⟩) 2 2) 36 X := by rw [hX]; exact hM4.set6 _ _ _ _ _ _
  have hgXU : w4.grownBy U (some M) := gtrans hgX (grown_of_below hbU)
  refine ⟨hMX.below hbU hMX.lt, ?_, (hN.other hgall (by simp; omega)).other hgXU (by simp; omega), ?_, ?_⟩
  · have h1 : ExC U (fun h => w.heap.size < h ∧ h ≠ M) x1 (exCells k op nm n pos a m c).toList :=
      (hx1.stays (ok' := fun h => w.heap.size < h ∧ h ≠ M) (stays_of_grown hgall fun h hh => ⟨by omega, hh⟩)).stays (stays_of_grown hgXU fun h hh => ⟨hh.2, hh⟩)
    have h2 : ExC U (fun h => w.heap.size < h ∧ h ≠ M) x2 (exCells k2 op2 nm2 n2 pos2 a2 m2 c2).toList :=
      hx2.stays (stays_of_grown hgXU fun h hh => ⟨by omega, by omega⟩)
    simp only [ExC]
    refine ⟨_, rfl, Or.inr ⟨w4.heap.size + 1, 2, (rowOf k op nm n pos a m c k2 op2 nm2 n2 pos2 a2 m2 c2).toList, rfl, ⟨by omega, by omega⟩, ⟨rfl, Or.inr ⟨_, _, _, rfl, Nat.zero_le _, hrow, Nat.le_refl _, by decide, rfl, rfl⟩⟩, ?_⟩⟩
    simp only [ExsC]
    exact ⟨_, _, rfl, h1, _, [], rfl, h2, rfl⟩
  · exact hp4.other hgXU (by simp; omega) (by simp; omega)
  · exact gnew (gtrans hg1 hgall) (Nat.le_of_lt hMN) hgXU

set_option maxRecDepth 100000 in
set_option maxHeartbeats 2000000 in
theorem binary_step {F : Nat} (hU : UnC F) (hB : ∀ f, f ≤ F → BinC f) : BinC (F + 1) := by
  intro b g cap ts s least w hw hl hne
  have hne1 : bindR (unF ts F s) (fun l s => loopF ts F least l s) ≠ gone := by have h := hne; rw [binF] at h; exact h
  have hun := bindR_gone hne1
  obtain ⟨W, hW⟩ : ∃ W, W = w.alloc ex0 := ⟨_, rfl⟩
  have hbW : Below w.heap.size w W := by rw [hW]; exact (Below.refl _ _).alloc (Nat.le_refl _) _
  have hz : Blk w.heap.size zEx 36 W := by rw [hW]; exact Blk.new _ _ _
  have hsz : W.heap.size = w.heap.size + 1 := by rw [hW]; simp
  have HC := Lib.hid (hU b g cap ts s W (hw.below hbW) hun)
  have HW := Lib.hid hw
  have HH := Lib.hid (And.intro hbW (And.intro hz hsz))
  have HWW := Lib.hid hW
  have HNE := Lib.hid hne1
  have HBin := Lib.hid hB
  have hlt := hw.blk.lt
  have HRB : Hid (binF ts (F + 1) least s = bindR (unF ts F s) fun l s => loopF ts F least l s) := by unfold Hid; rw [binF]
  clear hw hbW hz hW hne hU hsz hne1 hun hB
  go_enter Tryz.func120, Tryz.ntmps120
  go_wp2_with fail
  rw [← HWW.out]
  refine HC.out.mono ?_
  rintro e w1 h1
  rcases h1.elim with ⟨pn, hr, hg, rfl⟩ | ⟨x, s', hr, hg, ⟨k, op, nm, n, pos, a, m, c, rfl, hx⟩, hp⟩
  · have FIN := Lib.hid (RPost.err (α := Ex) (g := g) (cap := cap) (ts := ts) (V := exE w.heap.size) (HRB.out.trans (by rw [hr]; rfl)) (gtrans (row := some b) (grown_of_below HH.out.1) hg))
    clear hg hr h1
    go_wp2
    exact ⟨rfl, FIN.out⟩
  · obtain ⟨V, hV⟩ : ∃ V, V = w1.alloc (.cells (exCells k op nm n pos a m c) 36) := ⟨_, rfl⟩
    have hbV : Below w1.heap.size w1 V := by rw [hV]; exact (Below.refl _ _).alloc (Nat.le_refl _) _
    have hs1 := hg.size
    have hREL : BinRel b g cap ts w w1.heap.size F least (binF ts (F + 1) least s) F V := by
      refine ⟨x, s', k, op, nm, n, pos, a, m, c, Nat.le_refl _, by rw [HRB.out, hr]; rfl, ?_, ?_, ?_, ?_, hp.below hbV, gtrans (gtrans (grown_of_below HH.out.1) hg) (grown_of_below hbV), ?_⟩
      · have := HNE.out; rw [hr] at this; exact this
      · rw [hV]; exact Blk.new _ _ _
      · refine hx.stays ?_
        intro h h1 h2
        exact ⟨hbV.block h h2, by have := HH.out.2.2; omega, by omega⟩
      · exact (HH.out.2.1.other hg (by simp; omega)).below hbV (by have := HH.out.2.1.lt; omega)
      · have := HH.out.2.1.lt; omega
    have HREL := Lib.hid hREL
    have HVV := Lib.hid hV
    clear hg hr h1 hx hp hbV hREL hs1 hV
    go_upto_region 2 with (fail)
    rw [← HVV.out]
    have hf1 := fTok1
    have hf2 := fTok2
    clear HVV HC HNE HWW
    generalize hM : w1.heap.size = M at *
    clear hM
    go_loopg [] F (fun gf wr => BinRel b g cap ts w M F least (binF ts (F + 1) least s) gf wr)
    case atStart => exact HREL.out
    case round =>
      obtain ⟨x1, s1, k1, op1, nm1, n1, pos1, a1, m1, c1, hgf, h0, hng, hbM, hx1, hbN, hp1, hg1, hMN⟩ := hrel
      cases gk with
      | zero => exact absurd (by rw [loopF]) hng
      | succ f1 =>
        rw [loopF_succ] at h0 hng
        have HN := Lib.hid (next_any b g cap ts s1 wr hp1)
        obtain ⟨t, ht⟩ : ∃ t, t = (tk ts s1.i).text := ⟨_, rfl⟩
        rw [← ht] at h0 hng
        obtain ⟨ho19, hq12⟩ := infixOf_le t
        have hnt := Lib.hid (infixOf_ne (t := t))
        have HI := Lib.hid (infix_any t)
        have HT := Lib.hid ht
        clear ht
        generalize (infixOf t).1 = o at *
        generalize (infixOf t).2 = q at *
        have HR := Lib.hid (And.intro hbM (And.intro hx1 (And.intro hbN (And.intro hp1 (And.intro hg1 hgf)))))
        have H0 := Lib.hid h0
        have hMl := hbM.lt
        clear hx1 hbM hbN hp1 hg1 h0 hgf
        have hcase : (o = 0 ∨ (o ≠ 0 ∧ q < least)) ∨ (o ≠ 0 ∧ ¬ q < least) := by omega
        rcases hcase with hstop | ⟨ho, hq⟩
        · have H1 := Lib.hid (H0.out.trans (if_pos (by omega)))
          clear hng
          have ho' : ((o : Int) == 0) = decide (o = 0) := by rw [Bool.eq_iff_iff]; simp
          rcases hstop with rfl | ⟨ho, hq⟩
          all_goals
            try (rw [decide_eq_false ho] at ho')
            go_wp2_with fail
            refine HN.out.mono ?_
            rintro e w2 ⟨rfl, hb2⟩
            have hM2 := HR.out.1.below hb2 hMl
            have hN2 := HR.out.2.2.1.below hb2 HR.out.2.2.1.lt
            obtain ⟨m0, m1, m2, m3, m4, m5⟩ := hM2.get6
            obtain ⟨z0, z1, z2, z3, z4, z5⟩ := hN2.get6
            obtain ⟨f0, f1, f2, f3, f4, f5⟩ := hN2.free6
            have FIN := Lib.hid (ex_fin (s' := s1) HW.out (gtrans (row := some b) HR.out.2.2.2.2.1 (grown_of_below hb2)) hN2 (HR.out.2.2.2.1.below hb2) ((HR.out.2.1.stays (stays_of_below hb2 fun _ h => h)).stays (stays_weaken fun h hh _ => hh.1)))
            clear hb2 hM2 hN2
            unfold tokV'
            go_wp2_with fail
            rw [← HT.out]
            refine (HI.out w2).mono ?_
            rintro e w2' ⟨rfl, rfl⟩
            go_wp2
            rw [← set6_eq]
            obtain ⟨y0, y1, y2, y3, y4, y5⟩ := FIN.out.1.get6
            clear m0 m1 m2 m3 m4 m5 z0 z1 z2 z3 z4 z5 f0 f1 f2 f3 f4 f5
            exact bodyPost_ret (v := .agg (exCells k1 op1 nm1 n1 pos1 a1 m1 c1)) (by simp [results, Tryz.results120, go_sem, y0, y1, y2, y3, y4, y5]) rfl (RPost.ok H1.out FIN.out.2.1 FIN.out.2.2.2 FIN.out.2.2.1)
        · have H1 := Lib.hid (H0.out.trans (if_neg (by omega)))
          rw [if_neg (by omega)] at hng
          have ho' : ((o : Int) == 0) = false := by rw [beq_eq_false_iff_ne]; omega
          have HG := Lib.hid hng
          clear hng
          go_wp2_with fail
          refine HN.out.mono ?_
          rintro e w2 ⟨rfl, hb2⟩
          have HB2 := Lib.hid hb2
          have HTK := Lib.hid (take_R b g cap ts s1 w2 (HR.out.2.2.2.1.below hb2) (Or.inr (by rw [← HT.out]; exact hnt.out ho)))
          clear hb2
          unfold tokV'
          go_wp2_with fail
          rw [← HT.out]
          refine (HI.out w2).mono ?_
          rintro e w2' ⟨rfl, rfl⟩
          go_wp2_with fail
          refine HTK.out.mono ?_
          rintro e w3 h3
          rcases h3.elim with ⟨pn, hr, hg3, rfl⟩ | ⟨⟨t0, t1, t2, t3⟩, s2, hr, hg3, rfl, hp3⟩
          · have FIN := Lib.hid (RPost.err (α := Ex) (g := g) (cap := cap) (ts := ts) (V := exE w.heap.size) (H1.out.trans (by rw [hr]; rfl)) (gtrans (row := some b) (gtrans HR.out.2.2.2.2.1 (grown_of_below HB2.out)) hg3))
            clear hg3 hr h3
            go_wp2
            exact ⟨rfl, FIN.out⟩
          · have hg' := HG.out
            rw [hr, bindR_ok] at hg'
            have HG' := Lib.hid hg'
            have HC := (HBin.out f1 (by have := HR.out.2.2.2.2.2; omega)) b g cap ts s2 (q + 1) w3 hp3 (by omega) (bindR_gone hg')
            rw [show ((q + 1 : Nat) : Int) = (q : Int) + 1 from rfl] at HC
            have HC := Lib.hid HC
            have H3 := Lib.hid (And.intro hg3 (And.intro hp3 hr))
            clear hg3 hp3 hr h3 hg'
            unfold tokV'
            go_wp2_with fail
            refine HC.out.mono ?_
            rintro e w4 h4
            rcases h4.elim with ⟨pn, hr, hg4, rfl⟩ | ⟨x2, s3, hr, hg4, ⟨k2, op2, nm2, n2, pos2, a2, m2, c2, rfl, hx2⟩, hp4⟩
            · have FIN := Lib.hid (RPost.err (α := Ex) (g := g) (cap := cap) (ts := ts) (V := exE w.heap.size) (H1.out.trans (by rw [H3.out.2.2, bindR_ok, hr]; rfl)) (gtrans (row := some b) (gtrans (gtrans HR.out.2.2.2.2.1 (grown_of_below HB2.out)) H3.out.1) hg4))
              clear hg4 hr h4
              go_wp2
              exact ⟨rfl, FIN.out⟩
            · have hbM : b ≠ M := by omega
              have hM2 := HR.out.1.below HB2.out hMl
              have hM4 := (hM2.other H3.out.1 (by simpa using hbM.symm)).other hg4 (by simpa using hbM.symm)
              have hM4l := hM4.lt
              obtain ⟨m0, m1', m2', m3, m4, m5⟩ := hM4.get6
              obtain ⟨f0, f1', f2, f3, f4, f5⟩ := hM4.free6
              have FIN := Lib.hid (bin_fin HR.out HB2.out H3.out.1 hg4 hMN hlt hMl HW.out.toks.lt hx2 hp4 o t1)
              have HE := Lib.hid (H1.out.trans (by rw [H3.out.2.2, bindR_ok, hr, bindR_ok]))
              have HG2 := Lib.hid (show loopF ts f1 least (.mk 9 o [] 0 t1 [x1, x2]) s3 ≠ gone by have := HG'.out; rw [hr, bindR_ok] at this; exact this)
              have hf1F : f1 ≤ F := by have := HR.out.2.2.2.2.2; omega
              clear hM2 hM4 hg4 hr h4 hx2 hp4
              go_wp2
              rw [← set6_eq]
              go_roundg f1
              case measure => omega
              case rel => exact (fun ⟨h1, h2, h3, h4, h5⟩ => ⟨_, s3, 9, o, [], 0, t1, some ⟨w4.heap.size + 1, 0, none⟩, 2, 2, hf1F, HE.out, HG2.out, h1, h2, h3, h4, h5, hMN⟩) (FIN.out _ rfl)
end Go.Proofs.YtcgllooeimacdaaGreatDoor
