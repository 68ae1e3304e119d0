/-
  An operand: a number, an expression in brackets.
-/
import Derived.Test.YtcgllooeimacdaaGreatDoorTUseV
namespace Go.Proofs.YtcgllooeimacdaaGreatDoor
open Go Go.RowKit Px
open Lx (Tok)

theorem OpW.fin {b g cap : Nat} {ts : List Tok} {s : St} {w w1 : World} {M : Nat} {t : Tok} {cs : Array Value} {k op : Nat} {nm : Bytes} {n pos : Nat} {a : Option Addr} {m c : Nat} {x : Ex} {s0 : St} (hw : PW b g cap ts s0 w) (h : OpW b g cap ts s w M t cs w1)
    (hx : ExC w1 (fun h => w.heap.size < h) x (exCells k op nm n pos a m c).toList) :
    Blk w.heap.size (exCells k op nm n pos a m c) 36 (set6 w1 w.heap.size (.int .u8 (k : Int)) (.int .u8 (op : Int)) (.string ⟨nm.toArray⟩) (.int .i64 (n : Int)) (.int .i64 (pos : Int)) (.slice a m c)) ∧
      w.grownBy (set6 w1 w.heap.size (.int .u8 (k : Int)) (.int .u8 (op : Int)) (.string ⟨nm.toArray⟩) (.int .i64 (n : Int)) (.int .i64 (pos : Int)) (.slice a m c)) (some b) ∧
      PW b g cap ts s (set6 w1 w.heap.size (.int .u8 (k : Int)) (.int .u8 (op : Int)) (.string ⟨nm.toArray⟩) (.int .i64 (n : Int)) (.int .i64 (pos : Int)) (.slice a m c)) ∧
      exE w.heap.size x (.returned (.agg (exCells k op nm n pos a m c))) (set6 w1 w.heap.size (.int .u8 (k : Int)) (.int .u8 (op : Int)) (.string ⟨nm.toArray⟩) (.int .i64 (n : Int)) (.int .i64 (pos : Int)) (.slice a m c)) :=
  ex_fin hw h.grown h.res h.pw hx

theorem OpW.set {b g cap : Nat} {ts : List Tok} {s : St} {w w1 : World} {M : Nat} {t : Tok} {cs : Array Value} (hlt : b < w.heap.size) (hgl : g < w.heap.size) (h : OpW b g cap ts s w M t cs w1) (j : Nat) (u : Value) : OpW b g cap ts s w M t (cs.setIfInBounds j u) (w1.setCell ⟨M + 1, j, none⟩ u) := by
  have hg : w1.grownBy (w1.setCell ⟨M + 1, j, none⟩ u) (some (M + 1)) := Lib.grownBy_setCell _ _ _ _
  have := h.lt
  exact ⟨gnew h.grown (by omega) hg, h.res.other hg (by simp; omega), h.tok.other hg (by simp), h.box.set j u, h.pw.other hg (by simp; omega) (by simp; omega), h.lt⟩
theorem OpW.set6 {b g cap : Nat} {ts : List Tok} {s : St} {w w1 : World} {M : Nat} {t : Tok} {v0 v1 v2 v3 v4 v5 : Value} (hlt : b < w.heap.size) (hgl : g < w.heap.size) (h : OpW b g cap ts s w M t #[v0, v1, v2, v3, v4, v5] w1) (u0 u1 u2 u3 u4 u5 : Value) :
    OpW b g cap ts s w M t #[u0, u1, u2, u3, u4, u5] (set6 w1 (M + 1) u0 u1 u2 u3 u4 u5) :=
  (((((h.set hlt hgl 0 u0).set hlt hgl 1 u1).set hlt hgl 2 u2).set hlt hgl 3 u3).set hlt hgl 4 u4).set hlt hgl 5 u5

theorem opF_succ (ts : List Tok) (f : Nat) (s : St) : opF ts (f + 1) s =
    if (tk ts s.i).kind = 3 then bindR (takeR ts s) fun t s' => .ok (.mk 1 0 [] t.num (tk ts s.i).pos [], s')
    else if (tk ts s.i).kind = 1 then bindR (takeR ts s) fun t s' => useF ts f t s'
    else if (tk ts s.i).text = [116, 114, 117, 101] then bindR (takeR ts s) fun _ s' => .ok (.mk 2 0 [] 1 (tk ts s.i).pos [], s')
    else if (tk ts s.i).text = [102, 97, 108, 115, 101] then bindR (takeR ts s) fun _ s' => .ok (.mk 2 0 [] 0 (tk ts s.i).pos [], s')
    else if (tk ts s.i).text = [114, 101, 97, 100] then bindR (takeR ts s) fun _ s' => bindR (expectR [40] ts s') fun _ s' => bindR (expectR [41] ts s') fun _ s' => .ok (.mk 6 0 [] 0 (tk ts s.i).pos [], s')
    else if (tk ts s.i).text = [108, 101, 110] then bindR (takeR ts s) fun _ s' => bindR (expectR [40] ts s') fun _ s' => bindR (kindR 1 ts s') fun t s' => bindR (expectR [41] ts s') fun _ s' => .ok (.mk 7 0 t.text 0 (tk ts s.i).pos [], s')
    else if (tk ts s.i).text = [40] then bindR (takeR ts s) fun _ s' => bindR (binF ts f 1 s') fun x s' => bindR (expectR [41] ts s') fun _ s' => .ok (x, s')
    else wrongR ts s
    := by rw [opF]

set_option maxRecDepth 100000 in
set_option maxHeartbeats 2000000 in
theorem operand_step {F : Nat} (hB : BinC F) (hU : UseC F) : OpC (F + 1) := by
  intro b g cap ts s w hw hne
  rw [opF] at hne
  obtain ⟨W, hW⟩ : ∃ W, W = w.alloc ex0 := ⟨_, rfl⟩
  have hbW : Below w.heap.size w W := by rw [hW]; exact (Below.refl _ _).alloc (Nat.le_refl _) _
  have hz : Blk w.heap.size zEx 36 W := by rw [hW]; exact Blk.new _ _ _
  have hWs : W.heap.size = w.heap.size + 1 := by rw [hW]; simp
  have HN := Lib.hid (next_any b g cap ts s W (hw.below hbW))
  have HW := Lib.hid hw
  have HH := Lib.hid (And.intro hbW (And.intro hz hWs))
  have HWW := Lib.hid hW
  have hlt := hw.blk.lt
  have hgl := hw.toks.lt
  have HTK := Lib.hid fun w1 (h1 : PW b g cap ts s w1) (h : (tk ts s.i).kind ≠ 0 ∨ (tk ts s.i).text ≠ []) => take_R b g cap ts s w1 h1 h
  have HNo := Lib.hid fun x w1 (h1 : PW b g cap ts s w1) (h : (tk ts s.i).text ≠ x) => accept_no b g cap ts s x w1 h1 h
  have HYes := Lib.hid fun x (hx : x ≠ []) w1 (h1 : PW b g cap ts s w1) (h : (tk ts s.i).text = x) => accept_yes b g cap ts s x hx w1 h1 h
  have HEo := Lib.hid fun s' w1 (h1 : PW b g cap ts s' w1) => expect_any b g cap ts s' [40] (by simp) w1 h1
  have HKd := Lib.hid fun s' w1 (h1 : PW b g cap ts s' w1) => kind_any b g cap ts s' 1 (by decide) w1 h1
  have HWr := Lib.hid fun w1 (h1 : PW b g cap ts s w1) => wrong_any b g cap ts s w1 h1
  have HEx := Lib.hid fun s' w1 (h1 : PW b g cap ts s' w1) (h : binF ts F 1 s' ≠ gone) => expr_any hB b g cap ts s' w1 h1 h
  have HExp := Lib.hid fun s' w1 (h1 : PW b g cap ts s' w1) => expect_any b g cap ts s' [41] (by simp) w1 h1
  have HUs := Lib.hid fun s' w1 (h1 : PW b g cap ts s' w1) t0 t1 t2 t3 h => hU b g cap ts s' w1 h1 t0 t1 t2 t3 h
  have HRB := Lib.hid (opF_succ ts F s)
  clear hw hbW hz hW hB hWs hU
  have hf3 := fTok3
  rcases htk : tk ts s.i with ⟨t0, t1, t2, t3⟩
  simp only [htk] at hne HN HTK HNo HYes HWr HRB
  have HTE := Lib.hid htk
  clear htk
  go_enter Tryz.func153, Tryz.ntmps153
  go_wp2_with fail
  rw [← HWW.out]
  refine HN.out.mono ?_
  rintro e w1 ⟨rfl, hb1⟩
  unfold tokV'
  obtain ⟨V, hV⟩ : ∃ V, V = (w1.alloc (.cells #[.int .u8 (t0 : Int), .int .i64 (t1 : Int), .string ⟨t2.toArray⟩, .int .i64 (t3 : Int)] 55)).alloc (.cells #[.int .u8 0, .int .u8 0, .string ⟨#[]⟩, .int .i64 0, .int .i64 (t1 : Int), .slice none 0 0] 36) := ⟨_, rfl⟩
  have hOP : OpW b g cap ts s w w1.heap.size ⟨t0, t1, t2, t3⟩ #[.int .u8 0, .int .u8 0, .string ⟨#[]⟩, .int .i64 0, .int .i64 (t1 : Int), .slice none 0 0] V := by
    have hs1 := hb1.size
    have hs2 := HH.out.2.2
    have hbV : Below w1.heap.size w1 V := by rw [hV]; exact ((Below.refl _ _).alloc (Nat.le_refl _) _).alloc (by simp) _
    have hbw1 := HH.out.1.trans (hb1.mono HH.out.1.size)
    refine ⟨gtrans (grown_of_below hbw1) (grown_of_below hbV), (HH.out.2.1.below hb1 (by omega)).below hbV (by omega), ?_, ?_, (HW.out.below hbw1).below hbV, by omega⟩
    · rw [hV]; exact (Blk.new _ _ _).below ((Below.refl _ _).alloc (Nat.le_refl _) _) (by simp)
    · rw [hV]; exact Blk.new' _ _ _ (by simp)
  have HOP := Lib.hid hOP
  obtain ⟨c0, c1, c2, c3⟩ := hOP.tok.get4
  have hVV := Lib.hid hV
  have hMlt := hOP.lt
  clear hb1 hOP hV HN
  go_upto_region 4 with (fail)
  rw [← hVV.out]
  clear hVV
  generalize w1.heap.size = M at *
  by_cases h3 : t0 = 3
  · subst h3
    rw [if_pos rfl] at hne
    have HR := Lib.hid (HRB.out.trans (if_pos rfl))
    go_wp2_with fail
    refine (HTK.out V HOP.out.pw (Or.inl (by simp))).mono ?_
    rintro e w2 h2
    rcases h2.elim with ⟨pn, hr, hg, rfl⟩ | ⟨⟨x0, x1, x2, x3⟩, s', hr, hg, rfl, hp⟩
    · have FIN := Lib.hid (RPost.err (α := Ex) (g := g) (cap := cap) (ts := ts) (V := exE w.heap.size) (HR.out.trans (by rw [hr]; rfl)) (gtrans (row := some b) HOP.out.grown hg))
      clear hg hr h2
      go_wp2
      exact ⟨rfl, FIN.out⟩
    · have hO2 := HOP.out.other (s' := s') hlt hg hp
      obtain ⟨k0, k1, k2, k3, k4, k5⟩ := hO2.box.get6
      obtain ⟨f0, f1, f2, f3, f4, f5⟩ := hO2.box.free6
      obtain ⟨z0, z1, z2, z3, z4, z5⟩ := hO2.res.get6
      obtain ⟨e0, e1, e2, e3, e4, e5⟩ := hO2.res.free6
      have hO3 := (hO2.set hlt hgl 0 (.int .u8 1)).set hlt hgl 3 (.int .i64 (x3 : Int))
      have FIN := Lib.hid (OpW.fin (k := 1) (op := 0) (nm := []) (n := x3) (pos := t1) (a := none) (m := 0) (c := 0) (x := .mk 1 0 [] x3 t1 []) HW.out hO3 (by simp [ExC]))
      have HR2 := Lib.hid (HR.out.trans (by rw [hr, bindR_ok]))
      have hMN : ¬ M + 1 = w.heap.size := by omega
      clear hg hr h2 hp hO2 hO3 c0 c1 c2 c3
      unfold tokV'
      go_wp2
      rw [← set6_eq]
      have hfin : Blk w.heap.size #[.int .u8 1, .int .u8 0, .string ⟨#[]⟩, .int .i64 (x3 : Int), .int .i64 (t1 : Int), .slice none 0 0] 36
          (Proofs.YtcgllooeimacdaaGreatDoor.set6 ((w2.setCell ⟨M + 1, 0, none⟩ (.int .u8 1)).setCell ⟨M + 1, 3, none⟩ (.int .i64 (x3 : Int))) w.heap.size (.int .u8 1) (.int .u8 0) (.string ⟨#[]⟩) (.int .i64 (x3 : Int)) (.int .i64 (t1 : Int)) (.slice none 0 0)) := FIN.out.1
      obtain ⟨y0, y1, y2, y3, y4, y5⟩ := hfin.get6
      clear z0 z1 z2 z3 z4 z5 f0 f1 f2 f3 f4 f5 e0 e1 e2 e3 e4 e5 k0 k1 k2 k3 k4 k5
      exact bodyPost_ret (v := .agg #[.int .u8 1, .int .u8 0, .string ⟨#[]⟩, .int .i64 (x3 : Int), .int .i64 (t1 : Int), .slice none 0 0]) (by simp [results, Tryz.results153, go_sem, y0, y1, y2, y3, y4, y5]) rfl (RPost.ok HR2.out FIN.out.2.1 FIN.out.2.2.2 FIN.out.2.2.1)
  · have h3' : ((t0 : Int) == 3) = false := by rw [beq_eq_false_iff_ne]; omega
    rw [if_neg h3] at hne
    by_cases h1 : t0 = 1
    · subst h1
      rw [if_pos rfl] at hne
      have HR := Lib.hid ((HRB.out.trans (if_neg h3)).trans (if_pos rfl))
      have HNE1 := Lib.hid hne
      clear hne h3
      go_wp2_with fail
      refine (HTK.out V HOP.out.pw (Or.inl (by simp))).mono ?_
      rintro e w2 h2
      rcases h2.elim with ⟨pn, hr, hg, rfl⟩ | ⟨⟨x0, x1, x2, x3⟩, s', hr, hg, rfl, hp⟩
      · have FIN := Lib.hid (RPost.err (α := Ex) (g := g) (cap := cap) (ts := ts) (V := exE w.heap.size) (HR.out.trans (by rw [hr]; rfl)) (gtrans (row := some b) HOP.out.grown hg))
        clear hg hr h2
        go_wp2
        exact ⟨rfl, FIN.out⟩
      · have hne := HNE1.out
        rw [hr, bindR_ok] at hne
        have HR2 := Lib.hid (HR.out.trans (by rw [hr, bindR_ok]))
        have O2 := Lib.hid (HOP.out.other (s' := s') hlt hg hp)
        have HC := Lib.hid (HUs.out s' w2 hp x0 x1 x2 x3 hne)
        clear hg hr h2 hp hne c0 c1 c2 c3
        unfold tokV'
        go_wp2_with fail
        refine HC.out.mono ?_
        rintro e w3 h3'
        rcases h3'.elim with ⟨pn, hr, hg, rfl⟩ | ⟨x, s3, hr, hg, ⟨k, op, nm, n, pos, a, m, c, rfl, hx⟩, hp⟩
        · have FIN := Lib.hid (RPost.err (α := Ex) (g := g) (cap := cap) (ts := ts) (V := exE w.heap.size) (HR2.out.trans hr) (gtrans (row := some b) O2.out.grown hg))
          clear hg hr h3'
          go_wp2
          exact ⟨rfl, FIN.out⟩
        · have HR3 := Lib.hid (HR2.out.trans hr)
          have hO3 := O2.out.other (s' := s3) hlt hg hp
          have hm2 := O2.out.box.lt
          have FIN := Lib.hid (OpW.fin HW.out hO3 (hx.stays (stays_weaken fun h hh _ => by omega)))
          obtain ⟨z0, z1, z2, z3, z4, z5⟩ := hO3.res.get6
          obtain ⟨e0, e1, e2, e3, e4, e5⟩ := hO3.res.free6
          clear hg hr hp h3' hO3 hx
          go_wp2
          rw [← set6_eq]
          obtain ⟨y0, y1, y2, y3, y4, y5⟩ := FIN.out.1.get6
          clear z0 z1 z2 z3 z4 z5 e0 e1 e2 e3 e4 e5
          exact bodyPost_ret (v := .agg (exCells k op nm n pos a m c)) (by simp [results, Tryz.results153, go_sem, y0, y1, y2, y3, y4, y5]) rfl (RPost.ok HR3.out FIN.out.2.1 FIN.out.2.2.2 FIN.out.2.2.1)
    have h1' : ((t0 : Int) == 1) = false := by rw [beq_eq_false_iff_ne]; omega
    rw [if_neg h1] at hne
    by_cases w1' : t2 = [116, 114, 117, 101]
    · rw [if_pos w1'] at hne
      have HR := Lib.hid ((HRB.out.trans (if_neg h3)).trans ((if_neg h1).trans (if_pos w1')))
      clear hne
      go_wp2_with fail
      refine (HYes.out [116, 114, 117, 101] (by simp) V HOP.out.pw w1').mono ?_
      rintro e w2 h2
      rcases h2.elim with ⟨pn, hr, hg, rfl⟩ | ⟨tt, s2, hr, hg, rfl, hp⟩
      · have FIN := Lib.hid (RPost.err (α := Ex) (g := g) (cap := cap) (ts := ts) (V := exE w.heap.size) (HR.out.trans (by rw [hr]; rfl)) (gtrans (row := some b) HOP.out.grown hg))
        clear hg hr h2
        go_wp2
        exact ⟨rfl, FIN.out⟩
      · have hO2 := HOP.out.other (s' := s2) hlt hg hp
        obtain ⟨k0, k1, k2, k3, k4, k5⟩ := hO2.box.get6
        obtain ⟨f0, f1, f2, f3, f4, f5⟩ := hO2.box.free6
        obtain ⟨z0, z1, z2, z3, z4, z5⟩ := hO2.res.get6
        obtain ⟨e0, e1, e2, e3, e4, e5⟩ := hO2.res.free6
        have hO3 := ((hO2.set hlt hgl 0 (.int .u8 2)).set hlt hgl 3 (.int .i64 1))
        have FIN := Lib.hid (OpW.fin (k := 2) (op := 0) (nm := []) (n := 1) (pos := t1) (a := none) (m := 0) (c := 0) (x := .mk 2 0 [] 1 t1 []) HW.out hO3 (by simp [ExC]))
        have HR2 := Lib.hid (HR.out.trans (by rw [hr, bindR_ok]))
        have hMN : ¬ M + 1 = w.heap.size := by omega
        clear hg hr hp hO3 h2 hO2 c0 c1 c2 c3
        try unfold tokV'
        go_wp2
        rw [← set6_eq]
        have hfin : Blk w.heap.size #[.int .u8 2, .int .u8 0, .string ⟨#[]⟩, .int .i64 1, .int .i64 (t1 : Int), .slice none 0 0] 36
            (Proofs.YtcgllooeimacdaaGreatDoor.set6 ((w2.setCell ⟨M + 1, 0, none⟩ (.int .u8 2)).setCell ⟨M + 1, 3, none⟩ (.int .i64 1)) w.heap.size (.int .u8 2) (.int .u8 0) (.string ⟨#[]⟩) (.int .i64 1) (.int .i64 (t1 : Int)) (.slice none 0 0)) := FIN.out.1
        obtain ⟨y0, y1, y2, y3, y4, y5⟩ := hfin.get6
        clear z0 z1 z2 z3 z4 z5 f0 f1 f2 f3 f4 f5 e0 e1 e2 e3 e4 e5 k0 k1 k2 k3 k4 k5
        exact bodyPost_ret (v := .agg #[.int .u8 2, .int .u8 0, .string ⟨#[]⟩, .int .i64 1, .int .i64 (t1 : Int), .slice none 0 0]) (by simp [results, Tryz.results153, go_sem, y0, y1, y2, y3, y4, y5]) rfl (RPost.ok HR2.out FIN.out.2.1 FIN.out.2.2.2 FIN.out.2.2.1)
    rw [if_neg w1'] at hne
    by_cases w2' : t2 = [102, 97, 108, 115, 101]
    · rw [if_pos w2'] at hne
      have HR := Lib.hid ((HRB.out.trans (if_neg h3)).trans ((if_neg h1).trans ((if_neg w1').trans (if_pos w2'))))
      clear hne
      go_wp2_with fail
      refine (HNo.out [116, 114, 117, 101] V HOP.out.pw w1').mono ?_
      rintro e v1 ⟨rfl, hb⟩
      have O1 := Lib.hid (HOP.out.below hb)
      clear hb c0 c1 c2 c3
      go_wp2_with fail
      refine (HYes.out [102, 97, 108, 115, 101] (by simp) v1 O1.out.pw w2').mono ?_
      rintro e w2 h2
      rcases h2.elim with ⟨pn, hr, hg, rfl⟩ | ⟨tt, s2, hr, hg, rfl, hp⟩
      · have FIN := Lib.hid (RPost.err (α := Ex) (g := g) (cap := cap) (ts := ts) (V := exE w.heap.size) (HR.out.trans (by rw [hr]; rfl)) (gtrans (row := some b) O1.out.grown hg))
        clear hg hr h2
        go_wp2
        exact ⟨rfl, FIN.out⟩
      · have hO2 := O1.out.other (s' := s2) hlt hg hp
        obtain ⟨k0, k1, k2, k3, k4, k5⟩ := hO2.box.get6
        obtain ⟨f0, f1, f2, f3, f4, f5⟩ := hO2.box.free6
        obtain ⟨z0, z1, z2, z3, z4, z5⟩ := hO2.res.get6
        obtain ⟨e0, e1, e2, e3, e4, e5⟩ := hO2.res.free6
        have hO3 := (hO2.set hlt hgl 0 (.int .u8 2))
        have FIN := Lib.hid (OpW.fin (k := 2) (op := 0) (nm := []) (n := 0) (pos := t1) (a := none) (m := 0) (c := 0) (x := .mk 2 0 [] 0 t1 []) HW.out hO3 (by simp [ExC]))
        have HR2 := Lib.hid (HR.out.trans (by rw [hr, bindR_ok]))
        have hMN : ¬ M + 1 = w.heap.size := by omega
        clear hg hr hp hO3 h2 hO2
        try unfold tokV'
        go_wp2
        rw [← set6_eq]
        have hfin : Blk w.heap.size #[.int .u8 2, .int .u8 0, .string ⟨#[]⟩, .int .i64 0, .int .i64 (t1 : Int), .slice none 0 0] 36
            (Proofs.YtcgllooeimacdaaGreatDoor.set6 (w2.setCell ⟨M + 1, 0, none⟩ (.int .u8 2)) w.heap.size (.int .u8 2) (.int .u8 0) (.string ⟨#[]⟩) (.int .i64 0) (.int .i64 (t1 : Int)) (.slice none 0 0)) := FIN.out.1
        obtain ⟨y0, y1, y2, y3, y4, y5⟩ := hfin.get6
        clear z0 z1 z2 z3 z4 z5 f0 f1 f2 f3 f4 f5 e0 e1 e2 e3 e4 e5 k0 k1 k2 k3 k4 k5
        exact bodyPost_ret (v := .agg #[.int .u8 2, .int .u8 0, .string ⟨#[]⟩, .int .i64 0, .int .i64 (t1 : Int), .slice none 0 0]) (by simp [results, Tryz.results153, go_sem, y0, y1, y2, y3, y4, y5]) rfl (RPost.ok HR2.out FIN.out.2.1 FIN.out.2.2.2 FIN.out.2.2.1)
    rw [if_neg w2'] at hne
    by_cases w3' : t2 = [114, 101, 97, 100]
    · rw [if_pos w3'] at hne
      have HR := Lib.hid ((HRB.out.trans (if_neg h3)).trans ((if_neg h1).trans ((if_neg w1').trans ((if_neg w2').trans (if_pos w3')))))
      clear hne
      go_wp2_with fail
      refine (HNo.out [116, 114, 117, 101] V HOP.out.pw w1').mono ?_
      rintro e v1 ⟨rfl, hb⟩
      have O1 := Lib.hid (HOP.out.below hb)
      clear hb c0 c1 c2 c3
      go_wp2_with fail
      refine (HNo.out [102, 97, 108, 115, 101] v1 O1.out.pw w2').mono ?_
      rintro e v2 ⟨rfl, hb⟩
      have O2 := Lib.hid (O1.out.below hb)
      clear hb
      go_wp2_with fail
      refine (HYes.out [114, 101, 97, 100] (by simp) v2 O2.out.pw w3').mono ?_
      rintro e w2 h2
      rcases h2.elim with ⟨pn, hr, hg, rfl⟩ | ⟨tt, s2, hr, hg, rfl, hp⟩
      · have FIN := Lib.hid (RPost.err (α := Ex) (g := g) (cap := cap) (ts := ts) (V := exE w.heap.size) (HR.out.trans (by rw [hr]; rfl)) (gtrans (row := some b) O2.out.grown hg))
        clear hg hr h2
        go_wp2
        exact ⟨rfl, FIN.out⟩
      · have hO2 := O2.out.other (s' := s2) hlt hg hp
        obtain ⟨k0, k1, k2, k3, k4, k5⟩ := hO2.box.get6
        obtain ⟨f0, f1, f2, f3, f4, f5⟩ := hO2.box.free6
        obtain ⟨X, hX⟩ : ∃ X, X = w2.setCell ⟨M + 1, 0, none⟩ (.int .u8 6) := ⟨_, rfl⟩
        have HOX := Lib.hid (show OpW b g cap ts s2 w M ⟨t0, t1, t2, t3⟩ #[.int .u8 6, .int .u8 0, .string ⟨#[]⟩, .int .i64 0, .int .i64 (t1 : Int), .slice none 0 0] X by rw [hX]; exact hO2.set hlt hgl 0 (.int .u8 6))
        have HE := Lib.hid (HEo.out s2 X HOX.out.pw)
        have HR3 := Lib.hid (HR.out.trans (by rw [hr, bindR_ok]))
        have HXX := Lib.hid hX
        clear hg hr hp h2 hO2 hX
        go_upto_region 14 with (fail)
        rw [← HXX.out]
        clear k0 k1 k2 k3 k4 k5 f0 f1 f2 f3 f4 f5
        go_wp2_with fail
        refine HE.out.mono ?_
        rintro e w3 h3'
        rcases h3'.elim with ⟨pn, hr, hg, rfl⟩ | ⟨⟨q0, q1, q2, q3⟩, s3, hr, hg, rfl, hp⟩
        · have FIN := Lib.hid (RPost.err (α := Ex) (g := g) (cap := cap) (ts := ts) (V := exE w.heap.size) (HR3.out.trans (by rw [hr]; rfl)) (gtrans (row := some b) HOX.out.grown hg))
          clear hg hr h3'
          go_wp2
          exact ⟨rfl, FIN.out⟩
        · have HO4 := Lib.hid (HOX.out.other (s' := s3) hlt hg hp)
          have HR4 := Lib.hid (HR3.out.trans (by rw [hr, bindR_ok]))
          have HE2 := Lib.hid (HExp.out s3 w3 HO4.out.pw)
          clear hg hr hp h3'
          unfold tokV'
          go_wp2_with fail
          refine HE2.out.mono ?_
          rintro e w4 h4'
          rcases h4'.elim with ⟨pn, hr, hg, rfl⟩ | ⟨⟨r0, r1, r2, r3⟩, s4, hr, hg, rfl, hp⟩
          · have FIN := Lib.hid (RPost.err (α := Ex) (g := g) (cap := cap) (ts := ts) (V := exE w.heap.size) (HR4.out.trans (by rw [hr]; rfl)) (gtrans (row := some b) HO4.out.grown hg))
            clear hg hr h4'
            go_wp2
            exact ⟨rfl, FIN.out⟩
          · have hO5 := HO4.out.other (s' := s4) hlt hg hp
            obtain ⟨k0, k1, k2, k3, k4, k5⟩ := hO5.box.get6
            obtain ⟨f0, f1, f2, f3, f4, f5⟩ := hO5.box.free6
            obtain ⟨z0, z1, z2, z3, z4, z5⟩ := hO5.res.get6
            obtain ⟨e0, e1, e2, e3, e4, e5⟩ := hO5.res.free6
            have hO3 := hO5
            have FIN := Lib.hid (OpW.fin (k := 6) (op := 0) (nm := []) (n := 0) (pos := t1) (a := none) (m := 0) (c := 0) (x := .mk 6 0 [] 0 t1 []) HW.out hO3 (by simp [ExC]))
            have HR2 := Lib.hid (HR4.out.trans (by rw [hr, bindR_ok]))
            have hMN : ¬ M + 1 = w.heap.size := by omega
            clear hg hr hp hO3 h4' hO5
            try unfold tokV'
            go_wp2
            rw [← set6_eq]
            have hfin : Blk w.heap.size #[.int .u8 6, .int .u8 0, .string ⟨#[]⟩, .int .i64 0, .int .i64 (t1 : Int), .slice none 0 0] 36
                (Proofs.YtcgllooeimacdaaGreatDoor.set6 w4 w.heap.size (.int .u8 6) (.int .u8 0) (.string ⟨#[]⟩) (.int .i64 0) (.int .i64 (t1 : Int)) (.slice none 0 0)) := FIN.out.1
            obtain ⟨y0, y1, y2, y3, y4, y5⟩ := hfin.get6
            clear z0 z1 z2 z3 z4 z5 f0 f1 f2 f3 f4 f5 e0 e1 e2 e3 e4 e5 k0 k1 k2 k3 k4 k5
            exact bodyPost_ret (v := .agg #[.int .u8 6, .int .u8 0, .string ⟨#[]⟩, .int .i64 0, .int .i64 (t1 : Int), .slice none 0 0]) (by simp [results, Tryz.results153, go_sem, y0, y1, y2, y3, y4, y5]) rfl (RPost.ok HR2.out FIN.out.2.1 FIN.out.2.2.2 FIN.out.2.2.1)
    rw [if_neg w3'] at hne
    by_cases w4' : t2 = [108, 101, 110]
    · rw [if_pos w4'] at hne
      have HR := Lib.hid ((HRB.out.trans (if_neg h3)).trans ((if_neg h1).trans ((if_neg w1').trans ((if_neg w2').trans ((if_neg w3').trans (if_pos w4'))))))
      clear hne
      go_wp2_with fail
      refine (HNo.out [116, 114, 117, 101] V HOP.out.pw w1').mono ?_
      rintro e v1 ⟨rfl, hb⟩
      have O1 := Lib.hid (HOP.out.below hb)
      clear hb c0 c1 c2 c3
      go_wp2_with fail
      refine (HNo.out [102, 97, 108, 115, 101] v1 O1.out.pw w2').mono ?_
      rintro e v2 ⟨rfl, hb⟩
      have O2 := Lib.hid (O1.out.below hb)
      clear hb
      go_wp2_with fail
      refine (HNo.out [114, 101, 97, 100] v2 O2.out.pw w3').mono ?_
      rintro e v3 ⟨rfl, hb⟩
      have O3 := Lib.hid (O2.out.below hb)
      clear hb
      go_wp2_with fail
      refine (HYes.out [108, 101, 110] (by simp) v3 O3.out.pw w4').mono ?_
      rintro e w2 h2
      rcases h2.elim with ⟨pn, hr, hg, rfl⟩ | ⟨tt, s2, hr, hg, rfl, hp⟩
      · have FIN := Lib.hid (RPost.err (α := Ex) (g := g) (cap := cap) (ts := ts) (V := exE w.heap.size) (HR.out.trans (by rw [hr]; rfl)) (gtrans (row := some b) O3.out.grown hg))
        clear hg hr h2
        go_wp2
        exact ⟨rfl, FIN.out⟩
      · have hO2 := O3.out.other (s' := s2) hlt hg hp
        obtain ⟨k0, k1, k2, k3, k4, k5⟩ := hO2.box.get6
        obtain ⟨f0, f1, f2, f3, f4, f5⟩ := hO2.box.free6
        obtain ⟨X, hX⟩ : ∃ X, X = w2.setCell ⟨M + 1, 0, none⟩ (.int .u8 7) := ⟨_, rfl⟩
        have HOX := Lib.hid (show OpW b g cap ts s2 w M ⟨t0, t1, t2, t3⟩ #[.int .u8 7, .int .u8 0, .string ⟨#[]⟩, .int .i64 0, .int .i64 (t1 : Int), .slice none 0 0] X by rw [hX]; exact hO2.set hlt hgl 0 (.int .u8 7))
        have HE := Lib.hid (HEo.out s2 X HOX.out.pw)
        have HR3 := Lib.hid (HR.out.trans (by rw [hr, bindR_ok]))
        have HXX := Lib.hid hX
        clear hg hr hp h2 hO2 hX
        go_upto_region 18 with (fail)
        rw [← HXX.out]
        clear k0 k1 k2 k3 k4 k5 f0 f1 f2 f3 f4 f5
        go_wp2_with fail
        refine HE.out.mono ?_
        rintro e w3 h3'
        rcases h3'.elim with ⟨pn, hr, hg, rfl⟩ | ⟨⟨q0, q1, q2, q3⟩, s3, hr, hg, rfl, hp⟩
        · have FIN := Lib.hid (RPost.err (α := Ex) (g := g) (cap := cap) (ts := ts) (V := exE w.heap.size) (HR3.out.trans (by rw [hr]; rfl)) (gtrans (row := some b) HOX.out.grown hg))
          clear hg hr h3'
          go_wp2
          exact ⟨rfl, FIN.out⟩
        · have HO4 := Lib.hid (HOX.out.other (s' := s3) hlt hg hp)
          have HR4 := Lib.hid (HR3.out.trans (by rw [hr, bindR_ok]))
          have HE2 := Lib.hid (HKd.out s3 w3 HO4.out.pw)
          clear hg hr hp h3'
          unfold tokV'
          go_wp2_with fail
          refine HE2.out.mono ?_
          rintro e w4 h4'
          rcases h4'.elim with ⟨pn, hr, hg, rfl⟩ | ⟨⟨r0, r1, r2, r3⟩, s4, hr, hg, rfl, hp⟩
          · have FIN := Lib.hid (RPost.err (α := Ex) (g := g) (cap := cap) (ts := ts) (V := exE w.heap.size) (HR4.out.trans (by rw [hr]; rfl)) (gtrans (row := some b) HO4.out.grown hg))
            clear hg hr h4'
            go_wp2
            exact ⟨rfl, FIN.out⟩
          · have hO5 := HO4.out.other (s' := s4) hlt hg hp
            obtain ⟨k0, k1, k2, k3, k4, k5⟩ := hO5.box.get6
            obtain ⟨f0, f1, f2, f3, f4, f5⟩ := hO5.box.free6
            obtain ⟨Y, hY⟩ : ∃ Y, Y = w4.setCell ⟨M + 1, 2, none⟩ (.string ⟨r2.toArray⟩) := ⟨_, rfl⟩
            have HO6 := Lib.hid (show OpW b g cap ts s4 w M ⟨t0, t1, t2, t3⟩ #[.int .u8 7, .int .u8 0, .string ⟨r2.toArray⟩, .int .i64 0, .int .i64 (t1 : Int), .slice none 0 0] Y by rw [hY]; exact hO5.set hlt hgl 2 (.string ⟨r2.toArray⟩))
            have HE3 := Lib.hid (HExp.out s4 Y HO6.out.pw)
            have HR5 := Lib.hid (HR4.out.trans (by rw [hr, bindR_ok]))
            have HYY := Lib.hid hY
            clear hg hr hp h4' hO5 hY
            have hf2 := fTok2
            unfold tokV'
            go_upto_region 20 with (fail)
            rw [← HYY.out]
            clear k0 k1 k2 k3 k4 k5 f0 f1 f2 f3 f4 f5
            go_wp2_with fail
            refine HE3.out.mono ?_
            rintro e w5 h5'
            rcases h5'.elim with ⟨pn, hr, hg, rfl⟩ | ⟨⟨p0, p1, p2, p3⟩, s5, hr, hg, rfl, hp⟩
            · have FIN := Lib.hid (RPost.err (α := Ex) (g := g) (cap := cap) (ts := ts) (V := exE w.heap.size) (HR5.out.trans (by rw [hr]; rfl)) (gtrans (row := some b) HO6.out.grown hg))
              clear hg hr h5'
              go_wp2
              exact ⟨rfl, FIN.out⟩
            · have hO7 := HO6.out.other (s' := s5) hlt hg hp
              obtain ⟨k0, k1, k2, k3, k4, k5⟩ := hO7.box.get6
              obtain ⟨f0, f1, f2, f3, f4, f5⟩ := hO7.box.free6
              obtain ⟨z0, z1, z2, z3, z4, z5⟩ := hO7.res.get6
              obtain ⟨e0, e1, e2, e3, e4, e5⟩ := hO7.res.free6
              have hO3 := hO7
              have FIN := Lib.hid (OpW.fin (k := 7) (op := 0) (nm := r2) (n := 0) (pos := t1) (a := none) (m := 0) (c := 0) (x := .mk 7 0 r2 0 t1 []) HW.out hO3 (by simp [ExC]))
              have HR2 := Lib.hid (HR5.out.trans (by rw [hr, bindR_ok]))
              have hMN : ¬ M + 1 = w.heap.size := by omega
              clear hg hr hp hO3 h5' hO7
              try unfold tokV'
              go_wp2
              rw [← set6_eq]
              have hfin : Blk w.heap.size #[.int .u8 7, .int .u8 0, .string ⟨r2.toArray⟩, .int .i64 0, .int .i64 (t1 : Int), .slice none 0 0] 36
                  (Proofs.YtcgllooeimacdaaGreatDoor.set6 w5 w.heap.size (.int .u8 7) (.int .u8 0) (.string ⟨r2.toArray⟩) (.int .i64 0) (.int .i64 (t1 : Int)) (.slice none 0 0)) := FIN.out.1
              obtain ⟨y0, y1, y2, y3, y4, y5⟩ := hfin.get6
              clear z0 z1 z2 z3 z4 z5 f0 f1 f2 f3 f4 f5 e0 e1 e2 e3 e4 e5 k0 k1 k2 k3 k4 k5
              exact bodyPost_ret (v := .agg #[.int .u8 7, .int .u8 0, .string ⟨r2.toArray⟩, .int .i64 0, .int .i64 (t1 : Int), .slice none 0 0]) (by simp [results, Tryz.results153, go_sem, y0, y1, y2, y3, y4, y5]) rfl (RPost.ok HR2.out FIN.out.2.1 FIN.out.2.2.2 FIN.out.2.2.1)
    rw [if_neg w4'] at hne
    have HR0 := Lib.hid ((HRB.out.trans (if_neg h3)).trans ((if_neg h1).trans ((if_neg w1').trans ((if_neg w2').trans ((if_neg w3').trans (if_neg w4'))))))
    have A1 := Lib.hid fun x h => HNo.out [116, 114, 117, 101] x h w1'
    have A2 := Lib.hid fun x h => HNo.out [102, 97, 108, 115, 101] x h w2'
    have A3 := Lib.hid fun x h => HNo.out [114, 101, 97, 100] x h w3'
    have A4 := Lib.hid fun x h => HNo.out [108, 101, 110] x h w4'
    have HNE := Lib.hid hne
    clear h3 h1 w1' w2' w3' w4' HRB hne
    go_wp2_with fail
    refine (A1.out V HOP.out.pw).mono ?_
    rintro e v1 ⟨rfl, hb⟩
    have O1 := Lib.hid (HOP.out.below hb)
    clear hb c0 c1 c2 c3
    go_wp2_with fail
    refine (A2.out v1 O1.out.pw).mono ?_
    rintro e v2 ⟨rfl, hb⟩
    have O2 := Lib.hid (O1.out.below hb)
    clear hb
    go_wp2_with fail
    refine (A3.out v2 O2.out.pw).mono ?_
    rintro e v3 ⟨rfl, hb⟩
    have O3 := Lib.hid (O2.out.below hb)
    clear hb
    go_wp2_with fail
    refine (A4.out v3 O3.out.pw).mono ?_
    rintro e v4 ⟨rfl, hb⟩
    have O4 := Lib.hid (O3.out.below hb)
    clear hb
    go_wp2_with fail
    by_cases h5 : t2 = [40]
    · have HR := Lib.hid (HR0.out.trans (if_pos h5))
      have hne := HNE.out
      rw [if_pos h5] at hne
      have HNE2 := Lib.hid hne
      refine (HYes.out [40] (by simp) v4 O4.out.pw h5).mono ?_
      rintro e w2 h2
      clear h5 hne
      rcases h2.elim with ⟨pn, hr, hg, rfl⟩ | ⟨tt, s2, hr, hg, rfl, hp⟩
      · have FIN := Lib.hid (RPost.err (α := Ex) (g := g) (cap := cap) (ts := ts) (V := exE w.heap.size) (HR.out.trans (by rw [hr]; rfl)) (gtrans (row := some b) O4.out.grown hg))
        clear hg hr h2
        go_wp2
        exact ⟨rfl, FIN.out⟩
      · have O5 := Lib.hid (O4.out.other (s' := s2) hlt hg hp)
        have hne := HNE2.out
        rw [hr, bindR_ok] at hne
        have HNE3 := Lib.hid hne
        have HR5 := Lib.hid (HR.out.trans (by rw [hr, bindR_ok]))
        have HC := Lib.hid (HEx.out s2 w2 hp (bindR_gone hne))
        clear hg hr hp h2 hne
        go_wp2_with fail
        refine HC.out.mono ?_
        rintro e w3 h3
        rcases h3.elim with ⟨pn, hr, hg, rfl⟩ | ⟨x, s3, hr, hg, ⟨k, op, nm, n, pos, a, m, c, rfl, hx⟩, hp⟩
        · have FIN := Lib.hid (RPost.err (α := Ex) (g := g) (cap := cap) (ts := ts) (V := exE w.heap.size) (HR5.out.trans (by rw [hr]; rfl)) (gtrans (row := some b) O5.out.grown hg))
          clear hg hr h3
          go_wp2
          exact ⟨rfl, FIN.out⟩
        · have hO := O5.out.other (s' := s3) hlt hg hp
          obtain ⟨X, hX⟩ : ∃ X, X = set6 w3 (M + 1) (.int .u8 (k : Int)) (.int .u8 (op : Int)) (.string ⟨nm.toArray⟩) (.int .i64 (n : Int)) (.int .i64 (pos : Int)) (.slice a m c) := ⟨_, rfl⟩
          have hOX : OpW b g cap ts s3 w M ⟨t0, t1, t2, t3⟩ (exCells k op nm n pos a m c) X := by rw [hX]; exact hO.set6 hlt hgl _ _ _ _ _ _
          have hMl := O5.out.box.lt
          have hxX : ExC X (fun h => M + 1 < h) x (exCells k op nm n pos a m c).toList := hx.stays (stays_of_grown (by rw [hX]; exact grown_set6 w3 (M + 1) _ _ _ _ _ _) fun h hh => ⟨by omega, by omega⟩)
          have HO := Lib.hid (And.intro hOX hxX)
          obtain ⟨k0, k1, k2, k3, k4, k5⟩ := hO.box.get6
          obtain ⟨f0, f1, f2, f3, f4, f5⟩ := hO.box.free6
          have HE := Lib.hid (HExp.out s3 X hOX.pw)
          have HR6 := Lib.hid (HR5.out.trans (by rw [hr, bindR_ok]))
          have HXX := Lib.hid hX
          clear hg hr hp h3 hx hO hOX hxX hX
          go_upto_region 23 with (fail)
          rw [← set6_eq, ← HXX.out]
          clear k0 k1 k2 k3 k4 k5 f0 f1 f2 f3 f4 f5
          go_wp2_with fail
          refine HE.out.mono ?_
          rintro e w4 h4
          rcases h4.elim with ⟨pn, hr, hg, rfl⟩ | ⟨⟨q0, q1, q2, q3⟩, s4, hr, hg, rfl, hp⟩
          · have FIN := Lib.hid (RPost.err (α := Ex) (g := g) (cap := cap) (ts := ts) (V := exE w.heap.size) (HR6.out.trans (by rw [hr]; rfl)) (gtrans (row := some b) HO.out.1.grown hg))
            clear hg hr h4
            go_wp2
            exact ⟨rfl, FIN.out⟩
          · have hO4 := HO.out.1.other (s' := s4) hlt hg hp
            have hx4 : ExC w4 (fun h => w.heap.size < h) x (exCells k op nm n pos a m c).toList := HO.out.2.stays (stays_of_grown hg fun h hh => ⟨by omega, by omega⟩)
            have FIN := Lib.hid (OpW.fin HW.out hO4 hx4)
            have HR7 := Lib.hid (HR6.out.trans (by rw [hr, bindR_ok]))
            obtain ⟨k0, k1, k2, k3, k4, k5⟩ := hO4.box.get6
            obtain ⟨z0, z1, z2, z3, z4, z5⟩ := hO4.res.get6
            obtain ⟨e0, e1, e2, e3, e4, e5⟩ := hO4.res.free6
            clear hg hr hp h4 hO4 hx4
            unfold tokV'
            go_wp2
            rw [← set6_eq]
            obtain ⟨y0, y1, y2, y3, y4, y5⟩ := FIN.out.1.get6
            clear k0 k1 k2 k3 k4 k5 z0 z1 z2 z3 z4 z5 e0 e1 e2 e3 e4 e5
            exact bodyPost_ret (v := .agg (exCells k op nm n pos a m c)) (by simp [results, Tryz.results153, go_sem, y0, y1, y2, y3, y4, y5]) rfl (RPost.ok HR7.out FIN.out.2.1 FIN.out.2.2.2 FIN.out.2.2.1)
    · have HR := Lib.hid (HR0.out.trans (if_neg h5))
      refine (HNo.out [40] v4 O4.out.pw h5).mono ?_
      rintro e v5 ⟨rfl, hb⟩
      have O5 := Lib.hid (O4.out.below hb)
      clear hb h5
      go_wp2_with fail
      refine (HWr.out v5 O5.out.pw).mono ?_
      rintro e w2 ⟨rfl, hb2⟩
      have FIN := Lib.hid (RPost.err (α := Ex) (g := g) (cap := cap) (ts := ts) (V := exE w.heap.size) (pn := (t1, 4)) (HR.out.trans (by unfold wrongR; rw [HTE.out])) (gtrans (row := some b) O5.out.grown (grown_of_below hb2)))
      clear hb2
      go_wp2
      exact ⟨rfl, FIN.out⟩
end Go.Proofs.YtcgllooeimacdaaGreatDoor
