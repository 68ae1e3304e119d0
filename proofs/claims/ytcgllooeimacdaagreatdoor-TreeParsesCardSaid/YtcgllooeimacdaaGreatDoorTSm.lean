/-
  Joined: TSmA, TSmB, TSmC, TSm.
-/
import Derived.Test.YtcgllooeimacdaaGreatDoorTChoice
/-! A statement, as it is read. -/

namespace Go.Proofs.YtcgllooeimacdaaGreatDoor
open Go Go.RowKit Px
open Lx (Tok)

def SmCt (F : Nat) : Prop := ∀ (b g cap : Nat) (ts : List Tok) (s : St) (w : World), PW b g cap ts s w → s.n ≤ s.i → F ≤ 1000000 → smF ts F s ≠ gone →
  Calls Tryz.prog 71 #[.pointer (some ⟨b, 0, none⟩)] w (RPost b g cap ts w (smE w.heap.size) (smF ts F s))

theorem smF_named (ts : List Tok) (f : Nat) (s0 : St) (h1 : (tk ts s0.i).kind = 1) : smF ts (f + 1) s0 = namedF ts f (s0.n + 1) (tk ts s0.i).pos ⟨s0.i, s0.o, s0.n + 1⟩ := by
  rw [smF, if_pos h1]
theorem SmW.named {b g cap : Nat} {ts : List Tok} {s s' : St} {w w1 w2 : World} {M : Nat} {t : Tok} {cs cs' : Array Value} (hlt : b < w.heap.size) (h : SmW b g cap ts s w M t cs w1) (hg : Grown2 b (M + 1) w1 w2) (hp : PW b g cap ts s' w2) (hb : Blk (M + 1) cs' 39 w2) : SmW b g cap ts s' w M t cs' w2 := by
  have hM := h.lt
  exact ⟨⟨hg.os.trans h.grown.os, hg.tape.trans h.grown.tape, hg.output.trans h.grown.output, Nat.le_trans h.grown.size hg.size, fun k hk hne => (hg.block k (Nat.lt_of_lt_of_le hk h.grown.size) (by simpa using hne) (by omega)).trans (h.grown.block k hk hne)⟩,
    hg.stays h.res (by omega) (by omega), hg.stays h.tok (by omega) (by omega), hb, hp, hM⟩

set_option maxRecDepth 100000 in
set_option maxHeartbeats 2000000 in
theorem statement_named (F : Nat) (b g cap : Nat) (ts : List Tok) (s : St) (w : World) (hw : PW b g cap ts s w) (hn : s.n ≤ s.i) (hk1 : (tk ts s.i).kind = 1) (hne : smF ts (F + 1) s ≠ gone) :
    Calls Tryz.prog 71 #[.pointer (some ⟨b, 0, none⟩)] w (RPost b g cap ts w (smE w.heap.size) (smF ts (F + 1) s)) := by
  have hrb := smF_named ts F s hk1
  rw [hrb] at hne
  have HRB := Lib.hid hrb
  clear hrb
  have HNE := Lib.hid hne
  obtain ⟨W, hW⟩ : ∃ W, W = w.alloc sm0 := ⟨_, rfl⟩
  have hbW : Below w.heap.size w W := by rw [hW]; exact (Below.refl _ _).alloc (Nat.le_refl _) _
  have hz : Blk w.heap.size zSm 39 W := by rw [hW]; exact Blk.new _ _ _
  have hWs : W.heap.size = w.heap.size + 1 := by rw [hW]; simp
  have HN := Lib.hid (next_any b g cap ts s W (hw.below hbW))
  have HW := Lib.hid hw
  have HH := Lib.hid (And.intro hbW (And.intro hz hWs))
  have HWW := Lib.hid hW
  have hlt := hw.blk.lt
  have hgl := hw.toks.lt
  have hil := hw.lt
  have hle := hw.len
  have hn0 : (s.n : Int) < 90000 := by omega
  have HNM := Lib.hid fun c id pos w1 (h1 : PW b g cap ts ⟨s.i, s.o, s.n + 1⟩ w1) (h2 : Blk c (smZ id pos) 39 w1) (h3 : c ≠ b) (h4 : c ≠ g) (h5 : namedF ts F id pos ⟨s.i, s.o, s.n + 1⟩ ≠ gone) => named_any F b g cap ts ⟨s.i, s.o, s.n + 1⟩ c id pos w1 h1 h2 h3 h4 h5
  clear hw hbW hz hW hWs hne
  rcases htk : tk ts s.i with ⟨t0, t1, t2, t3⟩
  simp only [htk] at HNE HN hk1 HRB
  subst hk1
  clear htk
  go_enter Tryz.func71, Tryz.ntmps71
  go_wp2_with fail
  rw [← HWW.out]
  refine HN.out.mono ?_
  rintro e w1 ⟨rfl, hb1⟩
  unfold tokV'
  obtain ⟨V, hV⟩ : ∃ V, V = w1.alloc (.cells #[.int .u8 1, .int .i64 (t1 : Int), .string ⟨t2.toArray⟩, .int .i64 (t3 : Int)] 55) := ⟨_, rfl⟩
  have hbV : Below w.heap.size w V := by rw [hV]; exact (HH.out.1.trans (hb1.mono HH.out.1.size)).alloc (by have := hb1.size; have := HH.out.2.2; omega) _
  have hpV := HW.out.below hbV
  have htV : Blk w1.heap.size #[.int .u8 1, .int .i64 (t1 : Int), .string ⟨t2.toArray⟩, .int .i64 (t3 : Int)] 55 V := by rw [hV]; exact Blk.new _ _ _
  have hzV : Blk w.heap.size zSm 39 V := by rw [hV]; exact (HH.out.2.1.below hb1 (by have := HH.out.2.2; omega)).below ((Below.refl _ _).alloc (Nat.le_refl _) _) (by have := hb1.size; have := HH.out.2.2; omega)
  have hsV : V.heap.size = w1.heap.size + 1 := by rw [hV]; simp
  have hs1 : w.heap.size < w1.heap.size := by have := hb1.size; have := HH.out.2.2; omega
  have p3 := hpV.blk.g3
  have q3 := hpV.blk.free 3
  have hVV := Lib.hid hV
  have HV := Lib.hid (And.intro hbV (And.intro hpV (And.intro htV (And.intro hzV hsV))))
  clear hb1 hbV hpV htV hzV hsV hV HN
  go_upto_region 2 with (fail)
  rw [← hVV.out]
  clear hVV
  go_upto_region 3 with (fail)
  obtain ⟨X, hX⟩ : ∃ X, X = V.setCell ⟨b, 3, none⟩ (.int .i64 ((s.n : Int) + 1)) := ⟨_, rfl⟩
  have hgX : V.grownBy X (some b) := by rw [hX]; exact Lib.grownBy_setCell _ _ _ _
  have hpX : PW b g cap ts ⟨s.i, s.o, s.n + 1⟩ X := by
    have h := HV.out.2.1
    refine h.step hgX ⟨s.i, s.o, s.n + 1⟩ ?_ h.lt h.olo h.ohi (by show s.n + 1 ≤ 100000; omega)
    rw [hX]
    exact h.blk.set3 (s.n + 1)
  have htX := HV.out.2.2.1.other hgX (by simp; omega)
  have hzX := HV.out.2.2.2.1.other hgX (by simp; omega)
  have hsX : X.heap.size = w1.heap.size + 1 := by rw [hX]; simp [World.setCell]; exact HV.out.2.2.2.2
  rw [← hX]
  have p3 : X.cell? ⟨b, 3, none⟩ = some (.int .i64 ((s.n : Int) + 1)) := hpX.blk.g3
  have c1 := htX.get 1 (.int .i64 (t1 : Int)) rfl
  have hne1 := World.new_ne X _ p3
  have hne2 := World.new_ne X _ c1
  have HX := Lib.hid (And.intro (gtrans (row := some b) (grown_of_below HV.out.1) hgX) (And.intro hpX (And.intro htX (And.intro hzX hsX))))
  clear hgX hpX htX hzX hsX hX q3
  go_region_held3 (fun w' => w'.cell? ⟨b, 3, none⟩ = some (.int .i64 ((s.n : Int) + 1)) ∧ w'.cell? ⟨w1.heap.size, 1, none⟩ = some (.int .i64 (t1 : Int))) (go_keep) (fail)
  obtain ⟨Z, hZ⟩ : ∃ Z, Z = (X.alloc (.cells #[.int .u8 0, .int .i64 ((s.n : Int) + 1), .string ⟨#[]⟩, .int .u8 0, .int .i64 0, .int .i64 (t1 : Int), .slice none 0 0, .slice none 0 0, .slice none 0 0] 39)).drew := ⟨_, rfl⟩
  rw [← hZ, HX.out.2.2.2.2]
  have hSM : SmW b g cap ts ⟨s.i, s.o, s.n + 1⟩ w w1.heap.size ⟨1, t1, t2, t3⟩ #[.int .u8 0, .int .i64 ((s.n : Int) + 1), .string ⟨#[]⟩, .int .u8 0, .int .i64 0, .int .i64 (t1 : Int), .slice none 0 0, .slice none 0 0, .slice none 0 0] Z := by
    obtain ⟨x1, x2, x3, x4, x5⟩ := HX.out
    have hbZ : Below X.heap.size X Z := by rw [hZ]; exact ((Below.refl _ _).alloc (Nat.le_refl _) _).drew
    exact ⟨gtrans x1 (grown_of_below hbZ), x4.below hbZ x4.lt, x3.below hbZ x3.lt, by rw [hZ]; exact (Blk.new' X _ _ x5.symm), x2.below hbZ, hs1⟩
  have HSM := Lib.hid hSM
  obtain ⟨d0, d1, d2, d3⟩ := hSM.tok.get4
  clear hZ hSM p3 c1 hne1 hne2
  generalize w1.heap.size = M at *
  have HC := Lib.hid (HNM.out (M + 1) (s.n + 1) t1 Z HSM.out.pw HSM.out.box (by omega) (by omega) HNE.out)
  go_wp2_with fail
  refine HC.out.mono ?_
  rintro e w2 h2
  rcases h2.elim with ⟨pn, hr, hg, rfl⟩ | ⟨x, s2, hr, hg, rfl, ⟨k, id, nm, t, n, pos, a1, m1, c1, a2, m2, c2, a3, m3, c3, hbx, hx⟩, hp⟩
  · have hgw : w.grownBy w2 (some b) := ⟨hg.os.trans HSM.out.grown.os, hg.tape.trans HSM.out.grown.tape, hg.output.trans HSM.out.grown.output, Nat.le_trans HSM.out.grown.size hg.size, fun k hk hne => (hg.block k (Nat.lt_of_lt_of_le hk HSM.out.grown.size) (by simpa using hne) (by omega)).trans (HSM.out.grown.block k hk hne)⟩
    have FIN := Lib.hid (RPost.err (α := Sm) (g := g) (cap := cap) (ts := ts) (V := smE w.heap.size) (HRB.out.trans hr) hgw)
    clear hg hr h2 hgw
    go_wp2
    exact ⟨rfl, FIN.out⟩
  · have hS7 := HSM.out.named hlt hg hp hbx
    have hMZ := HSM.out.box.lt
    have hfin := SmW.fin (x := x) HW.out hS7 (hx.stays (stays_weaken fun h hh _ => by omega)) _ rfl
    obtain ⟨U, hU⟩ : ∃ U, U = set9 w2 w.heap.size (.int .u8 (k : Int)) (.int .i64 (id : Int)) (.string ⟨nm.toArray⟩) (.int .u8 (t : Int)) (.int .i64 (n : Int)) (.int .i64 (pos : Int)) (.slice a1 m1 c1) (.slice a2 m2 c2) (.slice a3 m3 c3) := ⟨_, rfl⟩
    rw [← hU] at hfin
    have FIN := Lib.hid hfin
    have HU := Lib.hid hU
    have HR7 := Lib.hid (HRB.out.trans hr)
    obtain ⟨k0, k1, k2, k3, k4, k5, k6, k7, k8⟩ := hS7.box.get9
    obtain ⟨z0, z1, z2, z3, z4, z5, z6, z7, z8⟩ := hS7.res.get9
    obtain ⟨e0, e1, e2, e3, e4, e5, e6, e7, e8⟩ := hS7.res.free9
    clear hg hr hp h2 hS7 hx hfin hU hbx d0 d1 d2 d3
    go_wp2
    rw [← set9_eq, ← HU.out]
    obtain ⟨y0, y1, y2, y3, y4, y5, y6, y7, y8⟩ := FIN.out.1.get9
    clear k0 k1 k2 k3 k4 k5 k6 k7 k8 z0 z1 z2 z3 z4 z5 z6 z7 z8 e0 e1 e2 e3 e4 e5 e6 e7 e8
    exact bodyPost_ret (v := .agg (smCells k id nm t n pos (.slice a1 m1 c1) (.slice a2 m2 c2) (.slice a3 m3 c3))) (by simp [results, Tryz.results71, go_sem, y0, y1, y2, y3, y4, y5, y6, y7, y8]) rfl (RPost.ok HR7.out FIN.out.2.1 FIN.out.2.2.2 FIN.out.2.2.1)


set_option maxRecDepth 100000 in
set_option maxHeartbeats 2000000 in
theorem statement_let (F : Nat) (b g cap : Nat) (ts : List Tok) (s : St) (w : World) (hw : PW b g cap ts s w) (hn : s.n ≤ s.i) (hk1 : (tk ts s.i).kind ≠ 1) (htx : (tk ts s.i).text = [108, 101, 116]) (hne : smF ts (F + 1) s ≠ gone) :
    Calls Tryz.prog 71 #[.pointer (some ⟨b, 0, none⟩)] w (RPost b g cap ts w (smE w.heap.size) (smF ts (F + 1) s)) := by
  have hrb : smF ts (F + 1) s = letF ts F (s.n + 1) (tk ts s.i).pos ⟨s.i, s.o, s.n + 1⟩ := by
    rw [smF, if_neg hk1, htx]
    rfl
  rw [hrb] at hne
  have HRB := Lib.hid hrb
  clear hrb
  have HNE := Lib.hid hne
  obtain ⟨W, hW⟩ : ∃ W, W = w.alloc sm0 := ⟨_, rfl⟩
  have hbW : Below w.heap.size w W := by rw [hW]; exact (Below.refl _ _).alloc (Nat.le_refl _) _
  have hz : Blk w.heap.size zSm 39 W := by rw [hW]; exact Blk.new _ _ _
  have hWs : W.heap.size = w.heap.size + 1 := by rw [hW]; simp
  have HN := Lib.hid (next_any b g cap ts s W (hw.below hbW))
  have HW := Lib.hid hw
  have HH := Lib.hid (And.intro hbW (And.intro hz hWs))
  have HWW := Lib.hid hW
  have hlt := hw.blk.lt
  have hgl := hw.toks.lt
  have hil := hw.lt
  have hle := hw.len
  have hn0 : (s.n : Int) < 90000 := by omega
  have HNM := Lib.hid fun c id pos w1 (h1 : PW b g cap ts ⟨s.i, s.o, s.n + 1⟩ w1) (h2 : Blk c (smZ id pos) 39 w1) (h3 : c ≠ b) (h4 : c ≠ g) (h5 : letF ts F id pos ⟨s.i, s.o, s.n + 1⟩ ≠ gone) => let_any F b g cap ts ⟨s.i, s.o, s.n + 1⟩ c id pos w1 h1 h2 h3 h4 h5
  clear hw hbW hz hW hWs hne
  rcases htk : tk ts s.i with ⟨t0, t1, t2, t3⟩
  simp only [htk] at HNE HN hk1 htx HRB
  subst htx
  have hk1' : ((t0 : Int) == 1) = false := by rw [beq_eq_false_iff_ne]; omega
  clear htk hk1
  go_enter Tryz.func71, Tryz.ntmps71
  go_wp2_with fail
  rw [← HWW.out]
  refine HN.out.mono ?_
  rintro e w1 ⟨rfl, hb1⟩
  unfold tokV'
  obtain ⟨V, hV⟩ : ∃ V, V = w1.alloc (.cells #[.int .u8 (t0 : Int), .int .i64 (t1 : Int), .string ⟨#[108, 101, 116]⟩, .int .i64 (t3 : Int)] 55) := ⟨_, rfl⟩
  have hbV : Below w.heap.size w V := by rw [hV]; exact (HH.out.1.trans (hb1.mono HH.out.1.size)).alloc (by have := hb1.size; have := HH.out.2.2; omega) _
  have hpV := HW.out.below hbV
  have htV : Blk w1.heap.size #[.int .u8 (t0 : Int), .int .i64 (t1 : Int), .string ⟨#[108, 101, 116]⟩, .int .i64 (t3 : Int)] 55 V := by rw [hV]; exact Blk.new _ _ _
  have hzV : Blk w.heap.size zSm 39 V := by rw [hV]; exact (HH.out.2.1.below hb1 (by have := HH.out.2.2; omega)).below ((Below.refl _ _).alloc (Nat.le_refl _) _) (by have := hb1.size; have := HH.out.2.2; omega)
  have hsV : V.heap.size = w1.heap.size + 1 := by rw [hV]; simp
  have hs1 : w.heap.size < w1.heap.size := by have := hb1.size; have := HH.out.2.2; omega
  have p3 := hpV.blk.g3
  have q3 := hpV.blk.free 3
  have hVV := Lib.hid hV
  have HV := Lib.hid (And.intro hbV (And.intro hpV (And.intro htV (And.intro hzV hsV))))
  clear hb1 hbV hpV htV hzV hsV hV HN
  go_upto_region 2 with (fail)
  rw [← hVV.out]
  clear hVV
  go_upto_region 3 with (fail)
  obtain ⟨X, hX⟩ : ∃ X, X = V.setCell ⟨b, 3, none⟩ (.int .i64 ((s.n : Int) + 1)) := ⟨_, rfl⟩
  have hgX : V.grownBy X (some b) := by rw [hX]; exact Lib.grownBy_setCell _ _ _ _
  have hpX : PW b g cap ts ⟨s.i, s.o, s.n + 1⟩ X := by
    have h := HV.out.2.1
    refine h.step hgX ⟨s.i, s.o, s.n + 1⟩ ?_ h.lt h.olo h.ohi (by show s.n + 1 ≤ 100000; omega)
    rw [hX]
    exact h.blk.set3 (s.n + 1)
  have htX := HV.out.2.2.1.other hgX (by simp; omega)
  have hzX := HV.out.2.2.2.1.other hgX (by simp; omega)
  have hsX : X.heap.size = w1.heap.size + 1 := by rw [hX]; simp [World.setCell]; exact HV.out.2.2.2.2
  rw [← hX]
  have p3 : X.cell? ⟨b, 3, none⟩ = some (.int .i64 ((s.n : Int) + 1)) := hpX.blk.g3
  have c1 := htX.get 1 (.int .i64 (t1 : Int)) rfl
  have hne1 := World.new_ne X _ p3
  have hne2 := World.new_ne X _ c1
  have HX := Lib.hid (And.intro (gtrans (row := some b) (grown_of_below HV.out.1) hgX) (And.intro hpX (And.intro htX (And.intro hzX hsX))))
  clear hgX hpX htX hzX hsX hX q3
  go_region_held3 (fun w' => w'.cell? ⟨b, 3, none⟩ = some (.int .i64 ((s.n : Int) + 1)) ∧ w'.cell? ⟨w1.heap.size, 1, none⟩ = some (.int .i64 (t1 : Int))) (go_keep) (fail)
  obtain ⟨Z, hZ⟩ : ∃ Z, Z = (X.alloc (.cells #[.int .u8 0, .int .i64 ((s.n : Int) + 1), .string ⟨#[]⟩, .int .u8 0, .int .i64 0, .int .i64 (t1 : Int), .slice none 0 0, .slice none 0 0, .slice none 0 0] 39)).drew := ⟨_, rfl⟩
  rw [← hZ, HX.out.2.2.2.2]
  have hSM : SmW b g cap ts ⟨s.i, s.o, s.n + 1⟩ w w1.heap.size ⟨t0, t1, [108, 101, 116], t3⟩ #[.int .u8 0, .int .i64 ((s.n : Int) + 1), .string ⟨#[]⟩, .int .u8 0, .int .i64 0, .int .i64 (t1 : Int), .slice none 0 0, .slice none 0 0, .slice none 0 0] Z := by
    obtain ⟨x1, x2, x3, x4, x5⟩ := HX.out
    have hbZ : Below X.heap.size X Z := by rw [hZ]; exact ((Below.refl _ _).alloc (Nat.le_refl _) _).drew
    exact ⟨gtrans x1 (grown_of_below hbZ), x4.below hbZ x4.lt, x3.below hbZ x3.lt, by rw [hZ]; exact (Blk.new' X _ _ x5.symm), x2.below hbZ, hs1⟩
  have HSM := Lib.hid hSM
  obtain ⟨d0, d1, d2, d3⟩ := hSM.tok.get4
  clear hZ hSM p3 c1 hne1 hne2
  generalize w1.heap.size = M at *
  have HC := Lib.hid (HNM.out (M + 1) (s.n + 1) t1 Z HSM.out.pw HSM.out.box (by omega) (by omega) HNE.out)
  go_wp2_with fail
  refine HC.out.mono ?_
  rintro e w2 h2
  rcases h2.elim with ⟨pn, hr, hg, rfl⟩ | ⟨x, s2, hr, hg, rfl, ⟨k, id, nm, t, n, pos, a1, m1, c1, a2, m2, c2, a3, m3, c3, hbx, hx⟩, hp⟩
  · have hgw : w.grownBy w2 (some b) := ⟨hg.os.trans HSM.out.grown.os, hg.tape.trans HSM.out.grown.tape, hg.output.trans HSM.out.grown.output, Nat.le_trans HSM.out.grown.size hg.size, fun k hk hne => (hg.block k (Nat.lt_of_lt_of_le hk HSM.out.grown.size) (by simpa using hne) (by omega)).trans (HSM.out.grown.block k hk hne)⟩
    have FIN := Lib.hid (RPost.err (α := Sm) (g := g) (cap := cap) (ts := ts) (V := smE w.heap.size) (HRB.out.trans hr) hgw)
    clear hg hr h2 hgw
    go_wp2
    exact ⟨rfl, FIN.out⟩
  · have hS7 := HSM.out.named hlt hg hp hbx
    have hMZ := HSM.out.box.lt
    have hfin := SmW.fin (x := x) HW.out hS7 (hx.stays (stays_weaken fun h hh _ => by omega)) _ rfl
    obtain ⟨U, hU⟩ : ∃ U, U = set9 w2 w.heap.size (.int .u8 (k : Int)) (.int .i64 (id : Int)) (.string ⟨nm.toArray⟩) (.int .u8 (t : Int)) (.int .i64 (n : Int)) (.int .i64 (pos : Int)) (.slice a1 m1 c1) (.slice a2 m2 c2) (.slice a3 m3 c3) := ⟨_, rfl⟩
    rw [← hU] at hfin
    have FIN := Lib.hid hfin
    have HU := Lib.hid hU
    have HR7 := Lib.hid (HRB.out.trans hr)
    obtain ⟨k0, k1, k2, k3, k4, k5, k6, k7, k8⟩ := hS7.box.get9
    obtain ⟨z0, z1, z2, z3, z4, z5, z6, z7, z8⟩ := hS7.res.get9
    obtain ⟨e0, e1, e2, e3, e4, e5, e6, e7, e8⟩ := hS7.res.free9
    clear hg hr hp h2 hS7 hx hfin hU hbx d0 d1 d2 d3
    go_wp2
    rw [← set9_eq, ← HU.out]
    obtain ⟨y0, y1, y2, y3, y4, y5, y6, y7, y8⟩ := FIN.out.1.get9
    clear k0 k1 k2 k3 k4 k5 k6 k7 k8 z0 z1 z2 z3 z4 z5 z6 z7 z8 e0 e1 e2 e3 e4 e5 e6 e7 e8
    exact bodyPost_ret (v := .agg (smCells k id nm t n pos (.slice a1 m1 c1) (.slice a2 m2 c2) (.slice a3 m3 c3))) (by simp [results, Tryz.results71, go_sem, y0, y1, y2, y3, y4, y5, y6, y7, y8]) rfl (RPost.ok HR7.out FIN.out.2.1 FIN.out.2.2.2 FIN.out.2.2.1)


set_option maxRecDepth 100000 in
set_option maxHeartbeats 2000000 in
theorem statement_if (F : Nat) (hB : BlkC F) (hF : F ≤ 1000000) (b g cap : Nat) (ts : List Tok) (s : St) (w : World) (hw : PW b g cap ts s w) (hn : s.n ≤ s.i) (hk1 : (tk ts s.i).kind ≠ 1) (htx : (tk ts s.i).text = [105, 102]) (hne : smF ts (F + 1) s ≠ gone) :
    Calls Tryz.prog 71 #[.pointer (some ⟨b, 0, none⟩)] w (RPost b g cap ts w (smE w.heap.size) (smF ts (F + 1) s)) := by
  have hrb : smF ts (F + 1) s = choiceB ts F (s.n + 1) (tk ts s.i).pos (blockF ts F) ⟨s.i, s.o, s.n + 1⟩ := by
    rw [smF, if_neg hk1, htx]
    rfl
  rw [hrb] at hne
  have HRB := Lib.hid hrb
  clear hrb
  have HNE := Lib.hid hne
  obtain ⟨W, hW⟩ : ∃ W, W = w.alloc sm0 := ⟨_, rfl⟩
  have hbW : Below w.heap.size w W := by rw [hW]; exact (Below.refl _ _).alloc (Nat.le_refl _) _
  have hz : Blk w.heap.size zSm 39 W := by rw [hW]; exact Blk.new _ _ _
  have hWs : W.heap.size = w.heap.size + 1 := by rw [hW]; simp
  have HN := Lib.hid (next_any b g cap ts s W (hw.below hbW))
  have HW := Lib.hid hw
  have HH := Lib.hid (And.intro hbW (And.intro hz hWs))
  have HWW := Lib.hid hW
  have hlt := hw.blk.lt
  have hgl := hw.toks.lt
  have hil := hw.lt
  have hle := hw.len
  have hn0 : (s.n : Int) < 90000 := by omega
  have HNM := Lib.hid fun c id pos w1 (h1 : PW b g cap ts ⟨s.i, s.o, s.n + 1⟩ w1) (h2 : Blk c (smZ id pos) 39 w1) (h3 : c ≠ b) (h4 : c ≠ g) (h5 : choiceB ts F id pos (blockF ts F) ⟨s.i, s.o, s.n + 1⟩ ≠ gone) => choice_any hB hF b g cap ts ⟨s.i, s.o, s.n + 1⟩ c id pos w1 h1 (by show s.n + 1 ≤ s.i + 1; omega) h2 h3 h4 h5
  clear hw hbW hz hW hWs hne hB
  rcases htk : tk ts s.i with ⟨t0, t1, t2, t3⟩
  simp only [htk] at HNE HN hk1 htx HRB
  subst htx
  have hk1' : ((t0 : Int) == 1) = false := by rw [beq_eq_false_iff_ne]; omega
  clear htk hk1
  go_enter Tryz.func71, Tryz.ntmps71
  go_wp2_with fail
  rw [← HWW.out]
  refine HN.out.mono ?_
  rintro e w1 ⟨rfl, hb1⟩
  unfold tokV'
  obtain ⟨V, hV⟩ : ∃ V, V = w1.alloc (.cells #[.int .u8 (t0 : Int), .int .i64 (t1 : Int), .string ⟨#[105, 102]⟩, .int .i64 (t3 : Int)] 55) := ⟨_, rfl⟩
  have hbV : Below w.heap.size w V := by rw [hV]; exact (HH.out.1.trans (hb1.mono HH.out.1.size)).alloc (by have := hb1.size; have := HH.out.2.2; omega) _
  have hpV := HW.out.below hbV
  have htV : Blk w1.heap.size #[.int .u8 (t0 : Int), .int .i64 (t1 : Int), .string ⟨#[105, 102]⟩, .int .i64 (t3 : Int)] 55 V := by rw [hV]; exact Blk.new _ _ _
  have hzV : Blk w.heap.size zSm 39 V := by rw [hV]; exact (HH.out.2.1.below hb1 (by have := HH.out.2.2; omega)).below ((Below.refl _ _).alloc (Nat.le_refl _) _) (by have := hb1.size; have := HH.out.2.2; omega)
  have hsV : V.heap.size = w1.heap.size + 1 := by rw [hV]; simp
  have hs1 : w.heap.size < w1.heap.size := by have := hb1.size; have := HH.out.2.2; omega
  have p3 := hpV.blk.g3
  have q3 := hpV.blk.free 3
  have hVV := Lib.hid hV
  have HV := Lib.hid (And.intro hbV (And.intro hpV (And.intro htV (And.intro hzV hsV))))
  clear hb1 hbV hpV htV hzV hsV hV HN
  go_upto_region 2 with (fail)
  rw [← hVV.out]
  clear hVV
  go_upto_region 3 with (fail)
  obtain ⟨X, hX⟩ : ∃ X, X = V.setCell ⟨b, 3, none⟩ (.int .i64 ((s.n : Int) + 1)) := ⟨_, rfl⟩
  have hgX : V.grownBy X (some b) := by rw [hX]; exact Lib.grownBy_setCell _ _ _ _
  have hpX : PW b g cap ts ⟨s.i, s.o, s.n + 1⟩ X := by
    have h := HV.out.2.1
    refine h.step hgX ⟨s.i, s.o, s.n + 1⟩ ?_ h.lt h.olo h.ohi (by show s.n + 1 ≤ 100000; omega)
    rw [hX]
    exact h.blk.set3 (s.n + 1)
  have htX := HV.out.2.2.1.other hgX (by simp; omega)
  have hzX := HV.out.2.2.2.1.other hgX (by simp; omega)
  have hsX : X.heap.size = w1.heap.size + 1 := by rw [hX]; simp [World.setCell]; exact HV.out.2.2.2.2
  rw [← hX]
  have p3 : X.cell? ⟨b, 3, none⟩ = some (.int .i64 ((s.n : Int) + 1)) := hpX.blk.g3
  have c1 := htX.get 1 (.int .i64 (t1 : Int)) rfl
  have hne1 := World.new_ne X _ p3
  have hne2 := World.new_ne X _ c1
  have HX := Lib.hid (And.intro (gtrans (row := some b) (grown_of_below HV.out.1) hgX) (And.intro hpX (And.intro htX (And.intro hzX hsX))))
  clear hgX hpX htX hzX hsX hX q3
  go_region_held3 (fun w' => w'.cell? ⟨b, 3, none⟩ = some (.int .i64 ((s.n : Int) + 1)) ∧ w'.cell? ⟨w1.heap.size, 1, none⟩ = some (.int .i64 (t1 : Int))) (go_keep) (fail)
  obtain ⟨Z, hZ⟩ : ∃ Z, Z = (X.alloc (.cells #[.int .u8 0, .int .i64 ((s.n : Int) + 1), .string ⟨#[]⟩, .int .u8 0, .int .i64 0, .int .i64 (t1 : Int), .slice none 0 0, .slice none 0 0, .slice none 0 0] 39)).drew := ⟨_, rfl⟩
  rw [← hZ, HX.out.2.2.2.2]
  have hSM : SmW b g cap ts ⟨s.i, s.o, s.n + 1⟩ w w1.heap.size ⟨t0, t1, [105, 102], t3⟩ #[.int .u8 0, .int .i64 ((s.n : Int) + 1), .string ⟨#[]⟩, .int .u8 0, .int .i64 0, .int .i64 (t1 : Int), .slice none 0 0, .slice none 0 0, .slice none 0 0] Z := by
    obtain ⟨x1, x2, x3, x4, x5⟩ := HX.out
    have hbZ : Below X.heap.size X Z := by rw [hZ]; exact ((Below.refl _ _).alloc (Nat.le_refl _) _).drew
    exact ⟨gtrans x1 (grown_of_below hbZ), x4.below hbZ x4.lt, x3.below hbZ x3.lt, by rw [hZ]; exact (Blk.new' X _ _ x5.symm), x2.below hbZ, hs1⟩
  have HSM := Lib.hid hSM
  obtain ⟨d0, d1, d2, d3⟩ := hSM.tok.get4
  clear hZ hSM p3 c1 hne1 hne2
  generalize w1.heap.size = M at *
  have HC := Lib.hid (HNM.out (M + 1) (s.n + 1) t1 Z HSM.out.pw HSM.out.box (by omega) (by omega) HNE.out)
  go_wp2_with fail
  refine HC.out.mono ?_
  rintro e w2 h2
  rcases h2.elim with ⟨pn, hr, hg, rfl⟩ | ⟨x, s2, hr, hg, rfl, ⟨k, id, nm, t, n, pos, a1, m1, c1, a2, m2, c2, a3, m3, c3, hbx, hx⟩, hp⟩
  · have hgw : w.grownBy w2 (some b) := ⟨hg.os.trans HSM.out.grown.os, hg.tape.trans HSM.out.grown.tape, hg.output.trans HSM.out.grown.output, Nat.le_trans HSM.out.grown.size hg.size, fun k hk hne => (hg.block k (Nat.lt_of_lt_of_le hk HSM.out.grown.size) (by simpa using hne) (by omega)).trans (HSM.out.grown.block k hk hne)⟩
    have FIN := Lib.hid (RPost.err (α := Sm) (g := g) (cap := cap) (ts := ts) (V := smE w.heap.size) (HRB.out.trans hr) hgw)
    clear hg hr h2 hgw
    go_wp2
    exact ⟨rfl, FIN.out⟩
  · have hS7 := HSM.out.named hlt hg hp hbx
    have hMZ := HSM.out.box.lt
    have hfin := SmW.fin (x := x) HW.out hS7 (hx.stays (stays_weaken fun h hh _ => by omega)) _ rfl
    obtain ⟨U, hU⟩ : ∃ U, U = set9 w2 w.heap.size (.int .u8 (k : Int)) (.int .i64 (id : Int)) (.string ⟨nm.toArray⟩) (.int .u8 (t : Int)) (.int .i64 (n : Int)) (.int .i64 (pos : Int)) (.slice a1 m1 c1) (.slice a2 m2 c2) (.slice a3 m3 c3) := ⟨_, rfl⟩
    rw [← hU] at hfin
    have FIN := Lib.hid hfin
    have HU := Lib.hid hU
    have HR7 := Lib.hid (HRB.out.trans hr)
    obtain ⟨k0, k1, k2, k3, k4, k5, k6, k7, k8⟩ := hS7.box.get9
    obtain ⟨z0, z1, z2, z3, z4, z5, z6, z7, z8⟩ := hS7.res.get9
    obtain ⟨e0, e1, e2, e3, e4, e5, e6, e7, e8⟩ := hS7.res.free9
    clear hg hr hp h2 hS7 hx hfin hU hbx d0 d1 d2 d3
    go_wp2
    rw [← set9_eq, ← HU.out]
    obtain ⟨y0, y1, y2, y3, y4, y5, y6, y7, y8⟩ := FIN.out.1.get9
    clear k0 k1 k2 k3 k4 k5 k6 k7 k8 z0 z1 z2 z3 z4 z5 z6 z7 z8 e0 e1 e2 e3 e4 e5 e6 e7 e8
    exact bodyPost_ret (v := .agg (smCells k id nm t n pos (.slice a1 m1 c1) (.slice a2 m2 c2) (.slice a3 m3 c3))) (by simp [results, Tryz.results71, go_sem, y0, y1, y2, y3, y4, y5, y6, y7, y8]) rfl (RPost.ok HR7.out FIN.out.2.1 FIN.out.2.2.2 FIN.out.2.2.1)

end Go.Proofs.YtcgllooeimacdaaGreatDoor

/-! Statements that begin with a word. -/

namespace Go.Proofs.YtcgllooeimacdaaGreatDoor
open Go Go.RowKit Px
open Lx (Tok)

set_option maxRecDepth 100000 in
set_option maxHeartbeats 2000000 in
theorem statement_ret (F : Nat) (b g cap : Nat) (ts : List Tok) (s : St) (w : World) (hw : PW b g cap ts s w) (hn : s.n ≤ s.i) (hk1 : (tk ts s.i).kind ≠ 1) (htx : (tk ts s.i).text = [114, 101, 116, 117, 114, 110]) (hne : smF ts (F + 1) s ≠ gone) :
    Calls Tryz.prog 71 #[.pointer (some ⟨b, 0, none⟩)] w (RPost b g cap ts w (smE w.heap.size) (smF ts (F + 1) s)) := by
  have hrb : smF ts (F + 1) s = returnF ts F (s.n + 1) (tk ts s.i).pos ⟨s.i, s.o, s.n + 1⟩ := by
    rw [smF, if_neg hk1, htx]
    rfl
  rw [hrb] at hne
  have HRB := Lib.hid hrb
  clear hrb
  have HNE := Lib.hid hne
  obtain ⟨W, hW⟩ : ∃ W, W = w.alloc sm0 := ⟨_, rfl⟩
  have hbW : Below w.heap.size w W := by rw [hW]; exact (Below.refl _ _).alloc (Nat.le_refl _) _
  have hz : Blk w.heap.size zSm 39 W := by rw [hW]; exact Blk.new _ _ _
  have hWs : W.heap.size = w.heap.size + 1 := by rw [hW]; simp
  have HN := Lib.hid (next_any b g cap ts s W (hw.below hbW))
  have HW := Lib.hid hw
  have HH := Lib.hid (And.intro hbW (And.intro hz hWs))
  have HWW := Lib.hid hW
  have hlt := hw.blk.lt
  have hgl := hw.toks.lt
  have hil := hw.lt
  have hle := hw.len
  have hn0 : (s.n : Int) < 90000 := by omega
  have HTK := Lib.hid fun w1 (h1 : PW b g cap ts ⟨s.i, s.o, s.n + 1⟩ w1) => take_R b g cap ts ⟨s.i, s.o, s.n + 1⟩ w1 h1 (Or.inr (by rw [htx]; simp))
  have HEx := Lib.hid fun s' w1 (h1 : PW b g cap ts s' w1) (h : binF ts F 1 s' ≠ gone) => one_any F b g cap ts s' w1 h1 h
  have HIs := Lib.hid fun s' w1 (h1 : PW b g cap ts s' w1) => is_any b g cap ts s' [59] w1 h1
  have HExp := Lib.hid fun s' w1 (h1 : PW b g cap ts s' w1) => expect_any b g cap ts s' [59] (by simp) w1 h1
  clear hw hbW hz hW hWs hne
  rcases htk : tk ts s.i with ⟨t0, t1, t2, t3⟩
  simp only [htk] at HNE HN hk1 htx HRB
  subst htx
  have hk1' : ((t0 : Int) == 1) = false := by rw [beq_eq_false_iff_ne]; omega
  clear htk hk1
  go_enter Tryz.func71, Tryz.ntmps71
  go_wp2_with fail
  rw [← HWW.out]
  refine HN.out.mono ?_
  rintro e w1 ⟨rfl, hb1⟩
  unfold tokV'
  obtain ⟨V, hV⟩ : ∃ V, V = w1.alloc (.cells #[.int .u8 (t0 : Int), .int .i64 (t1 : Int), .string ⟨#[114, 101, 116, 117, 114, 110]⟩, .int .i64 (t3 : Int)] 55) := ⟨_, rfl⟩
  have hbV : Below w.heap.size w V := by rw [hV]; exact (HH.out.1.trans (hb1.mono HH.out.1.size)).alloc (by have := hb1.size; have := HH.out.2.2; omega) _
  have hpV := HW.out.below hbV
  have htV : Blk w1.heap.size #[.int .u8 (t0 : Int), .int .i64 (t1 : Int), .string ⟨#[114, 101, 116, 117, 114, 110]⟩, .int .i64 (t3 : Int)] 55 V := by rw [hV]; exact Blk.new _ _ _
  have hzV : Blk w.heap.size zSm 39 V := by rw [hV]; exact (HH.out.2.1.below hb1 (by have := HH.out.2.2; omega)).below ((Below.refl _ _).alloc (Nat.le_refl _) _) (by have := hb1.size; have := HH.out.2.2; omega)
  have hsV : V.heap.size = w1.heap.size + 1 := by rw [hV]; simp
  have hs1 : w.heap.size < w1.heap.size := by have := hb1.size; have := HH.out.2.2; omega
  have p3 := hpV.blk.g3
  have q3 := hpV.blk.free 3
  have hVV := Lib.hid hV
  have HV := Lib.hid (And.intro hbV (And.intro hpV (And.intro htV (And.intro hzV hsV))))
  clear hb1 hbV hpV htV hzV hsV hV HN
  go_upto_region 2 with (fail)
  rw [← hVV.out]
  clear hVV
  go_upto_region 3 with (fail)
  obtain ⟨X, hX⟩ : ∃ X, X = V.setCell ⟨b, 3, none⟩ (.int .i64 ((s.n : Int) + 1)) := ⟨_, rfl⟩
  have hgX : V.grownBy X (some b) := by rw [hX]; exact Lib.grownBy_setCell _ _ _ _
  have hpX : PW b g cap ts ⟨s.i, s.o, s.n + 1⟩ X := by
    have h := HV.out.2.1
    refine h.step hgX ⟨s.i, s.o, s.n + 1⟩ ?_ h.lt h.olo h.ohi (by show s.n + 1 ≤ 100000; omega)
    rw [hX]
    exact h.blk.set3 (s.n + 1)
  have htX := HV.out.2.2.1.other hgX (by simp; omega)
  have hzX := HV.out.2.2.2.1.other hgX (by simp; omega)
  have hsX : X.heap.size = w1.heap.size + 1 := by rw [hX]; simp [World.setCell]; exact HV.out.2.2.2.2
  rw [← hX]
  have p3 : X.cell? ⟨b, 3, none⟩ = some (.int .i64 ((s.n : Int) + 1)) := hpX.blk.g3
  have c1 := htX.get 1 (.int .i64 (t1 : Int)) rfl
  have hne1 := World.new_ne X _ p3
  have hne2 := World.new_ne X _ c1
  have HX := Lib.hid (And.intro (gtrans (row := some b) (grown_of_below HV.out.1) hgX) (And.intro hpX (And.intro htX (And.intro hzX hsX))))
  clear hgX hpX htX hzX hsX hX q3
  go_region_held3 (fun w' => w'.cell? ⟨b, 3, none⟩ = some (.int .i64 ((s.n : Int) + 1)) ∧ w'.cell? ⟨w1.heap.size, 1, none⟩ = some (.int .i64 (t1 : Int))) (go_keep) (fail)
  obtain ⟨Z, hZ⟩ : ∃ Z, Z = (X.alloc (.cells #[.int .u8 0, .int .i64 ((s.n : Int) + 1), .string ⟨#[]⟩, .int .u8 0, .int .i64 0, .int .i64 (t1 : Int), .slice none 0 0, .slice none 0 0, .slice none 0 0] 39)).drew := ⟨_, rfl⟩
  rw [← hZ, HX.out.2.2.2.2]
  have hSM : SmW b g cap ts ⟨s.i, s.o, s.n + 1⟩ w w1.heap.size ⟨t0, t1, [114, 101, 116, 117, 114, 110], t3⟩ #[.int .u8 0, .int .i64 ((s.n : Int) + 1), .string ⟨#[]⟩, .int .u8 0, .int .i64 0, .int .i64 (t1 : Int), .slice none 0 0, .slice none 0 0, .slice none 0 0] Z := by
    obtain ⟨x1, x2, x3, x4, x5⟩ := HX.out
    have hbZ : Below X.heap.size X Z := by rw [hZ]; exact ((Below.refl _ _).alloc (Nat.le_refl _) _).drew
    exact ⟨gtrans x1 (grown_of_below hbZ), x4.below hbZ x4.lt, x3.below hbZ x3.lt, by rw [hZ]; exact (Blk.new' X _ _ x5.symm), x2.below hbZ, hs1⟩
  have HSM := Lib.hid hSM
  obtain ⟨d0, d1, d2, d3⟩ := hSM.tok.get4
  clear hZ hSM p3 c1 hne1 hne2
  generalize w1.heap.size = M at *
  go_wp2_with fail
  refine (HTK.out Z HSM.out.pw).mono ?_
  rintro e w2 h2
  rcases h2.elim with ⟨pn, hr, hg, rfl⟩ | ⟨tt, s2, hr, hg, rfl, hp⟩
  · have FIN := Lib.hid (RPost.err (α := Sm) (g := g) (cap := cap) (ts := ts) (V := smE w.heap.size) (HRB.out.trans (by unfold returnF; rw [hr]; rfl)) (gtrans (row := some b) HSM.out.grown hg))
    clear hg hr h2
    go_wp2
    exact ⟨rfl, FIN.out⟩
  · have hS2 := HSM.out.other (s' := s2) hlt hg hp
    have hne2 := HNE.out
    unfold returnF at hne2
    rw [hr, bindR_ok] at hne2
    by_cases h59 : (tk ts s2.i).text = [59]
    · have h59' : ((tk ts s2.i).text == [59]) = true := by simpa using h59
      have HR2 := Lib.hid (HRB.out.trans (by unfold returnF; rw [hr, bindR_ok, if_pos h59]))
      obtain ⟨k0, k1, k2, k3, k4, k5, k6, k7, k8⟩ := hS2.box.get9
      obtain ⟨f0, f1, f2, f3, f4, f5, f6, f7, f8⟩ := hS2.box.free9
      obtain ⟨Y, hY⟩ : ∃ Y, Y = w2.setCell ⟨M + 1, 0, none⟩ (.int .u8 6) := ⟨_, rfl⟩
      have hS3 : SmW b g cap ts s2 w M ⟨t0, t1, [114, 101, 116, 117, 114, 110], t3⟩ #[.int .u8 6, .int .i64 ((s.n : Int) + 1), .string ⟨#[]⟩, .int .u8 0, .int .i64 0, .int .i64 (t1 : Int), .slice none 0 0, .slice none 0 0, .slice none 0 0] Y := by
        rw [hY]; exact hS2.set hlt hgl 0 (.int .u8 6)
      have HS3 := Lib.hid hS3
      have HYY := Lib.hid hY
      have HIS := HIs.out s2 Y hS3.pw
      rw [h59'] at HIS
      have HIS := Lib.hid HIS
      clear hg hr h2 hp hS2 hne2 h59 h59' hS3 hY
      go_upto_region 17 with (fail)
      rw [← HYY.out]
      clear k0 k1 k2 k3 k4 k5 k6 k7 k8 f0 f1 f2 f3 f4 f5 f6 f7 f8 d0 d1 d2 d3
      go_wp2_with fail
      refine HIS.out.mono ?_
      rintro e w3 ⟨rfl, hb3⟩
      have HS4 := Lib.hid (HS3.out.below hb3)
      clear hb3
      have HE := Lib.hid (HExp.out s2 w3 HS4.out.pw)
      go_wp2_with fail
      refine HE.out.mono ?_
      rintro e w5 h5
      rcases h5.elim with ⟨pn, hr, hg, rfl⟩ | ⟨⟨q0, q1, q2, q3⟩, s4, hr, hg, rfl, hp⟩
      · have FIN := Lib.hid (RPost.err (α := Sm) (g := g) (cap := cap) (ts := ts) (V := smE w.heap.size) (HR2.out.trans (by rw [hr]; rfl)) (gtrans (row := some b) HS4.out.grown hg))
        clear hg hr h5
        go_wp2
        exact ⟨rfl, FIN.out⟩
      · have hS7 := HS4.out.other (s' := s4) hlt hg hp
        have hfin := SmW.fin (k := 6) (id := s.n + 1) (nm := []) (t := 0) (n := 0) (pos := t1) (a1 := none) (m1 := 0) (c1 := 0) (a2 := none) (m2 := 0) (c2 := 0) (a3 := none) (m3 := 0) (c3 := 0) (x := .mk 6 (s.n + 1) [] 0 0 t1 [] [] []) HW.out hS7 (by
          simp only [SmC]
          exact ⟨_, _, _, rfl, Or.inl ⟨rfl, rfl⟩, by simp, by simp⟩) _ rfl
        obtain ⟨U, hU⟩ : ∃ U, U = set9 w5 w.heap.size (.int .u8 6) (.int .i64 ((s.n : Int) + 1)) (.string ⟨#[]⟩) (.int .u8 0) (.int .i64 0) (.int .i64 (t1 : Int)) (.slice none 0 0) (.slice none 0 0) (.slice none 0 0) := ⟨_, rfl⟩
        have hfin2 : Blk w.heap.size #[.int .u8 6, .int .i64 ((s.n : Int) + 1), .string ⟨#[]⟩, .int .u8 0, .int .i64 0, .int .i64 (t1 : Int), .slice none 0 0, .slice none 0 0, .slice none 0 0] 39 U ∧ w.grownBy U (some b) ∧ PW b g cap ts s4 U ∧
            smE w.heap.size (.mk 6 (s.n + 1) [] 0 0 t1 [] [] []) (.returned (.agg #[.int .u8 6, .int .i64 ((s.n : Int) + 1), .string ⟨#[]⟩, .int .u8 0, .int .i64 0, .int .i64 (t1 : Int), .slice none 0 0, .slice none 0 0, .slice none 0 0])) U := by rw [hU]; exact hfin
        have FIN := Lib.hid hfin2
        have HU := Lib.hid hU
        have HR7 := Lib.hid (HR2.out.trans (by rw [hr, bindR_ok]))
        obtain ⟨k0, k1, k2, k3, k4, k5, k6, k7, k8⟩ := hS7.box.get9
        obtain ⟨z0, z1, z2, z3, z4, z5, z6, z7, z8⟩ := hS7.res.get9
        obtain ⟨e0, e1, e2, e3, e4, e5, e6, e7, e8⟩ := hS7.res.free9
        clear hg hr hp h5 hS7  hfin hfin2 hU
        try unfold tokV'
        go_wp2
        rw [← set9_eq, ← HU.out]
        obtain ⟨y0, y1, y2, y3, y4, y5, y6, y7, y8⟩ := FIN.out.1.get9
        clear k0 k1 k2 k3 k4 k5 k6 k7 k8 z0 z1 z2 z3 z4 z5 z6 z7 z8 e0 e1 e2 e3 e4 e5 e6 e7 e8
        exact bodyPost_ret (v := .agg #[.int .u8 6, .int .i64 ((s.n : Int) + 1), .string ⟨#[]⟩, .int .u8 0, .int .i64 0, .int .i64 (t1 : Int), .slice none 0 0, .slice none 0 0, .slice none 0 0]) (by simp [results, Tryz.results71, go_sem, y0, y1, y2, y3, y4, y5, y6, y7, y8]) rfl (RPost.ok HR7.out FIN.out.2.1 FIN.out.2.2.2 FIN.out.2.2.1)
    · rw [if_neg h59] at hne2
      have h59' : ((tk ts s2.i).text == [59]) = false := by simpa using h59
      have HR2 := Lib.hid (HRB.out.trans (by unfold returnF; rw [hr, bindR_ok, if_neg h59]))
      have HNE2 := Lib.hid hne2
      obtain ⟨k0, k1, k2, k3, k4, k5, k6, k7, k8⟩ := hS2.box.get9
      obtain ⟨f0, f1, f2, f3, f4, f5, f6, f7, f8⟩ := hS2.box.free9
      obtain ⟨Y, hY⟩ : ∃ Y, Y = w2.setCell ⟨M + 1, 0, none⟩ (.int .u8 6) := ⟨_, rfl⟩
      have hS3 : SmW b g cap ts s2 w M ⟨t0, t1, [114, 101, 116, 117, 114, 110], t3⟩ #[.int .u8 6, .int .i64 ((s.n : Int) + 1), .string ⟨#[]⟩, .int .u8 0, .int .i64 0, .int .i64 (t1 : Int), .slice none 0 0, .slice none 0 0, .slice none 0 0] Y := by
        rw [hY]; exact hS2.set hlt hgl 0 (.int .u8 6)
      have HS3 := Lib.hid hS3
      have HYY := Lib.hid hY
      have HIS := HIs.out s2 Y hS3.pw
      rw [h59'] at HIS
      have HIS := Lib.hid HIS
      clear hg hr h2 hp hS2 hne2 h59 h59' hS3 hY
      go_upto_region 17 with (fail)
      rw [← HYY.out]
      clear k0 k1 k2 k3 k4 k5 k6 k7 k8 f0 f1 f2 f3 f4 f5 f6 f7 f8 d0 d1 d2 d3
      go_wp2_with fail
      refine HIS.out.mono ?_
      rintro e w3 ⟨rfl, hb3⟩
      have HS4 := Lib.hid (HS3.out.below hb3)
      clear hb3
      have HC := Lib.hid (HEx.out s2 w3 HS4.out.pw (bindR_gone HNE2.out))
      go_wp2_with fail
      refine HC.out.mono ?_
      rintro e w4 h4
      rcases h4.elim with ⟨pn, hr, hg, rfl⟩ | ⟨x, s3, hr, hg, ⟨gr, rfl, hx⟩, hp⟩
      · have FIN := Lib.hid (RPost.err (α := Sm) (g := g) (cap := cap) (ts := ts) (V := smE w.heap.size) (HR2.out.trans (by rw [hr]; rfl)) (gtrans (row := some b) HS4.out.grown hg))
        clear hg hr h4
        go_wp2
        exact ⟨rfl, FIN.out⟩
      · have hx := hx.row
        have hS5 := HS4.out.other (s' := s3) hlt hg hp
        have hM4 := HS4.out.box.lt
        obtain ⟨k0, k1, k2, k3, k4, k5, k6, k7, k8⟩ := hS5.box.get9
        obtain ⟨f0, f1, f2, f3, f4, f5, f6, f7, f8⟩ := hS5.box.free9
        obtain ⟨Y2, hY2⟩ : ∃ Y2, Y2 = w4.setCell ⟨M + 1, 6, none⟩ (.slice (some ⟨gr, 0, none⟩) 1 1) := ⟨_, rfl⟩
        have hS6 : SmW b g cap ts s3 w M ⟨t0, t1, [114, 101, 116, 117, 114, 110], t3⟩ #[.int .u8 6, .int .i64 ((s.n : Int) + 1), .string ⟨#[]⟩, .int .u8 0, .int .i64 0, .int .i64 (t1 : Int), .slice (some ⟨gr, 0, none⟩) 1 1, .slice none 0 0, .slice none 0 0] Y2 := by
          rw [hY2]; exact hS5.set hlt hgl 6 _
        have hx6 : ExRow Y2 (fun h => M + 1 < h) [x] (.slice (some ⟨gr, 0, none⟩) 1 1) := hx.stays (stays_of_grown (by rw [hY2]; exact Lib.grownBy_setCell _ (M + 1) 6 _) fun h hh => ⟨by omega, by omega⟩)
        have HS6 := Lib.hid (And.intro hS6 hx6)
        have HY2 := Lib.hid hY2
        have HE := Lib.hid (HExp.out s3 Y2 hS6.pw)
        have HR3 := Lib.hid (HR2.out.trans (by rw [hr, bindR_ok]))
        clear hg hr h4 hp hS5 hS6 hx6 hx hY2
        go_upto_region 19 with (fail)
        rw [← HY2.out]
        clear k0 k1 k2 k3 k4 k5 k6 k7 k8 f0 f1 f2 f3 f4 f5 f6 f7 f8
        go_wp2_with fail
        refine HE.out.mono ?_
        rintro e w5 h5
        rcases h5.elim with ⟨pn, hr, hg, rfl⟩ | ⟨⟨q0, q1, q2, q3⟩, s4, hr, hg, rfl, hp⟩
        · have FIN := Lib.hid (RPost.err (α := Sm) (g := g) (cap := cap) (ts := ts) (V := smE w.heap.size) (HR3.out.trans (by rw [hr]; rfl)) (gtrans (row := some b) HS6.out.1.grown hg))
          clear hg hr h5
          go_wp2
          exact ⟨rfl, FIN.out⟩
        · have hS7 := HS6.out.1.other (s' := s4) hlt hg hp
          have hx7 : ExRow w5 (fun h => w.heap.size < h) [x] (.slice (some ⟨gr, 0, none⟩) 1 1) := HS6.out.2.stays (stays_of_grown hg fun h hh => ⟨by omega, by omega⟩)
          have hfin := SmW.fin (k := 6) (id := s.n + 1) (nm := []) (t := 0) (n := 0) (pos := t1) (a1 := some ⟨gr, 0, none⟩) (m1 := 1) (c1 := 1) (a2 := none) (m2 := 0) (c2 := 0) (a3 := none) (m3 := 0) (c3 := 0) (x := .mk 6 (s.n + 1) [] 0 0 t1 [x] [] []) HW.out hS7 (by
            simp only [SmC]
            exact ⟨_, _, _, rfl, hx7, by simp, by simp⟩) _ rfl
          obtain ⟨U, hU⟩ : ∃ U, U = set9 w5 w.heap.size (.int .u8 6) (.int .i64 ((s.n : Int) + 1)) (.string ⟨#[]⟩) (.int .u8 0) (.int .i64 0) (.int .i64 (t1 : Int)) (.slice (some ⟨gr, 0, none⟩) 1 1) (.slice none 0 0) (.slice none 0 0) := ⟨_, rfl⟩
          have hfin2 : Blk w.heap.size #[.int .u8 6, .int .i64 ((s.n : Int) + 1), .string ⟨#[]⟩, .int .u8 0, .int .i64 0, .int .i64 (t1 : Int), .slice (some ⟨gr, 0, none⟩) 1 1, .slice none 0 0, .slice none 0 0] 39 U ∧ w.grownBy U (some b) ∧ PW b g cap ts s4 U ∧
              smE w.heap.size (.mk 6 (s.n + 1) [] 0 0 t1 [x] [] []) (.returned (.agg #[.int .u8 6, .int .i64 ((s.n : Int) + 1), .string ⟨#[]⟩, .int .u8 0, .int .i64 0, .int .i64 (t1 : Int), .slice (some ⟨gr, 0, none⟩) 1 1, .slice none 0 0, .slice none 0 0])) U := by rw [hU]; exact hfin
          have FIN := Lib.hid hfin2
          have HU := Lib.hid hU
          have HR7 := Lib.hid (HR3.out.trans (by rw [hr, bindR_ok]))
          obtain ⟨k0, k1, k2, k3, k4, k5, k6, k7, k8⟩ := hS7.box.get9
          obtain ⟨z0, z1, z2, z3, z4, z5, z6, z7, z8⟩ := hS7.res.get9
          obtain ⟨e0, e1, e2, e3, e4, e5, e6, e7, e8⟩ := hS7.res.free9
          clear hg hr hp h5 hS7 hx7 hfin hfin2 hU
          unfold tokV'
          go_wp2
          rw [← set9_eq, ← HU.out]
          obtain ⟨y0, y1, y2, y3, y4, y5, y6, y7, y8⟩ := FIN.out.1.get9
          clear k0 k1 k2 k3 k4 k5 k6 k7 k8 z0 z1 z2 z3 z4 z5 z6 z7 z8 e0 e1 e2 e3 e4 e5 e6 e7 e8
          exact bodyPost_ret (v := .agg #[.int .u8 6, .int .i64 ((s.n : Int) + 1), .string ⟨#[]⟩, .int .u8 0, .int .i64 0, .int .i64 (t1 : Int), .slice (some ⟨gr, 0, none⟩) 1 1, .slice none 0 0, .slice none 0 0]) (by simp [results, Tryz.results71, go_sem, y0, y1, y2, y3, y4, y5, y6, y7, y8]) rfl (RPost.ok HR7.out FIN.out.2.1 FIN.out.2.2.2 FIN.out.2.2.1)

set_option maxRecDepth 100000 in
set_option maxHeartbeats 2000000 in
theorem statement_print (F : Nat) (b g cap : Nat) (ts : List Tok) (s : St) (w : World) (hw : PW b g cap ts s w) (hn : s.n ≤ s.i) (hk1 : (tk ts s.i).kind ≠ 1) (htx : (tk ts s.i).text = [112, 114, 105, 110, 116]) (hne : smF ts (F + 1) s ≠ gone) :
    Calls Tryz.prog 71 #[.pointer (some ⟨b, 0, none⟩)] w (RPost b g cap ts w (smE w.heap.size) (smF ts (F + 1) s)) := by
  have hrb : smF ts (F + 1) s = printF ts F (s.n + 1) (tk ts s.i).pos ⟨s.i, s.o, s.n + 1⟩ := by
    rw [smF, if_neg hk1, htx]
    rfl
  rw [hrb] at hne
  have HRB := Lib.hid hrb
  clear hrb
  have HNE := Lib.hid hne
  obtain ⟨W, hW⟩ : ∃ W, W = w.alloc sm0 := ⟨_, rfl⟩
  have hbW : Below w.heap.size w W := by rw [hW]; exact (Below.refl _ _).alloc (Nat.le_refl _) _
  have hz : Blk w.heap.size zSm 39 W := by rw [hW]; exact Blk.new _ _ _
  have hWs : W.heap.size = w.heap.size + 1 := by rw [hW]; simp
  have HN := Lib.hid (next_any b g cap ts s W (hw.below hbW))
  have HW := Lib.hid hw
  have HH := Lib.hid (And.intro hbW (And.intro hz hWs))
  have HWW := Lib.hid hW
  have hlt := hw.blk.lt
  have hgl := hw.toks.lt
  have hil := hw.lt
  have hle := hw.len
  have hn0 : (s.n : Int) < 90000 := by omega
  have HTK := Lib.hid fun w1 (h1 : PW b g cap ts ⟨s.i, s.o, s.n + 1⟩ w1) => take_R b g cap ts ⟨s.i, s.o, s.n + 1⟩ w1 h1 (Or.inr (by rw [htx]; simp))
  have HEx := Lib.hid fun s' w1 (h1 : PW b g cap ts s' w1) (h : binF ts F 1 s' ≠ gone) => one_any F b g cap ts s' w1 h1 h
  have HExp := Lib.hid fun s' w1 (h1 : PW b g cap ts s' w1) => expect_any b g cap ts s' [59] (by simp) w1 h1
  clear hw hbW hz hW hWs hne
  rcases htk : tk ts s.i with ⟨t0, t1, t2, t3⟩
  simp only [htk] at HNE HN hk1 htx HRB
  subst htx
  have hk1' : ((t0 : Int) == 1) = false := by rw [beq_eq_false_iff_ne]; omega
  clear htk hk1
  go_enter Tryz.func71, Tryz.ntmps71
  go_wp2_with fail
  rw [← HWW.out]
  refine HN.out.mono ?_
  rintro e w1 ⟨rfl, hb1⟩
  unfold tokV'
  obtain ⟨V, hV⟩ : ∃ V, V = w1.alloc (.cells #[.int .u8 (t0 : Int), .int .i64 (t1 : Int), .string ⟨#[112, 114, 105, 110, 116]⟩, .int .i64 (t3 : Int)] 55) := ⟨_, rfl⟩
  have hbV : Below w.heap.size w V := by rw [hV]; exact (HH.out.1.trans (hb1.mono HH.out.1.size)).alloc (by have := hb1.size; have := HH.out.2.2; omega) _
  have hpV := HW.out.below hbV
  have htV : Blk w1.heap.size #[.int .u8 (t0 : Int), .int .i64 (t1 : Int), .string ⟨#[112, 114, 105, 110, 116]⟩, .int .i64 (t3 : Int)] 55 V := by rw [hV]; exact Blk.new _ _ _
  have hzV : Blk w.heap.size zSm 39 V := by rw [hV]; exact (HH.out.2.1.below hb1 (by have := HH.out.2.2; omega)).below ((Below.refl _ _).alloc (Nat.le_refl _) _) (by have := hb1.size; have := HH.out.2.2; omega)
  have hsV : V.heap.size = w1.heap.size + 1 := by rw [hV]; simp
  have hs1 : w.heap.size < w1.heap.size := by have := hb1.size; have := HH.out.2.2; omega
  have p3 := hpV.blk.g3
  have q3 := hpV.blk.free 3
  have hVV := Lib.hid hV
  have HV := Lib.hid (And.intro hbV (And.intro hpV (And.intro htV (And.intro hzV hsV))))
  clear hb1 hbV hpV htV hzV hsV hV HN
  go_upto_region 2 with (fail)
  rw [← hVV.out]
  clear hVV
  go_upto_region 3 with (fail)
  obtain ⟨X, hX⟩ : ∃ X, X = V.setCell ⟨b, 3, none⟩ (.int .i64 ((s.n : Int) + 1)) := ⟨_, rfl⟩
  have hgX : V.grownBy X (some b) := by rw [hX]; exact Lib.grownBy_setCell _ _ _ _
  have hpX : PW b g cap ts ⟨s.i, s.o, s.n + 1⟩ X := by
    have h := HV.out.2.1
    refine h.step hgX ⟨s.i, s.o, s.n + 1⟩ ?_ h.lt h.olo h.ohi (by show s.n + 1 ≤ 100000; omega)
    rw [hX]
    exact h.blk.set3 (s.n + 1)
  have htX := HV.out.2.2.1.other hgX (by simp; omega)
  have hzX := HV.out.2.2.2.1.other hgX (by simp; omega)
  have hsX : X.heap.size = w1.heap.size + 1 := by rw [hX]; simp [World.setCell]; exact HV.out.2.2.2.2
  rw [← hX]
  have p3 : X.cell? ⟨b, 3, none⟩ = some (.int .i64 ((s.n : Int) + 1)) := hpX.blk.g3
  have c1 := htX.get 1 (.int .i64 (t1 : Int)) rfl
  have hne1 := World.new_ne X _ p3
  have hne2 := World.new_ne X _ c1
  have HX := Lib.hid (And.intro (gtrans (row := some b) (grown_of_below HV.out.1) hgX) (And.intro hpX (And.intro htX (And.intro hzX hsX))))
  clear hgX hpX htX hzX hsX hX q3
  go_region_held3 (fun w' => w'.cell? ⟨b, 3, none⟩ = some (.int .i64 ((s.n : Int) + 1)) ∧ w'.cell? ⟨w1.heap.size, 1, none⟩ = some (.int .i64 (t1 : Int))) (go_keep) (fail)
  obtain ⟨Z, hZ⟩ : ∃ Z, Z = (X.alloc (.cells #[.int .u8 0, .int .i64 ((s.n : Int) + 1), .string ⟨#[]⟩, .int .u8 0, .int .i64 0, .int .i64 (t1 : Int), .slice none 0 0, .slice none 0 0, .slice none 0 0] 39)).drew := ⟨_, rfl⟩
  rw [← hZ, HX.out.2.2.2.2]
  have hSM : SmW b g cap ts ⟨s.i, s.o, s.n + 1⟩ w w1.heap.size ⟨t0, t1, [112, 114, 105, 110, 116], t3⟩ #[.int .u8 0, .int .i64 ((s.n : Int) + 1), .string ⟨#[]⟩, .int .u8 0, .int .i64 0, .int .i64 (t1 : Int), .slice none 0 0, .slice none 0 0, .slice none 0 0] Z := by
    obtain ⟨x1, x2, x3, x4, x5⟩ := HX.out
    have hbZ : Below X.heap.size X Z := by rw [hZ]; exact ((Below.refl _ _).alloc (Nat.le_refl _) _).drew
    exact ⟨gtrans x1 (grown_of_below hbZ), x4.below hbZ x4.lt, x3.below hbZ x3.lt, by rw [hZ]; exact (Blk.new' X _ _ x5.symm), x2.below hbZ, hs1⟩
  have HSM := Lib.hid hSM
  obtain ⟨d0, d1, d2, d3⟩ := hSM.tok.get4
  clear hZ hSM p3 c1 hne1 hne2
  generalize w1.heap.size = M at *
  go_wp2_with fail
  refine (HTK.out Z HSM.out.pw).mono ?_
  rintro e w2 h2
  rcases h2.elim with ⟨pn, hr, hg, rfl⟩ | ⟨tt, s2, hr, hg, rfl, hp⟩
  · have FIN := Lib.hid (RPost.err (α := Sm) (g := g) (cap := cap) (ts := ts) (V := smE w.heap.size) (HRB.out.trans (by unfold printF; rw [hr]; rfl)) (gtrans (row := some b) HSM.out.grown hg))
    clear hg hr h2
    go_wp2
    exact ⟨rfl, FIN.out⟩
  · have HS2 := Lib.hid (HSM.out.other (s' := s2) hlt hg hp)
    have HR2 := Lib.hid (HRB.out.trans (by unfold printF; rw [hr, bindR_ok]))
    have hne2 := HNE.out
    unfold printF at hne2
    rw [hr, bindR_ok] at hne2
    have HC := Lib.hid (HEx.out s2 w2 hp (bindR_gone hne2))
    clear hg hr h2 hp hne2 d0 d1 d2 d3
    go_wp2_with fail
    refine HC.out.mono ?_
    rintro e w4 h4
    rcases h4.elim with ⟨pn, hr, hg, rfl⟩ | ⟨x, s3, hr, hg, ⟨gr, rfl, hx⟩, hp⟩
    · have FIN := Lib.hid (RPost.err (α := Sm) (g := g) (cap := cap) (ts := ts) (V := smE w.heap.size) (HR2.out.trans (by rw [hr]; rfl)) (gtrans (row := some b) HS2.out.grown hg))
      clear hg hr h4
      go_wp2
      exact ⟨rfl, FIN.out⟩
    · have hx := hx.row
      have hS5 := HS2.out.other (s' := s3) hlt hg hp
      have hM4 := HS2.out.box.lt
      have HR3 := Lib.hid (HR2.out.trans (by rw [hr, bindR_ok]))
      obtain ⟨k0, k1, k2, k3, k4, k5, k6, k7, k8⟩ := hS5.box.get9
      obtain ⟨f0, f1, f2, f3, f4, f5, f6, f7, f8⟩ := hS5.box.free9
      obtain ⟨Y2, hY2⟩ : ∃ Y2, Y2 = (w4.setCell ⟨M + 1, 0, none⟩ (.int .u8 7)).setCell ⟨M + 1, 6, none⟩ (.slice (some ⟨gr, 0, none⟩) 1 1) := ⟨_, rfl⟩
      have hS6 : SmW b g cap ts s3 w M ⟨t0, t1, [112, 114, 105, 110, 116], t3⟩ #[.int .u8 7, .int .i64 ((s.n : Int) + 1), .string ⟨#[]⟩, .int .u8 0, .int .i64 0, .int .i64 (t1 : Int), .slice (some ⟨gr, 0, none⟩) 1 1, .slice none 0 0, .slice none 0 0] Y2 := by
        rw [hY2]; exact (hS5.set hlt hgl 0 (.int .u8 7)).set hlt hgl 6 _
      have hx6 : ExRow Y2 (fun h => M + 1 < h) [x] (.slice (some ⟨gr, 0, none⟩) 1 1) := by
        rw [hY2]
        exact (hx.stays (stays_of_grown (ok' := fun h => M + 1 < h) (Lib.grownBy_setCell _ (M + 1) 0 _) fun h hh => ⟨by omega, by omega⟩)).stays (stays_of_grown (Lib.grownBy_setCell _ (M + 1) 6 _) fun h hh => ⟨by omega, hh⟩)
      have HS6 := Lib.hid (And.intro hS6 hx6)
      have HY2 := Lib.hid hY2
      have HE := Lib.hid (HExp.out s3 Y2 hS6.pw)
      clear hg hr h4 hp hS5 hS6 hx6 hx hY2 HC
      go_upto_region 23 with (fail)
      rw [← HY2.out]
      clear k0 k1 k2 k3 k4 k5 k6 k7 k8 f0 f1 f2 f3 f4 f5 f6 f7 f8
      go_wp2_with fail
      refine HE.out.mono ?_
      rintro e w5 h5
      rcases h5.elim with ⟨pn, hr, hg, rfl⟩ | ⟨⟨q0, q1, q2, q3⟩, s4, hr, hg, rfl, hp⟩
      · have FIN := Lib.hid (RPost.err (α := Sm) (g := g) (cap := cap) (ts := ts) (V := smE w.heap.size) (HR3.out.trans (by rw [hr]; rfl)) (gtrans (row := some b) HS6.out.1.grown hg))
        clear hg hr h5
        go_wp2
        exact ⟨rfl, FIN.out⟩
      · have hS7 := HS6.out.1.other (s' := s4) hlt hg hp
        have hx7 : ExRow w5 (fun h => w.heap.size < h) [x] (.slice (some ⟨gr, 0, none⟩) 1 1) := HS6.out.2.stays (stays_of_grown hg fun h hh => ⟨by omega, by omega⟩)
        have hfin := SmW.fin (k := 7) (id := s.n + 1) (nm := []) (t := 0) (n := 0) (pos := t1) (a1 := some ⟨gr, 0, none⟩) (m1 := 1) (c1 := 1) (a2 := none) (m2 := 0) (c2 := 0) (a3 := none) (m3 := 0) (c3 := 0) (x := .mk 7 (s.n + 1) [] 0 0 t1 [x] [] []) HW.out hS7 (by
          simp only [SmC]
          exact ⟨_, _, _, rfl, hx7, by simp, by simp⟩) _ rfl
        obtain ⟨U, hU⟩ : ∃ U, U = set9 w5 w.heap.size (.int .u8 7) (.int .i64 ((s.n : Int) + 1)) (.string ⟨#[]⟩) (.int .u8 0) (.int .i64 0) (.int .i64 (t1 : Int)) (.slice (some ⟨gr, 0, none⟩) 1 1) (.slice none 0 0) (.slice none 0 0) := ⟨_, rfl⟩
        have hfin2 : Blk w.heap.size #[.int .u8 7, .int .i64 ((s.n : Int) + 1), .string ⟨#[]⟩, .int .u8 0, .int .i64 0, .int .i64 (t1 : Int), .slice (some ⟨gr, 0, none⟩) 1 1, .slice none 0 0, .slice none 0 0] 39 U ∧ w.grownBy U (some b) ∧ PW b g cap ts s4 U ∧
            smE w.heap.size (.mk 7 (s.n + 1) [] 0 0 t1 [x] [] []) (.returned (.agg #[.int .u8 7, .int .i64 ((s.n : Int) + 1), .string ⟨#[]⟩, .int .u8 0, .int .i64 0, .int .i64 (t1 : Int), .slice (some ⟨gr, 0, none⟩) 1 1, .slice none 0 0, .slice none 0 0])) U := by rw [hU]; exact hfin
        have FIN := Lib.hid hfin2
        have HU := Lib.hid hU
        have HR7 := Lib.hid (HR3.out.trans (by rw [hr, bindR_ok]))
        obtain ⟨k0, k1, k2, k3, k4, k5, k6, k7, k8⟩ := hS7.box.get9
        obtain ⟨z0, z1, z2, z3, z4, z5, z6, z7, z8⟩ := hS7.res.get9
        obtain ⟨e0, e1, e2, e3, e4, e5, e6, e7, e8⟩ := hS7.res.free9
        clear hg hr hp h5 hS7 hx7 hfin hfin2 hU
        try unfold tokV'
        go_wp2
        rw [← set9_eq, ← HU.out]
        obtain ⟨y0, y1, y2, y3, y4, y5, y6, y7, y8⟩ := FIN.out.1.get9
        clear k0 k1 k2 k3 k4 k5 k6 k7 k8 z0 z1 z2 z3 z4 z5 z6 z7 z8 e0 e1 e2 e3 e4 e5 e6 e7 e8
        exact bodyPost_ret (v := .agg #[.int .u8 7, .int .i64 ((s.n : Int) + 1), .string ⟨#[]⟩, .int .u8 0, .int .i64 0, .int .i64 (t1 : Int), .slice (some ⟨gr, 0, none⟩) 1 1, .slice none 0 0, .slice none 0 0]) (by simp [results, Tryz.results71, go_sem, y0, y1, y2, y3, y4, y5, y6, y7, y8]) rfl (RPost.ok HR7.out FIN.out.2.1 FIN.out.2.2.2 FIN.out.2.2.1)
end Go.Proofs.YtcgllooeimacdaaGreatDoor

/-! Statements that begin with a word. -/

namespace Go.Proofs.YtcgllooeimacdaaGreatDoor
open Go Go.RowKit Px
open Lx (Tok)

set_option maxRecDepth 100000 in
set_option maxHeartbeats 2000000 in
theorem statement_while (F : Nat) (hB : BlkC F) (hF : F ≤ 1000000) (b g cap : Nat) (ts : List Tok) (s : St) (w : World) (hw : PW b g cap ts s w) (hn : s.n ≤ s.i) (hk1 : (tk ts s.i).kind ≠ 1) (htx : (tk ts s.i).text = [119, 104, 105, 108, 101]) (hne : smF ts (F + 1) s ≠ gone) :
    Calls Tryz.prog 71 #[.pointer (some ⟨b, 0, none⟩)] w (RPost b g cap ts w (smE w.heap.size) (smF ts (F + 1) s)) := by
  have hrb : smF ts (F + 1) s = whileB ts F (s.n + 1) (tk ts s.i).pos (blockF ts F) ⟨s.i, s.o, s.n + 1⟩ := by
    rw [smF, if_neg hk1, htx]
    rfl
  rw [hrb] at hne
  have HRB := Lib.hid hrb
  clear hrb
  have HNE := Lib.hid hne
  obtain ⟨W, hW⟩ : ∃ W, W = w.alloc sm0 := ⟨_, rfl⟩
  have hbW : Below w.heap.size w W := by rw [hW]; exact (Below.refl _ _).alloc (Nat.le_refl _) _
  have hz : Blk w.heap.size zSm 39 W := by rw [hW]; exact Blk.new _ _ _
  have hWs : W.heap.size = w.heap.size + 1 := by rw [hW]; simp
  have HN := Lib.hid (next_any b g cap ts s W (hw.below hbW))
  have HW := Lib.hid hw
  have HH := Lib.hid (And.intro hbW (And.intro hz hWs))
  have HWW := Lib.hid hW
  have hlt := hw.blk.lt
  have hgl := hw.toks.lt
  have hil := hw.lt
  have hle := hw.len
  have hn0 : (s.n : Int) < 90000 := by omega
  have HTK := Lib.hid fun w1 (h1 : PW b g cap ts ⟨s.i, s.o, s.n + 1⟩ w1) => take_R b g cap ts ⟨s.i, s.o, s.n + 1⟩ w1 h1 (Or.inr (by rw [htx]; simp))
  have HEx := Lib.hid fun s' w1 (h1 : PW b g cap ts s' w1) (h : binF ts F 1 s' ≠ gone) => one_any F b g cap ts s' w1 h1 h
  have HBl := Lib.hid fun s' w1 (h1 : PW b g cap ts s' w1) (h2 : s'.n ≤ s'.i) (h : blockF ts F s' ≠ gone) => hB b g cap ts s' w1 h1 h2 hF h
  clear hw hbW hz hW hWs hne hB
  rcases htk : tk ts s.i with ⟨t0, t1, t2, t3⟩
  simp only [htk] at HNE HN hk1 htx HRB
  subst htx
  have hk1' : ((t0 : Int) == 1) = false := by rw [beq_eq_false_iff_ne]; omega
  clear htk hk1
  go_enter Tryz.func71, Tryz.ntmps71
  go_wp2_with fail
  rw [← HWW.out]
  refine HN.out.mono ?_
  rintro e w1 ⟨rfl, hb1⟩
  unfold tokV'
  obtain ⟨V, hV⟩ : ∃ V, V = w1.alloc (.cells #[.int .u8 (t0 : Int), .int .i64 (t1 : Int), .string ⟨#[119, 104, 105, 108, 101]⟩, .int .i64 (t3 : Int)] 55) := ⟨_, rfl⟩
  have hbV : Below w.heap.size w V := by rw [hV]; exact (HH.out.1.trans (hb1.mono HH.out.1.size)).alloc (by have := hb1.size; have := HH.out.2.2; omega) _
  have hpV := HW.out.below hbV
  have htV : Blk w1.heap.size #[.int .u8 (t0 : Int), .int .i64 (t1 : Int), .string ⟨#[119, 104, 105, 108, 101]⟩, .int .i64 (t3 : Int)] 55 V := by rw [hV]; exact Blk.new _ _ _
  have hzV : Blk w.heap.size zSm 39 V := by rw [hV]; exact (HH.out.2.1.below hb1 (by have := HH.out.2.2; omega)).below ((Below.refl _ _).alloc (Nat.le_refl _) _) (by have := hb1.size; have := HH.out.2.2; omega)
  have hsV : V.heap.size = w1.heap.size + 1 := by rw [hV]; simp
  have hs1 : w.heap.size < w1.heap.size := by have := hb1.size; have := HH.out.2.2; omega
  have p3 := hpV.blk.g3
  have q3 := hpV.blk.free 3
  have hVV := Lib.hid hV
  have HV := Lib.hid (And.intro hbV (And.intro hpV (And.intro htV (And.intro hzV hsV))))
  clear hb1 hbV hpV htV hzV hsV hV HN
  go_upto_region 2 with (fail)
  rw [← hVV.out]
  clear hVV
  go_upto_region 3 with (fail)
  obtain ⟨X, hX⟩ : ∃ X, X = V.setCell ⟨b, 3, none⟩ (.int .i64 ((s.n : Int) + 1)) := ⟨_, rfl⟩
  have hgX : V.grownBy X (some b) := by rw [hX]; exact Lib.grownBy_setCell _ _ _ _
  have hpX : PW b g cap ts ⟨s.i, s.o, s.n + 1⟩ X := by
    have h := HV.out.2.1
    refine h.step hgX ⟨s.i, s.o, s.n + 1⟩ ?_ h.lt h.olo h.ohi (by show s.n + 1 ≤ 100000; omega)
    rw [hX]
    exact h.blk.set3 (s.n + 1)
  have htX := HV.out.2.2.1.other hgX (by simp; omega)
  have hzX := HV.out.2.2.2.1.other hgX (by simp; omega)
  have hsX : X.heap.size = w1.heap.size + 1 := by rw [hX]; simp [World.setCell]; exact HV.out.2.2.2.2
  rw [← hX]
  have p3 : X.cell? ⟨b, 3, none⟩ = some (.int .i64 ((s.n : Int) + 1)) := hpX.blk.g3
  have c1 := htX.get 1 (.int .i64 (t1 : Int)) rfl
  have hne1 := World.new_ne X _ p3
  have hne2 := World.new_ne X _ c1
  have HX := Lib.hid (And.intro (gtrans (row := some b) (grown_of_below HV.out.1) hgX) (And.intro hpX (And.intro htX (And.intro hzX hsX))))
  clear hgX hpX htX hzX hsX hX q3
  go_region_held3 (fun w' => w'.cell? ⟨b, 3, none⟩ = some (.int .i64 ((s.n : Int) + 1)) ∧ w'.cell? ⟨w1.heap.size, 1, none⟩ = some (.int .i64 (t1 : Int))) (go_keep) (fail)
  obtain ⟨Z, hZ⟩ : ∃ Z, Z = (X.alloc (.cells #[.int .u8 0, .int .i64 ((s.n : Int) + 1), .string ⟨#[]⟩, .int .u8 0, .int .i64 0, .int .i64 (t1 : Int), .slice none 0 0, .slice none 0 0, .slice none 0 0] 39)).drew := ⟨_, rfl⟩
  rw [← hZ, HX.out.2.2.2.2]
  have hSM : SmW b g cap ts ⟨s.i, s.o, s.n + 1⟩ w w1.heap.size ⟨t0, t1, [119, 104, 105, 108, 101], t3⟩ #[.int .u8 0, .int .i64 ((s.n : Int) + 1), .string ⟨#[]⟩, .int .u8 0, .int .i64 0, .int .i64 (t1 : Int), .slice none 0 0, .slice none 0 0, .slice none 0 0] Z := by
    obtain ⟨x1, x2, x3, x4, x5⟩ := HX.out
    have hbZ : Below X.heap.size X Z := by rw [hZ]; exact ((Below.refl _ _).alloc (Nat.le_refl _) _).drew
    exact ⟨gtrans x1 (grown_of_below hbZ), x4.below hbZ x4.lt, x3.below hbZ x3.lt, by rw [hZ]; exact (Blk.new' X _ _ x5.symm), x2.below hbZ, hs1⟩
  have HSM := Lib.hid hSM
  obtain ⟨d0, d1, d2, d3⟩ := hSM.tok.get4
  clear hZ hSM p3 c1 hne1 hne2
  generalize w1.heap.size = M at *
  go_wp2_with fail
  refine (HTK.out Z HSM.out.pw).mono ?_
  rintro e w2 h2
  rcases h2.elim with ⟨pn, hr, hg, rfl⟩ | ⟨tt, s2, hr, hg, rfl, hp⟩
  · have FIN := Lib.hid (RPost.err (α := Sm) (g := g) (cap := cap) (ts := ts) (V := smE w.heap.size) (HRB.out.trans (by unfold whileB; rw [hr]; rfl)) (gtrans (row := some b) HSM.out.grown hg))
    clear hg hr h2
    go_wp2
    exact ⟨rfl, FIN.out⟩
  · have HS2 := Lib.hid (HSM.out.other (s' := s2) hlt hg hp)
    have HR2 := Lib.hid (HRB.out.trans (by unfold whileB; rw [hr, bindR_ok]))
    have hne2 := HNE.out
    unfold whileB at hne2
    rw [hr, bindR_ok] at hne2
    have b2 := takeR_bal hr
    have HNE2 := Lib.hid hne2
    have HC := Lib.hid (HEx.out s2 w2 hp (bindR_gone hne2))
    clear hg hr h2 hp hne2 d0 d1 d2 d3
    go_wp2_with fail
    refine HC.out.mono ?_
    rintro e w4 h4
    rcases h4.elim with ⟨pn, hr, hg, rfl⟩ | ⟨x, s3, hr, hg, ⟨gr, rfl, hx⟩, hp⟩
    · have FIN := Lib.hid (RPost.err (α := Sm) (g := g) (cap := cap) (ts := ts) (V := smE w.heap.size) (HR2.out.trans (by rw [hr]; rfl)) (gtrans (row := some b) HS2.out.grown hg))
      clear hg hr h4
      go_wp2
      exact ⟨rfl, FIN.out⟩
    · have hx := hx.row
      have HS5 := Lib.hid (HS2.out.other (s' := s3) hlt hg hp)
      have hM4 := HS2.out.box.lt
      have HR3 := Lib.hid (HR2.out.trans (by rw [hr, bindR_ok]))
      have b3 := bin_bal hr
      have hn3 : s3.n ≤ s3.i := by unfold Bal at b2 b3; simp only at b2; omega
      have hne3 := HNE2.out
      rw [hr, bindR_ok] at hne3
      have HX5 := Lib.hid hx
      have hs5 := hg.size
      have HC1 := Lib.hid (HBl.out s3 w4 hp hn3 (bindR_gone hne3))
      clear hg hr h4 hp hx HC hne3
      go_wp2_with fail
      refine HC1.out.mono ?_
      rintro e w5 h5
      rcases h5.elim with ⟨pn, hr, hg, rfl⟩ | ⟨l, s4, hr, hg, ⟨a2, m2, c2, rfl, hl⟩, hp⟩
      · have FIN := Lib.hid (RPost.err (α := Sm) (g := g) (cap := cap) (ts := ts) (V := smE w.heap.size) (HR3.out.trans (by rw [hr]; rfl)) (gtrans (row := some b) HS5.out.grown hg))
        clear hg hr h5
        go_wp2
        exact ⟨rfl, FIN.out⟩
      · have hS6 := HS5.out.other (s' := s4) hlt hg hp
        have hx6 : ExRow w5 (fun h => M + 1 < h) [x] (.slice (some ⟨gr, 0, none⟩) 1 1) := HX5.out.stays (stays_of_grown hg fun h hh => ⟨by omega, by omega⟩)
        have hl6 : SmRow w5 (fun h => M + 1 < h) l (.slice a2 m2 c2) := hl.stays (stays_weaken fun h hh _ => by omega)
        have HR4 := Lib.hid (HR3.out.trans (by rw [hr, bindR_ok]))
        obtain ⟨k0, k1, k2, k3, k4, k5, k6, k7, k8⟩ := hS6.box.get9
        obtain ⟨f0, f1, f2, f3, f4, f5, f6, f7, f8⟩ := hS6.box.free9
        obtain ⟨Y2, hY2⟩ : ∃ Y2, Y2 = ((w5.setCell ⟨M + 1, 0, none⟩ (.int .u8 5)).setCell ⟨M + 1, 6, none⟩ (.slice (some ⟨gr, 0, none⟩) 1 1)).setCell ⟨M + 1, 7, none⟩ (.slice a2 m2 c2) := ⟨_, rfl⟩
        have hS7 : SmW b g cap ts s4 w M ⟨t0, t1, [119, 104, 105, 108, 101], t3⟩ #[.int .u8 5, .int .i64 ((s.n : Int) + 1), .string ⟨#[]⟩, .int .u8 0, .int .i64 0, .int .i64 (t1 : Int), .slice (some ⟨gr, 0, none⟩) 1 1, .slice a2 m2 c2, .slice none 0 0] Y2 := by
          rw [hY2]; exact ((hS6.set hlt hgl 0 (.int .u8 5)).set hlt hgl 6 _).set hlt hgl 7 _
        have hst : Stays w5 (fun h => M + 1 < h) Y2 (fun h => w.heap.size < h) := fun h hh hl => by
          have hh' : M + 1 < h := hh
          have hne : h ≠ M + 1 := by omega
          rw [hY2]
          exact ⟨(Below.heap_setCell _ _ _ _ hne).trans ((Below.heap_setCell _ _ _ _ hne).trans (Below.heap_setCell _ _ _ _ hne)), by omega⟩
        have HY2 := Lib.hid hY2
        have hx7 := hx6.stays hst
        have hl7 := hl6.stays hst
        clear hY2 hst hx6 hl6 hl
        go_upto_region 24 with (fail)
        rw [← HY2.out]
        clear k0 k1 k2 k3 k4 k5 k6 k7 k8 f0 f1 f2 f3 f4 f5 f6 f7 f8 hS6 HC1
        have hfin := SmW.fin (k := 5) (id := s.n + 1) (nm := []) (t := 0) (n := 0) (pos := t1) (a1 := some ⟨gr, 0, none⟩) (m1 := 1) (c1 := 1) (a2 := a2) (m2 := m2) (c2 := c2) (a3 := none) (m3 := 0) (c3 := 0) (x := .mk 5 (s.n + 1) [] 0 0 t1 [x] l []) HW.out hS7 (by
          simp only [SmC]
          exact ⟨_, _, _, rfl, hx7, hl7, by simp⟩) _ rfl
        obtain ⟨U, hU⟩ : ∃ U, U = set9 Y2 w.heap.size (.int .u8 5) (.int .i64 ((s.n : Int) + 1)) (.string ⟨#[]⟩) (.int .u8 0) (.int .i64 0) (.int .i64 (t1 : Int)) (.slice (some ⟨gr, 0, none⟩) 1 1) (.slice a2 m2 c2) (.slice none 0 0) := ⟨_, rfl⟩
        have hfin2 : Blk w.heap.size #[.int .u8 5, .int .i64 ((s.n : Int) + 1), .string ⟨#[]⟩, .int .u8 0, .int .i64 0, .int .i64 (t1 : Int), .slice (some ⟨gr, 0, none⟩) 1 1, .slice a2 m2 c2, .slice none 0 0] 39 U ∧ w.grownBy U (some b) ∧ PW b g cap ts s4 U ∧
            smE w.heap.size (.mk 5 (s.n + 1) [] 0 0 t1 [x] l []) (.returned (.agg #[.int .u8 5, .int .i64 ((s.n : Int) + 1), .string ⟨#[]⟩, .int .u8 0, .int .i64 0, .int .i64 (t1 : Int), .slice (some ⟨gr, 0, none⟩) 1 1, .slice a2 m2 c2, .slice none 0 0])) U := by rw [hU]; exact hfin
        have FIN := Lib.hid hfin2
        have HU := Lib.hid hU
        have HR7 := Lib.hid (HR4.out)
        obtain ⟨k0, k1, k2, k3, k4, k5, k6, k7, k8⟩ := hS7.box.get9
        obtain ⟨z0, z1, z2, z3, z4, z5, z6, z7, z8⟩ := hS7.res.get9
        obtain ⟨e0, e1, e2, e3, e4, e5, e6, e7, e8⟩ := hS7.res.free9
        clear hg hr hp h5 hS7 hx7 hl7 hfin hfin2 hU
        try unfold tokV'
        go_wp2
        rw [← set9_eq, ← HU.out]
        obtain ⟨y0, y1, y2, y3, y4, y5, y6, y7, y8⟩ := FIN.out.1.get9
        clear k0 k1 k2 k3 k4 k5 k6 k7 k8 z0 z1 z2 z3 z4 z5 z6 z7 z8 e0 e1 e2 e3 e4 e5 e6 e7 e8
        exact bodyPost_ret (v := .agg #[.int .u8 5, .int .i64 ((s.n : Int) + 1), .string ⟨#[]⟩, .int .u8 0, .int .i64 0, .int .i64 (t1 : Int), .slice (some ⟨gr, 0, none⟩) 1 1, .slice a2 m2 c2, .slice none 0 0]) (by simp [results, Tryz.results71, go_sem, y0, y1, y2, y3, y4, y5, y6, y7, y8]) rfl (RPost.ok HR7.out FIN.out.2.1 FIN.out.2.2.2 FIN.out.2.2.1)

set_option maxRecDepth 100000 in
set_option maxHeartbeats 2000000 in
theorem statement_wrong (F : Nat) (b g cap : Nat) (ts : List Tok) (s : St) (w : World) (hw : PW b g cap ts s w) (hn : s.n ≤ s.i) (hk1 : (tk ts s.i).kind ≠ 1) (hx0 : (tk ts s.i).text ≠ [108, 101, 116]) (hx1 : (tk ts s.i).text ≠ [105, 102]) (hx2 : (tk ts s.i).text ≠ [119, 104, 105, 108, 101]) (hx3 : (tk ts s.i).text ≠ [114, 101, 116, 117, 114, 110]) (hx4 : (tk ts s.i).text ≠ [112, 114, 105, 110, 116]) (hne : smF ts (F + 1) s ≠ gone) :
    Calls Tryz.prog 71 #[.pointer (some ⟨b, 0, none⟩)] w (RPost b g cap ts w (smE w.heap.size) (smF ts (F + 1) s)) := by
  have hrb : smF ts (F + 1) s = wrongR ts s := by
    rw [smF, if_neg hk1, if_neg hx0, if_neg hx1, if_neg hx2, if_neg hx3, if_neg hx4]
  have HRB := Lib.hid hrb
  clear hrb
  obtain ⟨W, hW⟩ : ∃ W, W = w.alloc sm0 := ⟨_, rfl⟩
  have hbW : Below w.heap.size w W := by rw [hW]; exact (Below.refl _ _).alloc (Nat.le_refl _) _
  have hz : Blk w.heap.size zSm 39 W := by rw [hW]; exact Blk.new _ _ _
  have hWs : W.heap.size = w.heap.size + 1 := by rw [hW]; simp
  have HN := Lib.hid (next_any b g cap ts s W (hw.below hbW))
  have HW := Lib.hid hw
  have HH := Lib.hid (And.intro hbW (And.intro hz hWs))
  have HWW := Lib.hid hW
  have hlt := hw.blk.lt
  have hgl := hw.toks.lt
  have hil := hw.lt
  have hle := hw.len
  have hn0 : (s.n : Int) < 90000 := by omega
  have HWr := Lib.hid fun w1 (h1 : PW b g cap ts ⟨s.i, s.o, s.n + 1⟩ w1) => wrong_any b g cap ts ⟨s.i, s.o, s.n + 1⟩ w1 h1
  clear hw hbW hz hW hWs hne
  rcases htk : tk ts s.i with ⟨t0, t1, t2, t3⟩
  simp only [htk] at HN hk1 hx0 hx1 hx2 hx3 hx4 HWr
  have y0 : (t2 == [108, 101, 116]) = false := by simpa using hx0
  have y1 : (t2 == [105, 102]) = false := by simpa using hx1
  have y2 : (t2 == [119, 104, 105, 108, 101]) = false := by simpa using hx2
  have y3 : (t2 == [114, 101, 116, 117, 114, 110]) = false := by simpa using hx3
  have y4 : (t2 == [112, 114, 105, 110, 116]) = false := by simpa using hx4
  clear hx0 hx1 hx2 hx3 hx4
  have hk1' : ((t0 : Int) == 1) = false := by rw [beq_eq_false_iff_ne]; omega
  have HTE := Lib.hid htk
  clear htk hk1
  go_enter Tryz.func71, Tryz.ntmps71
  go_wp2_with fail
  rw [← HWW.out]
  refine HN.out.mono ?_
  rintro e w1 ⟨rfl, hb1⟩
  unfold tokV'
  obtain ⟨V, hV⟩ : ∃ V, V = w1.alloc (.cells #[.int .u8 (t0 : Int), .int .i64 (t1 : Int), .string ⟨t2.toArray⟩, .int .i64 (t3 : Int)] 55) := ⟨_, rfl⟩
  have hbV : Below w.heap.size w V := by rw [hV]; exact (HH.out.1.trans (hb1.mono HH.out.1.size)).alloc (by have := hb1.size; have := HH.out.2.2; omega) _
  have hpV := HW.out.below hbV
  have htV : Blk w1.heap.size #[.int .u8 (t0 : Int), .int .i64 (t1 : Int), .string ⟨t2.toArray⟩, .int .i64 (t3 : Int)] 55 V := by rw [hV]; exact Blk.new _ _ _
  have hzV : Blk w.heap.size zSm 39 V := by rw [hV]; exact (HH.out.2.1.below hb1 (by have := HH.out.2.2; omega)).below ((Below.refl _ _).alloc (Nat.le_refl _) _) (by have := hb1.size; have := HH.out.2.2; omega)
  have hsV : V.heap.size = w1.heap.size + 1 := by rw [hV]; simp
  have hs1 : w.heap.size < w1.heap.size := by have := hb1.size; have := HH.out.2.2; omega
  have p3 := hpV.blk.g3
  have q3 := hpV.blk.free 3
  have hVV := Lib.hid hV
  have HV := Lib.hid (And.intro hbV (And.intro hpV (And.intro htV (And.intro hzV hsV))))
  clear hb1 hbV hpV htV hzV hsV hV HN
  go_upto_region 2 with (fail)
  rw [← hVV.out]
  clear hVV
  go_upto_region 3 with (fail)
  obtain ⟨X, hX⟩ : ∃ X, X = V.setCell ⟨b, 3, none⟩ (.int .i64 ((s.n : Int) + 1)) := ⟨_, rfl⟩
  have hgX : V.grownBy X (some b) := by rw [hX]; exact Lib.grownBy_setCell _ _ _ _
  have hpX : PW b g cap ts ⟨s.i, s.o, s.n + 1⟩ X := by
    have h := HV.out.2.1
    refine h.step hgX ⟨s.i, s.o, s.n + 1⟩ ?_ h.lt h.olo h.ohi (by show s.n + 1 ≤ 100000; omega)
    rw [hX]
    exact h.blk.set3 (s.n + 1)
  have htX := HV.out.2.2.1.other hgX (by simp; omega)
  have hzX := HV.out.2.2.2.1.other hgX (by simp; omega)
  have hsX : X.heap.size = w1.heap.size + 1 := by rw [hX]; simp [World.setCell]; exact HV.out.2.2.2.2
  rw [← hX]
  have p3 : X.cell? ⟨b, 3, none⟩ = some (.int .i64 ((s.n : Int) + 1)) := hpX.blk.g3
  have c1 := htX.get 1 (.int .i64 (t1 : Int)) rfl
  have hne1 := World.new_ne X _ p3
  have hne2 := World.new_ne X _ c1
  have HX := Lib.hid (And.intro (gtrans (row := some b) (grown_of_below HV.out.1) hgX) (And.intro hpX (And.intro htX (And.intro hzX hsX))))
  clear hgX hpX htX hzX hsX hX q3
  go_region_held3 (fun w' => w'.cell? ⟨b, 3, none⟩ = some (.int .i64 ((s.n : Int) + 1)) ∧ w'.cell? ⟨w1.heap.size, 1, none⟩ = some (.int .i64 (t1 : Int))) (go_keep) (fail)
  obtain ⟨Z, hZ⟩ : ∃ Z, Z = (X.alloc (.cells #[.int .u8 0, .int .i64 ((s.n : Int) + 1), .string ⟨#[]⟩, .int .u8 0, .int .i64 0, .int .i64 (t1 : Int), .slice none 0 0, .slice none 0 0, .slice none 0 0] 39)).drew := ⟨_, rfl⟩
  rw [← hZ, HX.out.2.2.2.2]
  have hSM : SmW b g cap ts ⟨s.i, s.o, s.n + 1⟩ w w1.heap.size ⟨t0, t1, t2, t3⟩ #[.int .u8 0, .int .i64 ((s.n : Int) + 1), .string ⟨#[]⟩, .int .u8 0, .int .i64 0, .int .i64 (t1 : Int), .slice none 0 0, .slice none 0 0, .slice none 0 0] Z := by
    obtain ⟨x1, x2, x3, x4, x5⟩ := HX.out
    have hbZ : Below X.heap.size X Z := by rw [hZ]; exact ((Below.refl _ _).alloc (Nat.le_refl _) _).drew
    exact ⟨gtrans x1 (grown_of_below hbZ), x4.below hbZ x4.lt, x3.below hbZ x3.lt, by rw [hZ]; exact (Blk.new' X _ _ x5.symm), x2.below hbZ, hs1⟩
  have HSM := Lib.hid hSM
  obtain ⟨d0, d1, d2, d3⟩ := hSM.tok.get4
  clear hZ hSM p3 c1 hne1 hne2
  generalize w1.heap.size = M at *
  have HC := Lib.hid (HWr.out Z HSM.out.pw)
  go_wp2_with fail
  refine HC.out.mono ?_
  rintro e w2 ⟨rfl, hb2⟩
  have FIN := Lib.hid (RPost.err (α := Sm) (g := g) (cap := cap) (ts := ts) (V := smE w.heap.size) (pn := (t1, 4)) (HRB.out.trans (by unfold wrongR; rw [HTE.out])) (gtrans (row := some b) HSM.out.grown (grown_of_below hb2)))
  clear hb2
  go_wp2
  exact ⟨rfl, FIN.out⟩
end Go.Proofs.YtcgllooeimacdaaGreatDoor

/-! A statement, whichever it is. -/

namespace Go.Proofs.YtcgllooeimacdaaGreatDoor
open Go Go.RowKit Px
open Lx (Tok)

theorem statement_step {F : Nat} (hB : BlkC F) : SmCt (F + 1) := by
  intro b g cap ts s w hw hn hF hne
  by_cases hk : (tk ts s.i).kind = 1
  · exact statement_named F b g cap ts s w hw hn hk hne
  by_cases h1 : (tk ts s.i).text = [108, 101, 116]
  · exact statement_let F b g cap ts s w hw hn hk h1 hne
  by_cases h2 : (tk ts s.i).text = [105, 102]
  · exact statement_if F hB (by omega) b g cap ts s w hw hn hk h2 hne
  by_cases h3 : (tk ts s.i).text = [119, 104, 105, 108, 101]
  · exact statement_while F hB (by omega) b g cap ts s w hw hn hk h3 hne
  by_cases h4 : (tk ts s.i).text = [114, 101, 116, 117, 114, 110]
  · exact statement_ret F b g cap ts s w hw hn hk h4 hne
  by_cases h5 : (tk ts s.i).text = [112, 114, 105, 110, 116]
  · exact statement_print F b g cap ts s w hw hn hk h5 hne
  exact statement_wrong F b g cap ts s w hw hn hk h1 h2 h3 h4 h5 hne
end Go.Proofs.YtcgllooeimacdaaGreatDoor
