/-
  A name that stands alone.
-/
import Derived.Test.YtoimhdejfeclpaaGreatDoorTUn
namespace Go.Proofs.YtoimhdejfeclpaaGreatDoor
open Go Go.RowKit Px
open Lx (Tok)

set_option maxRecDepth 100000 in
set_option maxHeartbeats 1000000 in
theorem use_var (b g cap : Nat) (ts : List Tok) (s : St) (w : World) (hw : PW b g cap ts s w) (t0 t1 : Nat) (t2 : Bytes) (t3 : Nat) (h1 : (tk ts s.i).text ≠ [91]) (h2 : (tk ts s.i).text ≠ [40]) :
    Calls Tryz.prog 168 #[.pointer (some ⟨b, 0, none⟩), .agg #[.int .u8 (t0 : Int), .int .i64 (t1 : Int), .string ⟨t2.toArray⟩, .int .i64 (t3 : Int)]] w (RPost b g cap ts w (exE w.heap.size) (.ok (.mk 3 0 t2 0 t1 [], s))) := by
  obtain ⟨W1, hW1⟩ : ∃ W1, W1 = w.alloc (.cells #[.int .u8 (t0 : Int), .int .i64 (t1 : Int), .string ⟨t2.toArray⟩, .int .i64 (t3 : Int)] 55) := ⟨_, rfl⟩
  have hb1 : Below w.heap.size w W1 := by rw [hW1]; exact (Below.refl _ _).alloc (Nat.le_refl _) _
  have hs1 : W1.heap.size = w.heap.size + 1 := by rw [hW1]; simp
  have ht1 : Blk w.heap.size #[.int .u8 (t0 : Int), .int .i64 (t1 : Int), .string ⟨t2.toArray⟩, .int .i64 (t3 : Int)] 55 W1 := by rw [hW1]; exact Blk.new _ _ _
  obtain ⟨W, hW⟩ : ∃ W, W = W1.alloc ex0 := ⟨_, rfl⟩
  have hbW : Below W1.heap.size W1 W := by rw [hW]; exact (Below.refl _ _).alloc (Nat.le_refl _) _
  have hz : Blk W1.heap.size zEx 36 W := by rw [hW]; exact Blk.new _ _ _
  have hp1 := hw.below hb1
  have e1 : ((tk ts s.i).text == [91]) = false := by simpa using h1
  have e2 : ((tk ts s.i).text == [40]) = false := by simpa using h2
  have HI := Lib.hid fun x w1 (h : PW b g cap ts s w1) => is_any b g cap ts s x w1 h
  have HH := Lib.hid (And.intro hb1 (And.intro hbW (And.intro hz (And.intro hp1 (And.intro ht1 hs1)))))
  have HWW := Lib.hid (show W = (w.alloc (.cells #[.int .u8 (t0 : Int), .int .i64 (t1 : Int), .string ⟨t2.toArray⟩, .int .i64 (t3 : Int)] 55)).alloc ex0 by rw [hW, hW1])
  have HE := Lib.hid (And.intro e1 e2)
  clear hw hW hW1 hb1 hbW hz hp1 ht1 e1 e2 h1 h2
  go_enter Tryz.func168, Tryz.ntmps168
  go_upto_region 1 with (fail)
  rw [← HWW.out]
  go_wp2_with fail
  refine (HI.out [91] W (HH.out.2.2.2.1.below HH.out.2.1)).mono ?_
  rintro e w2 ⟨rfl, hb2⟩
  have H2 := Lib.hid (HH.out.2.1.trans (hb2.mono HH.out.2.1.size))
  have HZ2 := Lib.hid (HH.out.2.2.1.below hb2 HH.out.2.2.1.lt)
  rw [HE.out.1]
  clear hb2
  go_wp2_with fail
  refine (HI.out [40] w2 (HH.out.2.2.2.1.below H2.out)).mono ?_
  rintro e w3 ⟨rfl, hb3⟩
  have H3 := Lib.hid (H2.out.trans (hb3.mono H2.out.size))
  have hz3 := HZ2.out.below hb3 HZ2.out.lt
  have ht3 := HH.out.2.2.2.2.1.below H3.out (by have := HH.out.2.2.2.2.2; omega)
  rw [HE.out.2]
  have hfin := ex_fin (k := 3) (op := 0) (nm := t2) (n := 0) (pos := t1) (a := none) (m := 0) (c := 0) (x := .mk 3 0 t2 0 t1 []) HH.out.2.2.2.1 (gtrans (row := some b) (grown_of_below H3.out) (grown_of_below (Below.refl _ _))) hz3 (HH.out.2.2.2.1.below H3.out) (by simp [ExC])
  rw [hs1] at hfin hz3
  obtain ⟨z0, z1, z2, z3, z4, z5⟩ := hz3.get6
  obtain ⟨f0, f1, f2, f3, f4, f5⟩ := hz3.free6
  obtain ⟨c0, c1, c2, c3⟩ := ht3.get4
  obtain ⟨U, hU⟩ : ∃ U, U = set6 w3 (w.heap.size + 1) (.int .u8 3) (.int .u8 0) (.string ⟨t2.toArray⟩) (.int .i64 0) (.int .i64 (t1 : Int)) (.slice none 0 0) := ⟨_, rfl⟩
  have hfin2 : Blk (w.heap.size + 1) #[.int .u8 3, .int .u8 0, .string ⟨t2.toArray⟩, .int .i64 0, .int .i64 (t1 : Int), .slice none 0 0] 36 U ∧ W1.grownBy U (some b) ∧ PW b g cap ts s U ∧
      exE (w.heap.size + 1) (.mk 3 0 t2 0 t1 []) (.returned (.agg #[.int .u8 3, .int .u8 0, .string ⟨t2.toArray⟩, .int .i64 0, .int .i64 (t1 : Int), .slice none 0 0])) U := by rw [hU]; exact hfin
  have FIN := Lib.hid hfin2
  have HUU := Lib.hid hU
  clear hb3 hz3 ht3 hfin hfin2 hU
  go_wp2
  rw [← set6_eq, ← HUU.out]
  obtain ⟨y0, y1, y2, y3, y4, y5⟩ := FIN.out.1.get6
  clear z0 z1 z2 z3 z4 z5 f0 f1 f2 f3 f4 f5 c0 c1 c2 c3
  refine bodyPost_ret (v := .agg #[.int .u8 3, .int .u8 0, .string ⟨t2.toArray⟩, .int .i64 0, .int .i64 (t1 : Int), .slice none 0 0]) (by simp [results, Tryz.results168, go_sem, y0, y1, y2, y3, y4, y5]) rfl (RPost.ok rfl (gtrans (grown_of_below HH.out.1) FIN.out.2.1) ?_ FIN.out.2.2.1)
  exact ⟨3, 0, t2, 0, t1, none, 0, 0, rfl, by simp [ExC]⟩
end Go.Proofs.YtoimhdejfeclpaaGreatDoor
