/-
  The reader's sign: so many bytes as it has, counted down.
-/
import Derived.Test.YtcgllooeimacdaaGreatDoorSign
import Derived.Test.YtcgllooeimacdaaGreatDoorNum2
import Derived.Deep.RegionHeld3
namespace Go.Proofs.YtcgllooeimacdaaGreatDoor
open Go Go.RowKit Lx Go.Maps Go.WideMaps Go.WideShapes

/-- The loop over the closure that counts down from m: it passes m bytes. -/
theorem pass_sign (b : Nat) (v0 v1 v2 v3 : Value) (s : ByteArray) (hs : s.size ≤ 9223372036854775806) (n0 m : Nat) (hm : m ≤ 2) (hn0 : n0 + m ≤ s.size) (lb : Nat) (T : TypeId) (w0 w : World)
    (hg : w0.grownBy w (some b)) (hb : b < w0.heap.size) (hrb : w0.heap.size ≤ lb) (hw : Rd b v0 v1 v2 v3 s n0 w) (hr : w.heap[lb]? = some (.cells #[.int .i64 (m : Int)] T (0, 0))) :
    Calls Tryz.prog 60 #[.pointer (some ⟨b, 0, none⟩), .func (.func 84) #[] #[.pointer (some ⟨lb, 0, none⟩)]] w fun e w' => e = .returned (.tuple #[]) ∧
      Rd b v0 v1 v2 v3 s (n0 + m) w' ∧ w0.grownBy w' (some b) := by
  refine (pass_any b v0 v1 v2 v3 s hs 84 #[.pointer (some ⟨lb, 0, none⟩)] (fun k => decide (k < n0 + m))
    (fun k w1 => Rd b v0 v1 v2 v3 s k w1 ∧ w0.grownBy w1 (some b) ∧ n0 ≤ k ∧ k ≤ n0 + m ∧ w1.heap[lb]? = some (.cells #[.int .i64 ((n0 + m : Int) - k)] T (0, 0)))
    (fun k w1 => Rd b v0 v1 v2 v3 s k w1 ∧ w0.grownBy w1 (some b) ∧ n0 ≤ k ∧ k ≤ n0 + m ∧ w1.heap[lb]? = some (.cells #[.int .i64 ((n0 + m : Int) - k - 1)] T (0, 0)))
    (fun _ _ h => h.1) (fun _ _ h => h.1) ?_ ?_ (fun args w => by simp [go_sem]) (fun k w1 n h => ⟨h.1, grown_trans h.2.1 (grown_drawN n), h.2.2.1, h.2.2.2.1, h.2.2.2.2⟩) n0 (by omega) w ⟨hw, hg, Nat.le_refl _, by omega, by rw [hr, show (n0 + m : Int) - n0 = m from by omega]⟩).mono ?_
  · rintro k hk w1 ⟨h1, h2, h3, h3', h4⟩
    refine (sign1_any (B8 s[k]) lb T _ w1 (by omega) (by omega) h4).mono ?_
    rintro e w2 ⟨rfl, h5, h6⟩
    refine ⟨?_, h1.other h6 (by intro e; simp at e; omega), grown_new h2 hrb h6, h3, h3', h5⟩
    refine ret_bool ?_
    rw [Bool.eq_iff_iff]; simp; omega
  · rintro k w1 hk hgk ⟨h1, h2, h3, h3', h4⟩
    have hlt : k < n0 + m := by simpa using hgk
    refine ⟨h1.setAt (k + 1), grown_trans h2 (Lib.grownBy_setCell _ _ _ _), by omega, by omega, ?_⟩
    rw [Below.heap_setCell _ _ _ _ (by show lb ≠ b; omega), h4, show (n0 + m : Int) - k - 1 = (n0 + m : Int) - ((k + 1 : Nat) : Int) from by omega]
  · rintro e w' ⟨rfl, k, h1, h2, hall, hend⟩
    have e2 : k = n0 + m := by
      rcases hend with ⟨rfl, h⟩ | ⟨hk, hq, h⟩
      · have := h.2.2.2.1; omega
      · have h5 := h.2.2.2.1
        have : ¬ k < n0 + m := by simpa using hq
        omega
    subst e2
    rcases hend with ⟨_, h⟩ | ⟨_, _, h⟩
    · exact ⟨rfl, h.1, h.2.1⟩
    · exact ⟨rfl, h.1, h.2.1⟩

set_option maxRecDepth 100000 in
set_option maxHeartbeats 400000 in
/-- What is passed, copied: whatever the function value. -/
theorem take_gen (b : Nat) (v0 v1 v2 v3 : Value) (s : ByteArray) (hs : s.size ≤ 281474976710656) (F : Value) (n0 k1 : Nat) (hge : n0 ≤ k1) (hle : k1 ≤ s.size) (w0 w : World) (hw : Rd b v0 v1 v2 v3 s n0 w)
    (hP : Calls Tryz.prog 60 #[.pointer (some ⟨b, 0, none⟩), F] w fun e w' => e = .returned (.tuple #[]) ∧ Rd b v0 v1 v2 v3 s k1 w' ∧ w0.grownBy w' (some b)) :
    Calls Tryz.prog 78 #[.pointer (some ⟨b, 0, none⟩), F] w fun e w' => e = .returned (.string ⟨(((Bs s).drop n0).take (k1 - n0)).toArray⟩) ∧ Rd b v0 v1 v2 v3 s k1 w' ∧ w0.grownBy w' (some b) := by
  have c5 := hw.cellAt
  have HP := Lib.hid hP
  clear hw hP
  have hsz : (s.extract n0 k1).size ≤ 281474976710656 := by rw [ByteArray.size_extract]; omega
  go_enter Tryz.func78, Tryz.ntmps78
  go_wp2_with fail
  refine HP.out.mono ?_
  rintro e w1 ⟨rfl, hr, hg⟩
  clear c5
  have d5 := hr.cellAt
  have d4 := hr.cellText
  have HR := Lib.hid (And.intro hr hg)
  clear hr hg
  go_wp2
  go_still_tail 10, (by kernel_rfl)
  change wpList _ _ _ _ _ w1.drew
  go_wp2_with (first | (go_at_call 93; go_in) | (go_at_call 110; refine (Tryz.stringslite_Clone _ _ hsz).mono ?_; rintro e w2 ⟨rfl, hb⟩))
  go_ret
  obtain ⟨hr, hg⟩ := HR.out
  have hr1 : Rd b v0 v1 v2 v3 s k1 w1.drew := hr
  have hg1 : w0.grownBy w1.drew (some b) := grown_trans hg (grown_drawN 1)
  refine ⟨?_, hr1.below hb, grown_below hg1 hb⟩
  show Ending.returned (.string (s.extract n0 k1)) = _
  rw [extract_str]

theorem take_sign (b : Nat) (s : ByteArray) (hs : s.size ≤ 281474976710656) (k m : Nat) (hm : m ≤ 2) (hk : k + m ≤ s.size) (lb : Nat) (T : TypeId) (w0 w : World) (hw : RS b s k w0) (hlb : w0.heap.size ≤ lb)
    (hb : Below w0.heap.size w0 w) (hr : w.heap[lb]? = some (.cells #[.int .i64 (m : Int)] T (0, 0))) :
    Calls Tryz.prog 78 #[.pointer (some ⟨b, 0, none⟩), .func (.func 84) #[] #[.pointer (some ⟨lb, 0, none⟩)]] w fun e w' => e = .returned (.string ⟨(((Bs s).drop k).take m).toArray⟩) ∧
      RS b s (k + m) w' ∧ w0.grownBy w' (some b) := by
  have hlt := hw.lt
  obtain ⟨v0, v1, v3, h, h2⟩ := hw
  have hg : w0.grownBy w (some b) := grown_below (World.grownBy.refl _ _) hb
  refine (take_gen b v0 v1 _ v3 s hs _ k (k + m) (by omega) hk w0 w (h.below hb) (pass_sign b v0 v1 _ v3 s (by omega) k m hm hk lb T w0 w hg hlt hlb (h.below hb) hr)).mono ?_
  rintro e w' ⟨rfl, h3, h4⟩
  rw [Nat.add_sub_cancel_left]
  exact ⟨rfl, ⟨v0, v1, v3, h3, h2.grown h4⟩, h4⟩

theorem Mid.out {B b : Nat} {s : ByteArray} {k1 : Nat} {w W : World} {kind k : Int} {X : ByteArray} (h : Mid B b s k1 w kind k X W) (hlt : b < w.heap.size) :
    T4 w.heap.size (.int .u8 kind) (.int .i64 k) (.string X) (.int .i64 0) ((((W.setCell ⟨w.heap.size, 0, none⟩ (.int .u8 kind)).setCell ⟨w.heap.size, 1, none⟩ (.int .i64 k)).setCell ⟨w.heap.size, 2, none⟩ (.string X)).setCell ⟨w.heap.size, 3, none⟩ (.int .i64 0)) ∧
    RS b s k1 ((((W.setCell ⟨w.heap.size, 0, none⟩ (.int .u8 kind)).setCell ⟨w.heap.size, 1, none⟩ (.int .i64 k)).setCell ⟨w.heap.size, 2, none⟩ (.string X)).setCell ⟨w.heap.size, 3, none⟩ (.int .i64 0)) ∧
    w.grownBy ((((W.setCell ⟨w.heap.size, 0, none⟩ (.int .u8 kind)).setCell ⟨w.heap.size, 1, none⟩ (.int .i64 k)).setCell ⟨w.heap.size, 2, none⟩ (.string X)).setCell ⟨w.heap.size, 3, none⟩ (.int .i64 0)) (some b) := by
  obtain ⟨h1, h2, h3, h4, h5, h6⟩ := h
  obtain ⟨z9, g9⟩ := h3.copy (.int .u8 kind) (.int .i64 k) (.string X) (.int .i64 0)
  exact ⟨z9, h1.grownT h3 (by omega) g9, grown_new h5 (Nat.le_refl _) g9⟩

def signR (k : Nat) (l : List UInt8) : Except Nat Tok := if signSize l = 0 then .error 4 else .ok ⟨4, k, l.take (signSize l), 0⟩

set_option maxRecDepth 100000 in
set_option maxHeartbeats 400000 in
theorem sign_any (B b : Nat) (s : ByteArray) (hs : s.size ≤ 20000) (k : Nat) (hk : k < s.size) (w : World) (hB : B ≤ b) (hBs : B ≤ w.heap.size) (hT : Tabs B w) (hw : RS b s k w) :
    Calls Tryz.prog 67 #[.pointer (some ⟨b, 0, none⟩)] w (TokPost b s k w (signR k ((Bs s).drop k))) := by
  have hmf : ∀ (fn : Fn) (first cap : Array Value) (w : World), (Instr.makeFunc fn first cap).run Tryz.prog w = .ok (.func fn first cap) w := fun _ _ _ _ => rfl
  have hb1 := (two_blocks w 4 k).1
  have c5 := (hw.below ((Below.refl _ _).alloc (Nat.le_refl _) (.cells #[.int .u8 0, .int .i64 0, .string ⟨#[]⟩, .int .i64 0] 55))).cellAt
  have d5 := (hw.below hb1).cellAt
  have d4 := (hw.below hb1).cellText
  have hlt := hw.lt
  have hXs : (s.extract k s.size).size ≤ 20000 := by rw [ByteArray.size_extract]; omega
  have hX0 : 0 < (s.extract k s.size).size := by rw [ByteArray.size_extract]; omega
  have hBX : Bs (s.extract k s.size) = (Bs s).drop k := Lib.extract_to_end s k
  have hsl : ∀ w : World, (Instr.slice 9 (.string s) (some (.int .i64 (k : Int))) none none).run Tryz.prog w = .ok (.string (s.extract k s.size)) w := by
    intro w
    have h1 : (k : Int) ≤ s.size := by omega
    have h2 : (0 : Int) ≤ k := by omega
    simp [go_sem, h1, h2]
  have HC := Lib.hid (signSize_any (s.extract k s.size) hX0 hXs)
  rw [hBX] at HC
  obtain ⟨m, hm⟩ : ∃ m, m = signSize ((Bs s).drop k) := ⟨_, rfl⟩
  rw [← hm] at HC
  have HM := Lib.hid hm
  have Hw := Lib.hid (And.intro hw (And.intro hT hb1))
  clear hw hT hb1 hXs hX0 hBX hm
  go_enter Tryz.func67, Tryz.ntmps67
  go_wp2_with fail
  go_region_held3 (fun w' => w'.cell? ⟨b, 5, none⟩ = some (.int .i64 (k : Int)) ∧ w'.cell? ⟨b, 4, none⟩ = some (.string s)) (go_keep) (first | (go_at_call 83; refine (HC.out _).mono ?_; rintro e w' ⟨rfl, rfl⟩))
  all_goals
    have hb2 : Below w.heap.size w (((w.alloc (.cells #[.int .u8 0, .int .i64 0, .string ⟨#[]⟩, .int .i64 0] 55)).alloc (.cells #[.int .u8 4, .int .i64 (k : Int), .string ⟨#[]⟩, .int .i64 0] 55)).alloc (.cells #[.int .i64 (m : Int)] 3)).drew := by go_grown
    have hg2 : Below ((w.alloc (.cells #[.int .u8 0, .int .i64 0, .string ⟨#[]⟩, .int .i64 0] 55)).alloc (.cells #[.int .u8 4, .int .i64 (k : Int), .string ⟨#[]⟩, .int .i64 0] 55)).heap.size ((w.alloc (.cells #[.int .u8 0, .int .i64 0, .string ⟨#[]⟩, .int .i64 0] 55)).alloc (.cells #[.int .u8 4, .int .i64 (k : Int), .string ⟨#[]⟩, .int .i64 0] 55)) (((w.alloc (.cells #[.int .u8 0, .int .i64 0, .string ⟨#[]⟩, .int .i64 0] 55)).alloc (.cells #[.int .u8 4, .int .i64 (k : Int), .string ⟨#[]⟩, .int .i64 0] 55)).alloc (.cells #[.int .i64 (m : Int)] 3)).drew := ((Below.refl _ _).alloc (Nat.le_refl _) _).drew
    have hl2 : (((w.alloc (.cells #[.int .u8 0, .int .i64 0, .string ⟨#[]⟩, .int .i64 0] 55)).alloc (.cells #[.int .u8 4, .int .i64 (k : Int), .string ⟨#[]⟩, .int .i64 0] 55)).alloc (.cells #[.int .i64 (m : Int)] 3)).drew.heap[w.heap.size + 1 + 1]? = some (.cells #[.int .i64 (m : Int)] 3 (0, 0)) := by
      have := heap_alloc_new ((w.alloc (.cells #[.int .u8 0, .int .i64 0, .string ⟨#[]⟩, .int .i64 0] 55)).alloc (.cells #[.int .u8 4, .int .i64 (k : Int), .string ⟨#[]⟩, .int .i64 0] 55)) (.cells #[.int .i64 (m : Int)] 3)
      rw [show ((w.alloc (.cells #[.int .u8 0, .int .i64 0, .string ⟨#[]⟩, .int .i64 0] 55)).alloc (.cells #[.int .u8 4, .int .i64 (k : Int), .string ⟨#[]⟩, .int .i64 0] 55)).heap.size = w.heap.size + 1 + 1 from by simp] at this
      exact this
    obtain ⟨W3, hW3⟩ : ∃ W3, W3 = (((w.alloc (.cells #[.int .u8 0, .int .i64 0, .string ⟨#[]⟩, .int .i64 0] 55)).alloc (.cells #[.int .u8 4, .int .i64 (k : Int), .string ⟨#[]⟩, .int .i64 0] 55)).alloc (.cells #[.int .i64 (m : Int)] 3)).drew := ⟨_, rfl⟩
    rw [← hW3] at hb2 hg2 hl2 ⊢
    have hlc : W3.cell? ⟨w.heap.size + 1 + 1, 0, none⟩ = some (.int .i64 (m : Int)) := by simp [World.cell?, hl2]
    have h11 : W3.cell? ⟨w.heap.size + 1, 1, none⟩ = some (.int .i64 (k : Int)) := ((two_blocks w 4 k).2.2.other (grown_below (World.grownBy.refl _ none) hg2) (by simp)).g1
    have HW := Lib.hid (And.intro hb2 (And.intro hg2 hl2))
    rename_i hHeld
    clear hHeld hW3 hb2 hg2 hl2 c5 d5 d4
    rcases Nat.eq_zero_or_pos m with hm0 | hm0
    · have hb0 : ((m : Int) == 0) = true := by simp [hm0]
      have HM0 := Lib.hid hm0
      clear hm0
      go_wp2_with (go_at_call 45; refine (giveUp_any _ _ _).mono ?_; rintro e w4 ⟨rfl, rfl⟩)
      refine ⟨rfl, grown_below (World.grownBy.refl _ _) HW.out.1, ?_⟩
      unfold signR
      rw [← HM.out, if_pos HM0.out]
      rfl
    · have hb0 : ((m : Int) == 0) = false := by simp; omega
      have hm2 : m ≤ 2 := by have := (signSize_le ((Bs s).drop k)).2; rw [HM.out]; exact this
      have hml : k + m ≤ s.size := by
        have := (signSize_le ((Bs s).drop k)).1
        rw [← HM.out, List.length_drop, bs_length] at this
        omega
      have HTK := Lib.hid (take_sign b s (by omega) k m hm2 hml (w.heap.size + 1 + 1) 3 _ W3 (Hw.out.1.below Hw.out.2.2) (by simp) HW.out.2.1 HW.out.2.2)
      have HM0 := Lib.hid hm0
      obtain ⟨X, hX⟩ : ∃ X : ByteArray, X = ⟨(((Bs s).drop k).take m).toArray⟩ := ⟨_, rfl⟩
      rw [← hX] at HTK
      have HX := Lib.hid hX
      clear hm0 hX hm2
      go_wp2_with fail
      refine HTK.out.mono ?_
      rintro e w2 ⟨rfl, hr2, hg2⟩
      obtain ⟨hM, f2, q2⟩ := Mid.mk X hlt hB hBs Hw.out.2.1 hr2 hg2
      obtain ⟨z9, r9, g9⟩ := hM.out hlt
      have b0 := hM.2.1.g0
      have b1 := hM.2.1.g1
      have b2 := hM.2.1.g2
      have b3 := hM.2.1.g3
      have zc0 := hM.2.2.1.g0
      have zc1 := hM.2.2.1.g1
      have zc2 := hM.2.2.1.g2
      have zc3 := hM.2.2.1.g3
      have zf0 := hM.2.2.1.free 0
      have zf1 := hM.2.2.1.free 1
      have zf2 := hM.2.2.1.free 2
      have zf3 := hM.2.2.1.free 3
      have H9 := Lib.hid (And.intro z9 (And.intro r9 g9))
      clear hM hr2 hg2 z9 r9 g9 h11 hlc
      go_wp2
      obtain ⟨t9, r9, g9⟩ := H9.out
      have y0 := t9.g0
      have y1 := t9.g1
      have y2 := t9.g2
      have y3 := t9.g3
      have FIN := Lib.hid (And.intro g9 r9)
      clear t9 r9 g9 H9 b0 b1 b2 b3 zc0 zc1 zc2 zc3 zf0 zf1 zf2 zf3 f2 q2
      refine bodyPost_ret (v := .agg #[.int .u8 4, .int .i64 (k : Int), .string X, .int .i64 0]) (by simp [results, Tryz.results67, go_sem, y0, y1, y2, y3]) rfl ⟨FIN.out.1, ?_⟩
      unfold signR
      rw [← HM.out, if_neg (by have := HM0.out; omega)]
      refine ⟨by rw [HX.out]; rfl, ?_⟩
      show RS b s (k + (((Bs s).drop k).take m).length) _
      rw [List.length_take, List.length_drop, bs_length, Nat.min_eq_left (by omega)]
      exact FIN.out.2
end Go.Proofs.YtcgllooeimacdaaGreatDoor
