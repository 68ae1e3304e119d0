/-
  The statement of the scans: its body says true at every text.
-/
import Derived.Test.YtdglkfdacajalaaDoorRefScan
import Derived.Test.YtdglkfdacajalaaDoorSame
import Derived.Test.YtdglkfdacajalaaDoorAwake
import Derived.Test.YtdglkfdacajalaaDoorPlain2
namespace Go.Proofs.YtdglkfdacajalaaDoor
open Go Go.RowKit Lx Go.Maps Go.WideMaps Go.WideShapes

set_option maxRecDepth 100000 in
set_option maxHeartbeats 2000000 in
theorem lexScans_any (s : ByteArray) (hs : s.size ≤ 9223372036854775806) (w : World) (hT : Tabs w.heap.size w) : Calls Tryd.prog 3 #[.string s] w fun e w' => e = .returned (.bool true) ∧ Below w.heap.size w w' := by
  have HT := Lib.hid hT
  clear hT
  go_enter Tryd.func3, Tryd.ntmps3
  go_wp2_with fail
  refine (scan_any s hs w HT.out).mono ?_
  rintro e w1 ⟨hb1, hp1⟩
  have HB1 := Lib.hid hb1
  clear hb1
  cases hsc : scan (Bs s) with
  | error pn =>
    obtain ⟨p, n⟩ := pn
    rw [hsc] at hp1
    obtain rfl := hp1
    go_wp2_with fail
    refine (refScan_any s hs w1).mono ?_
    rintro e w2 ⟨hb2, hp2⟩
    rw [hsc] at hp2
    obtain rfl := hp2
    have HB2 := Lib.hid (HB1.out.trans (hb2.mono HB1.out.size))
    clear hb2
    go_wp2_with fail
    refine (awake_any w2 ((HT.out.below HB2.out).mono HB2.out.size)).mono ?_
    rintro e w3 ⟨rfl, hb3⟩
    have HB3 := Lib.hid (HB2.out.trans (hb3.mono HB2.out.size))
    clear hb3
    go_wp2_with fail
    refine (same_any [] (by simp) 0 0 (.slice none 0 0) (.slice none 0 0) w3 (World.ownsRow_nil _ _ _ _) (World.ownsRow_nil _ _ _ _)).mono ?_
    rintro e w4 ⟨rfl, hb4⟩
    have HB4 := Lib.hid (HB3.out.trans (hb4.mono HB3.out.size))
    clear hb4
    go_wp2_with fail
    go_ret
    exact ⟨ret_bool (by simp), HB4.out⟩
  | ok ts =>
    rw [hsc] at hp1
    obtain ⟨v1, rfl, ho1⟩ := hp1
    have HO1 := Lib.hid ho1
    have HL := Lib.hid (scan_len hsc).1
    clear ho1
    go_wp2_with fail
    refine (refScan_any s hs w1).mono ?_
    rintro e w2 ⟨hb2, hp2⟩
    rw [hsc] at hp2
    obtain ⟨v2, rfl, ho2⟩ := hp2
    have HB2 := Lib.hid (HB1.out.trans (hb2.mono HB1.out.size))
    have HO2 := Lib.hid (And.intro (owns_below HO1.out hb2) ho2)
    clear hb2 ho2
    go_wp2_with fail
    refine (awake_any w2 ((HT.out.below HB2.out).mono HB2.out.size)).mono ?_
    rintro e w3 ⟨rfl, hb3⟩
    have HB3 := Lib.hid (HB2.out.trans (hb3.mono HB2.out.size))
    have HO3 := Lib.hid (And.intro (owns_below HO2.out.1 hb3) (owns_below HO2.out.2 hb3))
    clear hb3
    go_wp2_with fail
    refine (same_any ts (by have := HL.out; omega) _ _ v1 v2 w3 HO3.out.1 HO3.out.2).mono ?_
    rintro e w4 ⟨rfl, hb4⟩
    have HB4 := Lib.hid (HB3.out.trans (hb4.mono HB3.out.size))
    clear hb4
    go_wp2_with fail
    go_ret
    exact ⟨ret_bool (by simp), HB4.out⟩
end Go.Proofs.YtdglkfdacajalaaDoor
