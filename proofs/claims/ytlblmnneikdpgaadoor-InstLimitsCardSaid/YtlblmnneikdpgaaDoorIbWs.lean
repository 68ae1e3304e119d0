/-
  Lists of instructions in memory, and whether two are alike: the document's own Same, walked.
-/
import Derived.Test.YtlblmnneikdpgaaDoorIbS2
import Derived.Test.YtlblmnneikdpgaaDoorIbJ
namespace Go.Proofs.YtlblmnneikdpgaaDoor
open Go Go.RowKit Ib

instance : DecidableEq Wd := fun x y => decidable_of_iff (wEq x y = true) (wEq_iff x y)
def encWd (x : Wd) : List Value := [B8 x.op, B8 x.a, B8 x.b, B8 x.c, I x.imm]
abbrev WordV := FlatV encWd
abbrev WordZ (W : World) := SlS (LtW W) 5 WordV W
theorem wordV_stays : StaysV WordV := fun _ _ _ _ _ _ h _ _ => h
theorem ne_wd (x y : Wd) (w : World) : (binOp .neq 23 (wV x) (wV y)).run Tryd.prog w = .ok (.bool (!wEq x y)) w := by
  have h := eq_wd x y w
  rw [run_eql_struct] at h
  rw [run_neq_struct]
  cases hr : (Op.equalIn 10000 23 (wV x) (wV y)).run Tryd.prog w with
  | ok b w' =>
    rw [hr] at h
    simp only [Result.andThen, Result.ok.injEq, Value.bool.injEq] at h ⊢
    exact ⟨by rw [h.1], h.2⟩
  | halt a b =>
    rw [hr] at h
    simp [Result.andThen] at h

set_option maxRecDepth 100000 in
set_option maxHeartbeats 1600000 in
theorem sameW_any {S S' : Nat → Prop} (u v : Value) (l m : List Wd) (hl : l.length ≤ 9223372036854775806) (w : World) (h1 : SlS S 5 WordV w u l) (h2 : SlS S' 5 WordV w v m) :
    Calls Tryd.prog 25 #[u, v] w fun e w' => e = .returned (.bool (decide (l = m))) ∧ ∃ q, w' = w.drewN q := by
  obtain ⟨a, c, rfl, hc1, q1⟩ := h1
  obtain ⟨b, d, rfl, hc2, q2⟩ := h2
  obtain ⟨n, hn⟩ : ∃ n, n = l.length := ⟨_, rfl⟩
  obtain ⟨k, hk⟩ : ∃ k, k = m.length := ⟨_, rfl⟩
  have HQ := Lib.hid (And.intro q1 (And.intro q2 (And.intro hn hk)))
  rw [← hn] at hl hc1 ⊢
  rw [← hk] at hc2 ⊢
  clear q1 q2 hn hk
  by_cases hnk : n = k
  · have g0 : ((n : Int) != (k : Int)) = false := by rw [hnk]; simp
    have HNK := Lib.hid hnk
    clear hnk
    go_enter Tryd.func25, Tryd.ntmps25
    go_wp2_with fail
    go_loopw [13] (fun iv wr => ∃ i : Nat, i ≤ n ∧ iv = I (i : Int) ∧ l.take i = m.take i ∧ ∃ q, wr = w.drewN q) (fun iv _ => n - (intOf iv).toNat)
    case atStart => exact ⟨0, Nat.zero_le _, rfl, by simp, 0, rfl⟩
    case round =>
      obtain ⟨i, hi, rfl, ht, nq, rfl⟩ := hrel
      have HT := Lib.hid (And.intro ht hi)
      clear ht
      by_cases hlt : i < n
      · have i1 : i < l.length := by have := HQ.out.2.2.1; omega
        have i2 : i < m.length := by have := HQ.out.2.2.2; have := HNK.out; omega
        obtain ⟨g, vs, ra, gl, r0, e0⟩ := HQ.out.1 i i1
        obtain ⟨g', vs', rb, gl', r1, e1⟩ := HQ.out.2.1 i i2
        subst ra rb e0 e1
        obtain ⟨x, hx⟩ : ∃ x, x = l[i] := ⟨_, rfl⟩
        obtain ⟨y, hy⟩ : ∃ y, y = m[i] := ⟨_, rfl⟩
        have hx' : l[i]? = some x := by rw [hx]; exact List.getElem?_eq_getElem i1
        have hy' : m[i]? = some y := by rw [hy]; exact List.getElem?_eq_getElem i2
        rw [← hx] at r0
        rw [← hy] at r1
        obtain ⟨xo, xa, xb, xc, xi⟩ := x
        obtain ⟨yo, ya, yb, yc, yi⟩ := y
        have x0 := r0.f0
        have x1 := r0.f1
        have x2 := r0.f2
        have x3 := r0.f3
        have x4 := r0.f4
        have y0 := r1.f0
        have y1 := r1.f1
        have y2 := r1.f2
        have y3 := r1.f3
        have y4 := r1.f4
        have hq := ne_wd ⟨xo, xa, xb, xc, xi⟩ ⟨yo, ya, yb, yc, yi⟩
        obtain ⟨eb, heb⟩ : ∃ eb, eb = wEq ⟨xo, xa, xb, xc, xi⟩ ⟨yo, ya, yb, yc, yi⟩ := ⟨_, rfl⟩
        rw [← heb] at hq
        have HQ2 := Lib.hid (show (eb = true → l.take (i + 1) = m.take (i + 1)) ∧ (eb = false → decide (l = m) = false) by
          have hiff := wEq_iff ⟨xo, xa, xb, xc, xi⟩ ⟨yo, ya, yb, yc, yi⟩
          rw [← heb] at hiff
          refine ⟨fun e => ?_, fun e => ?_⟩
          · rw [List.take_add_one, List.take_add_one, HT.out.1, hx', hy', hiff.1 e]
          · simp only [decide_eq_false_iff_not]
            intro e2
            rw [e2, hy'] at hx'
            have := hiff.2 (Option.some.inj hx').symm
            rw [e] at this
            cases this)
        have HL := Lib.hid hlt
        have d0 : decide (i < n) = true := by simpa using hlt
        have d1 : (0 : Int) ≤ (i : Int) := by omega
        have d2 : (i : Int) < (n : Int) := by omega
        have d3 : (i : Int) < (k : Int) := by have := HNK.out; omega
        clear r0 r1 hx hy hx' hy' gl gl' heb i1 i2 hlt
        cases eb
        · have HQ3 := Lib.hid (HQ2.out.2 rfl)
          clear HQ2
          simp only [Bool.not_false] at hq
          go_upto_region 6 with (fail)
          go_quiet (fail)
          go_wp2_with fail
          go_ret
          exact ⟨by rw [HQ3.out]; rfl, _, rfl⟩
        · have HQ3 := Lib.hid (HQ2.out.1 rfl)
          clear HQ2
          simp only [Bool.not_true] at hq
          go_upto_region 6 with (fail)
          go_quiet (fail)
          go_wp2_with fail
          exact ⟨⟨i + 1, HL.out, rfl, HQ3.out, _, rfl⟩, by have := HL.out; simp [intOf]; omega⟩
      · have d0 : decide (i < n) = false := by simpa using hlt
        have HN := Lib.hid (show decide (l = m) = true by
          simp only [decide_eq_true_eq]
          have h1 := HT.out.1
          rw [List.take_of_length_le (by have := HQ.out.2.2.1; omega), List.take_of_length_le (by have := HQ.out.2.2.2; have := HNK.out; omega)] at h1
          exact h1)
        clear hlt hi
        go_wp2_with fail
        go_ret
        exact ⟨by rw [HN.out]; rfl, _, rfl⟩
  · have g0 : ((n : Int) != (k : Int)) = true := by simp; omega
    have HN := Lib.hid (show decide (l = m) = false by
      simp only [decide_eq_false_iff_not]
      intro e
      exact hnk (by rw [HQ.out.2.2.1, HQ.out.2.2.2, e]))
    clear hnk
    go_enter Tryd.func25, Tryd.ntmps25
    go_wp2_with fail
    go_ret
    exact ⟨by rw [HN.out]; rfl, 0, rfl⟩
end Go.Proofs.YtlblmnneikdpgaaDoor
