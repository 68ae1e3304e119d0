/-
  Like code is told to be alike: the document's comparison, walked.
-/
import Derived.Test.YtiimcckajjpbjaaCdX
import Derived.Deep.CutRange
namespace Go.Proofs.Ytiimcckajjpbjaa
open Go Go.RowKit Cd

set_option maxRecDepth 100000 in
set_option maxHeartbeats 1600000 in
theorem sameI_any (u v : Value) (l : List Int) (hl : l.length ≤ 4000000) (w : World) (h1 : IntsZ w u l) (h2 : IntsZ w v l) :
    Calls Try.prog 33 #[u, v] w fun e w' => e = .returned (.bool true) ∧ Below w.heap.size w w' := by
  obtain ⟨a, c, rfl⟩ := h1.size
  obtain ⟨b, d, rfl⟩ := h2.size
  obtain ⟨n, hn⟩ : ∃ n, n = l.length := ⟨_, rfl⟩
  rw [← hn] at h1 h2 hl ⊢
  have HQ := Lib.hid (And.intro h1 (And.intro h2 hn))
  have hnb : (n : Int) ≤ 4000000 := by omega
  clear h1 h2 hn hl
  go_enter Try.func33, Try.ntmps33
  go_wp2_with fail
  go_loopw [13] (fun iv wr => ∃ i : Nat, i ≤ n ∧ iv = I (i : Int) ∧ Below w.heap.size w wr) (fun iv _ => n - (intOf iv).toNat)
  case atStart => exact ⟨0, Nat.zero_le _, rfl, Below.refl _ _⟩
  case round =>
    obtain ⟨i, hi, rfl, hb⟩ := hrel
    by_cases hlt : i < n
    · have il : i < l.length := by have := HQ.out.2.2; omega
      obtain ⟨g, _, rfl, _, c0, e0⟩ := (HQ.out.1.below intV_stays hb).at i il
      obtain ⟨g', _, rfl, _, c1, e1⟩ := (HQ.out.2.1.below intV_stays hb).at i il
      obtain rfl := e0
      obtain rfl := e1
      obtain ⟨x, hx⟩ : ∃ x, x = l[i] := ⟨_, rfl⟩
      rw [← hx] at c0 c1
      have x0 := c0.f0
      have x1 := c1.f0
      rw [Nat.mul_one] at x0 x1
      have d0 : decide (i < n) = true := by simpa using hlt
      have d1 : (0 : Int) ≤ (i : Int) := by omega
      have d2 : (i : Int) < (n : Int) := by omega
      have HX := Lib.hid (And.intro hlt hb)
      clear c0 c1 hx il hlt hb hi
      go_wp2_with fail
      go_quiet (fail)
      have HB := Lib.hid (below_drewN HX.out.2 nq)
      go_wp2_with fail
      exact ⟨⟨i + 1, HX.out.1, rfl, HB.out⟩, by have := HX.out.1; simp [intOf]; omega⟩
    · have d0 : decide (i < n) = false := by simpa using hlt
      clear hlt hi
      go_wp2_with fail
      go_ret
      exact ⟨rfl, hb⟩

/-- Two boxes. -/
def TwoB (wr : World) (E : TypeId) (vx vy : Array Value) (p q : Value) (W : World) : Prop := ∃ g h, p = .pointer (some ⟨g, 0, none⟩) ∧ q = .pointer (some ⟨h, 0, none⟩) ∧ Blk g vx E W ∧ Blk h vy E W ∧ Below wr.heap.size wr W
theorem twoB_one (wr : World) (E : TypeId) (vx vy : Array Value) : TwoB wr E vx vy (.pointer (some ⟨wr.heap.size, 0, none⟩)) (.pointer (some ⟨wr.heap.size + 1, 0, none⟩)) ((wr.alloc (.cells vx E)).alloc (.cells vy E)).drew :=
  ⟨_, _, rfl, rfl, (Blk.new _ _ _).alloc _, Blk.new' _ _ _ (by simp), (((Below.refl _ _).alloc (Nat.le_refl _) _).alloc (by simp) _).drew⟩
theorem twoB_two (wr : World) (E : TypeId) (vx vy : Array Value) : TwoB wr E vx vy (.pointer (some ⟨wr.heap.size + 1, 0, none⟩)) (.pointer (some ⟨wr.heap.size, 0, none⟩)) ((wr.alloc (.cells vy E)).alloc (.cells vx E)).drew :=
  ⟨_, _, rfl, rfl, Blk.new' _ _ _ (by simp), (Blk.new _ _ _).alloc _, (((Below.refl _ _).alloc (Nat.le_refl _) _).alloc (by simp) _).drew⟩

set_option maxRecDepth 100000 in
set_option maxHeartbeats 3200000 in
theorem sameIn_any (u v : Value) (l : List InstP) (hs : SmallI l) (w : World) (h1 : InstsZ w u l) (h2 : InstsZ w v l) :
    Calls Try.prog 28 #[u, v] w fun e w' => e = .returned (.bool true) ∧ Below w.heap.size w w' := by
  obtain ⟨a, c, rfl⟩ := h1.size
  obtain ⟨b, d, rfl⟩ := h2.size
  obtain ⟨n, hn⟩ : ∃ n, n = l.length := ⟨_, rfl⟩
  rw [← hn] at h1 h2 ⊢
  have hnb : (n : Int) ≤ 4000000 := by have := hs.1; omega
  have HQ := Lib.hid (And.intro h1 (And.intro h2 (And.intro hn hs)))
  clear h1 h2 hn hs
  go_enter Try.func28, Try.ntmps28
  go_wp2_with fail
  go_loopw [16] (fun iv wr => ∃ i : Nat, i ≤ n ∧ iv = I (i : Int) ∧ Below w.heap.size w wr) (fun iv _ => n - (intOf iv).toNat)
  case atStart => exact ⟨0, Nat.zero_le _, rfl, Below.refl _ _⟩
  case round =>
    obtain ⟨i, hi, rfl, hb⟩ := hrel
    by_cases hlt : i < n
    · have il : i < l.length := by have := HQ.out.2.2.1; omega
      obtain ⟨g, _, rfl, gl, c0, av, dv, rfl, haz, hdz⟩ := (HQ.out.1.below instV_stays hb).at i il
      obtain ⟨g', _, rfl, gl', c1, av', dv', rfl, haz', hdz'⟩ := (HQ.out.2.1.below instV_stays hb).at i il
      obtain ⟨aa, ac, rfl⟩ := haz.size
      obtain ⟨da, dc, rfl⟩ := hdz.size
      obtain ⟨aa', ac', rfl⟩ := haz'.size
      obtain ⟨da', dc', rfl⟩ := hdz'.size
      obtain ⟨x, hx⟩ : ∃ x, x = l[i] := ⟨_, rfl⟩
      have hsm := HQ.out.2.2.2.2 i il
      rw [← hx] at c0 c1 haz hdz haz' hdz' hsm
      obtain ⟨A, hA⟩ : ∃ A, A = x.args.length := ⟨_, rfl⟩
      obtain ⟨D, hD⟩ : ∃ D, D = x.dbg.length := ⟨_, rfl⟩
      rw [← hA, ← hD] at c0 c1
      rw [← hA] at haz haz'
      rw [← hD] at hdz hdz'
      have x0 := c0.f0
      have x1 := c0.f1
      have x2 := c0.f2
      have x3 := c0.f3
      have x4 := c0.f4
      have x5 := c0.f5
      have y0 := c1.f0
      have y1 := c1.f1
      have y2 := c1.f2
      have y3 := c1.f3
      have y4 := c1.f4
      have y5 := c1.f5
      have x0a := fun ob => (c0.al gl ob).f0
      have x0b := fun ob ob' => (c0.al2 gl ob ob').f0
      have x1a := fun ob => (c0.al gl ob).f1
      have x1b := fun ob ob' => (c0.al2 gl ob ob').f1
      have x2a := fun ob => (c0.al gl ob).f2
      have x2b := fun ob ob' => (c0.al2 gl ob ob').f2
      have x3a := fun ob => (c0.al gl ob).f3
      have x3b := fun ob ob' => (c0.al2 gl ob ob').f3
      have x4a := fun ob => (c0.al gl ob).f4
      have x4b := fun ob ob' => (c0.al2 gl ob ob').f4
      have x5a := fun ob => (c0.al gl ob).f5
      have x5b := fun ob ob' => (c0.al2 gl ob ob').f5
      have y0a := fun ob => (c1.al gl' ob).f0
      have y0b := fun ob ob' => (c1.al2 gl' ob ob').f0
      have y1a := fun ob => (c1.al gl' ob).f1
      have y1b := fun ob ob' => (c1.al2 gl' ob ob').f1
      have y2a := fun ob => (c1.al gl' ob).f2
      have y2b := fun ob ob' => (c1.al2 gl' ob ob').f2
      have y3a := fun ob => (c1.al gl' ob).f3
      have y3b := fun ob ob' => (c1.al2 gl' ob ob').f3
      have y4a := fun ob => (c1.al gl' ob).f4
      have y4b := fun ob ob' => (c1.al2 gl' ob ob').f4
      have y5a := fun ob => (c1.al gl' ob).f5
      have y5b := fun ob ob' => (c1.al2 gl' ob ob').f5
      have d0 : decide (i < n) = true := by simpa using hlt
      have d1 : (0 : Int) ≤ (i : Int) := by omega
      have d2 : (i : Int) < (n : Int) := by omega
      have HX := Lib.hid (And.intro hlt (And.intro hb (And.intro haz (And.intro hdz (And.intro haz' (And.intro hdz' (And.intro hsm (And.intro hA hD))))))))
      clear c0 c1 gl gl' hx il hlt hb hi haz hdz haz' hdz' hsm hA hD
      go_upto_region 6 with (fail)
      go_cut [6, 7] from 19 to 88 (fun p q W => TwoB wr 50 #[U8 x.op, I x.dst, .slice aa A ac, I x.imm, I x.site, .slice da D dc] #[U8 x.op, I x.dst, .slice aa' A ac', I x.imm, I x.site, .slice da' D dc'] p q W)
      case first =>
        go_region
        all_goals (go_wp2_with fail; go_meet; case rel => first | exact twoB_one _ _ _ _ | exact twoB_two _ _ _ _)
      case rest =>
        clear x0 x1 x2 x3 x4 x5 y0 y1 y2 y3 y4 y5 x0a x0b x1a x1b x2a x2b x3a x3b x4a x4b x5a x5b y0a y0b y1a y1b y2a y2b y3a y3b y4a y4b y5a y5b
        obtain ⟨p, q, rfl, rfl, kx, ky, hbb⟩ := hcut
        have x0 := kx.get 0 (U8 x.op) rfl
        have x1 := kx.get 1 (I x.dst) rfl
        have x2 := kx.get 2 (.slice aa A ac) rfl
        have x3 := kx.get 3 (I x.imm) rfl
        have x4 := kx.get 4 (I x.site) rfl
        have y0 := ky.get 0 (U8 x.op) rfl
        have y1 := ky.get 1 (I x.dst) rfl
        have y2 := ky.get 2 (.slice aa' A ac') rfl
        have y3 := ky.get 3 (I x.imm) rfl
        have y4 := ky.get 4 (I x.site) rfl
        have HC := Lib.hid (sameI_any (.slice aa A ac) (.slice aa' A ac') x.args HX.out.2.2.2.2.2.2.1.1 wc (HX.out.2.2.1.below intV_stays hbb) (HX.out.2.2.2.2.1.below intV_stays hbb))
        have H1 := Lib.hid (And.intro kx (And.intro ky hbb))
        clear kx ky hbb
        go_wp2_with fail
        refine HC.out.mono ?_
        rintro e w8 ⟨rfl, hb8⟩
        have kx := H1.out.1.below hb8 H1.out.1.lt
        have ky := H1.out.2.1.below hb8 H1.out.2.1.lt
        have hbw := below_tr H1.out.2.2 hb8
        have x5 := kx.get 5 (.slice da D dc) rfl
        have y5 := ky.get 5 (.slice da' D dc') rfl
        have hDb : (D : Int) ≤ 4000000 := by have := HX.out.2.2.2.2.2.2.1.2; have := HX.out.2.2.2.2.2.2.2.2; omega
        have H2 := Lib.hid (And.intro kx (And.intro ky (And.intro hbw (And.intro (HX.out.2.2.2.1.below dbgV_stays hbw) (HX.out.2.2.2.2.2.1.below dbgV_stays hbw)))))
        clear kx ky hb8 hbw HC x0 x1 x2 x3 x4 y0 y1 y2 y3 y4 H1
        go_wp2_with fail
        go_loopw [73] (fun kv W => ∃ k : Nat, k ≤ D ∧ kv = I (k : Int) ∧ Below w8.heap.size w8 W) (fun kv _ => D - (intOf kv).toNat)
        case atStart => exact ⟨0, Nat.zero_le _, rfl, Below.refl _ _⟩
        case round =>
          obtain ⟨k, hk, rfl, hbk⟩ := hrel
          clear x5 y5
          by_cases hkD : k < D
          · have kl : k < x.dbg.length := by rw [← HX.out.2.2.2.2.2.2.2.2]; exact hkD
            obtain ⟨g1, _, rfl, _, c0, e0⟩ := (H2.out.2.2.2.1.below dbgV_stays hbk).at k kl
            obtain ⟨g2, _, rfl, _, c1, e1⟩ := (H2.out.2.2.2.2.below dbgV_stays hbk).at k kl
            obtain rfl := e0
            obtain rfl := e1
            obtain ⟨z, hz⟩ : ∃ z, z = x.dbg[k] := ⟨_, rfl⟩
            rw [← hz] at c0 c1
            unfold encD at c0 c1
            have kx := H2.out.1.below hbk H2.out.1.lt
            have ky := H2.out.2.1.below hbk H2.out.2.1.lt
            have x5 := kx.get 5 (.slice (some g1) D dc) rfl
            have y5 := ky.get 5 (.slice (some g2) D dc') rfl
            have z0 := c0.f0
            have z1 := c0.f1
            have z2 := c0.f2
            have z3 := c0.f3
            have z4 := c0.f4
            have z5 := c0.f5
            have v0 := c1.f0
            have v1 := c1.f1
            have v2 := c1.f2
            have v3 := c1.f3
            have v4 := c1.f4
            have v5 := c1.f5
            have e0 : decide (k < D) = true := by simpa using hkD
            have e1 : (0 : Int) ≤ (k : Int) := by omega
            have e2 : (k : Int) < (D : Int) := by omega
            have HK := Lib.hid (And.intro hkD hbk)
            clear c0 c1 hz kx ky kl hkD hbk hk
            go_wp2_with fail
            go_quiet (fail)
            have HB := Lib.hid (below_drewN HK.out.2 nq)
            go_wp2_with fail
            exact ⟨⟨k + 1, HK.out.1, rfl, HB.out⟩, by have := HK.out.1; simp [intOf]; omega⟩
          · have e0 : decide (k < D) = false := by simpa using hkD
            have FIN := Lib.hid (below_tr HX.out.2.1 (below_tr H2.out.2.2.1 hbk))
            clear hkD hk hbk
            go_wp2_with fail
            exact ⟨⟨i + 1, HX.out.1, rfl, FIN.out⟩, by have := HX.out.1; simp [intOf]; omega⟩
    · have d0 : decide (i < n) = false := by simpa using hlt
      clear hlt hi
      go_wp2_with fail
      go_ret
      exact ⟨rfl, hb⟩
end Go.Proofs.Ytiimcckajjpbjaa
