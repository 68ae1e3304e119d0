/-
  Joined: CdY.
-/
import Derived.Test.YtjlmkcamefaodaaJ37
/-! CdY: Like code is told to be alike: the document's comparison of code, walked. -/

namespace Go.Proofs.Ytjlmkcamefaodaa
open Go Go.RowKit Cd

theorem Blk.al {g : Nat} {cs : Array Value} {E : TypeId} {W : World} (h : Blk g cs E W) (j : Nat) (v : Value) (hj : cs[j]? = some v) (ob : Obj) : (W.alloc ob).cell? ⟨g, j, none⟩ = some v := (h.alloc ob).get j v hj
theorem Blk.al2 {g : Nat} {cs : Array Value} {E : TypeId} {W : World} (h : Blk g cs E W) (j : Nat) (v : Value) (hj : cs[j]? = some v) (ob ob' : Obj) : ((W.alloc ob).alloc ob').cell? ⟨g, j, none⟩ = some v := ((h.alloc ob).alloc ob').get j v hj

set_option maxRecDepth 100000 in
set_option maxHeartbeats 6400000 in
theorem same_any (u v : Value) (c : CodeP) (hs : SmallC c) (w : World) (h1 : CodeZ w u c) (h2 : CodeZ w v c) :
    Calls Try.prog 14 #[u, v] w fun e w' => e = .returned (.bool true) ∧ Below w.heap.size w w' := by
  obtain ⟨fv, sv, rfl, hF, hS⟩ := h1
  obtain ⟨fv', sv', rfl, hF', hS'⟩ := h2
  obtain ⟨fa, fc, rfl⟩ := hF.size
  obtain ⟨sa, sc, rfl⟩ := hS.size
  obtain ⟨fa', fc', rfl⟩ := hF'.size
  obtain ⟨sa', sc', rfl⟩ := hS'.size
  obtain ⟨nf, hnf⟩ : ∃ n, n = c.funs.length := ⟨_, rfl⟩
  obtain ⟨ns, hns⟩ : ∃ n, n = c.stops.length := ⟨_, rfl⟩
  rw [← hnf] at hF hF' ⊢
  rw [← hns] at hS hS' ⊢
  have q0 : (nf : Int) ≤ 4000000 := by have := hs.1; omega
  have q1 : (ns : Int) ≤ 4000000 := by have := hs.2.1; omega
  obtain ⟨bA, hbA⟩ : ∃ g, g = w.heap.size := ⟨_, rfl⟩
  obtain ⟨bB, hbB⟩ : ∃ g, g = w.heap.size + 1 := ⟨_, rfl⟩
  obtain ⟨W0, hW0⟩ : ∃ W, W = (w.alloc (.cells #[.slice fa nf fc, .slice sa ns sc, I c.main] 25)).alloc (.cells #[.slice fa' nf fc', .slice sa' ns sc', I c.main] 25) := ⟨_, rfl⟩
  have hB0 : Below w.heap.size w W0 := by rw [hW0]; exact ((Below.refl _ _).alloc (Nat.le_refl _) _).alloc (by simp) _
  have kA : Blk bA #[.slice fa nf fc, .slice sa ns sc, I c.main] 25 W0 := by rw [hW0, hbA]; exact (Blk.new _ _ _).alloc _
  have kB : Blk bB #[.slice fa' nf fc', .slice sa' ns sc', I c.main] 25 W0 := by rw [hW0, hbB]; exact Blk.new' _ _ _ (by simp)
  have HA := Lib.hid (And.intro (hF.below funV_stays hB0) (And.intro (hF'.below funV_stays hB0) (And.intro (hS.below stopV_stays hB0) (And.intro (hS'.below stopV_stays hB0) (And.intro hnf (And.intro hns (And.intro hs (And.intro hB0 (And.intro kA (And.intro kB (And.intro hbA hbB)))))))))))
  have HW0 := Lib.hid hW0
  have a0 := kA.get 0 (.slice fa nf fc) rfl
  have a1 := kA.get 1 (.slice sa ns sc) rfl
  have a2 := kA.get 2 (I c.main) rfl
  have b0 := kB.get 0 (.slice fa' nf fc') rfl
  have b1 := kB.get 1 (.slice sa' ns sc') rfl
  have b2 := kB.get 2 (I c.main) rfl
  clear hF hF' hS hS' hnf hns hs hB0 kA kB hbA hbB hW0
  go_enter Try.func14, Try.ntmps14
  go_upto_region 1 with (fail)
  rw [← HA.out.2.2.2.2.2.2.2.2.2.2.2, ← HA.out.2.2.2.2.2.2.2.2.2.2.1]
  change Code.wp _ _ _ _ ((w.alloc (.cells #[.slice fa nf fc, .slice sa ns sc, I c.main] 25)).alloc (.cells #[.slice fa' nf fc', .slice sa' ns sc', I c.main] 25))
  rw [← HW0.out]
  go_wp2_with fail
  go_loopw [39] (fun iv W => ∃ i : Nat, i ≤ ns ∧ iv = I (i : Int) ∧ Below W0.heap.size W0 W) (fun iv _ => ns - (intOf iv).toNat)
  case atStart => exact ⟨0, Nat.zero_le _, rfl, Below.refl _ _⟩
  case round =>
    obtain ⟨i, hi, rfl, hb⟩ := hrel
    obtain ⟨wo, rfl⟩ : ∃ W : World, W = wr := ⟨_, rfl⟩
    clear a0 a1 a2 b0 b1 b2
    have kA := HA.out.2.2.2.2.2.2.2.2.1.below hb HA.out.2.2.2.2.2.2.2.2.1.lt
    have kB := HA.out.2.2.2.2.2.2.2.2.2.1.below hb HA.out.2.2.2.2.2.2.2.2.2.1.lt
    have a0 := kA.get 0 (.slice fa nf fc) rfl
    have a1 := kA.get 1 (.slice sa ns sc) rfl
    have b0 := kB.get 0 (.slice fa' nf fc') rfl
    have b1 := kB.get 1 (.slice sa' ns sc') rfl
    by_cases hlt : i < ns
    · have il : i < c.stops.length := by rw [← HA.out.2.2.2.2.2.1]; exact hlt
      obtain ⟨g, _, rfl, gl, c0, sl, rfl, hsl⟩ := (HA.out.2.2.1.below stopV_stays hb).at i il
      obtain ⟨g', _, rfl, gl', c1, sl', rfl, hsl'⟩ := (HA.out.2.2.2.1.below stopV_stays hb).at i il
      obtain ⟨la, lc, rfl⟩ := hsl.size
      obtain ⟨la', lc', rfl⟩ := hsl'.size
      have hlb := HA.out.2.2.2.2.2.2.1.2.2.1 i il
      obtain ⟨l, hl⟩ : ∃ z, z = c.stops[i] := ⟨_, rfl⟩
      rw [← hl] at c0 c1 hsl hsl' hlb
      obtain ⟨L, hL⟩ : ∃ n, n = l.length := ⟨_, rfl⟩
      rw [← hL] at c0 c1 hsl hsl' hlb
      have x0 := c0.f0
      have y0 := c1.f0
      rw [Nat.mul_one] at x0 y0
      have hLb : (L : Int) ≤ 4000000 := by omega
      have d0 : decide (i < ns) = true := by simpa using hlt
      have d1 : (0 : Int) ≤ (i : Int) := by omega
      have d2 : (i : Int) < (ns : Int) := by omega
      have H1 := Lib.hid (And.intro hlt (And.intro hb (And.intro hsl (And.intro hsl' (And.intro hL (And.intro kA (And.intro kB (And.intro x0 (And.intro y0 (And.intro gl gl'))))))))))
      clear c0 c1 hl hL hsl hsl' hlb il hlt hb hi kA kB gl gl'
      go_wp2_with fail
      go_quiet (fail)
      obtain ⟨V, hV⟩ : ∃ V, V = wo.drewN nq := ⟨_, rfl⟩
      have hbV : Below wo.heap.size wo V := by rw [hV]; exact below_drewN (Below.refl _ _) nq
      rw [← hV]
      clear a0 a1 b0 b1 x0 y0 hV
      have kA := H1.out.2.2.2.2.2.1.below hbV H1.out.2.2.2.2.2.1.lt
      have kB := H1.out.2.2.2.2.2.2.1.below hbV H1.out.2.2.2.2.2.2.1.lt
      have a1 := kA.get 1 (.slice (some g) ns sc) rfl
      have b1 := kB.get 1 (.slice (some g') ns sc') rfl
      have x0 := cellA_below hbV (by rw [addB_blk]; exact H1.out.2.2.2.2.2.2.2.2.2.1) H1.out.2.2.2.2.2.2.2.1
      have y0 := cellA_below hbV (by rw [addB_blk]; exact H1.out.2.2.2.2.2.2.2.2.2.2) H1.out.2.2.2.2.2.2.2.2.1
      have H2 := Lib.hid (And.intro hbV (And.intro kA kB))
      clear hbV kA kB
      go_wp2_with fail
      go_loopw [61] (fun kv W => ∃ k : Nat, k ≤ L ∧ kv = I (k : Int) ∧ Below wo.heap.size wo W) (fun kv _ => L - (intOf kv).toNat)
      case atStart => exact ⟨0, Nat.zero_le _, rfl, H2.out.1⟩
      case round =>
        obtain ⟨k, hk, rfl, hbk⟩ := hrel
        clear a1 b1 x0 y0
        by_cases hkL : k < L
        · have kl : k < l.length := by rw [← H1.out.2.2.2.2.1]; exact hkL
          obtain ⟨g1, _, rfl, _, c0, e0⟩ := (H1.out.2.2.1.below spotV_stays hbk).at k kl
          obtain ⟨g2, _, rfl, _, c1, e1⟩ := (H1.out.2.2.2.1.below spotV_stays hbk).at k kl
          obtain rfl := e0
          obtain rfl := e1
          obtain ⟨z, hz⟩ : ∃ z, z = l[k] := ⟨_, rfl⟩
          rw [← hz] at c0 c1
          unfold encS at c0 c1
          have kA := H1.out.2.2.2.2.2.1.below hbk H1.out.2.2.2.2.2.1.lt
          have kB := H1.out.2.2.2.2.2.2.1.below hbk H1.out.2.2.2.2.2.2.1.lt
          have a1 := kA.get 1 (.slice (some g) ns sc) rfl
          have b1 := kB.get 1 (.slice (some g') ns sc') rfl
          have x0 := cellA_below hbk (by rw [addB_blk]; exact H1.out.2.2.2.2.2.2.2.2.2.1) H1.out.2.2.2.2.2.2.2.1
          have y0 := cellA_below hbk (by rw [addB_blk]; exact H1.out.2.2.2.2.2.2.2.2.2.2) H1.out.2.2.2.2.2.2.2.2.1
          have z0 := c0.f0
          have z1 := c0.f1
          have v0 := c1.f0
          have v1 := c1.f1
          have e0 : decide (k < L) = true := by simpa using hkL
          have e1 : (0 : Int) ≤ (k : Int) := by omega
          have e2 : (k : Int) < (L : Int) := by omega
          have HK := Lib.hid (And.intro hkL hbk)
          clear c0 c1 hz kA kB kl hkL hbk hk
          go_wp2_with fail
          go_quiet (fail)
          have HB := Lib.hid (below_drewN HK.out.2 nq)
          go_wp2_with fail
          exact ⟨⟨k + 1, HK.out.1, rfl, HB.out⟩, by have := HK.out.1; simp [intOf]; omega⟩
        · have e0 : decide (k < L) = false := by simpa using hkL
          have FIN := Lib.hid (below_tr H1.out.2.1 hbk)
          clear hkL hk hbk
          go_wp2_with fail
          exact ⟨⟨i + 1, H1.out.1, rfl, FIN.out⟩, by have := H1.out.1; simp [intOf]; omega⟩
    · have d0 : decide (i < ns) = false := by simpa using hlt
      have H1 := Lib.hid hb
      clear hlt hi hb kA kB
      go_wp2_with fail
      go_loopw [86] (fun iv W => ∃ i : Nat, i ≤ nf ∧ iv = I (i : Int) ∧ Below W0.heap.size W0 W) (fun iv _ => nf - (intOf iv).toNat)
      case atStart => exact ⟨0, Nat.zero_le _, rfl, H1.out⟩
      case round =>
        obtain ⟨j, hj, rfl, hb⟩ := hrel
        obtain ⟨w2, rfl⟩ : ∃ W : World, W = wr := ⟨_, rfl⟩
        clear a0 a1 b0 b1 d0
        by_cases hjn : j < nf
        · have jl : j < c.funs.length := by rw [← HA.out.2.2.2.2.1]; exact hjn
          obtain ⟨g, _, rfl, gl, c0, bv, rfl, hbz⟩ := (HA.out.1.below funV_stays hb).at j jl
          obtain ⟨g', _, rfl, gl', c1, bv', rfl, hbz'⟩ := (HA.out.2.1.below funV_stays hb).at j jl
          obtain ⟨ba, bc, rfl⟩ := hbz.size
          obtain ⟨ba', bc', rfl⟩ := hbz'.size
          have hsm := HA.out.2.2.2.2.2.2.1.2.2.2 j jl
          obtain ⟨f, hf⟩ : ∃ z, z = c.funs[j] := ⟨_, rfl⟩
          rw [← hf] at c0 c1 hbz hbz' hsm
          obtain ⟨L, hL⟩ : ∃ n, n = f.blocks.length := ⟨_, rfl⟩
          rw [← hL] at c0 c1 hbz hbz'
          have hLb : (L : Int) ≤ 4000000 := by have := hsm.1; omega
          have kA := HA.out.2.2.2.2.2.2.2.2.1.below hb HA.out.2.2.2.2.2.2.2.2.1.lt
          have kB := HA.out.2.2.2.2.2.2.2.2.2.1.below hb HA.out.2.2.2.2.2.2.2.2.2.1.lt
          have HS0 := Lib.hid (show w2.drew.cell? ⟨bA, 0, none⟩ = some (.slice (some g) nf fc) ∧ w2.drew.cell? ⟨bB, 0, none⟩ = some (.slice (some g') nf fc') ∧ FldsA w2.drew g (j * 4) [I f.params, I f.vars, I f.vals, .slice ba L bc] ∧ FldsA w2.drew g' (j * 4) [I f.params, I f.vars, I f.vals, .slice ba' L bc'] from ⟨kA.get 0 _ rfl, kB.get 0 _ rfl, c0, c1⟩)
          have HSA := Lib.hid (fun ob => show (w2.drew.alloc ob).cell? ⟨bA, 0, none⟩ = some (.slice (some g) nf fc) ∧ (w2.drew.alloc ob).cell? ⟨bB, 0, none⟩ = some (.slice (some g') nf fc') ∧ FldsA (w2.drew.alloc ob) g (j * 4) [I f.params, I f.vars, I f.vals, .slice ba L bc] ∧ FldsA (w2.drew.alloc ob) g' (j * 4) [I f.params, I f.vars, I f.vals, .slice ba' L bc'] from ⟨kA.al 0 _ rfl ob, kB.al 0 _ rfl ob, c0.al gl ob, c1.al gl' ob⟩)
          have HSB := Lib.hid (fun ob ob' => show ((w2.drew.alloc ob).alloc ob').cell? ⟨bA, 0, none⟩ = some (.slice (some g) nf fc) ∧ ((w2.drew.alloc ob).alloc ob').cell? ⟨bB, 0, none⟩ = some (.slice (some g') nf fc') ∧ FldsA ((w2.drew.alloc ob).alloc ob') g (j * 4) [I f.params, I f.vars, I f.vals, .slice ba L bc] ∧ FldsA ((w2.drew.alloc ob).alloc ob') g' (j * 4) [I f.params, I f.vars, I f.vals, .slice ba' L bc'] from ⟨kA.al2 0 _ rfl ob ob', kB.al2 0 _ rfl ob ob', c0.al2 gl ob ob', c1.al2 gl' ob ob'⟩)
          have d0 : decide (j < nf) = true := by simpa using hjn
          have d1 : (0 : Int) ≤ (j : Int) := by omega
          have d2 : (j : Int) < (nf : Int) := by omega
          have H2 := Lib.hid (And.intro hjn (And.intro hb (And.intro hbz (And.intro hbz' (And.intro hL hsm)))))
          clear c0 c1 hf hL hbz hbz' hsm jl hjn hb hj kA kB gl gl'
          go_upto_region 18 with (fail)
          go_cut [8, 9] from 89 to 186 (fun p q W => TwoB w2 36 #[I f.params, I f.vars, I f.vals, .slice ba L bc] #[I f.params, I f.vars, I f.vals, .slice ba' L bc'] p q W)
          case first =>
            refine wp_region_dep (S := fun w' => w'.cell? ⟨bA, 0, none⟩ = some (.slice (some g) nf fc) ∧ w'.cell? ⟨bB, 0, none⟩ = some (.slice (some g') nf fc') ∧ FldsA w' g (j * 4) [I f.params, I f.vars, I f.vals, .slice ba L bc] ∧ FldsA w' g' (j * 4) [I f.params, I f.vars, I f.vals, .slice ba' L bc']) (dep := [13]) (by kernel_rfl) ?_
            change wpAnyD _ _ _ _ _ _ _ _ _ (World.drew _)
            have hS := HS0.out
            refine wpAnyD_take (i := 0) (v := ?_) rfl (by kernel_rfl) (by kernel_rfl) (by kernel_rfl) (by kernel_rfl) (by kernel_rfl) (fun _ _ _ h => h) hS (Or.inl ⟨by rfl, ?_⟩) ?_
            rotate_left
            · intro w hSw; obtain ⟨s1, s2, s3, s4⟩ := hSw; go_simp
              try with_reducible rfl
            try simp only [Act.put, List.setIfInBounds_toArray, List.set_cons_zero, List.set_cons_succ]
            refine wpAnyD_take (i := 1) (v := ?_) rfl (by kernel_rfl) (by kernel_rfl) (by kernel_rfl) (by kernel_rfl) (by kernel_rfl) (fun _ _ _ h => h) hS (Or.inl ⟨by rfl, ?_⟩) ?_
            rotate_left
            · intro w hSw; obtain ⟨s1, s2, s3, s4⟩ := hSw; go_simp
              try with_reducible rfl
            try simp only [Act.put, List.setIfInBounds_toArray, List.set_cons_zero, List.set_cons_succ]
            refine wpAnyD_take (i := 2) (v := ?_) rfl (by kernel_rfl) (by kernel_rfl) (by kernel_rfl) (by kernel_rfl) (by kernel_rfl) (fun _ _ _ h => h) hS (Or.inl ⟨by rfl, ?_⟩) ?_
            rotate_left
            · intro w hSw; obtain ⟨s1, s2, s3, s4⟩ := hSw; go_simp
              try with_reducible rfl
            try simp only [Act.put, List.setIfInBounds_toArray, List.set_cons_zero, List.set_cons_succ]
            refine wpAnyD_take (i := 3) (v := ?_) rfl (by kernel_rfl) (by kernel_rfl) (by kernel_rfl) (by kernel_rfl) (by kernel_rfl) (fun _ _ _ h => h) hS (Or.inl ⟨by rfl, ?_⟩) ?_
            rotate_left
            · intro w hSw; obtain ⟨s1, s2, s3, s4⟩ := hSw; go_simp
              try with_reducible rfl
            try simp only [Act.put, List.setIfInBounds_toArray, List.set_cons_zero, List.set_cons_succ]
            refine wpAnyD_take (i := 4) (v := ?_) rfl (by kernel_rfl) (by kernel_rfl) (by kernel_rfl) (by kernel_rfl) (by kernel_rfl) (fun _ _ _ h => h) hS (Or.inl ⟨by rfl, ?_⟩) ?_
            rotate_left
            · intro w hSw; obtain ⟨s1, s2, s3, s4⟩ := hSw; have x0 := s3.f0; have x1 := s3.f1; have x2 := s3.f2; have x3 := s3.f3; go_simp
              try with_reducible rfl
            try simp only [Act.put, List.setIfInBounds_toArray, List.set_cons_zero, List.set_cons_succ]
            refine wpAnyD_take (i := 5) (v := ?_) rfl (by kernel_rfl) (by kernel_rfl) (by kernel_rfl) (by kernel_rfl) (by kernel_rfl) (fun _ _ _ h => h) hS (Or.inl ⟨by rfl, ?_⟩) ?_
            rotate_left
            · intro w hSw; obtain ⟨s1, s2, s3, s4⟩ := hSw; go_simp
              try with_reducible rfl
            try simp only [Act.put, List.setIfInBounds_toArray, List.set_cons_zero, List.set_cons_succ]
            refine wpAnyD_take (i := 6) (v := ?_) rfl (by kernel_rfl) (by kernel_rfl) (by kernel_rfl) (by kernel_rfl) (by kernel_rfl) (fun _ _ _ h => h) hS (Or.inl ⟨by rfl, ?_⟩) ?_
            rotate_left
            · intro w hSw; obtain ⟨s1, s2, s3, s4⟩ := hSw; go_simp
              try with_reducible rfl
            try simp only [Act.put, List.setIfInBounds_toArray, List.set_cons_zero, List.set_cons_succ]
            refine wpAnyD_take (i := 7) (v := ?_) rfl (by kernel_rfl) (by kernel_rfl) (by kernel_rfl) (by kernel_rfl) (by kernel_rfl) (fun _ _ _ h => h) hS (Or.inl ⟨by rfl, ?_⟩) ?_
            rotate_left
            · intro w hSw; obtain ⟨s1, s2, s3, s4⟩ := hSw; go_simp
              try with_reducible rfl
            try simp only [Act.put, List.setIfInBounds_toArray, List.set_cons_zero, List.set_cons_succ]
            refine wpAnyD_take (i := 8) (v := ?_) rfl (by kernel_rfl) (by kernel_rfl) (by kernel_rfl) (by kernel_rfl) (by kernel_rfl) (fun _ _ _ h => h) hS (Or.inl ⟨by rfl, ?_⟩) ?_
            rotate_left
            · intro w hSw; obtain ⟨s1, s2, s3, s4⟩ := hSw; go_simp
              try with_reducible rfl
            try simp only [Act.put, List.setIfInBounds_toArray, List.set_cons_zero, List.set_cons_succ]
            refine wpAnyD_take (i := 9) (v := ?_) rfl (by kernel_rfl) (by kernel_rfl) (by kernel_rfl) (by kernel_rfl) (by kernel_rfl) (fun _ _ _ h => h) hS (Or.inl ⟨by rfl, ?_⟩) ?_
            rotate_left
            · intro w hSw; obtain ⟨s1, s2, s3, s4⟩ := hSw; have y0 := s4.f0; have y1 := s4.f1; have y2 := s4.f2; have y3 := s4.f3; go_simp
              try with_reducible rfl
            try simp only [Act.put, List.setIfInBounds_toArray, List.set_cons_zero, List.set_cons_succ]
            clear hS
            refine wpAnyD_two (i := 10) (j := 11) rfl rfl (by kernel_rfl) rfl rfl (fun K hK => ?_) (fun K hK => ?_)
            · go_simp
              refine hK _ _ (Or.inr (HSA.out _)) ?_
              clear hK K
              try simp only [Act.put, List.setIfInBounds_toArray, List.set_cons_zero, List.set_cons_succ]
              refine wpAnyD_one (i := 11) rfl (by kernel_rfl) rfl (fun K hK => ?_)
              go_simp
              refine hK _ _ (Or.inr (HSB.out _ _)) ?_
              clear hK K
              try simp only [Act.put, List.setIfInBounds_toArray, List.set_cons_zero, List.set_cons_succ]
              refine wpAnyD_one (i := 12) rfl (by kernel_rfl) rfl (fun K hK => ?_)
              go_simp
              refine hK _ _ (Or.inr (HSB.out _ _)) ?_
              clear hK K
              try simp only [Act.put, List.setIfInBounds_toArray, List.set_cons_zero, List.set_cons_succ]
              refine wpAnyD_one (i := 13) rfl (by kernel_rfl) rfl (fun K hK => ?_)
              go_simp
              refine hK _ _ (Or.inl rfl) ?_
              clear hK K
              refine wpAnyD_done (by kernel_rfl) ?_ _
              go_wp2_with fail
              go_meet
              case rel => first | exact twoB_one _ _ _ _ | exact twoB_two _ _ _ _
            · go_simp
              refine hK _ _ (Or.inr (HSA.out _)) ?_
              clear hK K
              try simp only [Act.put, List.setIfInBounds_toArray, List.set_cons_zero, List.set_cons_succ]
              refine wpAnyD_one (i := 10) rfl (by kernel_rfl) rfl (fun K hK => ?_)
              go_simp
              refine hK _ _ (Or.inr (HSB.out _ _)) ?_
              clear hK K
              try simp only [Act.put, List.setIfInBounds_toArray, List.set_cons_zero, List.set_cons_succ]
              refine wpAnyD_one (i := 12) rfl (by kernel_rfl) rfl (fun K hK => ?_)
              go_simp
              refine hK _ _ (Or.inr (HSB.out _ _)) ?_
              clear hK K
              try simp only [Act.put, List.setIfInBounds_toArray, List.set_cons_zero, List.set_cons_succ]
              refine wpAnyD_one (i := 13) rfl (by kernel_rfl) rfl (fun K hK => ?_)
              go_simp
              refine hK _ _ (Or.inl rfl) ?_
              clear hK K
              refine wpAnyD_done (by kernel_rfl) ?_ _
              go_wp2_with fail
              go_meet
              case rel => first | exact twoB_one _ _ _ _ | exact twoB_two _ _ _ _
          case rest =>
            clear HS0 HSA HSB d0
            obtain ⟨p, q, rfl, rfl, kx, ky, hbb⟩ := hcut
            have x0 := kx.get 0 (I f.params) rfl
            have x1 := kx.get 1 (I f.vars) rfl
            have x2 := kx.get 2 (I f.vals) rfl
            have x3 := kx.get 3 (.slice ba L bc) rfl
            have y0 := ky.get 0 (I f.params) rfl
            have y1 := ky.get 1 (I f.vars) rfl
            have y2 := ky.get 2 (I f.vals) rfl
            have y3 := ky.get 3 (.slice ba' L bc') rfl
            have H3 := Lib.hid (And.intro kx (And.intro ky (And.intro hbb (And.intro (H2.out.2.2.1.below blockV_stays hbb) (H2.out.2.2.2.1.below blockV_stays hbb)))))
            clear kx ky hbb
            go_wp2_with fail
            go_loopw [130] (fun kv W => ∃ k : Nat, k ≤ L ∧ kv = I (k : Int) ∧ Below wc.heap.size wc W) (fun kv _ => L - (intOf kv).toNat)
            case atStart => exact ⟨0, Nat.zero_le _, rfl, Below.refl _ _⟩
            case round =>
              obtain ⟨k, hk, rfl, hbk⟩ := hrel
              obtain ⟨w3, rfl⟩ : ∃ W : World, W = wr := ⟨_, rfl⟩
              obtain ⟨w4, hw4⟩ : ∃ W : World, W = wc := ⟨_, rfl⟩
              subst hw4
              clear x0 x1 x2 x3 y0 y1 y2 y3
              by_cases hkL : k < L
              · have kl : k < f.blocks.length := by rw [← H2.out.2.2.2.2.1]; exact hkL
                obtain ⟨h1, _, rfl, gl, c0, pv, iv, rfl, hpz, hiz⟩ := (H3.out.2.2.2.1.below blockV_stays hbk).at k kl
                obtain ⟨h2, _, rfl, gl', c1, pv', iv', rfl, hpz', hiz'⟩ := (H3.out.2.2.2.2.below blockV_stays hbk).at k kl
                obtain ⟨pa, pc, rfl⟩ := hpz.size
                obtain ⟨ia, ic, rfl⟩ := hiz.size
                obtain ⟨pa', pc', rfl⟩ := hpz'.size
                obtain ⟨ia', ic', rfl⟩ := hiz'.size
                have hsm := H2.out.2.2.2.2.2.2 k kl
                obtain ⟨bk, hbk'⟩ : ∃ z, z = f.blocks[k] := ⟨_, rfl⟩
                rw [← hbk'] at c0 c1 hpz hiz hpz' hiz' hsm
                obtain ⟨P, hP⟩ : ∃ P, P = bk.phis.length := ⟨_, rfl⟩
                obtain ⟨J, hJ⟩ : ∃ J, J = bk.insts.length := ⟨_, rfl⟩
                rw [← hP, ← hJ] at c0 c1
                rw [← hP] at hpz hpz'
                rw [← hJ] at hiz hiz'
                have kx := H3.out.1.below hbk H3.out.1.lt
                have ky := H3.out.2.1.below hbk H3.out.2.1.lt
                have HS0 := Lib.hid (show (w3.drew).cell? ⟨p, 3, none⟩ = some (.slice (some h1) L bc) ∧ (w3.drew).cell? ⟨q, 3, none⟩ = some (.slice (some h2) L bc') ∧ FldsA (w3.drew) h1 (k * 6) [.slice pa P pc, .slice ia J ic, U8 bk.fin, I bk.arg, I bk.to, I bk.els] ∧ FldsA (w3.drew) h2 (k * 6) [.slice pa' P pc', .slice ia' J ic', U8 bk.fin, I bk.arg, I bk.to, I bk.els] from ⟨kx.get 3 _ rfl, ky.get 3 _ rfl, c0, c1⟩)
                have HSA := Lib.hid (fun ob => show (w3.drew.alloc ob).cell? ⟨p, 3, none⟩ = some (.slice (some h1) L bc) ∧ (w3.drew.alloc ob).cell? ⟨q, 3, none⟩ = some (.slice (some h2) L bc') ∧ FldsA (w3.drew.alloc ob) h1 (k * 6) [.slice pa P pc, .slice ia J ic, U8 bk.fin, I bk.arg, I bk.to, I bk.els] ∧ FldsA (w3.drew.alloc ob) h2 (k * 6) [.slice pa' P pc', .slice ia' J ic', U8 bk.fin, I bk.arg, I bk.to, I bk.els] from ⟨kx.al 3 _ rfl ob, ky.al 3 _ rfl ob, c0.al gl ob, c1.al gl' ob⟩)
                have HSB := Lib.hid (fun ob ob' => show ((w3.drew.alloc ob).alloc ob').cell? ⟨p, 3, none⟩ = some (.slice (some h1) L bc) ∧ ((w3.drew.alloc ob).alloc ob').cell? ⟨q, 3, none⟩ = some (.slice (some h2) L bc') ∧ FldsA ((w3.drew.alloc ob).alloc ob') h1 (k * 6) [.slice pa P pc, .slice ia J ic, U8 bk.fin, I bk.arg, I bk.to, I bk.els] ∧ FldsA ((w3.drew.alloc ob).alloc ob') h2 (k * 6) [.slice pa' P pc', .slice ia' J ic', U8 bk.fin, I bk.arg, I bk.to, I bk.els] from ⟨kx.al2 3 _ rfl ob ob', ky.al2 3 _ rfl ob ob', c0.al2 gl ob ob', c1.al2 gl' ob ob'⟩)
                have e0 : decide (k < L) = true := by simpa using hkL
                have e1 : (0 : Int) ≤ (k : Int) := by omega
                have e2 : (k : Int) < (L : Int) := by omega
                have HK := Lib.hid (And.intro hkL (And.intro hbk (And.intro hpz (And.intro hiz (And.intro hpz' (And.intro hiz' hsm))))))
                clear c0 c1 hbk' hP hJ hpz hiz hpz' hiz' hsm kl hkL hbk hk kx ky gl gl'
                go_upto_region 24 with (fail)
                go_cut [11, 12] from 133 to 185 (fun p q W => TwoB w3 40 #[.slice pa P pc, .slice ia J ic, U8 bk.fin, I bk.arg, I bk.to, I bk.els] #[.slice pa' P pc', .slice ia' J ic', U8 bk.fin, I bk.arg, I bk.to, I bk.els] p q W)
                case first =>
                  refine wp_region_dep (S := fun w' => w'.cell? ⟨p, 3, none⟩ = some (.slice (some h1) L bc) ∧ w'.cell? ⟨q, 3, none⟩ = some (.slice (some h2) L bc') ∧ FldsA w' h1 (k * 6) [.slice pa P pc, .slice ia J ic, U8 bk.fin, I bk.arg, I bk.to, I bk.els] ∧ FldsA w' h2 (k * 6) [.slice pa' P pc', .slice ia' J ic', U8 bk.fin, I bk.arg, I bk.to, I bk.els]) (dep := [13]) (by kernel_rfl) ?_
                  change wpAnyD _ _ _ _ _ _ _ _ _ (World.drew _)
                  have hS := HS0.out
                  refine wpAnyD_take (i := 0) (v := ?_) rfl (by kernel_rfl) (by kernel_rfl) (by kernel_rfl) (by kernel_rfl) (by kernel_rfl) (fun _ _ _ h => h) hS (Or.inl ⟨by rfl, ?_⟩) ?_
                  rotate_left
                  · intro w hSw; obtain ⟨s1, s2, s3, s4⟩ := hSw; go_simp
                    try with_reducible rfl
                  try simp only [Act.put, List.setIfInBounds_toArray, List.set_cons_zero, List.set_cons_succ]
                  refine wpAnyD_take (i := 1) (v := ?_) rfl (by kernel_rfl) (by kernel_rfl) (by kernel_rfl) (by kernel_rfl) (by kernel_rfl) (fun _ _ _ h => h) hS (Or.inl ⟨by rfl, ?_⟩) ?_
                  rotate_left
                  · intro w hSw; obtain ⟨s1, s2, s3, s4⟩ := hSw; go_simp
                    try with_reducible rfl
                  try simp only [Act.put, List.setIfInBounds_toArray, List.set_cons_zero, List.set_cons_succ]
                  refine wpAnyD_take (i := 2) (v := ?_) rfl (by kernel_rfl) (by kernel_rfl) (by kernel_rfl) (by kernel_rfl) (by kernel_rfl) (fun _ _ _ h => h) hS (Or.inl ⟨by rfl, ?_⟩) ?_
                  rotate_left
                  · intro w hSw; obtain ⟨s1, s2, s3, s4⟩ := hSw; go_simp
                    try with_reducible rfl
                  try simp only [Act.put, List.setIfInBounds_toArray, List.set_cons_zero, List.set_cons_succ]
                  refine wpAnyD_take (i := 3) (v := ?_) rfl (by kernel_rfl) (by kernel_rfl) (by kernel_rfl) (by kernel_rfl) (by kernel_rfl) (fun _ _ _ h => h) hS (Or.inl ⟨by rfl, ?_⟩) ?_
                  rotate_left
                  · intro w hSw; obtain ⟨s1, s2, s3, s4⟩ := hSw; go_simp
                    try with_reducible rfl
                  try simp only [Act.put, List.setIfInBounds_toArray, List.set_cons_zero, List.set_cons_succ]
                  refine wpAnyD_take (i := 4) (v := ?_) rfl (by kernel_rfl) (by kernel_rfl) (by kernel_rfl) (by kernel_rfl) (by kernel_rfl) (fun _ _ _ h => h) hS (Or.inl ⟨by rfl, ?_⟩) ?_
                  rotate_left
                  · intro w hSw; obtain ⟨s1, s2, s3, s4⟩ := hSw; have x0 := s3.f0; have x1 := s3.f1; have x2 := s3.f2; have x3 := s3.f3; have x4 := s3.f4; have x5 := s3.f5; go_simp
                    try with_reducible rfl
                  try simp only [Act.put, List.setIfInBounds_toArray, List.set_cons_zero, List.set_cons_succ]
                  refine wpAnyD_take (i := 5) (v := ?_) rfl (by kernel_rfl) (by kernel_rfl) (by kernel_rfl) (by kernel_rfl) (by kernel_rfl) (fun _ _ _ h => h) hS (Or.inl ⟨by rfl, ?_⟩) ?_
                  rotate_left
                  · intro w hSw; obtain ⟨s1, s2, s3, s4⟩ := hSw; go_simp
                    try with_reducible rfl
                  try simp only [Act.put, List.setIfInBounds_toArray, List.set_cons_zero, List.set_cons_succ]
                  refine wpAnyD_take (i := 6) (v := ?_) rfl (by kernel_rfl) (by kernel_rfl) (by kernel_rfl) (by kernel_rfl) (by kernel_rfl) (fun _ _ _ h => h) hS (Or.inl ⟨by rfl, ?_⟩) ?_
                  rotate_left
                  · intro w hSw; obtain ⟨s1, s2, s3, s4⟩ := hSw; go_simp
                    try with_reducible rfl
                  try simp only [Act.put, List.setIfInBounds_toArray, List.set_cons_zero, List.set_cons_succ]
                  refine wpAnyD_take (i := 7) (v := ?_) rfl (by kernel_rfl) (by kernel_rfl) (by kernel_rfl) (by kernel_rfl) (by kernel_rfl) (fun _ _ _ h => h) hS (Or.inl ⟨by rfl, ?_⟩) ?_
                  rotate_left
                  · intro w hSw; obtain ⟨s1, s2, s3, s4⟩ := hSw; go_simp
                    try with_reducible rfl
                  try simp only [Act.put, List.setIfInBounds_toArray, List.set_cons_zero, List.set_cons_succ]
                  refine wpAnyD_take (i := 8) (v := ?_) rfl (by kernel_rfl) (by kernel_rfl) (by kernel_rfl) (by kernel_rfl) (by kernel_rfl) (fun _ _ _ h => h) hS (Or.inl ⟨by rfl, ?_⟩) ?_
                  rotate_left
                  · intro w hSw; obtain ⟨s1, s2, s3, s4⟩ := hSw; go_simp
                    try with_reducible rfl
                  try simp only [Act.put, List.setIfInBounds_toArray, List.set_cons_zero, List.set_cons_succ]
                  refine wpAnyD_take (i := 9) (v := ?_) rfl (by kernel_rfl) (by kernel_rfl) (by kernel_rfl) (by kernel_rfl) (by kernel_rfl) (fun _ _ _ h => h) hS (Or.inl ⟨by rfl, ?_⟩) ?_
                  rotate_left
                  · intro w hSw; obtain ⟨s1, s2, s3, s4⟩ := hSw; have y0 := s4.f0; have y1 := s4.f1; have y2 := s4.f2; have y3 := s4.f3; have y4 := s4.f4; have y5 := s4.f5; go_simp
                    try with_reducible rfl
                  try simp only [Act.put, List.setIfInBounds_toArray, List.set_cons_zero, List.set_cons_succ]
                  clear hS
                  refine wpAnyD_two (i := 10) (j := 11) rfl rfl (by kernel_rfl) rfl rfl (fun K hK => ?_) (fun K hK => ?_)
                  · go_simp
                    refine hK _ _ (Or.inr (HSA.out _)) ?_
                    clear hK K
                    try simp only [Act.put, List.setIfInBounds_toArray, List.set_cons_zero, List.set_cons_succ]
                    refine wpAnyD_one (i := 11) rfl (by kernel_rfl) rfl (fun K hK => ?_)
                    go_simp
                    refine hK _ _ (Or.inr (HSB.out _ _)) ?_
                    clear hK K
                    try simp only [Act.put, List.setIfInBounds_toArray, List.set_cons_zero, List.set_cons_succ]
                    refine wpAnyD_one (i := 12) rfl (by kernel_rfl) rfl (fun K hK => ?_)
                    go_simp
                    refine hK _ _ (Or.inr (HSB.out _ _)) ?_
                    clear hK K
                    try simp only [Act.put, List.setIfInBounds_toArray, List.set_cons_zero, List.set_cons_succ]
                    refine wpAnyD_one (i := 13) rfl (by kernel_rfl) rfl (fun K hK => ?_)
                    go_simp
                    refine hK _ _ (Or.inl rfl) ?_
                    clear hK K
                    refine wpAnyD_done (by kernel_rfl) ?_ _
                    go_wp2_with fail
                    go_meet
                    case rel => first | exact twoB_one _ _ _ _ | exact twoB_two _ _ _ _
                  · go_simp
                    refine hK _ _ (Or.inr (HSA.out _)) ?_
                    clear hK K
                    try simp only [Act.put, List.setIfInBounds_toArray, List.set_cons_zero, List.set_cons_succ]
                    refine wpAnyD_one (i := 10) rfl (by kernel_rfl) rfl (fun K hK => ?_)
                    go_simp
                    refine hK _ _ (Or.inr (HSB.out _ _)) ?_
                    clear hK K
                    try simp only [Act.put, List.setIfInBounds_toArray, List.set_cons_zero, List.set_cons_succ]
                    refine wpAnyD_one (i := 12) rfl (by kernel_rfl) rfl (fun K hK => ?_)
                    go_simp
                    refine hK _ _ (Or.inr (HSB.out _ _)) ?_
                    clear hK K
                    try simp only [Act.put, List.setIfInBounds_toArray, List.set_cons_zero, List.set_cons_succ]
                    refine wpAnyD_one (i := 13) rfl (by kernel_rfl) rfl (fun K hK => ?_)
                    go_simp
                    refine hK _ _ (Or.inl rfl) ?_
                    clear hK K
                    refine wpAnyD_done (by kernel_rfl) ?_ _
                    go_wp2_with fail
                    go_meet
                    case rel => first | exact twoB_one _ _ _ _ | exact twoB_two _ _ _ _
                case rest =>
                  clear HS0 HSA HSB e0
                  obtain ⟨r, s, rfl, rfl, kr, ks, hbb⟩ := hcut
                  have x0 := kr.get 0 (.slice pa P pc) rfl
                  have x1 := kr.get 1 (.slice ia J ic) rfl
                  have x2 := kr.get 2 (U8 bk.fin) rfl
                  have x3 := kr.get 3 (I bk.arg) rfl
                  have x4 := kr.get 4 (I bk.to) rfl
                  have x5 := kr.get 5 (I bk.els) rfl
                  have y0 := ks.get 0 (.slice pa' P pc') rfl
                  have y1 := ks.get 1 (.slice ia' J ic') rfl
                  have y2 := ks.get 2 (U8 bk.fin) rfl
                  have y3 := ks.get 3 (I bk.arg) rfl
                  have y4 := ks.get 4 (I bk.to) rfl
                  have y5 := ks.get 5 (I bk.els) rfl
                  have HC1 := Lib.hid (sameIn_any (.slice pa P pc) (.slice pa' P pc') bk.phis HK.out.2.2.2.2.2.2.1 wc (HK.out.2.2.1.below instV_stays hbb) (HK.out.2.2.2.2.1.below instV_stays hbb))
                  have H4 := Lib.hid (And.intro kr (And.intro ks (And.intro hbb (And.intro (HK.out.2.2.2.1.below instV_stays hbb) (HK.out.2.2.2.2.2.1.below instV_stays hbb)))))
                  clear kr ks hbb
                  go_wp2_with fail
                  refine HC1.out.mono ?_
                  rintro e w6 ⟨rfl, hb6⟩
                  clear x0 x1 x2 x3 x4 x5 y0 y1 y2 y3 y4 y5
                  have kr := H4.out.1.below hb6 H4.out.1.lt
                  have ks := H4.out.2.1.below hb6 H4.out.2.1.lt
                  have x1 := kr.get 1 (.slice ia J ic) rfl
                  have y1 := ks.get 1 (.slice ia' J ic') rfl
                  have HC2 := Lib.hid (sameIn_any (.slice ia J ic) (.slice ia' J ic') bk.insts HK.out.2.2.2.2.2.2.2 w6 (H4.out.2.2.2.1.below instV_stays hb6) (H4.out.2.2.2.2.below instV_stays hb6))
                  have H5 := Lib.hid (below_tr H4.out.2.2.1 hb6)
                  clear kr ks hb6 HC1
                  go_wp2_with fail
                  refine HC2.out.mono ?_
                  rintro e w7 ⟨rfl, hb7⟩
                  have FIN := Lib.hid (below_tr HK.out.2.1 (below_tr H5.out hb7))
                  clear hb7 HC2 x1 y1
                  go_wp2_with fail
                  exact ⟨⟨k + 1, HK.out.1, rfl, FIN.out⟩, by have := HK.out.1; simp [intOf]; omega⟩
              · have e0 : decide (k < L) = false := by simpa using hkL
                have FIN := Lib.hid (below_tr H2.out.2.1 (below_tr H3.out.2.2.1 hbk))
                clear hkL hk hbk
                go_wp2_with fail
                exact ⟨⟨j + 1, H2.out.1, rfl, FIN.out⟩, by have := H2.out.1; simp [intOf]; omega⟩
        · have d0 : decide (j < nf) = false := by simpa using hjn
          have FIN := Lib.hid (below_tr HA.out.2.2.2.2.2.2.2.1 hb)
          clear hjn hj hb
          go_wp2_with fail
          go_ret
          exact ⟨rfl, FIN.out⟩
end Go.Proofs.Ytjlmkcamefaodaa
