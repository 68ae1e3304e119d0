/-
  A turn of places and the turn back, as the statement makes them: walked.
-/
import Derived.Test.YtnbkcdhblmfopaaMvU
import Derived.Test.YtnbkcdhblmfopaaMvV
import Derived.Laws.AppendOwnNone
import Derived.Test.YtnbkcdhblmfopaaDrawn
namespace Go.Proofs.Ytnbkcdhblmfopaa
open Go Go.RowKit Go.Maps Mv

/-- What may break S may be more. -/
theorem wpAnyD_more {P : Program} {ops : Array Oper} {Q : Exit → Act → World → Prop} {md : Region.Mode} {S : World → Prop} {dep dep' : List Nat} (hd : ∀ i, dep.contains i = true → dep'.contains i = true) : ∀ (fuel : Nat) (listed : Array Bool) (a : Act) (w : World), wpAnyD P md ops Q S dep fuel listed a w → wpAnyD P md ops Q S dep' fuel listed a w
  | 0, _, _, _, h => h
  | fuel + 1, _, _, _, h => ⟨h.1, fun i hi => wpOp_mono (fun a' w' h' => ⟨h'.1.imp (hd i) id, wpAnyD_more hd fuel _ a' w' h'.2⟩) (h.2 i hi)⟩
def nv (A : Nat → Nat) (i : Nat) : Value := I (A i : Int)
theorem nv_up (A : Nat → Nat) (i v : Nat) : up (nv A) i (I (v : Int)) = nv (up A i v) := by
  funext j
  unfold up nv
  by_cases h : j = i
  · rw [if_pos h]; simp [h]
  · rw [if_neg h]; simp [h]
def BkA (w : World) (K ba : Nat) (A : Nat → Nat) (W : World) : Prop := Blk ba (arrF K (nv A)) 3 W ∧ w.heap.size ≤ ba ∧ Below w.heap.size w W
def Bk1 (w : World) (K ba : Nat) (iv : Value) (W : World) : Prop := ∃ (i : Nat) (A : Nat → Nat), i ≤ K ∧ iv = I (i : Int) ∧ BkA w K ba A W ∧ ∀ x, x < i → A x = x
def Bk2 (w : World) (K ba : Nat) (iv : Value) (W : World) : Prop := ∃ (i : Nat) (A : Nat → Nat), i ≤ K ∧ iv = I (i : Int) ∧ BkA w K ba A W ∧ PermF K A
structure Bk3V (w : World) (K ba : Nat) (A : Nat → Nat) (i : Nat) (tv bv : Value) (W : World) : Prop where
  a : BkA w K ba A W
  t : MovO W w.heap.size 31 tv (theL A i)
  b : MovO W w.heap.size 31 bv (bakL A i)
  ne : ∀ k, tv.ownBlock = some k → bv.ownBlock ≠ some k ∧ k ≠ ba
  nb : ∀ k, bv.ownBlock = some k → k ≠ ba
def Bk3 (w : World) (K ba : Nat) (A : Nat → Nat) (tv bv iv : Value) (W : World) : Prop := ∃ i : Nat, i ≤ K ∧ iv = I (i : Int) ∧ Bk3V w K ba A i tv bv W

def CatT (W0 : World) (l : List M) (u lv iv : Value) (W : World) : Prop := ∃ (ua : Option Addr) (uc : Nat), u = .slice ua l.length uc ∧ lv = I (l.length : Int) ∧ iv = I 0 ∧ SlS (fun k => W0.heap.size ≤ k ∧ k < W.heap.size) 2 MovV W u l ∧ Below W0.heap.size W0 W
def OLk (w : World) (n : Nat) (iv : Value) (W : World) : Prop := ∃ i : Nat, i ≤ n ∧ iv = I (i : Int) ∧ Below w.heap.size w W
structure Bk4V (w5 W9 : World) (K K1 bh : Nat) (l : List M) (i : Nat) (h : Nat → Nat) (W : World) : Prop where
  b : Blk bh (arrF K1 (nv h)) 3 W
  r : HasR K (ex (l.take i) id) h
  f : ∀ k, k < W9.heap.size → k ≠ bh → W.heap[k]? = W9.heap[k]?
  z : W9.heap.size ≤ W.heap.size
  w : Below w5.heap.size w5 W
def Bk4 (w5 W9 : World) (K K1 bh : Nat) (l : List M) (iv : Value) (W : World) : Prop := ∃ (i : Nat) (h : Nat → Nat), i ≤ l.length ∧ iv = I (i : Int) ∧ Bk4V w5 W9 K K1 bh l i h W
theorem small_wf {x : Int} (h0 : 0 ≤ x) (h1 : x ≤ 1000) : (Lit.int .i64 x).wf = true := by
  have e1 : IntKind.i64.min = -9223372036854775808 := rfl
  have e2 : IntKind.i64.max = 9223372036854775807 := rfl
  simp [Lit.wf, e1, e2]
  omega
theorem tb_small {A : Nat → Nat} {k : Nat} (h : PermF k A) {l : List M} (hl : l = theL A k ∨ l = bakL A k) : ∀ m ∈ l, (0 ≤ m.1 ∧ m.1 < k) ∧ 0 ≤ m.2 ∧ m.2 < k := fun m hm => by
  rcases hl with rfl | rfl
  · obtain ⟨i, hi, rfl⟩ := mem_mv hm
    rw [theL_len] at hi
    rw [theL_at hi]
    have := h.1 i hi
    exact ⟨⟨by show (0:Int) ≤ (A i : Int); omega, by show (A i : Int) < (k : Int); omega⟩, by show (0:Int) ≤ (i : Int); omega, by show (i : Int) < (k : Int); omega⟩
  · obtain ⟨i, hi, rfl⟩ := mem_mv hm
    rw [bakL_len] at hi
    rw [bakL_at hi]
    have := h.1 i hi
    exact ⟨⟨by show (0:Int) ≤ (i : Int); omega, by show (i : Int) < (k : Int); omega⟩, by show (0:Int) ≤ (A i : Int); omega, by show (A i : Int) < (k : Int); omega⟩
theorem tb_wf {A : Nat → Nat} {k : Nat} (h : PermF k A) (hk : k ≤ 1000) {l : List M} (hl : l = theL A k ∨ l = bakL A k) : WfL l := fun m hm => by
  obtain ⟨⟨h1, h2⟩, h3, h4⟩ := tb_small h hl m hm
  exact ⟨small_wf h1 (by omega), small_wf h3 (by omega)⟩
theorem tb_ok {A : Nat → Nat} {k : Nat} (h : PermF k A) {l : List M} (hl : l = theL A k ∨ l = bakL A k) : ¬ Bad l (-1) true := by
  rintro (⟨i, hi, _, h1⟩ | h1)
  · have h2 := tb_small h hl _ (mv_mem hi)
    unfold tO fR at h1
    rcases h1 with e | e
    · rw [e] at h2; omega
    · rw [e] at h2; omega
  · rcases hl with rfl | rfl
    · exact h1 (theL_dis h)
    · exact h1 (bakL_dis A k)
theorem own_mov {W : World} {base : Nat} {E : TypeId} {v : Value} {l : List M} (h : OwnS base E 2 MovV W v l) : MovO W base E v l := by
  obtain ⟨cs, h1, _, h3, h4⟩ := h
  have e : cs = l.map encM := by
    apply List.ext_getElem
    · simp [h1]
    · intro i q1 q2
      rw [List.getElem_map]
      exact h4 i (by omega) q1
  unfold MovO cellsM
  rw [← e]
  exact h3

set_option maxRecDepth 100000 in
set_option maxHeartbeats 3200000 in
theorem movesBack_body (a : Option Addr) (n c : Nat) (bs : List Nat) (hn : n = bs.length) (hby : Byt bs) (sp : Bool) (w : World) (h : ByteZ w (.slice a n c) bs) :
    Calls Try.prog 6 #[.slice a n c, .bool sp] w fun e w' => LawT w w' e := by
  obtain ⟨i1, p1, p2, p3, p4⟩ := info_parts infoMr
  have HM := Lib.hid (And.intro p1 (And.intro p2 (And.intro p3 p4)))
  clear p1 p2 p3 p4
  obtain ⟨i2, p1, p2, p3, p4⟩ := info_parts infoMm
  have HN := Lib.hid (And.intro p1 (And.intro p2 (And.intro p3 p4)))
  clear p1 p2 p3 p4
  have HAW := Lib.hid (awake_any w)
  have HH := Lib.hid (And.intro h (And.intro hn hby))
  clear h hn hby
  go_enter Try.func6, Try.ntmps6
  go_wp2_with fail
  refine HAW.out.mono ?_
  rintro e w1 ⟨rfl, hb1⟩
  have HB1 := Lib.hid hb1
  clear hb1
  go_upto_region 3 with (fail)
  go_cut [5] (fun kv W => ∃ K : Nat, kv = I (K : Int) ∧ K ≤ n ∧ K ≤ 40 ∧ W = w1)
  case first =>
    by_cases h40 : n ≤ 40
    · have e0 : (n : Int) ≤ 40 := by omega
      have HX := Lib.hid h40
      clear h40
      go_wp2_with fail
      go_meet
      case rel => exact ⟨n, rfl, Nat.le_refl _, HX.out, rfl⟩
    · have e0 : (40 : Int) < (n : Int) := by omega
      have HX := Lib.hid h40
      clear h40
      go_wp2_with fail
      go_meet
      case rel => exact ⟨40, rfl, by have := HX.out; omega, Nat.le_refl _, rfl⟩
  case rest =>
    obtain ⟨K, rfl, hKn, hK40, hWc⟩ := hcut
    rw [hWc]
    clear hWc
    have hk40 : (K : Int) ≤ 40 := by omega
    have hk0 : (0 : Int) ≤ (K : Int) := by omega
    have hmk := mkIs K (by omega)
    obtain ⟨ba, hba⟩ : ∃ b, b = w1.heap.size := ⟨_, rfl⟩
    obtain ⟨W2, hW2⟩ : ∃ W, W = w1.alloc (.cells (Array.replicate K (I 0)) 3) := ⟨_, rfl⟩
    have HS := Lib.hid (show Bk1 w K ba (I 0) W2 from ⟨0, fun _ => 0, Nat.zero_le _, rfl, ⟨by
      have h9 := arrF_repl K (I 0)
      rw [hba, hW2, h9]; exact Blk.new _ _ _, by rw [hba]; exact HB1.out.size, by rw [hW2]; exact HB1.out.alloc HB1.out.size _⟩, fun x hx => absurd hx (by omega)⟩)
    have HW2 := Lib.hid (And.intro hW2 hba)
    have HK := Lib.hid (And.intro hKn hK40)
    clear hW2 hba hKn hK40
    go_upto_region 5 with (fail)
    change Code.wp _ _ _ _ (w1.alloc (.cells (Array.replicate K (I 0)) 3))
    rw [← HW2.out.2, ← HW2.out.1]
    clear hmk
    go_wp2_with fail
    go_loopw [34] (fun iv W => Bk1 w K ba iv W) (fun iv _ => K - (intOf iv).toNat)
    case atStart => exact HS.out
    case round =>
      obtain ⟨i, A, hi, rfl, ha, hid⟩ := hrel
      by_cases hin : i < K
      · have z0 := ha.1.get i (nv A i) (arrF_get _ hin)
        have f0 := ha.1.free i
        have d0 : decide (i < K) = true := by simpa using hin
        have d1 : (0 : Int) ≤ (i : Int) := by omega
        have d2 : (i : Int) < (K : Int) := by omega
        have HN2 := Lib.hid (show Bk1 w K ba (I ((i : Int) + 1)) (wr.setCell ⟨ba, i, none⟩ (I (i : Int))) from ⟨i + 1, up A i i, by omega, rfl, ⟨by
          have h9 := ha.1.set i (I (i : Int))
          rw [arrF_set, nv_up] at h9
          exact h9, ha.2.1, ha.2.2.setCell ha.2.1 _⟩, fun x hx => by
          by_cases e : x = i
          · rw [e, up_same]
          · rw [up_other _ _ e]; exact hid x (by omega)⟩)
        have HT := Lib.hid hin
        unfold nv at z0
        clear ha hid hin hi
        go_wp2_with fail
        exact ⟨HN2.out, by have := HT.out; simp [intOf]; omega⟩
      · have d0 : decide (i < K) = false := by simpa using hin
        have HS2 := Lib.hid (show Bk2 w K ba (I 0) wr from ⟨0, fun i => i, Nat.zero_le _, rfl, ⟨by
          have h9 := ha.1
          rw [arrF_congr (g := nv fun i => i) (fun x hx => by unfold nv; rw [hid x (by omega)])] at h9
          exact h9, ha.2⟩, permF_id K⟩)
        clear ha hid hin hi
        go_wp2_with fail
        go_loopw [43] (fun iv W => Bk2 w K ba iv W) (fun iv _ => K - (intOf iv).toNat)
        case atStart => exact HS2.out
        case round =>
          obtain ⟨i, A, hi, rfl, ha, hp⟩ := hrel
          by_cases hin : i < K
          · have hil : i < bs.length := by have := HK.out.1; have := HH.out.2.1; omega
            obtain ⟨b, _, rfl, hbl, c0, e0⟩ := (HH.out.1.below byteV_stays ha.2.2).at i hil
            obtain rfl := e0
            obtain ⟨q, hq⟩ : ∃ q, q = bs[i] := ⟨_, rfl⟩
            rw [← hq, Nat.mul_one] at c0
            have x0 : wr.cell? (b.add i) = some (.int .u8 (q : Int)) := c0.f0
            have hq8 : q < 256 := by rw [hq]; exact HH.out.2.2 _ (List.getElem_mem hil)
            have d0 : decide (i < K) = true := by simpa using hin
            have d1 : (0 : Int) ≤ (i : Int) := by omega
            have d2 : (i : Int) < (K : Int) := by omega
            have d3 : (i : Int) < (n : Int) := by have := HK.out.1; omega
            have q1 : (q : Int) < 256 := by omega
            have q0 : (0 : Int) ≤ (q : Int) := by omega
            have r2 : ¬ (K : Int) = 0 := by omega
            have H1 := Lib.hid (And.intro ha (And.intro hp hin))
            clear ha hp hin hi hil hbl c0 hq hq8
            go_upto_region 14 with (fail)
            obtain ⟨R, hR⟩ : ∃ R, R = q % K := ⟨_, rfl⟩
            have hKp : 0 < K := by omega
            have e9 : (q : Int) % (K : Int) = (R : Int) := by rw [hR]; simp
            have hRK : R < K := by rw [hR]; exact Nat.mod_lt _ hKp
            rw [e9]
            have z1 := H1.out.1.1.get R (nv A R) (arrF_get _ hRK)
            have z2 := H1.out.1.1.get i (nv A i) (arrF_get _ H1.out.2.2)
            have f1 := H1.out.1.1.free R
            have f2 := H1.out.1.1.free i
            unfold nv at z1 z2
            have HN2 := Lib.hid (show Bk2 w K ba (I ((i : Int) + 1)) ((wr.setCell ⟨ba, i, none⟩ (I (A R : Int))).drew.setCell ⟨ba, R, none⟩ (I (A i : Int))) from ⟨i + 1, swp A i R, by have := H1.out.2.2; omega, rfl, ⟨by
              have h9 := Blk.set (w := (wr.setCell ⟨ba, i, none⟩ (I (A R : Int))).drew) (Blk.set H1.out.1.1 i (I (A R : Int))) R (I (A i : Int))
              rw [arrF_set, arrF_set, nv_up, nv_up] at h9
              exact h9, H1.out.1.2.1, ((H1.out.1.2.2.setCell H1.out.1.2.1 _).drew).setCell H1.out.1.2.1 _⟩, permF_swp H1.out.2.1 H1.out.2.2 hRK⟩)
            have k3 : Blk ba (arrF K (nv (up A i (A R)))) 3 (wr.setCell ⟨ba, i, none⟩ (I (A R : Int))) := by
              have h9 := Blk.set H1.out.1.1 i (I (A R : Int))
              rw [arrF_set, nv_up] at h9
              exact h9
            have z3 := k3.get R (nv (up A i (A R)) R) (arrF_get _ hRK)
            have f3 := k3.free R
            obtain ⟨w3, hw3⟩ : ∃ x : Int, nv (up A i (A R)) R = I x := ⟨_, rfl⟩
            rw [hw3] at z3
            have g1 : (0 : Int) ≤ (R : Int) := by omega
            have g2 : (R : Int) < (K : Int) := by omega
            have HT := Lib.hid H1.out.2.2
            clear hR hKp e9 hRK x0 q1 q0 k3 hw3
            have hS : (fun w' : World => w'.cell? ⟨ba, R, none⟩ = some (I (A R : Int)) ∧ w'.cell? ⟨ba, i, none⟩ = some (I (A i : Int))) wr.drew := ⟨z1, z2⟩
            refine wp_region_dep (S := fun w' : World => w'.cell? ⟨ba, R, none⟩ = some (I (A R : Int)) ∧ w'.cell? ⟨ba, i, none⟩ = some (I (A i : Int))) (dep := [0, 1, 2, 3, 4, 5, 6, 8, 9, 10, 12, 13, 14, 15]) (by kernel_rfl) ?_
            change wpAnyD _ _ _ _ _ _ _ _ _ (World.drew _)
            refine wpAnyD_free (i := 0) (v := ?_) rfl (by kernel_rfl) (by kernel_rfl) (by kernel_rfl) (by kernel_rfl) (fun _ _ _ h => h) (Or.inl ⟨by rfl, ?_⟩) ?_
            rotate_left
            · intro w hSw; clear hSw; go_simp
              try with_reducible rfl
            try simp only [Act.put, List.setIfInBounds_toArray, List.set_cons_zero, List.set_cons_succ]
            refine wpAnyD_free (i := 1) (v := ?_) rfl (by kernel_rfl) (by kernel_rfl) (by kernel_rfl) (by kernel_rfl) (fun _ _ _ h => h) (Or.inl ⟨by rfl, ?_⟩) ?_
            rotate_left
            · intro w hSw; clear hSw; go_simp
              try with_reducible rfl
            try simp only [Act.put, List.setIfInBounds_toArray, List.set_cons_zero, List.set_cons_succ]
            refine wpAnyD_free (i := 2) (v := ?_) rfl (by kernel_rfl) (by kernel_rfl) (by kernel_rfl) (by kernel_rfl) (fun _ _ _ h => h) (Or.inl ⟨by rfl, ?_⟩) ?_
            rotate_left
            · intro w hSw; clear hSw; go_simp
              try with_reducible rfl
            try simp only [Act.put, List.setIfInBounds_toArray, List.set_cons_zero, List.set_cons_succ]
            refine wpAnyD_free (i := 3) (v := ?_) rfl (by kernel_rfl) (by kernel_rfl) (by kernel_rfl) (by kernel_rfl) (fun _ _ _ h => h) (Or.inl ⟨by rfl, ?_⟩) ?_
            rotate_left
            · intro w hSw; clear hSw; go_simp
              try with_reducible rfl
            try simp only [Act.put, List.setIfInBounds_toArray, List.set_cons_zero, List.set_cons_succ]
            refine wpAnyD_free (i := 4) (v := ?_) rfl (by kernel_rfl) (by kernel_rfl) (by kernel_rfl) (by kernel_rfl) (fun _ _ _ h => h) (Or.inl ⟨by rfl, ?_⟩) ?_
            rotate_left
            · intro w hSw; clear hSw; go_simp
              try with_reducible rfl
            try simp only [Act.put, List.setIfInBounds_toArray, List.set_cons_zero, List.set_cons_succ]
            refine wpAnyD_free (i := 5) (v := ?_) rfl (by kernel_rfl) (by kernel_rfl) (by kernel_rfl) (by kernel_rfl) (fun _ _ _ h => h) (Or.inl ⟨by rfl, ?_⟩) ?_
            rotate_left
            · intro w hSw; clear hSw; go_simp
              try with_reducible rfl
            try simp only [Act.put, List.setIfInBounds_toArray, List.set_cons_zero, List.set_cons_succ]
            refine wpAnyD_free (i := 6) (v := ?_) rfl (by kernel_rfl) (by kernel_rfl) (by kernel_rfl) (by kernel_rfl) (fun _ _ _ h => h) (Or.inl ⟨by rfl, ?_⟩) ?_
            rotate_left
            · intro w hSw; clear hSw; go_simp
              try with_reducible rfl
            try simp only [Act.put, List.setIfInBounds_toArray, List.set_cons_zero, List.set_cons_succ]
            refine wpAnyD_free (i := 8) (v := ?_) rfl (by kernel_rfl) (by kernel_rfl) (by kernel_rfl) (by kernel_rfl) (fun _ _ _ h => h) (Or.inl ⟨by rfl, ?_⟩) ?_
            rotate_left
            · intro w hSw; clear hSw; go_simp
              try with_reducible rfl
            try simp only [Act.put, List.setIfInBounds_toArray, List.set_cons_zero, List.set_cons_succ]
            refine wpAnyD_free (i := 9) (v := ?_) rfl (by kernel_rfl) (by kernel_rfl) (by kernel_rfl) (by kernel_rfl) (fun _ _ _ h => h) (Or.inl ⟨by rfl, ?_⟩) ?_
            rotate_left
            · intro w hSw; clear hSw; go_simp
              try with_reducible rfl
            try simp only [Act.put, List.setIfInBounds_toArray, List.set_cons_zero, List.set_cons_succ]
            refine wpAnyD_free (i := 10) (v := ?_) rfl (by kernel_rfl) (by kernel_rfl) (by kernel_rfl) (by kernel_rfl) (fun _ _ _ h => h) (Or.inl ⟨by rfl, ?_⟩) ?_
            rotate_left
            · intro w hSw; clear hSw; go_simp
              try with_reducible rfl
            try simp only [Act.put, List.setIfInBounds_toArray, List.set_cons_zero, List.set_cons_succ]
            refine wpAnyD_more (dep := [13, 14, 15]) (fun i hi => by simp at hi ⊢; omega) _ _ _ _ ?_
            refine wpAnyD_take (i := 7) (v := ?_) rfl (by kernel_rfl) (by kernel_rfl) (by kernel_rfl) (by kernel_rfl) (by kernel_rfl) (fun _ _ _ h => h) hS (Or.inl ⟨by rfl, ?_⟩) ?_
            rotate_left
            · intro w hSw; obtain ⟨hSw, hSw2⟩ := hSw; go_simp
              try with_reducible rfl
            try simp only [Act.put, List.setIfInBounds_toArray, List.set_cons_zero, List.set_cons_succ]
            refine wpAnyD_take (i := 11) (v := ?_) rfl (by kernel_rfl) (by kernel_rfl) (by kernel_rfl) (by kernel_rfl) (by kernel_rfl) (fun _ _ _ h => h) hS (Or.inl ⟨by rfl, ?_⟩) ?_
            rotate_left
            · intro w hSw; obtain ⟨hSw, hSw2⟩ := hSw; go_simp
              try with_reducible rfl
            try simp only [Act.put, List.setIfInBounds_toArray, List.set_cons_zero, List.set_cons_succ]
            refine wpAnyD_take (i := 12) (v := ?_) rfl (by kernel_rfl) (by kernel_rfl) (by kernel_rfl) (by kernel_rfl) (by kernel_rfl) (fun _ _ _ h => h) hS (Or.inl ⟨by rfl, ?_⟩) ?_
            rotate_left
            · intro w hSw; obtain ⟨hSw, hSw2⟩ := hSw; go_simp
              try with_reducible rfl
            try simp only [Act.put, List.setIfInBounds_toArray, List.set_cons_zero, List.set_cons_succ]
            clear hS
            refine wpAnyD_one (i := 13) rfl (by kernel_rfl) rfl (fun K hK => ?_)
            go_simp
            refine hK _ _ (Or.inl rfl) ?_
            clear hK K
            try simp only [Act.put, List.setIfInBounds_toArray, List.set_cons_zero, List.set_cons_succ]
            refine wpAnyD_one (i := 14) rfl (by kernel_rfl) rfl (fun K hK => ?_)
            go_simp
            refine hK _ _ (Or.inl rfl) ?_
            clear hK K
            try simp only [Act.put, List.setIfInBounds_toArray, List.set_cons_zero, List.set_cons_succ]
            refine wpAnyD_one (i := 15) rfl (by kernel_rfl) rfl (fun K hK => ?_)
            go_simp
            refine hK _ _ (Or.inl rfl) ?_
            clear hK K
            try simp only [Act.put, List.setIfInBounds_toArray, List.set_cons_zero, List.set_cons_succ]
            refine wpAnyD_done (by kernel_rfl) ?_ _
            go_wp2_with fail
            exact ⟨HN2.out, by have := HT.out; simp [intOf]; omega⟩
          · have d0 : decide (i < K) = false := by simpa using hin
            have HA := Lib.hid (And.intro ha hp)
            have HS3 := Lib.hid (show Bk3 w K ba A (.slice none 0 0) (.slice none 0 0) (I 0) wr from ⟨0, Nat.zero_le _, rfl, ha, MovO.start, MovO.start, (fun k hk => by cases hk), (fun k hk => by cases hk)⟩)
            have HP := Lib.hid hp
            clear ha hp hin hi HA
            go_wp2_with fail
            go_loopw [10, 11, 70] (fun tv bv iv W => Bk3 w K ba A tv bv iv W) (fun _ _ iv _ => K - (intOf iv).toNat)
            case atStart => exact HS3.out
            case round =>
              obtain ⟨i, hi, rfl, hv⟩ := hrel
              by_cases hin : i < K
              · have z0 := hv.a.1.get i (nv A i) (arrF_get _ hin)
                obtain ⟨P, hP⟩ : ∃ P, P = A i := ⟨_, rfl⟩
                unfold nv at z0
                rw [← hP] at z0
                have d0 : decide (i < K) = true := by simpa using hin
                have d1 : (0 : Int) ≤ (i : Int) := by omega
                have d2 : (i : Int) < (K : Int) := by omega
                obtain ⟨ta, tc, htv⟩ := hv.t.row
                obtain ⟨ra, rc, hbv⟩ := hv.b.row
                rw [theL_len] at htv
                rw [bakL_len] at hbv
                have ht' : wr.ownsRow w.heap.size 31 2 u10 i (cellsM (theL A i)) := by
                  have h9 := hv.t
                  unfold MovO at h9
                  rw [theL_len] at h9
                  exact h9
                have hb' : wr.ownsRow w.heap.size 31 2 u11 i (cellsM (bakL A i)) := by
                  have h9 := hv.b
                  unfold MovO at h9
                  rw [bakL_len] at h9
                  exact h9
                have H1 := Lib.hid (And.intro hv (And.intro ht' (And.intro hb' (And.intro hP hin))))
                have HTV := Lib.hid (And.intro htv hbv)
                have hib : i ≤ 40 := by omega
                have hsz := hv.a.2.2.size
                subst htv hbv
                clear hv ht' hb' hP hin hi
                go_wp2_with (first | (at_builtin; refine Hid.out ?_) | go_in)
                unfold Hid
                change wpList _ _ _ _ _ (wr.alloc (.cells #[I (P : Int), I (i : Int)] 31))
                refine wpList_append_lies _ rfl (.tmp 75) (.tmp 79) 22 rfl w.heap.size 31 i1 (.agg #[I 0, I 0]) 2 16 Try.underlying22 HM.out.1 HM.out.2.1 HM.out.2.2.1 HM.out.2.2.2 rfl (by decide) (.slice ta i tc) i (cellsM (theL A i)) rfl (H1.out.2.1.alloc _) ⟨wr.heap.size, 0, none⟩ 1 1 [I (P : Int), I (i : Int)] rfl rfl (World.news_of_block (heap_alloc_new wr _)) (by simp [Value.oneCell']) (by decide) (by unfold maxLen; omega) (by omega) (by simp; omega) _ rfl ?_
                intro g2 c2 w2 ho2 hg2 hat2 hlt2
                have hne1 := H1.out.1.ne
                have hnb1 := H1.out.1.nb
                have hbl : ∀ k, (Value.slice ra i rc).ownBlock = some k → k < wr.heap.size := fun k hk => (H1.out.2.2.1.lt k hk).2
                have hbal := H1.out.1.a.1.lt
                have a2 : BkA w K ba A w2 := ⟨(H1.out.1.a.1.alloc _).other hg2 (fun e => (hne1 ba e.symm).2 rfl), H1.out.1.a.2.1, (H1.out.1.a.2.2.alloc hsz _).grown hg2 (by simp; omega) (fun k hk => (H1.out.2.1.lt k hk).1)⟩
                have t2 : MovO w2 w.heap.size 31 (.slice (some ⟨g2, 0, none⟩) (i + 1) c2) (theL A (i + 1)) := by
                  rw [theL_succ, ← H1.out.2.2.2.1]
                  exact MovO.app (by rw [theL_len]; exact ho2)
                have b2 : w2.ownsRow w.heap.size 31 2 (.slice ra i rc) i (cellsM (bakL A i)) := (H1.out.2.2.1.alloc _).kept hg2 (by
                  cases hh : (Value.slice ra i rc).ownBlock with
                  | none => exact Or.inl rfl
                  | some k => exact Or.inr fun e => (hne1 k e.symm).1 hh)
                have hg2n : g2 ≠ ba ∧ (Value.slice ra i rc).ownBlock ≠ some g2 := by
                  rcases hat2 with e | e
                  · exact ⟨(hne1 g2 e).2, (hne1 g2 e).1⟩
                  · simp at e
                    exact ⟨by omega, fun e2 => by have := hbl g2 e2; omega⟩
                have H2 := Lib.hid (And.intro a2 (And.intro t2 (And.intro b2 (And.intro hg2n (And.intro hlt2 hnb1)))))
                have hsz2 := a2.2.2.size
                clear ho2 hg2 hat2 hlt2 hne1 hnb1 hbl hbal a2 t2 b2 hg2n
                go_wp2_with (first | (at_builtin; refine Hid.out ?_) | go_in)
                unfold Hid
                change wpList _ _ _ _ _ (w2.alloc (.cells #[I (i : Int), I (P : Int)] 31))
                refine wpList_append_lies _ rfl (.tmp 81) (.tmp 85) 22 rfl w.heap.size 31 i1 (.agg #[I 0, I 0]) 2 16 Try.underlying22 HM.out.1 HM.out.2.1 HM.out.2.2.1 HM.out.2.2.2 rfl (by decide) (.slice ra i rc) i (cellsM (bakL A i)) rfl (H2.out.2.2.1.alloc _) ⟨w2.heap.size, 0, none⟩ 1 1 [I (i : Int), I (P : Int)] rfl rfl (World.news_of_block (heap_alloc_new w2 _)) (by simp [Value.oneCell']) (by decide) (by unfold maxLen; omega) (by omega) (by simp; omega) _ rfl ?_
                intro g3 c3 w3 ho3 hg3 hat3 hlt3
                have hbal := H2.out.1.1.lt
                have hg3n : g3 ≠ ba ∧ g3 ≠ g2 := by
                  rcases hat3 with e | e
                  · exact ⟨H2.out.2.2.2.2.2 g3 e, fun e2 => H2.out.2.2.2.1.2 (by rw [← e2]; exact e)⟩
                  · simp at e
                    have := H2.out.2.2.2.2.1
                    exact ⟨by omega, by omega⟩
                have HN3 := Lib.hid (show Bk3 w K ba A (.slice (some ⟨g2, 0, none⟩) (i + 1) c2) (.slice (some ⟨g3, 0, none⟩) (i + 1) c3) (I ((i : Int) + 1)) w3 from ⟨i + 1, by have := H1.out.2.2.2.2; omega, rfl,
                  ⟨(H2.out.1.1.alloc _).other hg3 (fun e => H2.out.2.2.2.2.2 ba e.symm rfl), H2.out.1.2.1, (H2.out.1.2.2.alloc hsz2 _).grown hg3 (by simp; omega) (fun k hk => (H2.out.2.2.1.lt k hk).1)⟩,
                  World.ownsRow.kept (World.ownsRow.alloc H2.out.2.1 _) hg3 (Or.inr (fun e => H2.out.2.2.2.1.2 e.symm)), by
                    rw [bakL_succ, ← H1.out.2.2.2.1]
                    exact MovO.app (by rw [bakL_len]; exact ho3), fun k hk => by
                    have e : g2 = k := by simpa [Value.ownBlock] using hk
                    subst e
                    exact ⟨by simp [Value.ownBlock]; exact hg3n.2, H2.out.2.2.2.1.1⟩, fun k hk => by
                    have e : g3 = k := by simpa [Value.ownBlock] using hk
                    subst e
                    exact hg3n.1⟩)
                have HT := Lib.hid H1.out.2.2.2.2
                clear ho3 hg3 hat3 hlt3 hbal hg3n
                go_wp2_with fail
                exact ⟨HN3.out, by have := HT.out; simp [intOf]; omega⟩
              · have d0 : decide (i < K) = false := by simpa using hin
                have hiK : i = K := by omega
                have ht := hv.t
                have hb := hv.b
                rw [hiK] at ht hb
                have hlt : (theL A K).length ≤ 500 := by rw [theL_len]; omega
                have hlb : (bakL A K).length ≤ 500 := by rw [bakL_len]; omega
                have HL := Lib.hid (list_any u10 (theL A K) (by omega) wr ht.z)
                have H1 := Lib.hid (And.intro ht.z (And.intro hb.z (And.intro hv.a.2.2 (And.intro hlt (And.intro hlb (And.intro (tb_wf HP.out (by omega) (Or.inl rfl)) (tb_wf HP.out (by omega) (Or.inr rfl))))))))
                clear hv hin hi hiK ht hb hlt hlb
                go_wp2_with fail
                refine HL.out.mono ?_
                rintro e w2 ⟨g2, c2, rfl, _, hown2, hb2⟩
                have hz2 := (list_own hown2).z
                have HO := Lib.hid (order_any _ (theL A K) H1.out.2.2.2.1 H1.out.2.2.2.2.2.1 (-1) w2 hz2)
                have H2 := Lib.hid (And.intro (below_tr H1.out.2.2.1 hb2) (And.intro (H1.out.1.below movV_stays hb2) (H1.out.2.1.below movV_stays hb2)))
                clear hown2 hb2 hz2
                go_wp2_with fail
                refine HO.out.mono ?_
                rintro e w3 ⟨v3, c3, rfl, hor, hb3⟩
                obtain ⟨rfl, oa, hol, hmo3, hok⟩ : c3 = 0 ∧ ∃ out, out.length ≤ 2000 ∧ MovO w3 w2.heap.size 32 v3 out ∧ OrdOK (theL A K) (-1) out := by
                  rcases hor with ⟨h1, _⟩ | ⟨_, h1, h2⟩
                  · exact absurd h1 (tb_ok HP.out (Or.inl rfl))
                  · exact ⟨h1, h2⟩
                have hzb3 := H2.out.2.2.below movV_stays hb3
                have HL2 := Lib.hid (list_any u11 (bakL A K) (by have := H1.out.2.2.2.2.1; omega) w3 hzb3)
                have H3 := Lib.hid (And.intro (below_tr H2.out.1 hb3) (And.intro (H2.out.2.1.below movV_stays hb3) (And.intro hzb3 (And.intro hol (And.intro hmo3 hok)))))
                clear hor hb3 hol hmo3 hok hzb3
                go_wp2_with fail
                refine HL2.out.mono ?_
                rintro e w4 ⟨g4, c4, rfl, _, hown4, hb4⟩
                have hz4 := (list_own hown4).z
                have HO2 := Lib.hid (order_any _ (bakL A K) H1.out.2.2.2.2.1 H1.out.2.2.2.2.2.2 (-1) w4 hz4)
                have H4 := Lib.hid (And.intro (below_tr H3.out.1 hb4) (And.intro (H3.out.2.1.below movV_stays hb4) (And.intro (H3.out.2.2.1.below movV_stays hb4) (H3.out.2.2.2.2.1.below hb4))))
                clear hown4 hb4 hz4
                go_wp2_with fail
                refine HO2.out.mono ?_
                rintro e w5 ⟨v5, c5, rfl, hor, hb5⟩
                obtain ⟨rfl, ob, hol, hmo5, hok⟩ : c5 = 0 ∧ ∃ out, out.length ≤ 2000 ∧ MovO w5 w4.heap.size 32 v5 out ∧ OrdOK (bakL A K) (-1) out := by
                  rcases hor with ⟨h1, _⟩ | ⟨_, h1, h2⟩
                  · exact absurd h1 (tb_ok HP.out (Or.inr rfl))
                  · exact ⟨h1, h2⟩
                obtain ⟨K1, hK1⟩ : ∃ K1, K1 = K + 1 := ⟨_, rfl⟩
                have hmk : ∀ u, (Instr.makeSlice 41 (I ((K : Int) + 1)) (I ((K : Int) + 1))).run Try.prog u = .ok (.slice (some ⟨u.heap.size, 0, none⟩) K1 K1) (u.alloc (.cells (Array.replicate K1 (I 0)) 3)) := fun u => by
                  have h9 := mkIs K1 (by omega) u
                  rw [hK1] at h9 ⊢
                  exact h9
                obtain ⟨bh, hbh⟩ : ∃ b, b = w5.heap.size := ⟨_, rfl⟩
                obtain ⟨W6, hW6⟩ : ∃ W, W = w5.alloc (.cells (Array.replicate K1 (I 0)) 3) := ⟨_, rfl⟩
                have hb5' := below_tr H4.out.1 hb5
                have hb6 : Below w5.heap.size w5 W6 := by rw [hW6]; exact (Below.refl _ _).alloc (Nat.le_refl _) _
                have HS5 := Lib.hid (show Bk1 w5 K1 bh (I 0) W6 from ⟨0, fun _ => 0, Nat.zero_le _, rfl, ⟨by
                  have h9 := arrF_repl K1 (I 0)
                  rw [hbh, hW6, h9]; exact Blk.new _ _ _, by rw [hbh]; exact Nat.le_refl _, hb6⟩, fun x hx => absurd hx (by omega)⟩)
                have H5 := Lib.hid (And.intro hb5' (And.intro (H4.out.2.1.below movV_stays hb5) (And.intro (H4.out.2.2.1.below movV_stays hb5) (And.intro (H4.out.2.2.2.below hb5) (And.intro hmo5 (And.intro hol hok))))))
                have HW6 := Lib.hid (And.intro hW6 hbh)
                have HK1 := Lib.hid hK1
                have hk1b : (K1 : Int) ≤ 41 := by omega
                have hk10 : (0 : Int) ≤ (K1 : Int) := by omega
                clear hor hb5 hol hmo5 hok hK1 hbh hW6 hb5' hb6
                go_upto_region 28 with (fail)
                change Code.wp _ _ _ _ (w5.alloc (.cells (Array.replicate K1 (I 0)) 3))
                rw [← HW6.out.2, ← HW6.out.1]
                clear hmk
                go_wp2_with fail
                go_loopw [111] (fun iv W => Bk1 w5 K1 bh iv W) (fun iv _ => K1 - (intOf iv).toNat)
                case atStart => exact HS5.out
                case round =>
                  obtain ⟨i, B, hi, rfl, ha, hid⟩ := hrel
                  by_cases hin : i < K1
                  · have z0 := ha.1.get i (nv B i) (arrF_get _ hin)
                    have f0 := ha.1.free i
                    have d0 : decide (i < K1) = true := by simpa using hin
                    have d1 : (0 : Int) ≤ (i : Int) := by omega
                    have d2 : (i : Int) < (K1 : Int) := by omega
                    have HN2 := Lib.hid (show Bk1 w5 K1 bh (I ((i : Int) + 1)) (wr.setCell ⟨bh, i, none⟩ (I (i : Int))) from ⟨i + 1, up B i i, by omega, rfl, ⟨by
                      have h9 := ha.1.set i (I (i : Int))
                      rw [arrF_set, nv_up] at h9
                      exact h9, ha.2.1, ha.2.2.setCell ha.2.1 _⟩, fun x hx => by
                      by_cases e : x = i
                      · rw [e, up_same]
                      · rw [up_other _ _ e]; exact hid x (by omega)⟩)
                    have HT := Lib.hid hin
                    unfold nv at z0
                    clear ha hid hin hi
                    go_wp2_with fail
                    exact ⟨HN2.out, by have := HT.out; simp [intOf]; omega⟩
                  · have d0 : decide (i < K1) = false := by simpa using hin
                    have HA6 := Lib.hid (show BkA w5 K1 bh (fun i => i) wr from ⟨by
                      have h9 := ha.1
                      rw [arrF_congr (g := nv fun i => i) (fun x hx => by unfold nv; rw [hid x (by omega)])] at h9
                      exact h9, ha.2⟩)
                    clear ha hid hin hi
                    go_upto_region 33 with (fail)
                    have hoa5 := H5.out.2.2.2.1.below HA6.out.2.2
                    have hob5 := H5.out.2.2.2.2.1.below HA6.out.2.2
                    have HV := Lib.hid (And.intro hoa5 (And.intro hob5 (And.intro H3.out.2.2.2.1 H5.out.2.2.2.2.2.1)))
                    obtain ⟨W0, hW0⟩ : ∃ W, W = wr := ⟨_, rfl⟩
                    rw [← hW0] at HA6 HV ⊢
                    clear hW0 hoa5 hob5
                    obtain ⟨b7, hb7⟩ : ∃ b, b = W0.heap.size := ⟨_, rfl⟩
                    obtain ⟨W7, hW7⟩ : ∃ W, W = W0.alloc (.cells #[] 32) := ⟨_, rfl⟩
                    have hB7 : Below W0.heap.size W0 W7 := by rw [hW7]; exact (Below.refl _ _).alloc (Nat.le_refl _) _
                    have hk7 : W7.heap[b7]? = some (.cells #[] 32 (0, 0)) := by rw [hW7, hb7]; exact heap_alloc_new _ _
                    have H7 := Lib.hid (And.intro hB7 (And.intro hk7 (And.intro hW7 hb7)))
                    clear hb7 hW7 hB7 hk7
                    go_cut [123, 124, 125] (fun u lv iv W => CatT W0 (oa ++ ob) u lv iv W)
                    case first =>
                      go_wp2_with (first | (at_builtin; refine Hid.out ?_) | go_in)
                      unfold Hid
                      change wpList _ _ _ _ _ (W0.alloc (.cells #[] 32))
                      rw [← H7.out.2.2.1, ← H7.out.2.2.2]
                      refine wpList_plain rfl fun KK hKK => ?_
                      refine wp_clone (enc := encM) (.tmp 119) (.tmp 120) 24 rfl 32 i2 (.agg #[I 0, I 0]) 2 16 Try.underlying24 HN.out.1 HN.out.2.1 HN.out.2.2.1 HN.out.2.2.2 rfl (by decide) encM_len oneM b7 rfl H7.out.2.1 v3 rfl oa (LtW W7) ((HV.out.1.below H7.out.1).z) (by have := HV.out.2.2.1; omega) (by decide) ?_
                      intro u1 w8 ho1 hg1 hat1
                      refine hKK _ _ ?_
                      clear hKK KK
                      have hmo8 := own_mov ho1
                      obtain ⟨ua, uc, hu1⟩ := hmo8.row
                      have hB8 : Below W0.heap.size W0 w8 := H7.out.1.grown hg1 H7.out.1.size (fun k hk => by cases hk; rw [H7.out.2.2.2]; exact Nat.le_refl _)
                      have hz8 := hB8.size
                      have hv5 := HV.out.2.1.below hB8
                      have h7b := H7.out.2.2.2
                      obtain ⟨m, hm⟩ : ∃ m, m = oa.length := ⟨_, rfl⟩
                      rw [← hm] at hu1
                      have hmb : m ≤ 2000 := by rw [hm]; exact HV.out.2.2.1
                      have hmo8' : w8.ownsRow b7 32 2 u1 m (cellsM oa) := by rw [hm]; exact hmo8
                      have hbb : b7 ≤ w8.heap.size := by omega
                      have H8 := Lib.hid (And.intro hmo8' (And.intro hB8 (And.intro hv5 (And.intro hm (And.intro hbb hmo8)))))
                      have hobl := HV.out.2.2.2
                      subst hu1
                      rcases own_slice hv5 with ⟨rfl, h0⟩ | ⟨g5, k5, rfl⟩
                      · have hob0 : ob = [] := List.length_eq_zero_iff.1 h0
                        have HM4 := Lib.hid (show CatT W0 (oa ++ ob) (.slice ua m uc) (I (m : Int)) (I 0) w8 from ⟨ua, uc, by rw [hob0, List.append_nil, hm], by rw [hob0, List.append_nil, hm], rfl, by rw [hob0, List.append_nil]; exact (hmo8.own.sl movV_stays).keep movV_stays (fun _ _ => rfl) (fun k hk => ⟨by have := hk.1.1; omega, hk.1.2⟩), hB8⟩)
                        clear hmo8 hB8 hz8 hv5 h7b hm hmo8' hbb ho1 hg1 hat1 hob0 h0 hobl
                        go_wp2_with (first | (at_builtin; refine Hid.out ?_) | go_in)
                        unfold Hid
                        refine wpList_append_own_none rfl _ _ 24 rfl b7 32 i2 2 Try.underlying24 HN.out.1 (.slice ua m uc) m (cellsM oa) rfl H8.out.1 rfl ?_
                        go_wp2_with fail
                        go_meet
                        case rel => exact HM4.out
                      · have HQ := Lib.hid hobl
                        clear hmo8 hB8 hz8 hv5 h7b hm hmo8' hbb ho1 hg1 hat1 hobl
                        go_wp2_with (first | (at_builtin; refine Hid.out ?_) | go_in)
                        unfold Hid
                        refine wpList_append_own_at _ rfl (.tmp 121) (.tmp 122) 24 rfl b7 32 i2 (.agg #[I 0, I 0]) 2 16 Try.underlying24 HN.out.1 HN.out.2.1 HN.out.2.2.1 HN.out.2.2.2 rfl (by decide) (.slice ua m uc) m (cellsM oa) rfl H8.out.1 ⟨g5, 0, none⟩ ob.length k5 (cellsM ob) rfl (by rw [cellsM_len]) (flat_cells (by decide) encM_len (MovO.z H8.out.2.2.1)) (fun u hu => by
                          obtain ⟨y, hy, hu⟩ := List.mem_flatten.1 hu
                          obtain ⟨x, _, rfl⟩ := List.mem_map.1 hy
                          exact oneM x u hu) (by have := HQ.out; unfold maxLen; omega) (by have := HQ.out; omega) H8.out.2.2.2.2.1 ?_
                        intro u9 w9 ho9 hg9 _ hat9
                        have hmo9 : MovO w9 b7 32 u9 (oa ++ ob) := by
                          unfold MovO
                          rw [List.length_append, ← H8.out.2.2.2.1, cellsM_app2]
                          exact ho9
                        obtain ⟨ua9, uc9, hu9⟩ := hmo9.row
                        have hB9 : Below W0.heap.size W0 w9 := H8.out.2.1.grown hg9 H8.out.2.1.size (fun k hk => by have := (H8.out.1.lt k hk).1; have := H7.out.2.2.2; omega)
                        obtain ⟨r, hr⟩ : ∃ r, r = (oa ++ ob).length := ⟨_, rfl⟩
                        rw [← hr] at hu9
                        have HM5 := Lib.hid (show CatT W0 (oa ++ ob) u9 (I (r : Int)) (I 0) w9 from ⟨ua9, uc9, by rw [hu9, hr], by rw [hr], rfl, (hmo9.own.sl movV_stays).keep movV_stays (fun _ _ => rfl) (fun k hk => ⟨by have := hk.1.1; have := H7.out.2.2.2; omega, hk.1.2⟩), hB9⟩)
                        subst hu9
                        clear ho9 hg9 hat9 hmo9 hB9 hr
                        go_wp2_with fail
                        go_meet
                        case rel => exact HM5.out
                    case rest =>
                      obtain ⟨ua, uc, rfl, rfl, rfl, hsl, hB9⟩ := hcut
                      have hin9 := ord_inP HP.out (Or.inl rfl) H3.out.2.2.2.2.2
                      have hin9' := ord_inP HP.out (Or.inr rfl) H5.out.2.2.2.2.2.2
                      obtain ⟨l, hl⟩ : ∃ l, l = oa ++ ob := ⟨_, rfl⟩
                      have hinl : ∀ m ∈ l, InP K m.1 ∧ InP K m.2 := fun m hm => by
                        rw [hl] at hm
                        rcases List.mem_append.1 hm with h | h
                        · exact hin9 m h
                        · exact hin9' m h
                      have hback : ∀ i, i < K → ex l id (i : Int) = (i : Int) := fun i hi => by rw [hl]; exact there_back HP.out H3.out.2.2.2.2.2 H5.out.2.2.2.2.2.2 i hi
                      have hllen : l.length ≤ 4000 := by rw [hl, List.length_append]; have := HV.out.2.2.1; have := HV.out.2.2.2; omega
                      rw [← hl] at hsl ⊢
                      obtain ⟨r, hr⟩ : ∃ r, r = l.length := ⟨_, rfl⟩
                      rw [← hr] at hsl ⊢
                      have hbhl : bh < W0.heap.size := HA6.out.1.lt
                      have hb59 : Below w5.heap.size w5 wc := below_tr HA6.out.2.2 hB9
                      have HS9 := Lib.hid (show Bk4 w5 wc K K1 bh l (I 0) wc from ⟨0, fun i => i, Nat.zero_le _, rfl, ⟨HA6.out.1.below hB9 hbhl, by rw [List.take_zero]; exact hasR_start K fun i _ => rfl, fun _ _ _ => rfl, Nat.le_refl _, hb59⟩⟩)
                      have H9 := Lib.hid (And.intro hsl (And.intro hinl (And.intro hback (And.intro hr (And.intro hllen (show bh < W0.heap.size ∧ w5.heap.size ≤ bh from ⟨hbhl, HA6.out.2.1⟩))))))
                      have hrb : (r : Int) ≤ 4000 := by omega
                      obtain ⟨W9, hW9⟩ : ∃ W, W = wc := ⟨_, rfl⟩
                      rw [← hW9] at HS9 H9 ⊢
                      clear hsl hB9 hin9 hin9' hinl hback hllen hr hbhl hb59 hl hW9
                      go_wp2_with fail
                      go_loopw [125] (fun iv W => Bk4 w5 W9 K K1 bh l iv W) (fun iv _ => r - (intOf iv).toNat)
                      case atStart => exact HS9.out
                      case round =>
                        obtain ⟨i, h, hi, rfl, hv⟩ := hrel
                        by_cases hin : i < r
                        · have hil : i < l.length := by have := H9.out.2.2.2.1; omega
                          obtain ⟨b, _, rfl, hbb, c0, e0⟩ := H9.out.1.at i hil
                          obtain rfl := e0
                          have hne : b.block ≠ bh := by have := hbb.1; have := H9.out.2.2.2.2.2.1; omega
                          have c1 := c0.keep (hv.f _ hbb.2 hne)
                          rw [getD_mv hil] at c1
                          obtain ⟨xt, xf, hx⟩ : ∃ x y, mv l i = (x, y) := ⟨_, _, rfl⟩
                          rw [hx] at c1
                          have x0 : wr.cell? (b.add (i * 2)) = some (I xt) := c1.f0
                          have x1 : wr.cell? ⟨(b.add (i * 2)).block, (b.add (i * 2)).off + 1, none⟩ = some (I xf) := c1.f1
                          have hmem := H9.out.2.1 (xt, xf) (by rw [← hx]; exact mv_mem hil)
                          obtain ⟨T, hT⟩ : ∃ T, T = plc K xt := ⟨_, rfl⟩
                          obtain ⟨F, hF⟩ : ∃ F, F = plc K xf := ⟨_, rfl⟩
                          have hTK : T ≤ K := by rw [hT]; exact plc_le hmem.1
                          have hFK : F ≤ K := by rw [hF]; exact plc_le hmem.2
                          have hst : ex (l.take (i + 1)) id = ex1 (xt, xf) (ex (l.take i) id) := by rw [take_mv hil, hx]; exact ex_app _ [(xt, xf)] id
                          have hra := hasR_step hv.r (m := (xt, xf)) hmem.1 hmem.2
                          rw [← hst] at hra
                          have hra' : HasR K (ex (l.take (i + 1)) id) (up h T (h F)) := by rw [hT, hF]; exact hra
                          have d0 : decide (i < r) = true := by simpa using hin
                          have d1 : (0 : Int) ≤ (i : Int) := by omega
                          have d2 : (i : Int) < (r : Int) := by omega
                          obtain ⟨bx, hbx⟩ : ∃ g, g = wr.heap.size := ⟨_, rfl⟩
                          obtain ⟨W1, hW1⟩ : ∃ W, W = wr.alloc (.cells #[I xt, I xf] 32) := ⟨_, rfl⟩
                          have kx : Blk bx #[I xt, I xf] 32 W1 := by rw [hbx, hW1]; exact Blk.new _ _ _
                          have hbw : Below wr.heap.size wr W1 := by rw [hW1]; exact (Below.refl _ _).alloc (Nat.le_refl _) _
                          have HXX := Lib.hid (And.intro hv (And.intro hra' (And.intro hin (And.intro hil (And.intro hmem (And.intro hT (And.intro hF (And.intro hTK (And.intro hFK hbw)))))))))
                          have HWW := Lib.hid (And.intro hW1 hbx)
                          have u0 := kx.get 0 (I xt) rfl
                          have u1 := kx.get 1 (I xf) rfl
                          clear hi hv hin hil hbb c0 hne c1 hx hmem hT hF hTK hFK hst hra hra' hbx hW1 kx hbw
                          go_upto_region 36 with (fail)
                          change Code.wp _ _ _ _ (wr.alloc (.cells #[I xt, I xf] 32))
                          rw [← HWW.out.2, ← HWW.out.1]
                          clear x0 x1
                          go_quiet (fail)
                          obtain ⟨V, hV⟩ : ∃ V, V = W1.drewN nq := ⟨_, rfl⟩
                          rw [← hV]
                          have hbV : Below wr.heap.size wr V := by rw [hV]; exact below_drewN HXX.out.2.2.2.2.2.2.2.2.2 nq
                          have HBV := Lib.hid hbV
                          clear hV hbV u0 u1
                          go_upto_if 134 with (fail)
                          go_cut [22] (fun tv W => tv = I (T : Int) ∧ W = V)
                          case first =>
                            by_cases h2 : xt < 0
                            · have g2 : decide (xt < 0) = true := decide_eq_true h2
                              have HE := Lib.hid (show (K : Int) = (T : Int) by rw [HXX.out.2.2.2.2.2.1]; unfold plc; rw [if_pos h2])
                              clear h2
                              rw [g2]
                              go_wp2_with fail
                              go_meet
                              case rel => exact ⟨by rw [← HE.out], rfl⟩
                            · have g2 : decide (xt < 0) = false := decide_eq_false h2
                              have HE := Lib.hid (show xt = (T : Int) by rw [HXX.out.2.2.2.2.2.1]; unfold plc; rw [if_neg h2]; omega)
                              clear h2
                              rw [g2]
                              go_wp2_with fail
                              go_meet
                              case rel => exact ⟨by rw [← HE.out], rfl⟩
                          case rest =>
                            obtain ⟨rfl, hWc⟩ := hcut
                            rw [hWc]
                            clear hWc
                            go_upto_if 137 with (fail)
                            go_cut [23] (fun tv W => tv = I (F : Int) ∧ W = V)
                            case first =>
                              by_cases h2 : xf < 0
                              · have g2 : decide (xf < 0) = true := decide_eq_true h2
                                have HE := Lib.hid (show (K : Int) = (F : Int) by rw [HXX.out.2.2.2.2.2.2.1]; unfold plc; rw [if_pos h2])
                                clear h2
                                rw [g2]
                                go_wp2_with fail
                                go_meet
                                case rel => exact ⟨by rw [← HE.out], rfl⟩
                              · have g2 : decide (xf < 0) = false := decide_eq_false h2
                                have HE := Lib.hid (show xf = (F : Int) by rw [HXX.out.2.2.2.2.2.2.1]; unfold plc; rw [if_neg h2]; omega)
                                clear h2
                                rw [g2]
                                go_wp2_with fail
                                go_meet
                                case rel => exact ⟨by rw [← HE.out], rfl⟩
                            case rest =>
                              obtain ⟨rfl, hWc⟩ := hcut
                              rw [hWc]
                              clear hWc
                              have hTK := HXX.out.2.2.2.2.2.2.2.1
                              have hFK := HXX.out.2.2.2.2.2.2.2.2.1
                              have g1 : decide (K < T) = false := by simp; omega
                              have g2 : decide (K < F) = false := by simp; omega
                              have hv := HXX.out.1
                              have hk1 := HK1.out
                              have kb : Blk bh (arrF K1 (nv h)) 3 V := hv.b.below HBV.out hv.b.lt
                              have z1 := kb.get F (nv h F) (arrF_get _ (by omega))
                              have z2 := kb.get T (nv h T) (arrF_get _ (by omega))
                              have f2 := kb.free T
                              unfold nv at z1 z2
                              obtain ⟨o1, ho1⟩ : ∃ o, o = h F := ⟨_, rfl⟩
                              obtain ⟨o2, ho2⟩ : ∃ o, o = h T := ⟨_, rfl⟩
                              rw [← ho1] at z1
                              rw [← ho2] at z2
                              have HN9 := Lib.hid (show Bk4 w5 W9 K K1 bh l (I ((i : Int) + 1)) (V.setCell ⟨bh, T, none⟩ (I (o1 : Int))) from ⟨i + 1, up h T (h F), HXX.out.2.2.2.1, rfl, ⟨by
                                have h9 := kb.set T (I (o1 : Int))
                                rw [arrF_set, nv_up, ho1] at h9
                                rw [ho1]
                                exact h9, HXX.out.2.1, fun k hk hne => by
                                rw [Below.heap_setCell _ _ _ _ (show k ≠ bh from hne), HBV.out.block k (by have := hv.z; omega)]
                                exact hv.f k hk hne, by
                                have := hv.z
                                have := HBV.out.size
                                simp [World.setCell]
                                omega, (below_tr hv.w HBV.out).setCell H9.out.2.2.2.2.2.2 _⟩⟩)
                              have HT := Lib.hid HXX.out.2.2.1
                              have e1 : (0 : Int) ≤ (T : Int) := by omega
                              have e2 : (T : Int) < (K1 : Int) := by omega
                              have e3 : (0 : Int) ≤ (F : Int) := by omega
                              have e4 : (F : Int) < (K1 : Int) := by omega
                              clear hTK hFK hv hk1 kb ho1 ho2
                              go_wp2_with fail
                              go_roundw
                              case rel => exact HN9.out
                              case measure => have := HT.out; simp [intOf]; omega
                        · have d0 : decide (i < r) = false := by simpa using hin
                          have hir : i = l.length := by have := H9.out.2.2.2.1; omega
                          have hr9 := hv.r
                          rw [hir, List.take_length] at hr9
                          have hfin : ∀ x, x < K → h x = x := fun x hx => by
                            have h9 := hr9 (x : Int) (Or.inr ⟨by omega, by omega⟩)
                            rw [H9.out.2.2.1 x hx] at h9
                            have e : plc K (x : Int) = x := by unfold plc; rw [if_neg (by omega)]; omega
                            rw [e] at h9
                            exact h9
                          have HF := Lib.hid (And.intro hv.b (And.intro hfin hv.w))
                          clear hi hv hin hir hr9 hfin
                          have HS10 := Lib.hid (show OLk wr K (I 0) wr from ⟨0, Nat.zero_le _, rfl, Below.refl _ _⟩)
                          obtain ⟨W10, hW10⟩ : ∃ W, W = wr := ⟨_, rfl⟩
                          rw [← hW10] at HS10 HF
                          have HW10 := Lib.hid hW10
                          clear hW10
                          go_wp2_with fail
                          go_loopw [156] (fun iv W => OLk W10 K iv W) (fun iv _ => K - (intOf iv).toNat)
                          case atStart => rw [← HW10.out]; exact HS10.out
                          case round =>
                            obtain ⟨i, hi, rfl, hbe⟩ := hrel
                            by_cases hin : i < K
                            · have kb := HF.out.1.below hbe HF.out.1.lt
                              have hk1 := HK1.out
                              have z1 := kb.get i (nv h i) (arrF_get _ (by omega))
                              unfold nv at z1
                              rw [HF.out.2.1 i hin] at z1
                              have d0 : decide (i < K) = true := by simpa using hin
                              have d1 : (0 : Int) ≤ (i : Int) := by omega
                              have d2 : (i : Int) < (K : Int) := by omega
                              have d3 : (i : Int) < (K1 : Int) := by omega
                              have HN10 := Lib.hid (show OLk W10 K (I ((i : Int) + 1)) wr from ⟨i + 1, hin, rfl, hbe⟩)
                              have HT := Lib.hid hin
                              clear kb hk1 hbe hin hi
                              go_wp2_with fail
                              exact ⟨HN10.out, by have := HT.out; simp [intOf]; omega⟩
                            · have d0 : decide (i < K) = false := by simpa using hin
                              have hbw := below_tr HF.out.2.2 hbe
                              have hzt := H5.out.2.1.below movV_stays hbw
                              have hzb := H5.out.2.2.1.below movV_stays hbw
                              have hww := below_tr H5.out.1 hbw
                              have HLT := Lib.hid (list_any u10 (theL A K) (by have := H1.out.2.2.2.1; omega) wr hzt)
                              have HZ := Lib.hid (And.intro hzb hww)
                              have FIN := Lib.hid (show LawT w wr (.returned (.bool true)) from ⟨rfl, hww⟩)
                              clear hbw hzt hzb hww hbe hin hi
                              cases sp with
                              | false =>
                                go_wp2_with fail
                                go_ret
                                exact FIN.out
                              | true =>
                                clear FIN
                                go_wp2_with fail
                                refine HLT.out.mono ?_
                                rintro e w11 ⟨g11, c11, rfl, _, hown11, hb11⟩
                                have HP1 := Lib.hid (progCircles_any _ (theL A K) (by have := H1.out.2.2.2.1; omega) H1.out.2.2.2.2.2.1 w11 (list_own hown11).z)
                                have H11 := Lib.hid (And.intro (below_tr HZ.out.2 hb11) (HZ.out.1.below movV_stays hb11))
                                clear hown11 hb11
                                go_wp2_with fail
                                refine HP1.out.mono ?_
                                rintro e w12 ⟨c12, rfl, hc12, _, hb12⟩
                                have HLB := Lib.hid (list_any u11 (bakL A K) (by have := H1.out.2.2.2.2.1; omega) w12 (H11.out.2.below movV_stays hb12))
                                have H12 := Lib.hid (And.intro (below_tr H11.out.1 hb12) hc12)
                                clear hb12 hc12
                                go_wp2_with fail
                                refine HLB.out.mono ?_
                                rintro e w13 ⟨g13, c13, rfl, _, hown13, hb13⟩
                                have HP2 := Lib.hid (progCircles_any _ (bakL A K) (by have := H1.out.2.2.2.2.1; omega) H1.out.2.2.2.2.2.2 w13 (list_own hown13).z)
                                have H13 := Lib.hid (below_tr H12.out.1 hb13)
                                clear hown13 hb13
                                go_wp2_with fail
                                refine HP2.out.mono ?_
                                rintro e w14 ⟨c14, rfl, hc14, _, hb14⟩
                                obtain rfl : c12 = c14 := by
                                  obtain ⟨css1, h1, h2⟩ := H12.out.2 (theL_dis HP.out)
                                  obtain ⟨css2, h3, h4⟩ := hc14 (bakL_dis A K)
                                  rw [h2, h4]
                                  exact flip_len (theL_dis HP.out) (bakL_dis A K) (flip_tb A K) h1 h3
                                have FIN := Lib.hid (show LawT w w14 (.returned (.bool true)) from ⟨rfl, below_tr H13.out hb14⟩)
                                clear hc14 hb14
                                go_wp2_with fail
                                go_ret
                                exact FIN.out
end Go.Proofs.Ytnbkcdhblmfopaa
