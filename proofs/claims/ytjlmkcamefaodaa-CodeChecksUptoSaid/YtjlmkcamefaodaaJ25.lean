/-
  Joined: KU.
-/
import Derived.Test.YtjlmkcamefaodaaJ17
import Derived.Test.YtjlmkcamefaodaaJ24
/-! KU: Is each value made wherever it is used: the walks. -/

namespace Go.Proofs.Ytjlmkcamefaodaa
open Go Go.RowKit Go.Maps Go.Sort Cd

namespace Cd
theorem useOk_none {f : FunP} {L : List Mk} {v b a : Int} (h : mapOf L v = none) : ¬ UseOk f L v b a := fun ⟨pb, pa, hm, _⟩ => (mapOf_none.1 h) (List.mem_map.2 ⟨_, hm, rfl⟩)
theorem useOk_some {f : FunP} {L : List Mk} {v b a pb pa : Int} (hd : (L.map (·.1)).Nodup) (h : mapOf L v = some (pb, pa)) : UseOk f L v b a ↔ (pb = b ∧ pa < a) ∨ (pb ≠ b ∧ Fl.DomG (gN f) pb.toNat b.toNat) := by
  constructor
  · rintro ⟨pb', pa', hm, h2⟩
    have := mapOf_mem hd hm
    rw [h] at this
    cases this
    exact h2
  · intro h2
    exact ⟨pb, pa, mapOf_some h, h2⟩
theorem comeOk_none {f : FunP} {L : List Mk} {v : Int} {b : Nat} (h : mapOf L v = none) : ¬ ComeOk f L v b := fun ⟨pb, pa, hm, _⟩ => (mapOf_none.1 h) (List.mem_map.2 ⟨_, hm, rfl⟩)
theorem comeOk_some {f : FunP} {L : List Mk} {v pb pa : Int} {b : Nat} (hd : (L.map (·.1)).Nodup) (h : mapOf L v = some (pb, pa)) : ComeOk f L v b ↔ Fl.DomG (gN f) pb.toNat b := by
  constructor
  · rintro ⟨pb', pa', hm, h2⟩
    have := mapOf_mem hd hm
    rw [h] at this
    cases this
    exact h2
  · intro h2
    exact ⟨pb, pa, mapOf_some h, h2⟩
theorem mkIn_blk {i : Int} {l : List InstP} {k : Nat} {p : Mk} (h : p ∈ mkIn i l k) : p.2.1 = i := by
  induction k with
  | zero => simp [mkIn] at h
  | succ k ih =>
    have h' : p ∈ mkIn i l k ++ (match l[k]? with | some x => mk1 i k x | none => []) := h
    rcases List.mem_append.1 h' with h | h
    · exact ih h
    · cases e : l[k]? with
      | none => rw [e] at h; simp at h
      | some x =>
        rw [e] at h
        have h2 : p ∈ mk1 i k x := h
        unfold mk1 at h2
        split at h2
        · simp at h2
        · rw [List.mem_singleton.1 h2]
theorem mks_blk {f : FunP} {p : Mk} (h : p ∈ mks f) : ∃ j : Nat, j < f.blocks.length ∧ p.2.1 = (j : Int) := by
  have key : ∀ k, k ≤ f.blocks.length → p ∈ mkBl f k → ∃ j : Nat, j < f.blocks.length ∧ p.2.1 = (j : Int) := fun k hk h => by
    induction k with
    | zero => simp [mkBl] at h
    | succ k ih =>
      rw [mkBl_succ f hk] at h
      rcases List.mem_append.1 h with h | h
      · exact ih (by omega) h
      · refine ⟨k, hk, ?_⟩
        unfold mkB at h
        rcases List.mem_append.1 h with h | h
        · obtain ⟨x, _, rfl⟩ := List.mem_map.1 h
          rfl
        · exact mkIn_blk h
  exact key _ (Nat.le_refl _) h
end Cd
/-- Who stands over whom, as a checker keeps it. -/
structure ForK (p z : Nat) (f : FunP) (P : List Int) (S : List Nat) (w : World) : Prop where
  kp : Blk p (arrZ P) 3 w
  kz : Blk z (arrN S) 3 w
  len : P.length = f.blocks.length ∧ S.length = f.blocks.length
  hP : ∀ x, x < f.blocks.length → -1 ≤ P.getD x 0 ∧ P.getD x 0 ≤ 1000000000000
  hS : ∀ x, x < f.blocks.length → ((S.getD x 0 : Nat) : Int) ≤ 1000000000000
  ov : ∀ a b, a < f.blocks.length → b < f.blocks.length → (overB P S a b = true ↔ Fl.DomG (gN f) a b)
theorem ForK.below {p z : Nat} {f : FunP} {P : List Int} {S : List Nat} {w w' : World} (h : ForK p z f P S w) (hb : Below w.heap.size w w') : ForK p z f P S w' :=
  ⟨h.kp.below hb h.kp.lt, h.kz.below hb h.kz.lt, h.len, h.hP, h.hS, h.ov⟩
theorem ForK.over {p z : Nat} {f : FunP} {P : List Int} {S : List Nat} {w : World} (h : ForK p z f P S w) {a b : Nat} (ha : a < f.blocks.length) (hb : b < f.blocks.length) {v : Bool} (hv : v = true ↔ Fl.DomG (gN f) a b) (q : Regrown) :
    Calls Try.prog 60 #[forestN p z f.blocks.length, I (a : Int), I (b : Int)] (grow (redrawn w q.d) q.os) fun e w'' => e = .returned (.bool v) ∧ ∃ p : Regrown, w'' = grow (redrawn w p.d) p.os := by
  have h2 := h.below (below_regrown w q.d q.os)
  refine Calls.regrown_of ((Over_any p z f.blocks.length a b P S ha hb h.hP h.hS _ h2.kp h2.kz h.len).mono ?_)
  rintro e w' ⟨rfl, hb⟩
  exact ⟨ret_bool (by rw [Bool.eq_iff_iff, h.ov a b ha ‹_›, hv]), hb⟩
/-- A checker that knows all of a function. -/
structure CkU (B bk bm bl cc p z cnt : Nat) (bv fv sv : Value) (c : CodeP) (f : FunP) (P : List Int) (S : List Nat) (w : World) : Prop where
  ck : CkZ B bk bm bv fv sv (.slice (some ⟨bl, 0, none⟩) f.blocks.length cc) (.slice (some ⟨p, 0, none⟩) f.blocks.length f.blocks.length) (.slice (some ⟨z, 0, none⟩) f.blocks.length f.blocks.length) c f w
  mw : MadeW bm (mapOf (mks f)) cnt w
  it : IntoK bm bl f w
  fo : ForK p z f P S w
  dk : DOk f.vals (mks f)
  nb : f.blocks.length ≤ 60000
theorem CkU.below {B bk bm bl cc p z cnt : Nat} {bv fv sv : Value} {c : CodeP} {f : FunP} {P : List Int} {S : List Nat} {w w' : World} (h : CkU B bk bm bl cc p z cnt bv fv sv c f P S w) (hb : Below w.heap.size w w') : CkU B bk bm bl cc p z cnt bv fv sv c f P S w' :=
  ⟨h.ck.below hb, h.mw.kept' hb, h.it.grown (grownOf hb bm), h.fo.below hb, h.dk, h.nb⟩

set_option maxRecDepth 100000 in
set_option maxHeartbeats 1600000 in
theorem isMade_any {B bk bm bl cc p z cnt : Nat} {bv fv sv : Value} {c : CodeP} {f : FunP} {P : List Int} {S : List Nat} (v : Int) (hv : i64ok v) (hb : Nat) (hbn : hb < f.blocks.length) (ha : Int) (w : World) (h : CkU B bk bm bl cc p z cnt bv fv sv c f P S w) :
    Calls Try.prog 51 #[.pointer (some ⟨bk, 0, none⟩), I v, placeV (hb : Int) ha] w fun e w' => TellB (UseOk f (mks f) v hb ha) w e w' := by
  obtain ⟨D, ho, hD⟩ := h.mw
  have c10 := h.ck.ck.get 10 (.map (some bm)) rfl
  have hkey := keyOf_int_mk Try.underlying3 hv
  have HO := Lib.hid (And.intro ho (And.intro hD hkey))
  have hlt : bk < w.heap.size := h.ck.ck.lt
  have hne : ¬ bk = w.heap.size := by omega
  have HH := Lib.hid (And.intro h hbn)
  clear h ho hD hkey hbn
  go_enter Try.func51, Try.ntmps51
  go_wp2_with (at_lookup; refine Hid.out ?_)
  unfold Hid
  refine wpList_lookup_own_ok _ rfl _ _ 61 rfl 3 91 key_int Try.underlying61 placeR (place_zero _) (placeD 0 0) [] (placeR_mk 0 0) bm cnt D rfl (HO.out.1.alloc _) _ _ rfl HO.out.2.2 ?_
  intro u ps hu
  obtain ⟨pb, pa, hp⟩ : ∃ pb pa, (mapOf (mks f) v).getD (0, 0) = (pb, pa) := ⟨_, _, rfl⟩
  obtain rfl : u = placeV pb pa := placeR_inv (ps := ps) (by have := (HO.out.2.1.2 v).2; rw [hp] at this; rw [← this]; exact hu)
  rw [(HO.out.2.1.2 v).1]
  clear hu
  obtain ⟨W, hW⟩ : ∃ W, W = (w.alloc (.cells #[I (hb : Int), I ha] 91)).alloc (.cells #[I pb, I pa] 91) := ⟨_, rfl⟩
  have hb1 : Below w.heap.size w W := by rw [hW]; exact ((Below.refl w.heap.size w).alloc (Nat.le_refl _) _).alloc (by simp) _
  obtain ⟨b5, hb5⟩ : ∃ b5, b5 = w.heap.size := ⟨_, rfl⟩
  obtain ⟨b7, hb7⟩ : ∃ b5, b5 = w.heap.size + 1 := ⟨_, rfl⟩
  have k5 : Blk b5 #[I (hb : Int), I ha] 91 W := by rw [hb5, hW]; exact (Blk.new _ _ _).alloc _
  have k7 : Blk b7 #[I pb, I pa] 91 W := by rw [hb7, hW]; exact Blk.new' _ _ _ (by simp)
  have y0 := k5.get 0 (I (hb : Int)) rfl
  have y1 := k5.get 1 (I ha) rfl
  have z0 := k7.get 0 (I pb) rfl
  have z1 := k7.get 1 (I pa) rfl
  have hU := HH.out.1.below hb1
  have FIN := Lib.hid (show ∀ (r : Bool), (r = true ↔ UseOk f (mks f) v hb ha) → ∀ w', Below W.heap.size W w' → TellB (UseOk f (mks f) v hb ha) w (.returned (.bool r)) w' from fun r hr w' hb2 => ⟨r, rfl, hr, below_tr hb1 hb2⟩)
  have HW := Lib.hid (And.intro hW (And.intro hb5 hb7))
  have HU := Lib.hid hU
  clear hW hb5 hb7 hb1 k5 k7 hU HO
  obtain ⟨ok, hok⟩ : ∃ ok, ok = (mapOf (mks f) v).isSome := ⟨_, rfl⟩
  rw [← hok]
  have HOK := Lib.hid hok
  clear hok
  go_upto_region 2 with (fail)
  rw [← HW.out.2.2, ← HW.out.2.1]
  change Code.wp _ _ _ _ ((w.alloc (.cells #[I (hb : Int), I ha] 91)).alloc (.cells #[I pb, I pa] 91))
  rw [← HW.out.1]
  clear c10 hne
  cases ok
  · have hno : mapOf (mks f) v = none := by
      have := HOK.out.symm
      rwa [Option.isSome_eq_false_iff, Option.isNone_iff_eq_none] at this
    have HF := Lib.hid (fun q => FIN.out false (by simp only [Bool.false_eq_true, false_iff]; exact useOk_none hno) (W.drewN q) (below_drewN (Below.refl _ _) q))
    have HF0 := Lib.hid (FIN.out false (by simp only [Bool.false_eq_true, false_iff]; exact useOk_none hno) W (Below.refl _ _))
    clear hno HOK hp
    by_cases q : pb = (hb : Int)
    · have g0 : (pb == (hb : Int)) = true := by simpa using q
      clear q
      go_wp2_with fail
      go_ret
      exact HF0.out
    · have g0 : (pb == (hb : Int)) = false := by simpa using q
      clear q
      go_upto_region 4 with (fail)
      go_quiet (fail)
      go_wp2_with fail
      go_ret
      exact HF.out _
  · have hyes : mapOf (mks f) v = some (pb, pa) := by
      cases e : mapOf (mks f) v with
      | none => have hok := HOK.out; rw [e] at hok; cases hok
      | some q => rw [e] at hp; simp at hp; rw [hp]
    obtain ⟨j, hj, hpj⟩ := mks_blk (mapOf_some hyes)
    have hpj' : pb = (j : Int) := hpj
    have HI := Lib.hid (useOk_some (f := f) (b := (hb : Int)) (a := ha) HH.out.1.dk.1 hyes)
    clear HOK hp hyes hpj
    subst hpj'
    by_cases q : j = hb
    · have g0 : ((j : Int) == (hb : Int)) = true := by simp; omega
      by_cases q2 : pa < ha
      · have g1 : decide (pa < ha) = true := decide_eq_true q2
        have HF := Lib.hid (FIN.out true (by simp only [true_iff]; exact HI.out.2 (Or.inl ⟨by omega, q2⟩)) W (Below.refl _ _))
        clear q q2
        go_wp2_with fail
        go_ret
        exact HF.out
      · have g1 : decide (pa < ha) = false := decide_eq_false q2
        have HF := Lib.hid (FIN.out false (by simp only [Bool.false_eq_true, false_iff]; intro h; rcases HI.out.1 h with h | h <;> omega) W (Below.refl _ _))
        clear q q2
        go_wp2_with fail
        go_ret
        exact HF.out
    · have g0 : ((j : Int) == (hb : Int)) = false := by simp; omega
      have hiff : UseOk f (mks f) v hb ha ↔ Fl.DomG (gN f) j hb := by
        rw [HI.out]
        simp only [Int.toNat_natCast]
        constructor
        · rintro (h | h)
          · omega
          · exact h.2
        · exact fun h => Or.inr ⟨by omega, h⟩
      obtain ⟨n, hn⟩ : ∃ n, n = f.blocks.length := ⟨_, rfl⟩
      obtain ⟨r, hr⟩ : ∃ r : Bool, r = true ↔ Fl.DomG (gN f) j hb := by
        by_cases e : Fl.DomG (gN f) j hb
        · exact ⟨true, by simp [e]⟩
        · exact ⟨false, by simp [e]⟩
      have HC := Lib.hid (fun p' : Regrown => HU.out.fo.over hj HH.out.2 hr p')
      have HF := Lib.hid (fun d os => FIN.out r (by rw [hr, hiff]) _ (below_regrown W d os))
      have x8 := HU.out.ck.ck.get 8 (.slice (some ⟨p, 0, none⟩) f.blocks.length f.blocks.length) rfl
      have x9 := HU.out.ck.ck.get 9 (.slice (some ⟨z, 0, none⟩) f.blocks.length f.blocks.length) rfl
      rw [← hn] at x8 x9 HC
      have w8 : ∀ d os, (grow (redrawn W d) os).cell? ⟨bk, 8, none⟩ = some (.slice (some ⟨p, 0, none⟩) n n) := fun d os => cell_regrown x8 d os
      have w9 : ∀ d os, (grow (redrawn W d) os).cell? ⟨bk, 9, none⟩ = some (.slice (some ⟨z, 0, none⟩) n n) := fun d os => cell_regrown x9 d os
      have w5 : ∀ d os, (grow (redrawn W d) os).cell? ⟨b5, 0, none⟩ = some (I (hb : Int)) := fun d os => cell_regrown y0 d os
      have w7 : ∀ d os, (grow (redrawn W d) os).cell? ⟨b7, 0, none⟩ = some (I (j : Int)) := fun d os => cell_regrown z0 d os
      clear hr hiff hj hn q x8 x9
      go_upto_region 4 with (fail)
      clear y0 y1 z0 z1
      cases r
      all_goals refine wp_region_quiet_below (by kernel_rfl) (by kernel_rfl) ?_
      all_goals repeat (go_big_quiet_step (first | with_reducible exact HC.out _))
      all_goals refine wpQuiet_nil ?_
      all_goals intro _ hw'
      all_goals obtain ⟨⟨dq, osq⟩, hw''⟩ := hw'
      all_goals subst hw''
      all_goals clear w5 w7 w8 w9
      all_goals go_wp2_with fail
      all_goals go_ret
      all_goals exact HF.out _ _
end Go.Proofs.Ytjlmkcamefaodaa
