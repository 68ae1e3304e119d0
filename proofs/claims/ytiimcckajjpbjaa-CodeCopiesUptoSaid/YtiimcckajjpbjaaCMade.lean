/-
  The map in which a checker notes where values are made.
-/
import Derived.Test.YtiimcckajjpbjaaFMem
import Derived.Test.YtiimcckajjpbjaaCSmall
import Derived.Maps.OwnSet
namespace Go.Proofs.Ytiimcckajjpbjaa
open Go Go.RowKit Go.Maps Cd

/-- A place reads as its two numbers. -/
def placeD (b a : Int) : DataW Unit := .agg [.lit (.int .i64 b), .lit (.int .i64 a)]
def placeL : List Value → Option (DataW Unit × List MemPlace)
  | [.int .i64 b, .int .i64 a] => some (placeD b a, [])
  | _ => none
def placeR : Value → Option (DataW Unit × List MemPlace)
  | .agg cs => placeL cs.toList
  | _ => none
abbrev placeV (b a : Int) : Value := .agg #[I b, I a]
theorem placeR_mk (b a : Int) : placeR (placeV b a) = some (placeD b a, []) := rfl
theorem placeL_inv {l : List Value} {b a : Int} {ps : List MemPlace} (h : placeL l = some (placeD b a, ps)) : l = [I b, I a] := by
  unfold placeL at h
  split at h
  · have h1 := congrArg Prod.fst (Option.some.inj h)
    simp [placeD] at h1
    obtain ⟨rfl, rfl⟩ := h1
    rfl
  · exact absurd h (by simp)
theorem placeR_inv {v : Value} {b a : Int} {ps : List MemPlace} (h : placeR v = some (placeD b a, ps)) : v = placeV b a := by
  cases v
  case agg cs =>
    have h2 := placeL_inv (show placeL cs.toList = some (placeD b a, ps) from h)
    have h3 : cs = #[I b, I a] := by rw [← Array.toArray_toList (xs := cs), h2]
    rw [h3]
  all_goals exact absurd h (by simp [placeR])

theorem key_int : Keyed Try.prog 3 := int_keyed Try.underlying3
theorem place_zero (w : World) : (zeroValue 100).run Try.prog w = .ok (placeV 0 0) w := by kernel_rfl

/-- What is noted, as a function. -/
def MadeIs (D : DataW Unit) (f : Int → Option (Int × Int)) : Prop := IsMap D ∧ ∀ v : Int, Maps.has D (.int .i64 v) = (f v).isSome ∧ D.atKey (.int .i64 v) (placeD 0 0) = placeD ((f v).getD (0, 0)).1 ((f v).getD (0, 0)).2
theorem MadeIs.none : MadeIs (.map []) (fun _ => none) := ⟨⟨[], rfl⟩, fun v => ⟨rfl, rfl⟩⟩
theorem MadeIs.put {D : DataW Unit} {f : Int → Option (Int × Int)} (h : MadeIs D f) {v : Int} (hv : (Lit.int .i64 v).wf = true) (b a : Int) : MadeIs (D.put (.int .i64 v) (placeD b a)) (fun u => if u = v then some (b, a) else f u) := by
  refine ⟨h.1.put _ _, fun u => ?_⟩
  by_cases hu : u = v
  · subst hu
    simp only [if_true]
    exact ⟨Maps.has_put_same h.1 (by simp [WideAt.IsKeyLit]) _, Maps.atKey_put_same h.1 (by simp [WideAt.IsKeyLit]) _ _⟩
  · simp only [hu, if_false]
    have hne : (Lit.int .i64 u) ≠ (Lit.int .i64 v) := fun e => hu (by cases e; rfl)
    exact ⟨(Maps.has_put_other hne _).trans (h.2 u).1, (Maps.atKey_put_other hne _ _).trans (h.2 u).2⟩

/-- The map in memory. -/
def MadeW (bm : Nat) (f : Int → Option (Int × Int)) (n : Nat) (w : World) : Prop := ∃ D, w.ownsMap Try.prog 3 placeR bm n D ∧ MadeIs D f

/-- A checker in memory: its function and its code, what it knows, its map. -/
abbrev CkB (bk bm : Nat) (c0 c1 c2 c3 c4 c5 c6 c7 c8 c9 : Value) (w : World) : Prop := Blk bk #[c0, c1, c2, c3, c4, c5, c6, c7, c8, c9, .map (some bm)] 73 w

set_option maxRecDepth 100000 in
set_option maxHeartbeats 800000 in
theorem isMade_near (bk bm : Nat) (c0 c1 c2 c3 c4 c5 c6 c7 c8 c9 : Value) (f : Int → Option (Int × Int)) (n : Nat) (v hb ha : Int) (hv : (Lit.int .i64 v).wf = true) (w : World) (h : CkB bk bm c0 c1 c2 c3 c4 c5 c6 c7 c8 c9 w) (hm : MadeW bm f n w) (pb pa : Int) (hp : (f v).getD (0, 0) = (pb, pa)) (hn : pb = hb) :
    Calls Try.prog 62 #[.pointer (some ⟨bk, 0, none⟩), I v, placeV hb ha] w fun e w' => e = .returned (.bool ((f v).isSome && decide (pa < ha))) ∧ Below w.heap.size w w' := by
  obtain ⟨D, ho, hD⟩ := hm
  have c10 := h.get 10 (.map (some bm)) rfl
  have hkey := keyOf_int_mk Try.underlying3 hv
  have HO := Lib.hid (And.intro ho (And.intro hD hkey))
  have HN := Lib.hid (And.intro hp hn)
  have hlt : bk < w.heap.size := h.lt
  have hne : ¬ bk = w.heap.size := by omega
  clear h ho hD hp hn hkey
  go_enter Try.func62, Try.ntmps62
  go_wp2_with (at_lookup; refine Hid.out ?_)
  unfold Hid
  refine wpList_lookup_own_ok _ rfl _ _ 69 rfl 3 100 key_int Try.underlying69 placeR (place_zero _) (placeD 0 0) [] (placeR_mk 0 0) bm n D rfl (HO.out.1.alloc _) _ _ rfl HO.out.2.2 ?_
  intro u ps hu
  obtain rfl : u = placeV pb pa := placeR_inv (ps := ps) (by have := (HO.out.2.1.2 v).2; rw [HN.out.1] at this; rw [← this]; exact hu)
  rw [(HO.out.2.1.2 v).1]
  clear hu
  have hq := HN.out.2
  clear HN
  subst hq
  obtain ⟨ok, hok⟩ : ∃ ok, ok = (f v).isSome := ⟨_, rfl⟩
  rw [← hok]
  have HOK := Lib.hid hok
  have HB := Lib.hid (((Below.refl w.heap.size w).alloc (Nat.le_refl _) (.cells #[I pb, I ha] 100)).alloc (by simp) (.cells #[I pb, I pa] 100))
  clear hok HO
  go_wp2_with fail
  all_goals go_ret
  all_goals exact ⟨ret_bool (by rw [← HOK.out]; simp_all), HB.out⟩

/-- What noting a value leaves. -/
def Noted (bk bm : Nat) (c0 c1 c2 c3 c4 c5 c6 c7 c8 c9 : Value) (f : Int → Option (Int × Int)) (n : Nat) (v hb ha : Int) (w w' : World) : Prop :=
  MadeW bm (fun u => if u = v then some (hb, ha) else f u) (n + 1) w' ∧ w.grownBy w' (some bm)

set_option maxRecDepth 100000 in
set_option maxHeartbeats 800000 in
theorem makes_any (bk bm : Nat) (c0 c1 c3 c4 c5 c6 c7 c8 c9 : Value) (vals : Int) (f : Int → Option (Int × Int)) (n : Nat) (hn : n < 1000000) (v hb ha : Int) (hvs : 0 ≤ vals ∧ vals ≤ 60000) (hv : (Lit.int .i64 v).wf = true) (w : World) (h : CkB bk bm c0 c1 (I vals) c3 c4 c5 c6 c7 c8 c9 w) (hm : MadeW bm f n w) (hbk : bk ≠ bm) :
    Calls Try.prog 58 #[.pointer (some ⟨bk, 0, none⟩), I v, placeV hb ha] w fun e w' => e = .returned (.bool (!(f v).isSome && decide (0 ≤ v ∧ v ≤ vals - 1))) ∧ Noted bk bm c0 c1 (I vals) c3 c4 c5 c6 c7 c8 c9 f n v hb ha w w' := by
  obtain ⟨D, ho, hD⟩ := hm
  have c10 := h.get 10 (.map (some bm)) rfl
  have c2 := h.get 2 (I vals) rfl
  have hlt : bk < w.heap.size := h.lt
  have hne : ¬ bk = w.heap.size := by omega
  have hkey := keyOf_int_mk Try.underlying3 hv
  have HO := Lib.hid (And.intro ho (And.intro hD (And.intro hkey (And.intro (show n < maxLen by unfold maxLen; omega) (And.intro h hbk)))))
  obtain ⟨hv1, hv2⟩ := hvs
  clear h ho hD hkey hn hbk
  go_enter Try.func58, Try.ntmps58
  go_wp2_with (at_lookup; refine Hid.out ?_)
  unfold Hid
  refine wpList_lookup_own_ok _ rfl _ _ 69 rfl 3 100 key_int Try.underlying69 placeR (place_zero _) (placeD 0 0) [] (placeR_mk 0 0) bm n D rfl (HO.out.1.alloc _) _ _ rfl HO.out.2.2.1 ?_
  intro u ps hu
  obtain ⟨pb, pa, hpp⟩ : ∃ pb pa, (f v).getD (0, 0) = (pb, pa) := ⟨_, _, rfl⟩
  obtain rfl : u = placeV pb pa := placeR_inv (ps := ps) (by have := (HO.out.2.1.2 v).2; rw [hpp] at this; rw [← this]; exact hu)
  rw [(HO.out.2.1.2 v).1]
  clear hu hpp
  obtain ⟨ok, hok⟩ : ∃ ok, ok = (f v).isSome := ⟨_, rfl⟩
  rw [← hok]
  have HOK := Lib.hid hok
  clear hok
  go_upto_region 2 with (fail)
  obtain ⟨W, hW⟩ : ∃ W, W = (w.alloc (.cells #[I hb, I ha] 100)).alloc (.cells #[I pb, I pa] 100) := ⟨_, rfl⟩
  have hb1 : Below w.heap.size w W := by rw [hW]; exact ((Below.refl w.heap.size w).alloc (Nat.le_refl _) _).alloc (by simp) _
  have ho1 : W.ownsMap Try.prog 3 placeR bm n D := by rw [hW]; exact (HO.out.1.alloc _).alloc _
  have k1 := HO.out.2.2.2.2.1.below hb1 hlt
  obtain ⟨b5, hb5⟩ : ∃ b5, b5 = w.heap.size := ⟨_, rfl⟩
  have hk5 : Blk b5 #[I hb, I ha] 100 W := by rw [hb5, hW]; exact (Blk.new _ _ _).alloc _
  have x10 := k1.get 10 (.map (some bm)) rfl
  have x2 := k1.get 2 (I vals) rfl
  have y0 := hk5.get 0 (I hb) rfl
  have y1 := hk5.get 1 (I ha) rfl
  change Code.wp _ _ _ _ ((w.alloc (.cells #[I hb, I ha] 100)).alloc (.cells #[I pb, I pa] 100))
  rw [← hW, ← hb5]
  have H1 := Lib.hid (And.intro hb1 (And.intro ho1 k1))
  have HW := Lib.hid (And.intro hW hb5)
  clear c10 c2 hW hb5 hb1 ho1 k1 hk5 hlt hne
  go_still_tail 6, (by kernel_rfl)
  change wpList _ _ _ _ _ W.drew
  refine wpList_mapUpdate_own _ rfl _ _ _ 69 rfl 3 100 key_int Try.underlying69 placeR bm n D rfl H1.out.2.1.drew HO.out.2.2.2.1 _ (placeV hb ha) _ rfl rfl HO.out.2.2.1 (placeD hb ha) [] (placeR_mk hb ha) ?_
  intro w2 hown hgr
  have k2 := H1.out.2.2.drewN 1 |>.other hgr (by have := HO.out.2.2.2.2.2; simpa using this)
  have z2 := k2.get 2 (I vals) rfl
  have FIN := Lib.hid (show Noted bk bm c0 c1 (I vals) c3 c4 c5 c6 c7 c8 c9 f n v hb ha w w2 from ⟨⟨_, hown, HO.out.2.1.put hv hb ha⟩,
    ⟨hgr.os.trans H1.out.1.os, hgr.tape.trans H1.out.1.tape, hgr.output.trans H1.out.1.output, Nat.le_trans H1.out.1.size hgr.size, fun i hi hne => (hgr.block i (Nat.lt_of_lt_of_le hi H1.out.1.size) hne).trans (H1.out.1.block i hi)⟩⟩)
  clear hown hgr k2 x10 x2 y0 y1
  go_wp2_with (go_at_call 52; refine (within_any _ _ _ _).mono ?_; rintro e w' ⟨rfl, rfl⟩)
  all_goals go_ret
  all_goals exact ⟨ret_bool (by rw [← HOK.out]; simp_all), FIN.out⟩
end Go.Proofs.Ytiimcckajjpbjaa
