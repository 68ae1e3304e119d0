/-
  Joined: KN, KS.
-/
import Derived.Test.YtjlmkcamefaodaaJ14
import Derived.WideKeyPair
import Derived.DeepKeys4
import Derived.BigQuiet
import Derived.Lib.QuietBelow
/-! KN: Is what is known of variables of the form: the walk. -/

namespace Go.Proofs.Ytjlmkcamefaodaa
open Go Go.RowKit Go.Maps Cd

theorem arrK : WideMaps.ArrKey Try.prog 117 3 2 := ⟨Try.underlying117, by kernel_rfl, by kernel_rfl, by kernel_rfl⟩
theorem key_pair : Keyed Try.prog 117 := Keyed.of_law (deep_law_laid (by kernel_rfl) (m := 2) (by omega) (of_decide_eq_true (by kernel_rfl)) (by kernel_rfl) (by rw [Try.underlying117]))
theorem pair_mk {a b : Int} (ha : i64ok a) (hb : i64ok b) : keyOf Try.prog 117 (.agg #[I a, I b]) = some (.string (keyBytes [.int .i64 a, .int .i64 b])) := WideMaps.keyOf_pair arrK Try.underlying3 ⟨Try.prog.types.size - 1, by kernel_rfl⟩ ha hb
abbrev kLit (a b : Int) : Lit := .string (keyBytes [.int .i64 a, .int .i64 b])
theorem kLit_inj {a b c d : Int} (ha : i64ok a) (hb : i64ok b) (hc : i64ok c) (hd : i64ok d) (h : kLit a b = kLit c d) : a = c ∧ b = d := by
  have h1 := key_pair.inj (pair_mk ha hb) (by rw [show Lit.string (keyBytes [.int .i64 a, .int .i64 b]) = kLit c d from h]; exact pair_mk hc hd)
  simpa using h1
/-- A set of pairs, and how many there are. -/
def KeysIs (D : DataW Unit) (ks : List (Int × Int)) : Prop := Tidy D ∧ (∀ a b, i64ok a → i64ok b → (Maps.has D (kLit a b) = true ↔ (a, b) ∈ ks)) ∧ Maps.size D ≤ ks.length ∧ (Maps.size D = ks.length ↔ ks.Nodup)
theorem KeysIs.none : KeysIs (.map []) [] := ⟨tidy_empty, fun a b _ _ => by simp [Maps.has], by simp [Maps.size], by simp [Maps.size]⟩
theorem KeysIs.put {D : DataW Unit} {ks : List (Int × Int)} (h : KeysIs D ks) {a b : Int} (ha : i64ok a) (hb : i64ok b) (u : DataW Unit) (hks : ∀ p ∈ ks, i64ok p.1 ∧ i64ok p.2) : KeysIs (D.put (kLit a b) u) (ks ++ [(a, b)]) := by
  have hm : IsMap D := by obtain ⟨es, e, _⟩ := h.1; exact ⟨es, e⟩
  have hk : WideAt.IsKeyLit (kLit a b) := key_pair.key (pair_mk ha hb)
  refine ⟨h.1.put hk u, fun c d hc hd => ?_, ?_, ?_⟩
  · by_cases e : kLit c d = kLit a b
    · obtain ⟨rfl, rfl⟩ := kLit_inj hc hd ha hb e
      rw [Maps.has_put_same hm hk]
      simp
    · rw [Maps.has_put_other e, h.2.1 c d hc hd]
      have hne : (c, d) ≠ (a, b) := fun e2 => e (by cases e2; rfl)
      simp [hne]
  · rw [Maps.size_put h.1, List.length_append]
    have := h.2.2.1
    split <;> simp <;> omega
  · rw [Maps.size_put h.1, List.length_append, List.nodup_append]
    have h1 := h.2.2.1
    have h2 := h.2.2.2
    by_cases q : Maps.has D (kLit a b) = true
    · rw [if_pos q]
      have hin := (h.2.1 a b ha hb).1 q
      constructor
      · intro e; simp at e; omega
      · rintro ⟨_, _, h3⟩
        exact absurd rfl (h3 _ hin (a, b) (by simp))
    · rw [if_neg q]
      have hin : (a, b) ∉ ks := fun e => q ((h.2.1 a b ha hb).2 e)
      simp only [List.length_singleton, Nat.add_right_cancel_iff]
      rw [h2]
      constructor
      · intro h3
        exact ⟨h3, by simp, fun x hx y hy e => hin (by rw [List.mem_singleton.1 hy] at e; rw [← e]; exact hx)⟩
      · exact fun h3 => h3.1

theorem within_q {n a b : Int} {r : Bool} (h : decide (a ≤ n ∧ n ≤ b) = r) (w : World) (m : Nat) : Calls Try.prog 40 #[I n, I a, I b] (w.drewN m) fun e w' => e = .returned (.bool r) ∧ ∃ q, w' = w.drewN q := by
  refine (within_any n a b (w.drewN m)).mono ?_
  rintro e w' ⟨rfl, rfl⟩
  exact ⟨ret_bool h, m, rfl⟩
def KnR (w : World) (bm : Nat) (vars frames : Int) (l : List DbgP) (iv : Value) (W : World) : Prop :=
  ∃ i : Nat, i ≤ l.length ∧ iv = I (i : Int) ∧ (∃ D, W.ownsMap Try.prog 117 unitElem bm i D ∧ KeysIs D ((l.take i).map dKey)) ∧ (∀ j (h : j < l.length), j < i → DbgOk vars frames l[j]) ∧ Below w.heap.size w W

set_option maxRecDepth 100000 in
set_option maxHeartbeats 3200000 in
theorem isKnown_at (bk : Nat) (vars frames : Int) (hv : 0 ≤ vars ∧ vars ≤ 255) (hfr : 0 ≤ frames ∧ frames ≤ 1000000) (l : List DbgP) (hl : l.length ≤ 1000000) (hw : ∀ d ∈ l, WfD d) (dv : Value) (w : World) (c1 : w.cell? ⟨bk, 1, none⟩ = some (I vars)) (hlt : bk < w.heap.size) (hd : DbgsZ w dv l) :
    Calls Try.prog 69 #[.pointer (some ⟨bk, 0, none⟩), dv, I frames] w fun e w' => TellB (KnownOk vars frames l) w e w' := by
  obtain ⟨da, dc, rfl⟩ := hd.size
  obtain ⟨n, hn⟩ : ∃ n, n = l.length := ⟨_, rfl⟩
  have hmm := @run_makeMap Try.prog
  obtain ⟨bm, hbm⟩ : ∃ b, b = w.heap.size := ⟨_, rfl⟩
  obtain ⟨W1, hW1⟩ : ∃ W, W = w.alloc (.map #[] 0) := ⟨_, rfl⟩
  have hb1 : Below w.heap.size w W1 := by rw [hW1]; exact (Below.refl _ _).alloc (Nat.le_refl _) _
  have HST := Lib.hid (show KnR w bm vars frames l (I 0) W1 from ⟨0, Nat.zero_le _, rfl, ⟨_, by rw [hbm, hW1]; exact World.ownsMap_made w Try.prog 117 unitElem, KeysIs.none⟩, fun j _ h => absurd h (by omega), hb1⟩)
  have HH := Lib.hid (And.intro hn (And.intro hl (And.intro hw (And.intro hd (And.intro c1 (And.intro hlt hbm))))))
  have HW1 := Lib.hid (And.intro hW1 hbm)
  obtain ⟨hv1, hv2⟩ := hv
  obtain ⟨hf1, hf2⟩ := hfr
  rw [← hn]
  clear hn hl hw hd c1 hlt hbm hW1 hb1
  go_enter Try.func69, Try.ntmps69
  go_upto_region 2 with (fail)
  rw [← HW1.out.2]
  change Code.wp _ _ _ _ (w.alloc (.map #[] 0))
  rw [← HW1.out.1]
  clear hmm
  go_wp2_with fail
  go_loopw [13] (fun iv W => KnR w bm vars frames l iv W) (fun iv _ => n - (intOf iv).toNat)
  case atStart => exact HST.out
  case round =>
    obtain ⟨i, hi, rfl, ⟨D, hown, hD⟩, hok, hb⟩ := hrel
    clear HST
    by_cases hin : i < n
    · have il : i < l.length := by have := HH.out.1; omega
      obtain ⟨b, _, e1, gl, cw, rfl⟩ := (HH.out.2.2.2.1.below dbgV_stays hb).at i il
      subst e1
      obtain ⟨d, hdd⟩ : ∃ d, d = l[i] := ⟨_, rfl⟩
      rw [← hdd] at cw
      have hwd : WfD d := by rw [hdd]; exact HH.out.2.2.1 _ (List.getElem_mem il)
      obtain ⟨dep, hdep⟩ : ∃ x, x = d.dep := ⟨_, rfl⟩
      obtain ⟨var, hvar⟩ : ∃ x, x = d.var := ⟨_, rfl⟩
      obtain ⟨kind, hkind⟩ : ∃ x, x = d.kind := ⟨_, rfl⟩
      obtain ⟨arg, harg⟩ : ∃ x, x = d.arg := ⟨_, rfl⟩
      have x0 := cw.f0
      have x1 := cw.f1
      have x2 := cw.f2
      have x3 := cw.f3
      have x4 := cw.f4
      have x5 := cw.f5
      rw [← hdep] at x0
      rw [← hvar] at x1
      rw [← hkind] at x2
      rw [← harg] at x3
      have hlt := HH.out.2.2.2.2.2.1
      have hwl : w.heap.size ≤ wr.heap.size := hb.size
      obtain ⟨W2, hW2⟩ : ∃ W, W = wr.alloc (.cells #[I dep, I var, U8 kind, I arg, I d.a, I d.b] 57) := ⟨_, rfl⟩
      obtain ⟨b9, hb9⟩ : ∃ b, b = wr.heap.size := ⟨_, rfl⟩
      have hB2 : Below wr.heap.size wr W2 := by rw [hW2]; exact (Below.refl _ _).alloc (Nat.le_refl _) _
      have k9 : Blk b9 #[I dep, I var, U8 kind, I arg, I d.a, I d.b] 57 W2 := by rw [hW2, hb9]; exact Blk.new _ _ _
      have hown2 : W2.ownsMap Try.prog 117 unitElem bm i D := by rw [hW2]; exact hown.alloc _
      have hbmlt : bm < wr.heap.size := hown.lt
      have hkey : keyOf Try.prog 117 (.agg #[I dep, I var]) = some (.string (keyBytes [.int .i64 dep, .int .i64 var])) := by rw [hdep, hvar]; exact pair_mk hwd.1 hwd.2.1
      have hD2 : KeysIs (D.put (kLit dep var) (.agg [])) ((l.take (i + 1)).map dKey) := by
        have h1 := hD.put (a := dep) (b := var) (by rw [hdep]; exact hwd.1) (by rw [hvar]; exact hwd.2.1) (.agg []) (fun p hp => by
          obtain ⟨e, he, rfl⟩ := List.mem_map.1 hp
          have := HH.out.2.2.1 e (List.mem_of_mem_take he)
          exact ⟨this.1, this.2.1⟩)
        rw [List.take_succ_eq_append_getElem il, List.map_append, ← hdd]
        simpa [dKey, hdep, hvar] using h1
      have HO := Lib.hid (And.intro hown2 (And.intro hkey (And.intro hB2 (And.intro k9 (And.intro hb hwl)))))
      have HDD := Lib.hid (And.intro hD2 (And.intro hok (And.intro hdd hin)))
      have HW2 := Lib.hid (And.intro hW2 hb9)
      have y0 := k9.get 0 (I dep) rfl
      have y1 := k9.get 1 (I var) rfl
      have d0 : decide (i < n) = true := by simpa using hin
      have d1 : (0 : Int) ≤ (i : Int) := by omega
      have d2 : (i : Int) < (n : Int) := by omega
      have hDO : Hid (DbgOk vars frames l[i] ↔ (0 ≤ dep ∧ dep ≤ frames - 1) ∧ (1 ≤ kind ∧ kind ≤ 3) ∧ (kind = 3 → 0 ≤ arg ∧ arg ≤ vars - 1)) := by
        unfold Hid DbgOk
        rw [← hdd, hdep, hkind, harg]
      have hkd : 0 ≤ kind ∧ kind ≤ 255 := by rw [hkind]; exact hwd.2.2.1
      have hk64 : IntKind.i64.wrap kind = kind := IntWalk.i64_in _ (by omega)
      have hlb : (i : Int) ≤ 1000000 := by have := HH.out.2.1; omega
      have hil : i < maxLen := by have := HH.out.2.1; unfold maxLen; omega
      have HIL := Lib.hid (And.intro hil (And.intro hlt (And.intro hbmlt HH.out.2.2.2.2.2.2)))
      clear hown hD hok hb hwl hown2 hkey hD2 hdd hwd hdep hvar hkind harg hW2 hb9 hB2 k9 hin hi gl cw hlt hbmlt hil hkd
      go_upto_region 5 with (fail)
      rw [← HW2.out.2]
      change Code.wp _ _ _ _ (wr.alloc (.cells #[I dep, I var, U8 kind, I arg, I d.a, I d.b] 57))
      rw [← HW2.out.1]
      clear x0 x1 x2 x3 x4 x5
      go_wp2_with (refine wpList_mapUpdate_own (H := Unit) _ rfl _ _ _ 115 rfl 117 116 key_pair Try.underlying115 unitElem bm i D rfl HO.out.1 HIL.out.1 _ _ _ rfl rfl HO.out.2.1 (.agg []) [] unitElem_mk ?_)
      intro w3 hown3 hgr3
      have k9 := HO.out.2.2.2.1.other hgr3 (by have := HW2.out.2; have := HIL.out.2.2.1; simp; omega)
      have y0 := k9.get 0 (I dep) rfl
      have y2 := k9.get 2 (U8 kind) rfl
      have y3 := k9.get 3 (I arg) rfl
      have hb3 : Below w.heap.size w w3 := (below_tr HO.out.2.2.2.2.1 HO.out.2.2.1).grown hgr3 (Nat.le_trans HO.out.2.2.2.2.2 HO.out.2.2.1.size) (fun k hk => by cases hk; rw [HIL.out.2.2.2]; exact Nat.le_refl _)
      have z1 := cellA_below hb3 (a := ⟨bk, 1, none⟩) HIL.out.2.1 HH.out.2.2.2.2.1
      have HNX := Lib.hid (show DbgOk vars frames l[i] → ∀ q, KnR w bm vars frames l (I ((i : Int) + 1)) (w3.drewN q) from fun hx q => ⟨i + 1, il, rfl, ⟨_, (show (w3.drewN q).ownsMap Try.prog 117 unitElem bm (i + 1) _ from hown3), HDD.out.1⟩, fun j hj hji => by
        rcases Nat.lt_or_ge j i with h | h
        · exact HDD.out.2.1 j hj h
        · obtain rfl : j = i := by omega
          exact hx, below_drewN hb3 q⟩)
      have HNO := Lib.hid (show ¬ DbgOk vars frames l[i] → ∀ q, TellB (KnownOk vars frames l) w (.returned (.bool false)) (w3.drewN q) from fun hx q => ⟨false, rfl, by simp only [Bool.false_eq_true, false_iff]; exact fun h => hx (h.1 i il), below_drewN hb3 q⟩)
      clear hown3 hgr3 k9 hb3
      go_upto_region 6 with (fail)
      by_cases q1 : 0 ≤ dep ∧ dep ≤ frames - 1
      · have e1 : decide (0 ≤ dep ∧ dep ≤ frames - 1) = true := decide_eq_true q1
        by_cases q2 : 1 ≤ kind ∧ kind ≤ 3
        · have e2 : decide (1 ≤ kind ∧ kind ≤ 3) = true := decide_eq_true q2
          by_cases q3 : kind = 3
          · have e3 : (kind == 3) = true := by simpa using q3
            by_cases q4 : 0 ≤ arg ∧ arg ≤ vars - 1
            · have e4 : decide (0 ≤ arg ∧ arg ≤ vars - 1) = true := decide_eq_true q4
              have HY := Lib.hid (HNX.out (hDO.out.2 ⟨q1, q2, fun _ => q4⟩))
              clear q1 q2 q3 q4
              go_quiet ((go_at_call 40; first | with_reducible exact within_q e1 _ _ | with_reducible exact within_q e2 _ _ | with_reducible exact within_q e4 _ _))
              go_wp2_with fail
              exact ⟨HY.out _, by have := HDD.out.2.2.2; simp [intOf]; omega⟩
            · have e4 : decide (0 ≤ arg ∧ arg ≤ vars - 1) = false := decide_eq_false q4
              have HY := Lib.hid (HNO.out (fun h => q4 ((hDO.out.1 h).2.2 q3)))
              clear q1 q2 q3 q4
              go_quiet ((go_at_call 40; first | with_reducible exact within_q e1 _ _ | with_reducible exact within_q e2 _ _ | with_reducible exact within_q e4 _ _))
              go_wp2_with fail
              go_ret
              exact HY.out _
          · have e3 : (kind == 3) = false := by simpa using q3
            have HY := Lib.hid (HNX.out (hDO.out.2 ⟨q1, q2, fun h => absurd h q3⟩))
            clear q1 q2 q3
            go_quiet ((go_at_call 40; first | with_reducible exact within_q e1 _ _ | with_reducible exact within_q e2 _ _))
            go_wp2_with fail
            exact ⟨HY.out _, by have := HDD.out.2.2.2; simp [intOf]; omega⟩
        · have e2 : decide (1 ≤ kind ∧ kind ≤ 3) = false := decide_eq_false q2
          have HY := Lib.hid (HNO.out (fun h => q2 (hDO.out.1 h).2.1))
          clear q1 q2
          go_quiet ((go_at_call 40; first | with_reducible exact within_q e1 _ _ | with_reducible exact within_q e2 _ _))
          go_wp2_with fail
          go_ret
          exact HY.out _
      · have e1 : decide (0 ≤ dep ∧ dep ≤ frames - 1) = false := decide_eq_false q1
        have HY := Lib.hid (HNO.out (fun h => q1 (hDO.out.1 h).1))
        clear q1
        go_quiet ((go_at_call 40; first | with_reducible exact within_q e1 _ _))
        go_wp2_with fail
        go_ret
        exact HY.out _
    · have d0 : decide (i < n) = false := by simpa using hin
      obtain rfl : i = n := by have := HH.out.1; omega
      have htk : l.take i = l := List.take_of_length_le (by rw [← HH.out.1]; exact Nat.le_refl _)
      rw [htk] at hD
      obtain ⟨sz, hsz⟩ : ∃ s, s = Maps.size D := ⟨_, rfl⟩
      have HOW := Lib.hid hown
      have hq : (sz = i) ↔ (l.map dKey).Nodup := by
        have := hD.2.2.2
        rw [List.length_map, ← HH.out.1] at this
        rw [hsz]; exact this
      have FIN := Lib.hid (show ∀ v : Bool, (v = true ↔ sz = i) → TellB (KnownOk vars frames l) w (.returned (.bool v)) wr from fun v hv => ⟨v, rfl, by
        rw [hv, hq]
        exact ⟨fun h => ⟨fun j hj => hok j hj (by rw [HH.out.1]; exact hj), h⟩, fun h => h.2⟩, hb⟩)
      have hsl : Hid (sz = Maps.size D) := hsz
      clear hown hD hok hb hq htk hin hi hsz
      go_wp2_with (at_len; refine wpList_len_own _ rfl _ 115 rfl 117 116 Try.underlying115 unitElem bm i D rfl HOW.out ?_)
      go_ret
      refine FIN.out _ ?_
      rw [hsl.out]
      simp
      omega
end Go.Proofs.Ytjlmkcamefaodaa

/-! KS: Has what needs one a place of the stops: the walk. -/

namespace Go.Proofs.Ytjlmkcamefaodaa
open Go Go.RowKit Go.Maps Go.Sort Cd

/-- What tells whether P holds, in every world that has grown. -/
theorem tell_regrown {f : FuncId} {args : Array Value} {w : World} {P : Prop} {v : Bool} (hv : v = true ↔ P) (h : ∀ w', Below w.heap.size w w' → Calls Try.prog f args w' fun e w2 => TellB P w' e w2) (p : Regrown) :
    Calls Try.prog f args (grow (redrawn w p.d) p.os) fun e w'' => e = .returned (.bool v) ∧ ∃ p : Regrown, w'' = grow (redrawn w p.d) p.os := by
  refine Calls.regrown_of ((h _ (below_regrown w p.d p.os)).mono ?_)
  rintro e w' ⟨u, rfl, hu, hb⟩
  exact ⟨ret_bool (by rw [Bool.eq_iff_iff, hu, hv]), hb⟩
theorem within_regrown {n a b : Int} {r : Bool} (h : decide (a ≤ n ∧ n ≤ b) = r) (w : World) (p : Regrown) : Calls Try.prog 40 #[I n, I a, I b] (grow (redrawn w p.d) p.os) fun e w'' => e = .returned (.bool r) ∧ ∃ p : Regrown, w'' = grow (redrawn w p.d) p.os := by
  refine (within_any n a b _).mono ?_
  rintro e w' ⟨rfl, rfl⟩
  exact ⟨ret_bool h, p, rfl⟩

set_option maxRecDepth 100000 in
set_option maxHeartbeats 1600000 in
theorem hasSite_at (B bk bm : Nat) (bv fv sv c7 c8 c9 : Value) (c : CodeP) (f : FunP) (hst : c.stops.length ≤ 1000000 ∧ ∀ i (h : i < c.stops.length), c.stops[i].length ≤ 1000000) (hvs : 0 ≤ f.vars ∧ f.vars ≤ 255) (op : Nat) (dst imm site : Int) (av dv : Value) (l : List DbgP) (hl : l.length ≤ 1000000) (hw : ∀ d ∈ l, WfD d) (w : World) (h : CkZ B bk bm bv fv sv c7 c8 c9 c f w) (hd : DbgsZ w dv l) :
    Calls Try.prog 59 #[.pointer (some ⟨bk, 0, none⟩), .agg #[U8 (op : Int), I dst, av, I imm, I site, dv]] w fun e w' => TellB ((op = 42 ∨ op = 39 ∨ trapsB op = true → 0 ≤ site ∧ site < (c.stops.length : Int)) ∧ (op = 42 ∨ op = 39 → KnownOk f.vars ((c.stops.getD site.toNat []).length : Int) l)) w e w' := by
  obtain ⟨sa, sc, rfl⟩ := h.fs.size
  obtain ⟨T, hT⟩ : ∃ F, F = c.stops.length := ⟨_, rfl⟩
  have c5 := h.ck.get 5 (.slice sa c.stops.length sc) rfl
  rw [← hT] at c5
  have hlt : bk < w.heap.size := h.ck.lt
  have hne : ¬ bk = w.heap.size := by omega
  have hTb : (T : Int) ≤ 1000000 := by omega
  obtain ⟨W1, hW1⟩ : ∃ W, W = w.alloc (.cells #[U8 (op : Int), I dst, av, I imm, I site, dv] 44) := ⟨_, rfl⟩
  obtain ⟨b3, hb3⟩ : ∃ b, b = w.heap.size := ⟨_, rfl⟩
  have hB1 : Below w.heap.size w W1 := by rw [hW1]; exact (Below.refl _ _).alloc (Nat.le_refl _) _
  have k3 : Blk b3 #[U8 (op : Int), I dst, av, I imm, I site, dv] 44 W1 := by rw [hW1, hb3]; exact Blk.new _ _ _
  have h1 := h.below hB1
  have x0 := k3.get 0 (U8 (op : Int)) rfl
  have x4 := k3.get 4 (I site) rfl
  have x5 := k3.get 5 dv rfl
  have c5' := cellA_below hB1 (a := ⟨bk, 5, none⟩) hlt c5
  have HW1 := Lib.hid (And.intro hW1 hb3)
  have HH := Lib.hid (And.intro h1 (And.intro hB1 (And.intro hT (And.intro hst (And.intro hl (And.intro hw (hd.below dbgV_stays hB1)))))))
  obtain ⟨P, hP⟩ : ∃ P : Prop, P = ((op = 42 ∨ op = 39 ∨ trapsB op = true → 0 ≤ site ∧ site < (c.stops.length : Int)) ∧ (op = 42 ∨ op = 39 → KnownOk f.vars ((c.stops.getD site.toNat []).length : Int) l)) := ⟨_, rfl⟩
  have HP := Lib.hid hP
  rw [← hP]
  have FIN := Lib.hid (show ∀ (v : Bool), (v = true ↔ P) → ∀ w', Below W1.heap.size W1 w' → TellB P w (.returned (.bool v)) w' from fun v hv w' hb => ⟨v, rfl, hv, below_tr hB1 hb⟩)
  clear h hd hst hl hw hT hP h1 hB1 k3 hW1 hb3
  go_enter Try.func59, Try.ntmps59
  go_upto_region 1 with (fail)
  rw [← HW1.out.2]
  change Code.wp _ _ _ _ (w.alloc (.cells #[U8 (op : Int), I dst, av, I imm, I site, dv] 44))
  rw [← HW1.out.1]
  clear c5 hne
  by_cases h42 : op = 42
  · subst h42
    have g42 : (((42 : Nat) : Int) == 42) = true := rfl
    by_cases hs : 0 ≤ site ∧ site < (c.stops.length : Int)
    · obtain ⟨q, rfl⟩ : ∃ q : Nat, site = (q : Int) := ⟨site.toNat, by omega⟩
      have e1 : decide (0 ≤ (q : Int) ∧ (q : Int) ≤ (T : Int) - 1) = true := decide_eq_true (by have := HH.out.2.2.1; omega)
      have d1 : (0 : Int) ≤ (q : Int) := by omega
      have d2 : (q : Int) < (T : Int) := by have := HH.out.2.2.1; omega
      have hq : q < c.stops.length := by omega
      obtain ⟨b, _, rfl, hbB, cw, sv', rfl, hsp⟩ := HH.out.1.fs.at q hq
      obtain ⟨pa, pc, rfl⟩ := hsp.size
      obtain ⟨m, hm⟩ : ∃ m, m = c.stops[q].length := ⟨_, rfl⟩
      have cs := cw.f0
      rw [Nat.mul_one, ← hm] at cs
      have hmm : m ≤ 1000000 := by rw [hm]; exact HH.out.2.2.2.1.2 q hq
      by_cases hk : KnownOk f.vars (m : Int) l
      · have hvk : (true = true) ↔ KnownOk f.vars (m : Int) l := by simp [hk]
        have HPV := Lib.hid (show true = true ↔ P by rw [HP.out]; simp only [Bool.false_eq_true, false_iff, true_iff]; exact ⟨fun _ => hs, fun _ => by rw [Int.toNat_natCast, List.getD_eq_getElem?_getD, List.getElem?_eq_getElem hq]; show KnownOk f.vars (c.stops[q].length : Int) l; rw [← hm]; exact hk⟩)
        have HM := Lib.hid (And.intro hvk (And.intro hmm cs))
        clear hs hk hvk hm hmm hq hsp cw cs hbB
        go_upto_region 4 with (fail)
        go_quiet ((go_at_call 40; with_reducible exact within_q e1 _ _))
        go_upto_region 6 with (fail)
        obtain ⟨W2, hW2⟩ : ∃ W, W = W1.drewN nq := ⟨_, rfl⟩
        have hbq := below_drewN (Below.refl W1.heap.size W1) nq
        have h2 := HH.out.1.below hbq
        have hd2 := HH.out.2.2.2.2.2.2.below dbgV_stays hbq
        rw [← hW2] at h2 hd2
        have HC := Lib.hid (fun p : Regrown => tell_regrown (w := W2) HM.out.1 (fun w' hb => isKnown_at bk f.vars (m : Int) hvs (by have := HM.out.2.1; omega) l HH.out.2.2.2.2.1 HH.out.2.2.2.2.2.1 dv w' (cellA_below hb (a := ⟨bk, 1, none⟩) h2.ck.lt (h2.ck.get 1 (I f.vars) rfl)) (Nat.lt_of_lt_of_le h2.ck.lt hb.size) (hd2.below dbgV_stays hb)) p)
        have y5 : ∀ d os, (grow (redrawn W2 d) os).cell? ⟨b3, 5, none⟩ = some dv := fun d os => cell_regrown (by rw [hW2]; exact x5) d os
        have y4 : ∀ d os, (grow (redrawn W2 d) os).cell? ⟨b3, 4, none⟩ = some (I (q : Int)) := fun d os => cell_regrown (by rw [hW2]; exact x4) d os
        have y6 : ∀ d os, (grow (redrawn W2 d) os).cell? ⟨bk, 5, none⟩ = some (.slice (some b) T sc) := fun d os => cell_regrown (by rw [hW2]; exact c5') d os
        have y7 : ∀ d os, (grow (redrawn W2 d) os).cell? (b.add q) = some (.slice pa m pc) := fun d os => cell_regrown (by rw [hW2]; exact HM.out.2.2) d os
        have HW2 := Lib.hid hW2
        change Code.wp _ _ _ _ (W1.drewN nq)
        rw [← HW2.out]
        clear x0 x4 x5 c5' h2 hd2 hW2 hbq
        refine wp_region_quiet_below (by kernel_rfl) (by kernel_rfl) ?_
        repeat (go_big_quiet_step (first | with_reducible exact HC.out _))
        refine wpQuiet_nil ?_
        intro _ hw'
        obtain ⟨⟨dq, osq⟩, hw''⟩ := hw'
        subst hw''
        clear y4 y5 y6 y7
        go_wp2_with fail
        go_ret
        exact FIN.out true (by simpa using HPV.out) _ (by have h3 := below_regrown W2 dq osq; rw [HW2.out] at h3 ⊢; exact below_tr (below_drewN (Below.refl W1.heap.size W1) nq) h3)
      · have hvk : (false = true) ↔ KnownOk f.vars (m : Int) l := by simp [hk]
        have HPV := Lib.hid (show false = true ↔ P by rw [HP.out]; simp only [Bool.false_eq_true, false_iff, true_iff]; exact fun h => hk (by have h3 := h.2 (by simp); rw [Int.toNat_natCast, List.getD_eq_getElem?_getD, List.getElem?_eq_getElem hq] at h3; have h4 : KnownOk f.vars (c.stops[q].length : Int) l := h3; rw [← hm] at h4; exact h4))
        have HM := Lib.hid (And.intro hvk (And.intro hmm cs))
        clear hs hk hvk hm hmm hq hsp cw cs hbB
        go_upto_region 4 with (fail)
        go_quiet ((go_at_call 40; with_reducible exact within_q e1 _ _))
        go_upto_region 6 with (fail)
        obtain ⟨W2, hW2⟩ : ∃ W, W = W1.drewN nq := ⟨_, rfl⟩
        have hbq := below_drewN (Below.refl W1.heap.size W1) nq
        have h2 := HH.out.1.below hbq
        have hd2 := HH.out.2.2.2.2.2.2.below dbgV_stays hbq
        rw [← hW2] at h2 hd2
        have HC := Lib.hid (fun p : Regrown => tell_regrown (w := W2) HM.out.1 (fun w' hb => isKnown_at bk f.vars (m : Int) hvs (by have := HM.out.2.1; omega) l HH.out.2.2.2.2.1 HH.out.2.2.2.2.2.1 dv w' (cellA_below hb (a := ⟨bk, 1, none⟩) h2.ck.lt (h2.ck.get 1 (I f.vars) rfl)) (Nat.lt_of_lt_of_le h2.ck.lt hb.size) (hd2.below dbgV_stays hb)) p)
        have y5 : ∀ d os, (grow (redrawn W2 d) os).cell? ⟨b3, 5, none⟩ = some dv := fun d os => cell_regrown (by rw [hW2]; exact x5) d os
        have y4 : ∀ d os, (grow (redrawn W2 d) os).cell? ⟨b3, 4, none⟩ = some (I (q : Int)) := fun d os => cell_regrown (by rw [hW2]; exact x4) d os
        have y6 : ∀ d os, (grow (redrawn W2 d) os).cell? ⟨bk, 5, none⟩ = some (.slice (some b) T sc) := fun d os => cell_regrown (by rw [hW2]; exact c5') d os
        have y7 : ∀ d os, (grow (redrawn W2 d) os).cell? (b.add q) = some (.slice pa m pc) := fun d os => cell_regrown (by rw [hW2]; exact HM.out.2.2) d os
        have HW2 := Lib.hid hW2
        change Code.wp _ _ _ _ (W1.drewN nq)
        rw [← HW2.out]
        clear x0 x4 x5 c5' h2 hd2 hW2 hbq
        refine wp_region_quiet_below (by kernel_rfl) (by kernel_rfl) ?_
        repeat (go_big_quiet_step (first | with_reducible exact HC.out _))
        refine wpQuiet_nil ?_
        intro _ hw'
        obtain ⟨⟨dq, osq⟩, hw''⟩ := hw'
        subst hw''
        clear y4 y5 y6 y7
        go_wp2_with fail
        go_ret
        exact FIN.out false (by simpa using HPV.out) _ (by have h3 := below_regrown W2 dq osq; rw [HW2.out] at h3 ⊢; exact below_tr (below_drewN (Below.refl W1.heap.size W1) nq) h3)
    · have e1 : decide (0 ≤ site ∧ site ≤ (T : Int) - 1) = false := decide_eq_false (by have := HH.out.2.2.1; omega)
      go_upto_region 4 with (fail)
      go_quiet ((go_at_call 40; with_reducible exact within_q e1 _ _))
      go_wp2_with fail
      go_ret
      exact FIN.out false (by rw [HP.out]; simp only [Bool.false_eq_true, false_iff, true_iff]; exact fun h => hs (h.1 (by simp))) _ (by first | exact below_drewN (Below.refl _ _) _ | exact below_drewN (below_drewN (Below.refl _ _) _) _)
  · have g42 : ((op : Int) == 42) = false := by simp; omega
    by_cases h39 : op = 39
    · subst h39
      have g39 : (((39 : Nat) : Int) == 39) = true := rfl
      by_cases hs : 0 ≤ site ∧ site < (c.stops.length : Int)
      · obtain ⟨q, rfl⟩ : ∃ q : Nat, site = (q : Int) := ⟨site.toNat, by omega⟩
        have e1 : decide (0 ≤ (q : Int) ∧ (q : Int) ≤ (T : Int) - 1) = true := decide_eq_true (by have := HH.out.2.2.1; omega)
        have d1 : (0 : Int) ≤ (q : Int) := by omega
        have d2 : (q : Int) < (T : Int) := by have := HH.out.2.2.1; omega
        have hq : q < c.stops.length := by omega
        obtain ⟨b, _, rfl, hbB, cw, sv', rfl, hsp⟩ := HH.out.1.fs.at q hq
        obtain ⟨pa, pc, rfl⟩ := hsp.size
        obtain ⟨m, hm⟩ : ∃ m, m = c.stops[q].length := ⟨_, rfl⟩
        have cs := cw.f0
        rw [Nat.mul_one, ← hm] at cs
        have hmm : m ≤ 1000000 := by rw [hm]; exact HH.out.2.2.2.1.2 q hq
        by_cases hk : KnownOk f.vars (m : Int) l
        · have hvk : (true = true) ↔ KnownOk f.vars (m : Int) l := by simp [hk]
          have HPV := Lib.hid (show true = true ↔ P by rw [HP.out]; simp only [Bool.false_eq_true, false_iff, true_iff]; exact ⟨fun _ => hs, fun _ => by rw [Int.toNat_natCast, List.getD_eq_getElem?_getD, List.getElem?_eq_getElem hq]; show KnownOk f.vars (c.stops[q].length : Int) l; rw [← hm]; exact hk⟩)
          have HM := Lib.hid (And.intro hvk (And.intro hmm cs))
          clear hs hk hvk hm hmm hq hsp cw cs hbB
          go_upto_region 4 with (fail)
          go_quiet ((go_at_call 40; with_reducible exact within_q e1 _ _))
          go_upto_region 6 with (fail)
          obtain ⟨W2, hW2⟩ : ∃ W, W = W1.drewN nq := ⟨_, rfl⟩
          have hbq := below_drewN (Below.refl W1.heap.size W1) nq
          have h2 := HH.out.1.below hbq
          have hd2 := HH.out.2.2.2.2.2.2.below dbgV_stays hbq
          rw [← hW2] at h2 hd2
          have HC := Lib.hid (fun p : Regrown => tell_regrown (w := W2) HM.out.1 (fun w' hb => isKnown_at bk f.vars (m : Int) hvs (by have := HM.out.2.1; omega) l HH.out.2.2.2.2.1 HH.out.2.2.2.2.2.1 dv w' (cellA_below hb (a := ⟨bk, 1, none⟩) h2.ck.lt (h2.ck.get 1 (I f.vars) rfl)) (Nat.lt_of_lt_of_le h2.ck.lt hb.size) (hd2.below dbgV_stays hb)) p)
          have y5 : ∀ d os, (grow (redrawn W2 d) os).cell? ⟨b3, 5, none⟩ = some dv := fun d os => cell_regrown (by rw [hW2]; exact x5) d os
          have y4 : ∀ d os, (grow (redrawn W2 d) os).cell? ⟨b3, 4, none⟩ = some (I (q : Int)) := fun d os => cell_regrown (by rw [hW2]; exact x4) d os
          have y6 : ∀ d os, (grow (redrawn W2 d) os).cell? ⟨bk, 5, none⟩ = some (.slice (some b) T sc) := fun d os => cell_regrown (by rw [hW2]; exact c5') d os
          have y7 : ∀ d os, (grow (redrawn W2 d) os).cell? (b.add q) = some (.slice pa m pc) := fun d os => cell_regrown (by rw [hW2]; exact HM.out.2.2) d os
          have HW2 := Lib.hid hW2
          change Code.wp _ _ _ _ (W1.drewN nq)
          rw [← HW2.out]
          clear x0 x4 x5 c5' h2 hd2 hW2 hbq
          refine wp_region_quiet_below (by kernel_rfl) (by kernel_rfl) ?_
          repeat (go_big_quiet_step (first | with_reducible exact HC.out _))
          refine wpQuiet_nil ?_
          intro _ hw'
          obtain ⟨⟨dq, osq⟩, hw''⟩ := hw'
          subst hw''
          clear y4 y5 y6 y7
          go_wp2_with fail
          go_ret
          exact FIN.out true (by simpa using HPV.out) _ (by have h3 := below_regrown W2 dq osq; rw [HW2.out] at h3 ⊢; exact below_tr (below_drewN (Below.refl W1.heap.size W1) nq) h3)
        · have hvk : (false = true) ↔ KnownOk f.vars (m : Int) l := by simp [hk]
          have HPV := Lib.hid (show false = true ↔ P by rw [HP.out]; simp only [Bool.false_eq_true, false_iff, true_iff]; exact fun h => hk (by have h3 := h.2 (by simp); rw [Int.toNat_natCast, List.getD_eq_getElem?_getD, List.getElem?_eq_getElem hq] at h3; have h4 : KnownOk f.vars (c.stops[q].length : Int) l := h3; rw [← hm] at h4; exact h4))
          have HM := Lib.hid (And.intro hvk (And.intro hmm cs))
          clear hs hk hvk hm hmm hq hsp cw cs hbB
          go_upto_region 4 with (fail)
          go_quiet ((go_at_call 40; with_reducible exact within_q e1 _ _))
          go_upto_region 6 with (fail)
          obtain ⟨W2, hW2⟩ : ∃ W, W = W1.drewN nq := ⟨_, rfl⟩
          have hbq := below_drewN (Below.refl W1.heap.size W1) nq
          have h2 := HH.out.1.below hbq
          have hd2 := HH.out.2.2.2.2.2.2.below dbgV_stays hbq
          rw [← hW2] at h2 hd2
          have HC := Lib.hid (fun p : Regrown => tell_regrown (w := W2) HM.out.1 (fun w' hb => isKnown_at bk f.vars (m : Int) hvs (by have := HM.out.2.1; omega) l HH.out.2.2.2.2.1 HH.out.2.2.2.2.2.1 dv w' (cellA_below hb (a := ⟨bk, 1, none⟩) h2.ck.lt (h2.ck.get 1 (I f.vars) rfl)) (Nat.lt_of_lt_of_le h2.ck.lt hb.size) (hd2.below dbgV_stays hb)) p)
          have y5 : ∀ d os, (grow (redrawn W2 d) os).cell? ⟨b3, 5, none⟩ = some dv := fun d os => cell_regrown (by rw [hW2]; exact x5) d os
          have y4 : ∀ d os, (grow (redrawn W2 d) os).cell? ⟨b3, 4, none⟩ = some (I (q : Int)) := fun d os => cell_regrown (by rw [hW2]; exact x4) d os
          have y6 : ∀ d os, (grow (redrawn W2 d) os).cell? ⟨bk, 5, none⟩ = some (.slice (some b) T sc) := fun d os => cell_regrown (by rw [hW2]; exact c5') d os
          have y7 : ∀ d os, (grow (redrawn W2 d) os).cell? (b.add q) = some (.slice pa m pc) := fun d os => cell_regrown (by rw [hW2]; exact HM.out.2.2) d os
          have HW2 := Lib.hid hW2
          change Code.wp _ _ _ _ (W1.drewN nq)
          rw [← HW2.out]
          clear x0 x4 x5 c5' h2 hd2 hW2 hbq
          refine wp_region_quiet_below (by kernel_rfl) (by kernel_rfl) ?_
          repeat (go_big_quiet_step (first | with_reducible exact HC.out _))
          refine wpQuiet_nil ?_
          intro _ hw'
          obtain ⟨⟨dq, osq⟩, hw''⟩ := hw'
          subst hw''
          clear y4 y5 y6 y7
          go_wp2_with fail
          go_ret
          exact FIN.out false (by simpa using HPV.out) _ (by have h3 := below_regrown W2 dq osq; rw [HW2.out] at h3 ⊢; exact below_tr (below_drewN (Below.refl W1.heap.size W1) nq) h3)
      · have e1 : decide (0 ≤ site ∧ site ≤ (T : Int) - 1) = false := decide_eq_false (by have := HH.out.2.2.1; omega)
        go_upto_region 4 with (fail)
        go_quiet ((go_at_call 40; with_reducible exact within_q e1 _ _))
        go_wp2_with fail
        go_ret
        exact FIN.out false (by rw [HP.out]; simp only [Bool.false_eq_true, false_iff, true_iff]; exact fun h => hs (h.1 (by simp))) _ (by first | exact below_drewN (Below.refl _ _) _ | exact below_drewN (below_drewN (Below.refl _ _) _) _)
    · have g39 : ((op : Int) == 39) = false := by simp; omega
      by_cases ht : trapsB op = true
      · by_cases hs : 0 ≤ site ∧ site < (c.stops.length : Int)
        · have e1 : decide (0 ≤ site ∧ site ≤ (T : Int) - 1) = true := decide_eq_true (by have := HH.out.2.2.1; omega)
          go_upto_region 4 with (go_at_call 68; refine (traps_any op _).mono ?_; rintro e w' ⟨rfl, rfl⟩; rw [ht])
          go_quiet ((go_at_call 40; with_reducible exact within_q e1 _ _))
          go_upto_region 6 with (fail)
          go_quiet (fail)
          go_wp2_with fail
          go_ret
          exact FIN.out true (by rw [HP.out]; simp only [Bool.false_eq_true, false_iff, true_iff]; exact ⟨fun _ => hs, fun h => absurd h (by omega)⟩) _ (by first | exact below_drewN (Below.refl _ _) _ | exact below_drewN (below_drewN (Below.refl _ _) _) _)
        · have e1 : decide (0 ≤ site ∧ site ≤ (T : Int) - 1) = false := decide_eq_false (by have := HH.out.2.2.1; omega)
          go_upto_region 4 with (go_at_call 68; refine (traps_any op _).mono ?_; rintro e w' ⟨rfl, rfl⟩; rw [ht])
          go_quiet ((go_at_call 40; with_reducible exact within_q e1 _ _))
          go_wp2_with fail
          go_ret
          exact FIN.out false (by rw [HP.out]; simp only [Bool.false_eq_true, false_iff, true_iff]; exact fun h => hs (h.1 (Or.inr (Or.inr ht)))) _ (by first | exact below_drewN (Below.refl _ _) _ | exact below_drewN (below_drewN (Below.refl _ _) _) _)
      · have ht' : trapsB op = false := by simpa using ht
        go_wp2_with (go_at_call 68; refine (traps_any op _).mono ?_; rintro e w' ⟨rfl, rfl⟩; rw [ht'])
        go_ret
        exact FIN.out true (by rw [HP.out]; simp only [true_iff]; exact ⟨fun h => absurd h (by simp [h42, h39, ht']), fun h => absurd h (by omega)⟩) _ (Below.refl _ _)
end Go.Proofs.Ytjlmkcamefaodaa
