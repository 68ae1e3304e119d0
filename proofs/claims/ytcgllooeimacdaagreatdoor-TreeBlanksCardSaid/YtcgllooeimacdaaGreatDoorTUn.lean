/-
  Unary expressions and operands.
-/
import Derived.Test.YtcgllooeimacdaaGreatDoorTBin
namespace Go.Proofs.YtcgllooeimacdaaGreatDoor
open Go Go.RowKit Px
open Lx (Tok)

set_option maxRecDepth 100000 in
/-- Another token stands there: nothing has turned. -/
theorem accept_no (b g cap : Nat) (ts : List Tok) (s : St) (x : Bytes) (w : World) (hw : PW b g cap ts s w) (h : (tk ts s.i).text ≠ x) :
    Calls Tryz.prog 53 #[.pointer (some ⟨b, 0, none⟩), .string ⟨x.toArray⟩] w fun e w' => e = .returned (.bool false) ∧ Below w.heap.size w w' := by
  have HN := Lib.hid (is_any b g cap ts s x w hw)
  have hq : ((tk ts s.i).text == x) = false := by simpa using h
  rw [hq] at HN
  clear h hq hw
  go_enter Tryz.func53, Tryz.ntmps53
  go_wp2_with fail
  refine HN.out.mono ?_
  rintro e w1 ⟨rfl, hb⟩
  have HB := Lib.hid hb
  clear hb
  go_wp2
  go_ret
  exact ⟨rfl, HB.out⟩

/-- That token stands there, and is taken. -/
theorem accept_yes (b g cap : Nat) (ts : List Tok) (s : St) (x : Bytes) (hx : x ≠ []) (w : World) (hw : PW b g cap ts s w) (h : (tk ts s.i).text = x) :
    Calls Tryz.prog 53 #[.pointer (some ⟨b, 0, none⟩), .string ⟨x.toArray⟩] w (RPost b g cap ts w (fun _ e _ => e = .returned (.bool true)) (takeR ts s)) := by
  refine (accept_any b g cap ts s x hx w hw).mono ?_
  intro e w' h1
  have e1 : acceptR x ts s = bindR (takeR ts s) fun _ s => .ok (true, s) := by unfold acceptR; rw [if_pos h]
  rcases h1.elim with ⟨pn, hr, hg, rfl⟩ | ⟨a, s', hr, hg, rfl, hp⟩
  · refine RPost.err ?_ hg
    rw [e1] at hr
    rcases h4 : takeR ts s with pn' | ⟨a, s'⟩
    · rw [h4] at hr; simpa [bindR] using hr
    · rw [h4] at hr; simp [bindR] at hr
  · rw [e1] at hr
    rcases h4 : takeR ts s with pn' | ⟨a', s''⟩
    · rw [h4] at hr; simp [bindR] at hr
    · rw [h4] at hr
      simp only [bindR, Except.ok.injEq, Prod.mk.injEq] at hr
      obtain ⟨rfl, rfl⟩ := hr
      exact ⟨hg, rfl, hp⟩


def UnP (b g cap : Nat) (ts : List Tok) (s' : St) (x : Ex) (w : World) (e : Ending) (w' : World) : Prop := ∃ (k op : Nat) (nm : Bytes) (n pos : Nat) (a : Option Addr) (m c : Nat),
  e = .returned (.agg (exCells k op nm n pos a m c)) ∧ ExC w' (fun h => w.heap.size ≤ h) x (exCells k op nm n pos a m c).toList ∧ PW b g cap ts s' w' ∧ w.grownBy w' (some b)
def UnPan (b : Nat) (w : World) (r : R Ex) (e : Ending) (w' : World) : Prop := ∃ pn, r = .error pn ∧ w.grownBy w' (some b) ∧ e = .panicked (faultP pn.1 pn.2)

theorem un_box {b g cap : Nat} {ts : List Tok} {s0 s2 : St} {w w2 w3 Y : World} {M p t0 t1 : Nat} {t2 : Bytes} {t3 : Nat} {x : Ex} {k op : Nat} {nm : Bytes} {n pos : Nat} {a : Option Addr} {m c : Nat} (hw : PW b g cap ts s0 w) (hgw : w.grownBy w2 (some b))
    (hz : Blk w.heap.size zEx 36 w2) (ht : Blk M #[.int .u8 (t0 : Int), .int .i64 (t1 : Int), .string ⟨t2.toArray⟩, .int .i64 (t3 : Int)] 55 w2) (hM : w.heap.size < M) (hg : w2.grownBy w3 (some b))
    (hx : ExC w3 (fun h => w2.heap.size ≤ h) x (exCells k op nm n pos a m c).toList) (hp : PW b g cap ts s2 w3) (hY : Y = w3.alloc (.cells (exCells k op nm n pos a m c) 36)) :
    Y.cell? ⟨M, 1, none⟩ = some (.int .i64 (t1 : Int)) ∧ Blk w.heap.size zEx 36 Y ∧ ∀ U, U = set6 Y w.heap.size (.int .u8 8) (.int .u8 (p : Int)) (.string ⟨#[]⟩) (.int .i64 0) (.int .i64 (t1 : Int)) (.slice (some ⟨w3.heap.size, 0, none⟩) 1 1) →
      Blk w.heap.size #[.int .u8 8, .int .u8 (p : Int), .string ⟨#[]⟩, .int .i64 0, .int .i64 (t1 : Int), .slice (some ⟨w3.heap.size, 0, none⟩) 1 1] 36 U ∧ w.grownBy U (some b) ∧ PW b g cap ts s2 U ∧
        exE w.heap.size (.mk 8 p [] 0 t1 [x]) (.returned (.agg #[.int .u8 8, .int .u8 (p : Int), .string ⟨#[]⟩, .int .i64 0, .int .i64 (t1 : Int), .slice (some ⟨w3.heap.size, 0, none⟩) 1 1])) U := by
  have hlt := hw.blk.lt
  have hs := hg.size
  have hzl := hz.lt
  have htl := ht.lt
  have hbY : Below w3.heap.size w3 Y := by rw [hY]; exact (Below.refl _ _).alloc (Nat.le_refl _) _
  have hzY : Blk w.heap.size zEx 36 Y := (hz.other hg (by simp; omega)).below hbY (by omega)
  have htY := (ht.other hg (by simp; omega)).below hbY (by omega)
  have hrow : Y.heap[w3.heap.size]? = some (.cells (exCells k op nm n pos a m c) 36 (0, 0)) := by rw [hY]; exact heap_alloc_new w3 _
  refine ⟨htY.get 1 _ rfl, hzY, ?_⟩
  rintro U rfl
  refine ex_fin (k := 8) (op := p) (nm := []) (n := 0) (pos := t1) (a := some ⟨w3.heap.size, 0, none⟩) (m := 1) (c := 1) hw (gtrans (gtrans hgw hg) (grown_of_below hbY)) hzY (hp.below hbY) ?_
  simp only [ExC]
  refine ⟨_, rfl, Or.inr ⟨w3.heap.size, 1, (exCells k op nm n pos a m c).toList, rfl, by omega, ⟨rfl, Or.inr ⟨_, _, _, rfl, Nat.zero_le _, hrow, Nat.le_refl _, by decide, rfl, rfl⟩⟩, ?_⟩⟩
  simp only [ExsC]
  exact ⟨_, [], by simp, hx.stays (stays_of_below hbY fun h hh => by omega), rfl⟩

theorem prefix_ne {t : Bytes} (h : prefixOf t ≠ 0) : t ≠ [] := by
  rintro rfl
  exact h (by decide)

set_option maxRecDepth 100000 in
set_option maxHeartbeats 2000000 in
theorem unary_sign {F : Nat} (hU : UnC F) (b g cap : Nat) (ts : List Tok) (s : St) (w : World) (hw : PW b g cap ts s w) (hpre : prefixOf (tk ts s.i).text ≠ 0) (hne : unF ts (F + 1) s ≠ gone) :
    Calls Tryz.prog 141 #[.pointer (some ⟨b, 0, none⟩)] w (RPost b g cap ts w (exE w.heap.size) (unF ts (F + 1) s)) := by
  rw [unF, if_neg hpre] at hne
  have HRB := Lib.hid (show unF ts (F + 1) s = bindR (takeR ts s) fun _ s' => bindR (unF ts F s') fun x s'' => .ok (.mk 8 (prefixOf (tk ts s.i).text) [] 0 (tk ts s.i).pos [x], s'') by rw [unF, if_neg hpre])
  obtain ⟨W, hW⟩ : ∃ W, W = w.alloc ex0 := ⟨_, rfl⟩
  have hbW : Below w.heap.size w W := by rw [hW]; exact (Below.refl _ _).alloc (Nat.le_refl _) _
  have hz : Blk w.heap.size zEx 36 W := by rw [hW]; exact Blk.new _ _ _
  have HN := Lib.hid (next_any b g cap ts s W (hw.below hbW))
  have HTK := Lib.hid fun w1 (h1 : PW b g cap ts s w1) => take_R b g cap ts s w1 h1 (Or.inr (prefix_ne hpre))
  have HW := Lib.hid hw
  have HH := Lib.hid (And.intro hbW hz)
  have HWW := Lib.hid hW
  have HNE := Lib.hid hne
  have HUn := Lib.hid hU
  have hlt := hw.blk.lt
  have hgl := hw.toks.lt
  have HP := Lib.hid (prefix_any (tk ts s.i).text)
  have hzl := hz.lt
  generalize prefixOf (tk ts s.i).text = p at *
  have hp0 : ((p : Int) == 0) = false := by rw [beq_eq_false_iff_ne]; omega
  clear hw hbW hz hW hne hU hpre
  rcases htk : tk ts s.i with ⟨t0, t1, t2, t3⟩
  simp only [htk] at HN HP HRB HNE
  clear htk
  go_enter Tryz.func141, Tryz.ntmps141
  go_wp2_with fail
  rw [← HWW.out]
  refine HN.out.mono ?_
  rintro e w1 ⟨rfl, hb1⟩
  unfold tokV'
  obtain ⟨V, hV⟩ : ∃ V, V = w1.alloc (.cells #[.int .u8 (t0 : Int), .int .i64 (t1 : Int), .string ⟨t2.toArray⟩, .int .i64 (t3 : Int)] 55) := ⟨_, rfl⟩
  have hbV : Below w.heap.size w V := by rw [hV]; exact (HH.out.1.trans (hb1.mono HH.out.1.size)).alloc (by have := hb1.size; omega) _
  have hzV : Blk w.heap.size zEx 36 V := by rw [hV]; exact (HH.out.2.below hb1 hzl).below ((Below.refl _ _).alloc (Nat.le_refl _) _) (by have := hb1.size; omega)
  have htV : Blk w1.heap.size #[.int .u8 (t0 : Int), .int .i64 (t1 : Int), .string ⟨t2.toArray⟩, .int .i64 (t3 : Int)] 55 V := by rw [hV]; exact Blk.new _ _ _
  obtain ⟨c0, c1, c2, c3⟩ := htV.get4
  have hM : w.heap.size < w1.heap.size := by have := hb1.size; have := HH.out.2.lt; omega
  have HV := Lib.hid (And.intro hbV (And.intro hzV htV))
  have HVV := Lib.hid hV
  clear hb1 hbV hzV htV hV
  go_upto_region 2 with (fail)
  rw [← HVV.out]
  clear HVV
  generalize w1.heap.size = M at *
  go_wp2_with fail
  refine (HP.out V).mono ?_
  rintro e V' ⟨rfl, rfl⟩
  go_wp2_with fail
  refine (HTK.out V (HW.out.below HV.out.1)).mono ?_
  rintro e w2 h2
  rcases h2.elim with ⟨pn, hr, hg, rfl⟩ | ⟨tt, s1, hr, hg, rfl, hp⟩
  · have FIN := Lib.hid (RPost.err (α := Ex) (g := g) (cap := cap) (ts := ts) (V := exE w.heap.size) (HRB.out.trans (by rw [hr]; rfl)) (gtrans (row := some b) (grown_of_below HV.out.1) hg))
    clear hg hr h2
    go_wp2
    exact ⟨rfl, FIN.out⟩
  · have hne := HNE.out
    rw [hr, bindR_ok] at hne
    have HR := Lib.hid (HRB.out.trans (by rw [hr, bindR_ok]))
    have HT := Lib.hid (And.intro hp (And.intro (gtrans (row := some b) (grown_of_below HV.out.1) hg) (And.intro (HV.out.2.1.other hg (by simp; omega)) (HV.out.2.2.other hg (by simp; omega)))))
    have HUU := Lib.hid fun w1 (h1 : PW b g cap ts s1 w1) => HUn.out b g cap ts s1 w1 h1 (bindR_gone hne)
    clear hg hr h2 hp hne c0 c1 c2 c3 HV
    go_upto_region 5 with (fail)
    have c1 := HT.out.2.2.2.get 1 (.int .i64 (t1 : Int)) rfl
    rcases hres : unF ts F s1 with pn | ⟨x, s2⟩
    · have HC : Hid (∀ w1, PW b g cap ts s1 w1 → Calls Tryz.prog 141 #[.pointer (some ⟨b, 0, none⟩)] w1 (UnPan b w1 (unF ts F s1))) := by
        intro w1 h1
        refine (HUU.out w1 h1).mono ?_
        intro e w' h
        rcases h.elim with ⟨q, h1, h2, h3⟩ | ⟨a, s', h1, _⟩
        · exact ⟨q, h1, h2, h3⟩
        · rw [hres] at h1; cases h1
      clear hres
      refine wp_region_any (by kernel_rfl) ?_
      change wpAny _ _ _ _ _ _ _ (World.drew _)
      refine wpAny_take (i := 0) (v := ?_) rfl (by kernel_rfl) (by kernel_rfl) (by kernel_rfl) (fun _ _ _ h => h) (Or.inl ⟨by rfl, ?_⟩) ?_
      rotate_left
      · intro w; go_simp
        try with_reducible rfl
      refine wpAny_take (i := 1) (v := ?_) rfl (by kernel_rfl) (by kernel_rfl) (by kernel_rfl) (fun _ _ _ h => h) (Or.inl ⟨by rfl, ?_⟩) ?_
      rotate_left
      · intro w; go_simp
        try with_reducible rfl
      refine wpAny_take (i := 3) (v := ?_) rfl (by kernel_rfl) (by kernel_rfl) (by kernel_rfl) (fun _ _ _ h => h) (Or.inl ⟨by rfl, ?_⟩) ?_
      rotate_left
      · intro w; go_simp
        try with_reducible rfl
      refine wpAny_ready (rs := [2, 4]) (by kernel_rfl) (by simp) ?_
      refine AllReady.cons rfl (fun K hK => ?_) ?_
      · go_simp
        refine hK _ _ ?_
        clear hK K
        refine wpAny_ready (rs := [4]) (by kernel_rfl) (by simp) ?_
        refine AllReady.cons rfl (fun K hK => ?_) ?_
        · go_simp
          refine (HC.out _ (HT.out.1.below (Below.refl _ _).drew)).mono ?_
          rintro e w' ⟨pn', hr, hg, rfl⟩
          have FIN := RPost.err (α := Ex) (g := g) (cap := cap) (ts := ts) (V := exE w.heap.size) (HR.out.trans (by rw [hr]; rfl)) (gtrans HT.out.2.1 (gtrans (grown_of_below (Below.refl _ _).drew) hg))
          exact ⟨rfl, FIN⟩
        exact AllReady.nil
      refine AllReady.cons rfl (fun K hK => ?_) ?_
      · go_simp
        refine (HC.out _ (HT.out.1.below (Below.refl _ _).drew)).mono ?_
        rintro e w' ⟨pn', hr, hg, rfl⟩
        have FIN := RPost.err (α := Ex) (g := g) (cap := cap) (ts := ts) (V := exE w.heap.size) (HR.out.trans (by rw [hr]; rfl)) (gtrans HT.out.2.1 (gtrans (grown_of_below (Below.refl _ _).drew) hg))
        exact ⟨rfl, FIN⟩
      exact AllReady.nil
    · have HC : Hid (∀ w1, PW b g cap ts s1 w1 → Calls Tryz.prog 141 #[.pointer (some ⟨b, 0, none⟩)] w1 (UnP b g cap ts s2 x w1)) := by
        intro w1 h1
        refine (HUU.out w1 h1).mono ?_
        intro e w' h
        rcases h.elim with ⟨q, h1, h2, h3⟩ | ⟨a, s', h1, h2, ⟨k, op, nm, n, pos, a', m, c, h3, h4⟩, h5⟩
        · rw [hres] at h1; cases h1
        · rw [hres] at h1
          cases h1
          exact ⟨k, op, nm, n, pos, a', m, c, h3, h4, h5, h2⟩
      have HR3 := Lib.hid (HR.out.trans (by rw [hres, bindR_ok]))
      clear hres
      refine wp_region_any (by kernel_rfl) ?_
      change wpAny _ _ _ _ _ _ _ (World.drew _)
      refine wpAny_take (i := 0) (v := ?_) rfl (by kernel_rfl) (by kernel_rfl) (by kernel_rfl) (fun _ _ _ h => h) (Or.inl ⟨by rfl, ?_⟩) ?_
      rotate_left
      · intro w; go_simp
        try with_reducible rfl
      refine wpAny_take (i := 1) (v := ?_) rfl (by kernel_rfl) (by kernel_rfl) (by kernel_rfl) (fun _ _ _ h => h) (Or.inl ⟨by rfl, ?_⟩) ?_
      rotate_left
      · intro w; go_simp
        try with_reducible rfl
      refine wpAny_take (i := 3) (v := ?_) rfl (by kernel_rfl) (by kernel_rfl) (by kernel_rfl) (fun _ _ _ h => h) (Or.inl ⟨by rfl, ?_⟩) ?_
      rotate_left
      · intro w; go_simp
        try with_reducible rfl
      refine wpAny_ready (rs := [2, 4]) (by kernel_rfl) (by simp) ?_
      refine AllReady.cons rfl (fun K hK => ?_) ?_
      · go_simp
        refine hK _ _ ?_
        clear hK K
        refine wpAny_ready (rs := [4]) (by kernel_rfl) (by simp) ?_
        refine AllReady.cons rfl (fun K hK => ?_) ?_
        · go_simp
          refine (HC.out _ (HT.out.1.below (Below.refl _ _).drew)).mono ?_
          rintro e w3 ⟨k, op, nm, n, pos, a, m, c, rfl, hx, hp, hg⟩
          have hg' : w2.grownBy w3 (some b) := gtrans (grown_of_below (Below.refl _ _).drew) hg
          obtain ⟨Y, hY⟩ : ∃ Y, Y = w3.alloc (.cells (exCells k op nm n pos a m c) 36) := ⟨_, rfl⟩
          have HU := Lib.hid (un_box (p := p) HW.out HT.out.2.1 HT.out.2.2.1 HT.out.2.2.2 hM hg' hx hp hY)
          have c1 := (HT.out.2.2.2.other hg' (by simp; omega)).get 1 (.int .i64 (t1 : Int)) rfl
          have hYY := Lib.hid hY
          clear hx hp hg hg' hY
          refine hK _ _ ?_
          clear hK K
          refine wpAny_ready (rs := [5]) (by kernel_rfl) (by simp) ?_
          refine AllReady.cons rfl (fun K hK => ?_) ?_
          · go_simp
            refine hK _ _ ?_
            clear hK K
            rw [← hYY.out]
            clear c1
            have c1 := HU.out.1
            refine wpAny_take (i := 6) (v := ?_) rfl (by kernel_rfl) (by kernel_rfl) (by kernel_rfl) (fun _ _ _ h => h) (Or.inl ⟨by rfl, ?_⟩) ?_
            rotate_left
            · intro w; go_simp
              try with_reducible rfl
            obtain ⟨z0, z1, z2, z3, z4, z5⟩ := HU.out.2.1.get6
            obtain ⟨f0, f1, f2, f3, f4, f5⟩ := HU.out.2.1.free6
            clear c1
            refine wpAny_ready (rs := [7]) (by kernel_rfl) (by simp) ?_
            refine AllReady.cons rfl (fun K hK => ?_) ?_
            · go_simp
              refine hK _ _ ?_
              clear hK K
              refine wpAny_done (by kernel_rfl) ?_ _
              obtain ⟨U, hU⟩ : ∃ U, U = set6 Y w.heap.size (.int .u8 8) (.int .u8 (p : Int)) (.string ⟨#[]⟩) (.int .i64 0) (.int .i64 (t1 : Int)) (.slice (some ⟨w3.heap.size, 0, none⟩) 1 1) := ⟨_, rfl⟩
              have hfin := Lib.hid (HU.out.2.2 U hU)
              rw [← set6_eq, ← hU]
              obtain ⟨y0, y1, y2, y3, y4, y5⟩ := hfin.out.1.get6
              clear z0 z1 z2 z3 z4 z5 f0 f1 f2 f3 f4 f5
              go_wp2
              exact bodyPost_ret (v := .agg #[.int .u8 8, .int .u8 (p : Int), .string ⟨#[]⟩, .int .i64 0, .int .i64 (t1 : Int), .slice (some ⟨w3.heap.size, 0, none⟩) 1 1]) (by simp [results, Tryz.results141, go_sem, y0, y1, y2, y3, y4, y5]) rfl (RPost.ok HR3.out hfin.out.2.1 hfin.out.2.2.2 hfin.out.2.2.1)
            exact AllReady.nil
          exact AllReady.nil
        exact AllReady.nil
      refine AllReady.cons rfl (fun K hK => ?_) ?_
      · go_simp
        refine (HC.out _ (HT.out.1.below (Below.refl _ _).drew)).mono ?_
        rintro e w3 ⟨k, op, nm, n, pos, a, m, c, rfl, hx, hp, hg⟩
        have hg' : w2.grownBy w3 (some b) := gtrans (grown_of_below (Below.refl _ _).drew) hg
        obtain ⟨Y, hY⟩ : ∃ Y, Y = w3.alloc (.cells (exCells k op nm n pos a m c) 36) := ⟨_, rfl⟩
        have HU := Lib.hid (un_box (p := p) HW.out HT.out.2.1 HT.out.2.2.1 HT.out.2.2.2 hM hg' hx hp hY)
        have c1 := (HT.out.2.2.2.other hg' (by simp; omega)).get 1 (.int .i64 (t1 : Int)) rfl
        have hYY := Lib.hid hY
        clear hx hp hg hg' hY
        refine hK _ _ ?_
        clear hK K
        refine wpAny_ready (rs := [2, 5]) (by kernel_rfl) (by simp) ?_
        refine AllReady.cons rfl (fun K hK => ?_) ?_
        · go_simp
          refine hK _ _ ?_
          clear hK K
          refine wpAny_ready (rs := [5]) (by kernel_rfl) (by simp) ?_
          refine AllReady.cons rfl (fun K hK => ?_) ?_
          · go_simp
            refine hK _ _ ?_
            clear hK K
            rw [← hYY.out]
            clear c1
            have c1 := HU.out.1
            refine wpAny_take (i := 6) (v := ?_) rfl (by kernel_rfl) (by kernel_rfl) (by kernel_rfl) (fun _ _ _ h => h) (Or.inl ⟨by rfl, ?_⟩) ?_
            rotate_left
            · intro w; go_simp
              try with_reducible rfl
            obtain ⟨z0, z1, z2, z3, z4, z5⟩ := HU.out.2.1.get6
            obtain ⟨f0, f1, f2, f3, f4, f5⟩ := HU.out.2.1.free6
            clear c1
            refine wpAny_ready (rs := [7]) (by kernel_rfl) (by simp) ?_
            refine AllReady.cons rfl (fun K hK => ?_) ?_
            · go_simp
              refine hK _ _ ?_
              clear hK K
              refine wpAny_done (by kernel_rfl) ?_ _
              obtain ⟨U, hU⟩ : ∃ U, U = set6 Y w.heap.size (.int .u8 8) (.int .u8 (p : Int)) (.string ⟨#[]⟩) (.int .i64 0) (.int .i64 (t1 : Int)) (.slice (some ⟨w3.heap.size, 0, none⟩) 1 1) := ⟨_, rfl⟩
              have hfin := Lib.hid (HU.out.2.2 U hU)
              rw [← set6_eq, ← hU]
              obtain ⟨y0, y1, y2, y3, y4, y5⟩ := hfin.out.1.get6
              clear z0 z1 z2 z3 z4 z5 f0 f1 f2 f3 f4 f5
              go_wp2
              exact bodyPost_ret (v := .agg #[.int .u8 8, .int .u8 (p : Int), .string ⟨#[]⟩, .int .i64 0, .int .i64 (t1 : Int), .slice (some ⟨w3.heap.size, 0, none⟩) 1 1]) (by simp [results, Tryz.results141, go_sem, y0, y1, y2, y3, y4, y5]) rfl (RPost.ok HR3.out hfin.out.2.1 hfin.out.2.2.2 hfin.out.2.2.1)
            exact AllReady.nil
          exact AllReady.nil
        refine AllReady.cons rfl (fun K hK => ?_) ?_
        · go_simp
          refine hK _ _ ?_
          clear hK K
          rw [← hYY.out]
          clear c1
          have c1 := HU.out.1
          refine wpAny_ready (rs := [2]) (by kernel_rfl) (by simp) ?_
          refine AllReady.cons rfl (fun K hK => ?_) ?_
          · go_simp
            refine hK _ _ ?_
            clear hK K
            refine wpAny_take (i := 6) (v := ?_) rfl (by kernel_rfl) (by kernel_rfl) (by kernel_rfl) (fun _ _ _ h => h) (Or.inl ⟨by rfl, ?_⟩) ?_
            rotate_left
            · intro w; go_simp
              try with_reducible rfl
            obtain ⟨z0, z1, z2, z3, z4, z5⟩ := HU.out.2.1.get6
            obtain ⟨f0, f1, f2, f3, f4, f5⟩ := HU.out.2.1.free6
            clear c1
            refine wpAny_ready (rs := [7]) (by kernel_rfl) (by simp) ?_
            refine AllReady.cons rfl (fun K hK => ?_) ?_
            · go_simp
              refine hK _ _ ?_
              clear hK K
              refine wpAny_done (by kernel_rfl) ?_ _
              obtain ⟨U, hU⟩ : ∃ U, U = set6 Y w.heap.size (.int .u8 8) (.int .u8 (p : Int)) (.string ⟨#[]⟩) (.int .i64 0) (.int .i64 (t1 : Int)) (.slice (some ⟨w3.heap.size, 0, none⟩) 1 1) := ⟨_, rfl⟩
              have hfin := Lib.hid (HU.out.2.2 U hU)
              rw [← set6_eq, ← hU]
              obtain ⟨y0, y1, y2, y3, y4, y5⟩ := hfin.out.1.get6
              clear z0 z1 z2 z3 z4 z5 f0 f1 f2 f3 f4 f5
              go_wp2
              exact bodyPost_ret (v := .agg #[.int .u8 8, .int .u8 (p : Int), .string ⟨#[]⟩, .int .i64 0, .int .i64 (t1 : Int), .slice (some ⟨w3.heap.size, 0, none⟩) 1 1]) (by simp [results, Tryz.results141, go_sem, y0, y1, y2, y3, y4, y5]) rfl (RPost.ok HR3.out hfin.out.2.1 hfin.out.2.2.2 hfin.out.2.2.1)
            exact AllReady.nil
          exact AllReady.nil
        exact AllReady.nil
      exact AllReady.nil

set_option maxRecDepth 100000 in
set_option maxHeartbeats 1000000 in
theorem unary_step {F : Nat} (hO : OpC F) (hU : UnC F) : UnC (F + 1) := by
  intro b g cap ts s w hw hne
  rw [unF] at hne
  by_cases hpre : prefixOf (tk ts s.i).text = 0
  · rw [if_pos hpre] at hne
    have HRB := Lib.hid (show unF ts (F + 1) s = opF ts F s by rw [unF, if_pos hpre])
    obtain ⟨W, hW⟩ : ∃ W, W = w.alloc ex0 := ⟨_, rfl⟩
    have hbW : Below w.heap.size w W := by rw [hW]; exact (Below.refl _ _).alloc (Nat.le_refl _) _
    have hz : Blk w.heap.size zEx 36 W := by rw [hW]; exact Blk.new _ _ _
    have HN := Lib.hid (next_any b g cap ts s W (hw.below hbW))
    have HW := Lib.hid hw
    have HH := Lib.hid (And.intro hbW hz)
    have HWW := Lib.hid hW
    have HO := Lib.hid fun w1 (h1 : PW b g cap ts s w1) => hO b g cap ts s w1 h1 hne
    have hlt := hw.blk.lt
    have HP := Lib.hid (prefix_any (tk ts s.i).text)
    have HPR := Lib.hid hpre
    have hzl := hz.lt
    clear hw hbW hz hW hne hO hpre hU
    rcases htk : tk ts s.i with ⟨t0, t1, t2, t3⟩
    simp only [htk] at HN HP HPR
    clear htk
    go_enter Tryz.func141, Tryz.ntmps141
    go_wp2_with fail
    rw [← HWW.out]
    refine HN.out.mono ?_
    rintro e w1 ⟨rfl, hb1⟩
    unfold tokV'
    obtain ⟨V, hV⟩ : ∃ V, V = w1.alloc (.cells #[.int .u8 (t0 : Int), .int .i64 (t1 : Int), .string ⟨t2.toArray⟩, .int .i64 (t3 : Int)] 55) := ⟨_, rfl⟩
    have hbV : Below w.heap.size w V := by rw [hV]; exact (HH.out.1.trans (hb1.mono HH.out.1.size)).alloc (by have := hb1.size; omega) _
    have hzV : Blk w.heap.size zEx 36 V := by rw [hV]; exact (HH.out.2.below hb1 hzl).below ((Below.refl _ _).alloc (Nat.le_refl _) _) (by have := hb1.size; omega)
    have htV : Blk w1.heap.size #[.int .u8 (t0 : Int), .int .i64 (t1 : Int), .string ⟨t2.toArray⟩, .int .i64 (t3 : Int)] 55 V := by rw [hV]; exact Blk.new _ _ _
    obtain ⟨c0, c1, c2, c3⟩ := htV.get4
    have hVs : w.heap.size < V.heap.size := by have := hzV.lt; exact this
    have HV := Lib.hid (And.intro hbV hzV)
    have HVV := Lib.hid hV
    clear hb1 hbV hzV htV hV
    go_upto_region 2 with (fail)
    rw [← HVV.out]
    go_wp2_with fail
    refine (HP.out V).mono ?_
    rintro e V' ⟨rfl, rfl⟩
    rw [HPR.out]
    go_wp2_with fail
    refine (HO.out V (HW.out.below HV.out.1)).mono ?_
    rintro e w2 h2
    rcases h2.elim with ⟨pn, hr, hg, rfl⟩ | ⟨x, s', hr, hg, ⟨k, op, nm, n, pos, a, m, c, rfl, hx⟩, hp⟩
    · have FIN := Lib.hid (RPost.err (α := Ex) (g := g) (cap := cap) (ts := ts) (V := exE w.heap.size) (HRB.out.trans hr) (gtrans (row := some b) (grown_of_below HV.out.1) hg))
      clear hg hr h2
      go_wp2
      exact ⟨rfl, FIN.out⟩
    · have hz1 := HV.out.2.other hg (by simp; omega)
      have HR := Lib.hid (HRB.out.trans hr)
      have FIN := Lib.hid (ex_fin HW.out (gtrans (row := some b) (grown_of_below HV.out.1) hg) hz1 hp (hx.stays (stays_weaken fun k hk _ => by omega)))
      obtain ⟨z0, z1, z2, z3, z4, z5⟩ := hz1.get6
      obtain ⟨f0, f1, f2, f3, f4, f5⟩ := hz1.free6
      clear hg hp hz1 hr h2 hx c0 c1 c2 c3
      go_wp2
      rw [← set6_eq]
      obtain ⟨y0, y1, y2, y3, y4, y5⟩ := FIN.out.1.get6
      clear z0 z1 z2 z3 z4 z5 f0 f1 f2 f3 f4 f5
      exact bodyPost_ret (v := .agg (exCells k op nm n pos a m c)) (by simp [results, Tryz.results141, go_sem, y0, y1, y2, y3, y4, y5]) rfl (RPost.ok HR.out FIN.out.2.1 FIN.out.2.2.2 FIN.out.2.2.1)
  · exact unary_sign hU b g cap ts s w hw hpre (by rw [unF]; exact hne)

/-- The boxes of an operand: the result's, the token's, the expression's that is being made. -/
structure OpW (b g cap : Nat) (ts : List Tok) (s : St) (w : World) (M : Nat) (t : Tok) (cs : Array Value) (w' : World) : Prop where
  grown : w.grownBy w' (some b)
  res : Blk w.heap.size zEx 36 w'
  tok : Blk M #[.int .u8 (t.kind : Int), .int .i64 (t.pos : Int), .string ⟨t.text.toArray⟩, .int .i64 (t.num : Int)] 55 w'
  box : Blk (M + 1) cs 36 w'
  pw : PW b g cap ts s w'
  lt : w.heap.size < M

theorem OpW.below {b g cap : Nat} {ts : List Tok} {s : St} {w w1 w2 : World} {M : Nat} {t : Tok} {cs : Array Value} (h : OpW b g cap ts s w M t cs w1) (hb : Below w1.heap.size w1 w2) : OpW b g cap ts s w M t cs w2 :=
  ⟨gtrans h.grown (grown_of_below hb), h.res.below hb h.res.lt, h.tok.below hb h.tok.lt, h.box.below hb h.box.lt, h.pw.below hb, h.lt⟩
theorem OpW.other {b g cap : Nat} {ts : List Tok} {s s' : St} {w w1 w2 : World} {M : Nat} {t : Tok} {cs : Array Value} (hlt : b < w.heap.size) (h : OpW b g cap ts s w M t cs w1) (hg : w1.grownBy w2 (some b)) (hp : PW b g cap ts s' w2) : OpW b g cap ts s' w M t cs w2 :=
  ⟨gtrans h.grown hg, h.res.other hg (by simp; omega), h.tok.other hg (by have := h.lt; simp; omega), h.box.other hg (by have := h.lt; simp; omega), hp, h.lt⟩
end Go.Proofs.YtcgllooeimacdaaGreatDoor
