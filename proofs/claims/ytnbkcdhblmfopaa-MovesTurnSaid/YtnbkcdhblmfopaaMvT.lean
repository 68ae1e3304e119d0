/-
  A tangle is made: walked.
-/
import Derived.Test.YtnbkcdhblmfopaaMvN
namespace Go.Proofs.Ytnbkcdhblmfopaa
open Go Go.RowKit Go.Maps Mv

def dn0 (l : List M) (i : Nat) : Bool := decide (tO l i = fR l i)
def dnU (l : List M) (k : Nat) (i : Nat) : Bool := decide (i < k) && dn0 l i
theorem dnU_succ (l : List M) (k : Nat) : up (dnU l k) k (dn0 l k) = dnU l (k + 1) := by
  funext i
  unfold up dnU
  by_cases h : i = k
  · subst h; simp
  · rw [if_neg h]
    by_cases h2 : i < k
    · simp [h2, show i < k + 1 by omega]
    · simp [h2, show ¬ i < k + 1 by omega]
def cntU (l : List M) (k : Nat) (j : Nat) : Nat := ct k fun i => !dn0 l i && decide (fR l i = tO l j)
theorem cntU_all (l : List M) (j : Nat) : cntU l l.length j = cnt l (dn0 l) j := rfl
theorem cntU_succ (l : List M) (k j : Nat) : cntU l (k + 1) j = cntU l k j + (!dn0 l k && decide (fR l k = tO l j)).toNat := rfl
theorem cntU_le (l : List M) (k j : Nat) : cntU l k j ≤ k := ct_le
def NtT (w : World) (l : List M) (lv : Value) (W : World) (e : Ending) : Prop :=
  Below w.heap.size w W ∧ (¬ Dis l ∧ e = .returned (.tuple #[.pointer none, .bool false]) ∨ Dis l ∧ ∃ bt bm ba bd, e = .returned (.tuple #[.pointer (some ⟨bt, 0, none⟩), .bool true]) ∧ Tang l w.heap.size bt bm ba bd lv l.length (cnt l (dn0 l)) (dn0 l) W)
def NtR (w : World) (l : List M) (lv : Value) (bt bm ba bd : Nat) (iv : Value) (W : World) : Prop := ∃ i : Nat, i ≤ l.length ∧ iv = I (i : Int) ∧ (∀ j, j < i → ∀ k, k < j → tO l k ≠ tO l j) ∧ Tang l w.heap.size bt bm ba bd lv i (fun _ => 0) (dnU l i) W ∧ Below w.heap.size w W
def NtS (w : World) (l : List M) (lv : Value) (bt bm ba bd : Nat) (iv : Value) (W : World) : Prop := ∃ i : Nat, i ≤ l.length ∧ iv = I (i : Int) ∧ Tang l w.heap.size bt bm ba bd lv l.length (cntU l i) (dn0 l) W ∧ Below w.heap.size w W
theorem dis_of' {l : List M} (h : ∀ j, j < l.length → ∀ k, k < j → tO l k ≠ tO l j) : Dis l := fun i j hi hj e => by
  rcases Nat.lt_trichotomy i j with h1 | h1 | h1
  · exact absurd e (h j hj i h1)
  · exact h1
  · exact absurd e.symm (h i hi j h1)
/-- What the map tells of a place. -/
theorem look_by {l : List M} {bm k : Nat} {W : World} (h : ByW l bm k W) (k' : Nat) {a : Int} (ha : (Lit.int .i64 a).wf = true) :
    ∃ (c : Int) (b : Bool), (∀ q, (Instr.lookup 56 (.map (some bm)) (I a) true).run Try.prog (W.drewN q) = .ok (.tuple #[I c, .bool b]) (W.drewN q)) ∧ (∀ q, (Instr.lookup 56 (.map (some bm)) (I a) false).run Try.prog (W.drewN q) = .ok (I c) (W.drewN q)) ∧ (b = true ∧ (∃ i : Nat, i < k ∧ tO l i = a ∧ c = (i : Int)) ∨ b = false ∧ ∀ i, i < k → tO l i ≠ a) := by
  obtain ⟨D, h1, h2⟩ := h
  have hkey := keyOf_int_mk Try.underlying3 ha
  have hz : (plainElem Try.prog 3) (I 0) = some (DataW.lit (H := Unit) (.int .i64 0), []) := plainElem_int Try.underlying3 rfl
  obtain ⟨v, ps, hrun, hv⟩ := h1.look_ok key_int Try.underlying56 (int_zero _) hz hkey
  obtain ⟨c, rfl, hc, _⟩ := plainElem_int_inv Try.underlying3 hv
  have hall : ∀ q, (Instr.lookup 56 (.map (some bm)) (I a) true).run Try.prog (W.drewN q) = .ok (.tuple #[I c, .bool (Maps.has D (.int .i64 a))]) (W.drewN q) := fun q => by
    have h1q : (W.drewN q).ownsMap Try.prog 3 (plainElem Try.prog 3) bm k D := h1
    obtain ⟨v', ps', hrun', hv'⟩ := h1q.look_ok key_int Try.underlying56 (int_zero _) hz hkey
    obtain ⟨c', rfl, hc', _⟩ := plainElem_int_inv Try.underlying3 hv'
    have q1 : D.atKey (.int .i64 a) (.lit (.int .i64 0)) = .lit (.int .i64 c) := congrArg Prod.fst hc
    have q2 : D.atKey (.int .i64 a) (.lit (.int .i64 0)) = .lit (.int .i64 c') := congrArg Prod.fst hc'
    have e1 := q1.symm.trans q2
    have e2 : c = c' := by
      injection e1 with e1
      injection e1
    rw [e2]
    exact hrun'
  have hall2 : ∀ q, (Instr.lookup 56 (.map (some bm)) (I a) false).run Try.prog (W.drewN q) = .ok (I c) (W.drewN q) := fun q => by
    have h1q : (W.drewN q).ownsMap Try.prog 3 (plainElem Try.prog 3) bm k D := h1
    obtain ⟨v', ps', hrun', hv'⟩ := h1q.lookup key_int Try.underlying56 (int_zero _) hz hkey
    obtain ⟨c', rfl, hc', _⟩ := plainElem_int_inv Try.underlying3 hv'
    have q1 : D.atKey (.int .i64 a) (.lit (.int .i64 0)) = .lit (.int .i64 c) := congrArg Prod.fst hc
    have q2 : D.atKey (.int .i64 a) (.lit (.int .i64 0)) = .lit (.int .i64 c') := congrArg Prod.fst hc'
    have e1 := q1.symm.trans q2
    have e2 : c = c' := by
      injection e1 with e1
      injection e1
    rw [e2]
    exact hrun'
  refine ⟨c, _, hall, hall2, ?_⟩
  rcases h2.2 a with ⟨q1, i, q2, q3, q4⟩ | ⟨q1, q2⟩
  · refine Or.inl ⟨q1, i, q2, q3, ?_⟩
    have e1 := (congrArg Prod.fst hc)
    have e2 : DataW.lit (H := Unit) (.int .i64 (i : Int)) = .lit (.int .i64 c) := q4.symm.trans e1
    injection e2 with e2
    injection e2 with _ e2
    exact e2.symm
  · exact Or.inr ⟨q1, q2⟩

set_option maxRecDepth 100000 in
set_option maxHeartbeats 3200000 in
theorem newTangle_any (lv : Value) (l : List M) (hl : l.length ≤ 1000) (hwf : WfL l) (w : World) (h : MovZ w lv l) :
    Calls Try.prog 15 #[lv] w fun e w' => NtT w l lv w' e := by
  obtain ⟨a, c, hlv⟩ := h.size
  obtain ⟨n, hn⟩ : ∃ n, n = l.length := ⟨_, rfl⟩
  have hnb : (n : Int) ≤ 1000 := by omega
  have hmi := mkIs n (by omega)
  have hmb := mkBs n (by omega)
  have hmm := @run_makeMap Try.prog
  have HF := Lib.hid (new_four w l lv h n hn)
  rw [← hn] at hlv
  subst hlv
  have HH := Lib.hid (And.intro h (And.intro hn (And.intro hl hwf)))
  clear h hn hl hwf
  go_enter Try.func15, Try.ntmps15
  go_upto_region 1 with (fail)
  go_cut [4] (fun p W => NewT w l (.slice a n c) p W)
  case first =>
    go_region
    all_goals (go_wp2_with fail; go_meet; case rel => first
      | exact HF.out _ _ _ 0 1 2 _ _ _ _ rfl rfl rfl rfl rfl rfl rfl (by decide)
      | exact HF.out _ _ _ 0 2 1 _ _ _ _ rfl rfl rfl rfl rfl rfl rfl (by decide)
      | exact HF.out _ _ _ 1 0 2 _ _ _ _ rfl rfl rfl rfl rfl rfl rfl (by decide)
      | exact HF.out _ _ _ 1 2 0 _ _ _ _ rfl rfl rfl rfl rfl rfl rfl (by decide)
      | exact HF.out _ _ _ 2 0 1 _ _ _ _ rfl rfl rfl rfl rfl rfl rfl (by decide)
      | exact HF.out _ _ _ 2 1 0 _ _ _ _ rfl rfl rfl rfl rfl rfl rfl (by decide))
  case rest =>
    obtain ⟨bt, bm, ba, bd, rfl, htg, hb1⟩ := hcut
    have HS1 := Lib.hid (show NtR w l (.slice a n c) bt bm ba bd (I 0) wc from ⟨0, Nat.zero_le _, rfl, fun j hj => absurd hj (by omega), htg.turn (fun _ _ => rfl) (fun i _ => by simp [dnU]), hb1⟩)
    clear hmi hmb hmm HF htg hb1
    go_wp2_with fail
    go_loopw [25] (fun iv W => NtR w l (.slice a n c) bt bm ba bd iv W) (fun iv _ => n - (intOf iv).toNat)
    case atStart => exact HS1.out
    case round =>
      obtain ⟨i, hi, rfl, hno, htg, hbe⟩ := hrel
      by_cases hin : i < n
      · have hil : i < l.length := by rw [← HH.out.2.1]; exact hin
        obtain ⟨b, _, rfl, hbl, c0, e0⟩ := (HH.out.1.below movV_stays hbe).at i hil
        obtain rfl := e0
        rw [getD_mv hil] at c0
        obtain ⟨xt, xf, hx⟩ : ∃ a b, mv l i = (a, b) := ⟨_, _, rfl⟩
        rw [hx] at c0
        have x0 : wr.cell? (b.add (i * 2)) = some (I xt) := c0.f0
        have x1 : wr.cell? ⟨(b.add (i * 2)).block, (b.add (i * 2)).off + 1, none⟩ = some (I xf) := c0.f1
        have hto : tO l i = xt := by unfold tO; rw [hx]
        have hfr : fR l i = xf := by unfold fR; rw [hx]
        have hwx := HH.out.2.2.2 (xt, xf) (by rw [← hx]; exact mv_mem hil)
        have d0 : decide (i < n) = true := by simpa using hin
        have d1 : (0 : Int) ≤ (i : Int) := by omega
        have d2 : (i : Int) < (n : Int) := by omega
        obtain ⟨bx, hbx⟩ : ∃ g, g = wr.heap.size := ⟨_, rfl⟩
        obtain ⟨W1, hW1⟩ : ∃ W, W = wr.alloc (.cells #[I xt, I xf] 32) := ⟨_, rfl⟩
        have kx : Blk bx #[I xt, I xf] 32 W1 := by rw [hbx, hW1]; exact Blk.new _ _ _
        have tg1 : Tang l w.heap.size bt bm ba bd (.slice (some b) n c) i (fun _ => 0) (dnU l i) W1 := by rw [hW1]; exact htg.alloc _
        have hb1 : Below w.heap.size w W1 := by rw [hW1]; exact hbe.alloc hbe.size _
        have hbxl : w.heap.size ≤ bx := by rw [hbx]; exact hbe.size
        have hap : bx ≠ bt ∧ bx ≠ bm ∧ bx ≠ ba ∧ bx ≠ bd := by
          have h1 := htg.tb.lt
          have h2 := htg.ab.lt
          have h3 := htg.db.lt
          have h4 := htg.mp.lt
          omega
        obtain ⟨cc, bb, hlk, _, hcc⟩ := look_by tg1.mp 0 hwx.1
        have H1 := Lib.hid (And.intro hno (And.intro tg1 (And.intro hb1 (And.intro kx (And.intro hto (And.intro hfr (And.intro hwx (And.intro hin (And.intro hil (And.intro hap hbxl))))))))))
        have HW := Lib.hid (And.intro hW1 hbx)
        have HCC := Lib.hid hcc
        clear hno htg hbe c0 hx hto hfr hwx hW1 kx tg1 hb1 hin hi hbl hbx hil hcc hap hbxl
        go_upto_region 5 with (fail)
        change Code.wp _ _ _ _ (wr.alloc (.cells #[I xt, I xf] 32))
        rw [← HW.out.2, ← HW.out.1]
        clear x0 x1
        have y0 := H1.out.2.2.2.1.get 0 (I xt) rfl
        have t1 := H1.out.2.1.tb.get 1 (.map (some bm)) rfl
        go_quiet (fail)
        obtain ⟨V, hV⟩ : ∃ V, V = W1.drewN nq := ⟨_, rfl⟩
        rw [← hV]
        have hbV : Below W1.heap.size W1 V := by rw [hV]; exact below_drewN (Below.refl _ _) nq
        have tg2 := H1.out.2.1.below hbV
        have k2 := H1.out.2.2.2.1.below hbV H1.out.2.2.2.1.lt
        have hb2 := below_tr H1.out.2.2.1 hbV
        have H2 := Lib.hid (And.intro tg2 (And.intro k2 hb2))
        clear hV hbV tg2 k2 hb2 y0 t1 hlk
        cases bb with
        | true =>
          have hnd : ¬ Dis l := fun hd => by
            rcases HCC.out with ⟨_, k, q1, q2, _⟩ | ⟨q1, _⟩
            · have h1 := H1.out.2.2.2.2.2.2.2.2.1
              have := hd k i (by omega) h1 (by rw [q2, H1.out.2.2.2.2.1])
              omega
            · cases q1
          have FIN := Lib.hid (show NtT w l (.slice (some b) n c) V (.returned (.tuple #[.pointer none, .bool false])) from ⟨H2.out.2.2, Or.inl ⟨hnd, rfl⟩⟩)
          clear hnd
          go_wp2_with fail
          go_ret2
          exact FIN.out
        | false =>
          have hnew : ∀ k, k < i → tO l k ≠ xt := by
            rcases HCC.out with ⟨q1, _⟩ | ⟨_, q1⟩
            · cases q1
            · exact q1
          have HNW := Lib.hid hnew
          have hib : i ≤ 1000 := by omega
          have hwi : (Lit.int .i64 (i : Int)).wf = true := by
            have h1 : IntKind.i64.min = -9223372036854775808 := rfl
            have h2 : IntKind.i64.max = 9223372036854775807 := rfl
            simp [Lit.wf, h1, h2]
            omega
          obtain ⟨D, hown, hD⟩ := H2.out.1.mp
          have hkey := keyOf_int_mk Try.underlying3 H1.out.2.2.2.2.2.2.1.1
          have hval : (plainElem Try.prog 3) (I (i : Int)) = some (DataW.lit (H := Unit) (.int .i64 (i : Int)), []) := plainElem_int Try.underlying3 hwi
          have HD := Lib.hid (And.intro hown (And.intro hD (And.intro hkey hval)))
          have y0 := H2.out.2.1.get 0 (I xt) rfl
          have t1 := H2.out.1.tb.get 1 (.map (some bm)) rfl
          clear hnew hwi hown hD hkey hval hib
          go_upto_region 8 with (fail)
          go_still_tail 7, (by kernel_rfl)
          change wpList _ _ _ _ _ V.drew
          refine wpList_mapUpdate_own _ rfl _ _ _ 56 rfl 3 3 key_int Try.underlying56 (plainElem Try.prog 3) bm i D rfl HD.out.1.drew (by unfold maxLen; omega) (I xt) (I (i : Int)) _ rfl rfl HD.out.2.2.1 (.lit (.int .i64 (i : Int))) [] HD.out.2.2.2 ?_
          intro w3 hown3 hgr3
          have tg3 : Tang l w.heap.size bt bm ba bd (.slice (some b) n c) (i + 1) (fun _ => 0) (dnU l i) w3 := H2.out.1.drew.putMap hgr3 ⟨_, hown3, by
            have h9 := HD.out.2.1.put
            rw [H1.out.2.2.2.2.1] at h9
            exact h9⟩
          have k3 : Blk bx #[I xt, I xf] 32 w3 := Blk.other (w := V.drew) H2.out.2.1 hgr3 (by simp; exact H1.out.2.2.2.2.2.2.2.2.2.1.2.1)
          have hb3 : Below w.heap.size w w3 := (H2.out.2.2.drew).grown hgr3 H2.out.2.2.size (fun k hk => by cases hk; exact H2.out.1.lt.2.1)
          have hdn : dn0 l i = (xt == xf) := by unfold dn0; rw [H1.out.2.2.2.2.1, H1.out.2.2.2.2.2.1]; rfl
          have HN := Lib.hid (show NtR w l (.slice (some b) n c) bt bm ba bd (I ((i : Int) + 1)) (w3.drew.setCell ⟨bd, i, none⟩ (.bool (xt == xf))) from ⟨i + 1, H1.out.2.2.2.2.2.2.2.2.1, rfl, fun j hj k hk => by
            by_cases e : j = i
            · rw [e, H1.out.2.2.2.2.1]; exact HNW.out k (by omega)
            · exact H1.out.1 j (by omega) k hk, by
            have h9 := tg3.drew.setDn i (xt == xf)
            rw [← hdn, dnU_succ, hdn] at h9
            exact h9, (hb3.drew).setCell tg3.lt.2.2.2 _⟩)
          have y0 := k3.get 0 (I xt) rfl
          have y1 := k3.get 1 (I xf) rfl
          have t3 := tg3.tb.get 3 (.slice (some ⟨bd, 0, none⟩) l.length l.length) rfl
          rw [← HH.out.2.1] at t3
          have z0 := tg3.db.get i (.bool (dnU l i i)) (arrF_get _ H1.out.2.2.2.2.2.2.2.2.1)
          have f0 := tg3.db.free i
          have HT := Lib.hid H1.out.2.2.2.2.2.2.2.1
          clear hown3 hgr3 tg3 k3 hb3 hdn t1 HD
          go_upto_region 9 with (fail)
          go_still_tail 11, (by kernel_rfl)
          go_wp2_with fail
          exact ⟨HN.out, by have := HT.out; simp [intOf]; omega⟩
      · have d0 : decide (i < n) = false := by simpa using hin
        have hil : i = l.length := by have := HH.out.2.1; omega
        have HD := Lib.hid (show Dis l from dis_of' fun j hj => hno j (by omega))
        have HS2 := Lib.hid (show NtS w l (.slice a n c) bt bm ba bd (I 0) wr from ⟨0, Nat.zero_le _, rfl, by rw [← hil]; exact htg.turn (fun _ _ => rfl) (fun j hj => by simp [dnU, hil, hj]), hbe⟩)
        clear hno htg hbe hin hi hil
        go_wp2_with fail
        go_loopw [62] (fun iv W => NtS w l (.slice a n c) bt bm ba bd iv W) (fun iv _ => n - (intOf iv).toNat)
        case atStart => exact HS2.out
        case round =>
          obtain ⟨i, hi, rfl, htg, hbe⟩ := hrel
          by_cases hin : i < n
          · have hil : i < l.length := by rw [← HH.out.2.1]; exact hin
            obtain ⟨b, _, rfl, hbl, c0, e0⟩ := (HH.out.1.below movV_stays hbe).at i hil
            obtain rfl := e0
            rw [getD_mv hil] at c0
            obtain ⟨xt, xf, hx⟩ : ∃ a b, mv l i = (a, b) := ⟨_, _, rfl⟩
            rw [hx] at c0
            have x0 : wr.cell? (b.add (i * 2)) = some (I xt) := c0.f0
            have x1 : wr.cell? ⟨(b.add (i * 2)).block, (b.add (i * 2)).off + 1, none⟩ = some (I xf) := c0.f1
            have hfr : fR l i = xf := by unfold fR; rw [hx]
            have hwx := HH.out.2.2.2 (xt, xf) (by rw [← hx]; exact mv_mem hil)
            have d0 : decide (i < n) = true := by simpa using hin
            have d1 : (0 : Int) ≤ (i : Int) := by omega
            have d2 : (i : Int) < (n : Int) := by omega
            obtain ⟨bx, hbx⟩ : ∃ g, g = wr.heap.size := ⟨_, rfl⟩
            obtain ⟨W1, hW1⟩ : ∃ W, W = wr.alloc (.cells #[I xt, I xf] 32) := ⟨_, rfl⟩
            have kx : Blk bx #[I xt, I xf] 32 W1 := by rw [hbx, hW1]; exact Blk.new _ _ _
            have tg1 : Tang l w.heap.size bt bm ba bd (.slice (some b) n c) l.length (cntU l i) (dn0 l) W1 := by rw [hW1]; exact htg.alloc _
            have hb1 : Below w.heap.size w W1 := by rw [hW1]; exact hbe.alloc hbe.size _
            obtain ⟨cc, bb, hlk, _, hcc⟩ := look_by tg1.mp 0 hwx.2
            have H1 := Lib.hid (And.intro tg1 (And.intro hb1 (And.intro kx (And.intro hfr (And.intro hin hil)))))
            have HW := Lib.hid (And.intro hW1 hbx)
            have HCC := Lib.hid hcc
            clear htg hbe c0 hx hfr hwx hW1 kx tg1 hb1 hin hi hbl hbx hil hcc
            go_upto_region 14 with (fail)
            change Code.wp _ _ _ _ (wr.alloc (.cells #[I xt, I xf] 32))
            rw [← HW.out.2, ← HW.out.1]
            clear x0 x1
            have y1 := H1.out.2.2.1.get 1 (I xf) rfl
            have t1 := H1.out.1.tb.get 1 (.map (some bm)) rfl
            go_quiet (fail)
            obtain ⟨V, hV⟩ : ∃ V, V = W1.drewN nq := ⟨_, rfl⟩
            rw [← hV]
            have hbV : Below W1.heap.size W1 V := by rw [hV]; exact below_drewN (Below.refl _ _) nq
            have tg2 := H1.out.1.below hbV
            have hb2 := below_tr H1.out.2.1 hbV
            have t2 := tg2.tb.get 2 (.slice (some ⟨ba, 0, none⟩) l.length l.length) rfl
            have t3 := tg2.tb.get 3 (.slice (some ⟨bd, 0, none⟩) l.length l.length) rfl
            rw [← HH.out.2.1] at t2 t3
            have z3 := tg2.db.get i (.bool (dn0 l i)) (arrF_get _ H1.out.2.2.2.2.2)
            have hsu := cntU_succ l i
            have H2 := Lib.hid (And.intro tg2 (And.intro hb2 hsu))
            obtain ⟨dd, hdd⟩ : ∃ d, d = dn0 l i := ⟨_, rfl⟩
            rw [← hdd] at z3
            have HDD := Lib.hid hdd
            have HT := Lib.hid H1.out.2.2.2.2.1
            clear hV hbV hb2 y1 t1 hlk hdd hsu
            cases bb with
            | false =>
              have HN := Lib.hid (show NtS w l (.slice (some b) n c) bt bm ba bd (I ((i : Int) + 1)) V from ⟨i + 1, H1.out.2.2.2.2.2, rfl, H2.out.1.turn (fun j hj => by
                rcases HCC.out with ⟨q1, _⟩ | ⟨_, q1⟩
                · cases q1
                · rw [H2.out.2.2, H1.out.2.2.2.1, decide_eq_false (fun e => q1 j hj e.symm)]; simp) (fun _ _ => rfl), H2.out.2.1⟩)
              clear tg2
              go_wp2_with fail
              exact ⟨HN.out, by have := HT.out; simp [intOf]; omega⟩
            | true =>
              cases dd with
              | true =>
                have HN := Lib.hid (show NtS w l (.slice (some b) n c) bt bm ba bd (I ((i : Int) + 1)) V from ⟨i + 1, H1.out.2.2.2.2.2, rfl, H2.out.1.turn (fun j hj => by
                  rw [H2.out.2.2, ← HDD.out]; simp) (fun _ _ => rfl), H2.out.2.1⟩)
                clear tg2
                go_wp2_with fail
                exact ⟨HN.out, by have := HT.out; simp [intOf]; omega⟩
              | false =>
                obtain ⟨k, hk, hkt, hkc⟩ : ∃ k : Nat, k < l.length ∧ tO l k = xf ∧ cc = (k : Int) := by
                  rcases HCC.out with ⟨_, q⟩ | ⟨q1, _⟩
                  · exact q
                  · cases q1
                subst hkc
                have z2 := tg2.ab.get k (I (cntU l i k : Int)) (arrF_get (fun i_1 => I (cntU l i i_1 : Int)) hk)
                have f2 := tg2.ab.free k
                have hle := cntU_le l i k
                obtain ⟨C, hC⟩ : ∃ C, C = cntU l i k := ⟨_, rfl⟩
                rw [← hC] at z2 hle
                have hCb : (C : Int) ≤ 1000 := by omega
                have e5 : ((C + 1 : Nat) : Int) = (C : Int) + 1 := by omega
                have h9 := (H2.out.1.setAsk k (C + 1)).turn (ask' := cntU l (i + 1)) (dn' := dn0 l) (fun j hj => by
                  rw [H2.out.2.2, H1.out.2.2.2.1, ← HDD.out]
                  by_cases e : j = k
                  · subst e
                    rw [up_same, hC, hkt]; simp
                  · rw [up_other _ _ e, decide_eq_false (fun e2 => e (HD.out j k hj hk (by rw [← e2, hkt])))]; simp) (fun _ _ => rfl)
                rw [e5] at h9
                have HN := Lib.hid (show NtS w l (.slice (some b) n c) bt bm ba bd (I ((i : Int) + 1)) (V.setCell ⟨ba, k, none⟩ (I ((C : Int) + 1))) from ⟨i + 1, H1.out.2.2.2.2.2, rfl, h9, H2.out.2.1.setCell H2.out.1.lt.2.2.1 _⟩)
                have q1 : (0 : Int) ≤ (k : Int) := by omega
                have q2 : (k : Int) < (n : Int) := by have := HH.out.2.1; omega
                have q3 : (0 : Int) ≤ (C : Int) := by omega
                clear tg2 h9 e5 hC hle hk hkt
                go_wp2_with fail
                exact ⟨HN.out, by have := HT.out; simp [intOf]; omega⟩
          · have d0 : decide (i < n) = false := by simpa using hin
            have hil : i = l.length := by have := HH.out.2.1; omega
            have FIN := Lib.hid (show NtT w l (.slice a n c) wr (.returned (.tuple #[.pointer (some ⟨bt, 0, none⟩), .bool true])) from ⟨hbe, Or.inr ⟨HD.out, bt, bm, ba, bd, rfl, by
              have h9 := htg
              rw [hil] at h9
              exact h9⟩⟩)
            clear htg hbe hin hi hil
            go_wp2_with fail
            go_ret2
            exact FIN.out
end Go.Proofs.Ytnbkcdhblmfopaa
