/-
  The rows of a tangle: walked.
-/
import Derived.Test.YtnbkcdhblmfopaaMvT
namespace Go.Proofs.Ytnbkcdhblmfopaa
open Go Go.RowKit Go.Maps Mv

/-- What is ready ahead of the first one done. -/
def rdy (l : List M) (dn : Nat → Bool) (k : Nat) : List Nat := (List.range k).filter fun x => decide (cnt l dn x = 0) && !dn x
theorem rdy_succ (l : List M) (dn : Nat → Bool) (k : Nat) : rdy l dn (k + 1) = if cnt l dn k = 0 ∧ dn k = false then rdy l dn k ++ [k] else rdy l dn k := by
  unfold rdy
  rw [List.range_succ, List.filter_append]
  by_cases h : cnt l dn k = 0 ∧ dn k = false
  · rw [if_pos h]; simp [h.1, h.2]
  · rw [if_neg h]
    have : (decide (cnt l dn k = 0) && !dn k) = false := by
      cases hd : dn k with
      | true => simp
      | false =>
        have : cnt l dn k ≠ 0 := fun e => h ⟨e, hd⟩
        simp [this]
    simp [this]
theorem rdy_nodup (l : List M) (dn : Nat → Bool) (k : Nat) : (rdy l dn k).Nodup := List.nodup_range.filter _
theorem rdy_mem (l : List M) (dn : Nat → Bool) (k x : Nat) : x ∈ rdy l dn k ↔ x < k ∧ dn x = false ∧ cnt l dn x = 0 := by
  unfold rdy
  rw [List.mem_filter, List.mem_range]
  simp [and_comm]
theorem rdy_len (l : List M) (dn : Nat → Bool) (k : Nat) : (rdy l dn k).length ≤ k := by
  have := List.length_filter_le (fun x => decide (cnt l dn x = 0) && !dn x) (List.range k)
  simpa [rdy] using this
theorem nil_or_app {α : Type} (l : List α) : l = [] ∨ ∃ r n, l = r ++ [n] := by
  rcases List.eq_nil_or_concat l with h | ⟨r, n, h⟩
  · exact Or.inl h
  · exact Or.inr ⟨r, n, by rw [h, List.concat_eq_append]⟩

def RowsT (w : World) (l : List M) (base bt bm ba bd : Nat) (lv : Value) (W : World) (e : Ending) : Prop :=
  ∃ v out dn, e = .returned v ∧ MovO W w.heap.size 32 v out ∧ Mv.Good l dn [] out ∧ Tang l base bt bm ba bd lv l.length (cnt l dn) dn W ∧ Below base w W
def Ro1 (w : World) (l : List M) (dn : Nat → Bool) (rv iv : Value) (W : World) : Prop := ∃ i : Nat, i ≤ l.length ∧ iv = I (i : Int) ∧ Nums W w.heap.size rv (rdy l dn i) ∧ Below w.heap.size w W
structure RoV (w : World) (l : List M) (base bt bm ba bd : Nat) (lv rv ov : Value) (dn : Nat → Bool) (rd : List Nat) (out : List M) (W : World) : Prop where
  g : Mv.Good l dn rd out
  t : Tang l base bt bm ba bd lv l.length (cnt l dn) dn W
  r : Nums W w.heap.size rv rd
  o : MovO W w.heap.size 32 ov out
  ap : ∀ k, rv.ownBlock = some k → ov.ownBlock ≠ some k
  b : Below base w W
def Ro2 (w : World) (l : List M) (base bt bm ba bd : Nat) (lv : Value) (gk : Nat) (rv ov : Value) (W : World) : Prop := ∃ dn rd out, RoV w l base bt bm ba bd lv rv ov dn rd out W ∧ ct l.length (fun i => !dn i) < gk
theorem nums_row {W : World} {base : Nat} {v : Value} {l : List Nat} (h : Nums W base v l) : ∃ a k, v = .slice a l.length k := by
  rcases own_slice h with ⟨e, e2⟩ | ⟨g, k, e⟩
  · exact ⟨none, 0, by rw [e, e2]⟩
  · exact ⟨_, _, e⟩

set_option maxRecDepth 100000 in
set_option maxHeartbeats 3200000 in
theorem rows_any (base bt bm ba bd : Nat) (lv : Value) (l : List M) (hl : l.length ≤ 1000) (hwf : WfL l) (hd : Dis l) (w : World) (h : Tang l base bt bm ba bd lv l.length (cnt l (dn0 l)) (dn0 l) w) :
    Calls Try.prog 16 #[.pointer (some ⟨bt, 0, none⟩)] w fun e w' => RowsT w l base bt bm ba bd lv w' e := by
  obtain ⟨i0, p1, p2, p3, p4⟩ := info_parts infoI
  have HI := Lib.hid (And.intro p1 (And.intro p2 (And.intro p3 p4)))
  clear p1 p2 p3 p4
  obtain ⟨i1, p1, p2, p3, p4⟩ := info_parts infoMm
  have HM := Lib.hid (And.intro p1 (And.intro p2 (And.intro p3 p4)))
  clear p1 p2 p3 p4
  obtain ⟨n, hn⟩ : ∃ n, n = l.length := ⟨_, rfl⟩
  obtain ⟨la, lc, hlv⟩ := h.ls.size
  rw [← hn] at hlv
  have hnb : (n : Int) ≤ 1000 := by omega
  have t0 := h.tb.get 0 lv rfl
  rw [hlv] at t0
  have htl : bt < w.heap.size ∧ bm < w.heap.size ∧ ba < w.heap.size ∧ bd < w.heap.size := ⟨h.tb.lt, h.mp.lt, h.ab.lt, h.db.lt⟩
  have HH := Lib.hid (And.intro h (And.intro hn (And.intro hl (And.intro hwf (And.intro hd (And.intro hlv htl))))))
  clear h hn hl hwf hd htl hlv
  go_enter Try.func16, Try.ntmps16
  go_wp2_with fail
  go_loopw [3, 14] (fun rv iv W => Ro1 w l (dn0 l) rv iv W) (fun _ iv _ => n - (intOf iv).toNat)
  case atStart => exact ⟨0, Nat.zero_le _, rfl, World.ownsRow_nil _ _ _ _, Below.refl _ _⟩
  case round =>
    obtain ⟨i, hi, rfl, hnu, hbe⟩ := hrel
    by_cases hin : i < n
    · have hil : i < l.length := by rw [← HH.out.2.1]; exact hin
      have tg := HH.out.1.below hbe
      have t2 := tg.tb.get 2 (.slice (some ⟨ba, 0, none⟩) l.length l.length) rfl
      have t3 := tg.tb.get 3 (.slice (some ⟨bd, 0, none⟩) l.length l.length) rfl
      rw [← HH.out.2.1] at t2 t3
      have z2 := tg.ab.get i (I (cnt l (dn0 l) i : Int)) (arrF_get (fun i_1 => I (cnt l (dn0 l) i_1 : Int)) hil)
      have z3 := tg.db.get i (.bool (dn0 l i)) (arrF_get _ hil)
      have d0 : decide (i < n) = true := by simpa using hin
      have d1 : (0 : Int) ≤ (i : Int) := by omega
      have d2 : (i : Int) < (n : Int) := by omega
      have hsu := rdy_succ l (dn0 l) i
      have hrl := rdy_len l (dn0 l) i
      obtain ⟨C, hC⟩ : ∃ C, C = cnt l (dn0 l) i := ⟨_, rfl⟩
      obtain ⟨dd, hdd⟩ : ∃ d, d = dn0 l i := ⟨_, rfl⟩
      rw [← hC] at z2 hsu
      rw [← hdd] at z3 hsu
      have H1 := Lib.hid (And.intro hnu (And.intro hbe (And.intro hin (And.intro hil (And.intro hsu hrl)))))
      clear tg hnu hbe hin hil hsu hrl hC hdd hi
      by_cases h1 : C = 0 ∧ dd = false
      · obtain ⟨rfl, rfl⟩ := h1
        obtain ⟨ra, rc, hrv⟩ := nums_row H1.out.1
        obtain ⟨m, hm⟩ : ∃ m, m = (rdy l (dn0 l) i).length := ⟨_, rfl⟩
        rw [← hm] at hrv
        have hnu : wr.ownsRow w.heap.size 3 1 u3 m (ints (rdy l (dn0 l) i)) := by rw [hm]; exact H1.out.1
        have HN := Lib.hid (And.intro hnu hm)
        have hmb : m ≤ 1000 := by have := H1.out.2.2.2.2.2; omega
        subst hrv
        clear hnu hm
        go_wp2_with (first | (at_builtin; refine Hid.out ?_) | go_in)
        unfold Hid
        refine wpList_append_lies _ rfl (.tmp 35) (.tmp 37) 41 rfl w.heap.size 3 i0 (I 0) 1 8 Try.underlying41 HI.out.1 HI.out.2.1 HI.out.2.2.1 HI.out.2.2.2 rfl (by decide) (.slice ra m rc) m (ints (rdy l (dn0 l) i)) rfl (HN.out.1.alloc _) ⟨wr.heap.size, 0, none⟩ 1 1 [I (i : Int)] rfl rfl (World.news_of_block (heap_alloc_new wr _)) (by simp [Value.oneCell']) (by decide) (by unfold maxLen; omega) (by omega) (by have h1 := H1.out.2.1.size; simp; omega) _ rfl ?_
        intro gg cg w9 hown9 hgr9 hat9 hlt9
        have HR := Lib.hid (show Ro1 w l (dn0 l) (.slice (some ⟨gg, 0, none⟩) (m + 1) cg) (I ((i : Int) + 1)) w9 from ⟨i + 1, H1.out.2.2.2.1, rfl, by
          rw [H1.out.2.2.2.2.1, if_pos (by simp)]
          show World.ownsRow _ _ _ _ _ _ _
          rw [List.length_append, List.length_singleton, ← HN.out.2]
          simpa using hown9, (H1.out.2.1.alloc H1.out.2.1.size _).grown hgr9 (by have := H1.out.2.1.size; simp; omega) (fun k hk => (HN.out.1.lt k hk).1)⟩)
        have HT := Lib.hid H1.out.2.2.1
        clear hown9 hgr9 hat9 hlt9
        go_wp2_with fail
        exact ⟨HR.out, by have := HT.out; simp [intOf]; omega⟩
      · have HR := Lib.hid (show Ro1 w l (dn0 l) u3 (I ((i : Int) + 1)) wr from ⟨i + 1, H1.out.2.2.2.1, rfl, by rw [H1.out.2.2.2.2.1, if_neg h1]; exact H1.out.1, H1.out.2.1⟩)
        have HT := Lib.hid H1.out.2.2.1
        by_cases h0 : C = 0
        · have hdt : dd = true := by cases dd with
            | true => rfl
            | false => exact absurd ⟨h0, rfl⟩ h1
          subst h0 hdt
          clear h1
          go_wp2_with fail
          exact ⟨HR.out, by have := HT.out; simp [intOf]; omega⟩
        · have g0 : ((C : Int) == 0) = false := by simpa using h0
          clear h1 h0
          go_wp2_with fail
          exact ⟨HR.out, by have := HT.out; simp [intOf]; omega⟩
    · have d0 : decide (i < n) = false := by simpa using hin
      have hil : i = l.length := by have := HH.out.2.1; omega
      have HS2 := Lib.hid (show Ro2 w l base bt bm ba bd lv (n + 1) u3 (.slice none 0 0) wr from ⟨dn0 l, rdy l (dn0 l) l.length, [], ⟨good_start (fun i hi => rfl) (rdy_nodup _ _ _) (fun x => rdy_mem _ _ _ _), HH.out.1.below hbe, by rw [← hil]; exact hnu, MovO.start, fun k _ => by simp [Value.ownBlock], hbe.mono (by have := HH.out.1.lt.1; have := HH.out.1.tb.lt; omega)⟩, by have := ct_le (f := fun i => !dn0 l i) (n := l.length); have := HH.out.2.1; omega⟩)
      clear hnu hbe hin hi hil t0
      go_wp2_with fail
      go_loopg [3, 5] (n + 1) (fun gk rv ov W => Ro2 w l base bt bm ba bd lv gk rv ov W)
      case atStart => exact HS2.out
      case round =>
        obtain ⟨dn, rd, out, hS, hmu⟩ := hrel
        obtain ⟨k, rfl⟩ : ∃ k, gk = k + 1 := ⟨gk - 1, by omega⟩
        rcases nil_or_app rd with rfl | ⟨r, i, rfl⟩
        · obtain ⟨sa, sc, hsv⟩ := nums_row hS.r
          have FIN := Lib.hid (show RowsT w l base bt bm ba bd lv wr (.returned u5) from ⟨_, _, _, rfl, hS.o, hS.g, hS.t, hS.b⟩)
          rw [List.length_nil] at hsv
          subst hsv
          clear hS hmu
          go_wp2_with fail
          go_ret
          exact FIN.out
        · have hns := hS.r
          obtain ⟨m, hM⟩ : ∃ m, m = r.length := ⟨_, rfl⟩
          have hl1 : (r ++ [i]).length = m + 1 := by rw [List.length_append, List.length_singleton, hM]
          obtain ⟨g, sc, hsv⟩ : ∃ g c, u3 = .slice (some ⟨g, 0, none⟩) (m + 1) c := by
            rcases own_slice hns with ⟨_, h⟩ | ⟨g, cap, h⟩
            · omega
            · exact ⟨g, cap, by rw [h, hl1]⟩
          have hUV := Lib.hid hsv
          rw [hsv] at hns
          have ho : wr.ownsRow w.heap.size 3 1 (.slice (some ⟨g, 0, none⟩) (m + 1) sc) (m + 1) (ints r ++ [I (i : Int)]) := by
            have h1 : wr.ownsRow w.heap.size 3 1 (.slice (some ⟨g, 0, none⟩) (m + 1) sc) (r ++ [i]).length (ints (r ++ [i])) := hns
            rw [hl1, show ints (r ++ [i]) = ints r ++ [I (i : Int)] by simp] at h1
            exact h1
          have hpop : wr.ownsRow w.heap.size 3 1 (.slice (some ⟨g, 0, none⟩) m sc) m (ints r) := ownsRow_pop (by rw [List.length_map, hM, Nat.mul_one]) ho
          have c0 : wr.cell? ⟨g, m, none⟩ = some (I (i : Int)) := by
            rw [ho.cellAt m (by omega), List.getElem?_append_right (by rw [List.length_map, hM]; exact Nat.le_refl _)]
            simp [hM]
          have hcap : m + 1 ≤ sc := by
            rcases ho.2 with ⟨h, _⟩ | ⟨g', cap', cur, hv, _, _, h1, _⟩
            · cases h
            · cases hv; exact h1
          obtain ⟨hil, hdi, hci⟩ := (hS.g.rm i).1 (by simp)
          have hmb : m ≤ 1000 := by
            have h1 := hS.g.rn.length_le_of_subset (l₂ := List.range l.length) (fun x hx => List.mem_range.2 ((hS.g.rm x).1 hx).1)
            rw [hl1, List.length_range] at h1
            have := HH.out.2.2.1
            omega
          obtain ⟨oa, oc, hov⟩ := hS.o.row
          have hol : out.length ≤ 1000 := by
            have h1 := hS.g.ln
            have h2 := ct_le (f := fun i => decide (tO l i ≠ fR l i)) (n := l.length)
            have := HH.out.2.2.1
            omega
          have t3 := hS.t.tb.get 3 (.slice (some ⟨bd, 0, none⟩) l.length l.length) rfl
          rw [← HH.out.2.1] at t3
          have z3 := hS.t.db.get i (.bool (dn i)) (arrF_get _ hil)
          have f3 := hS.t.db.free i
          obtain ⟨W1, hW1⟩ : ∃ W, W = wr.setCell ⟨bd, i, none⟩ (.bool true) := ⟨_, rfl⟩
          obtain ⟨h1t, h2t, h3t, h4t⟩ := HH.out.2.2.2.2.2.2
          have hbw : base ≤ w.heap.size := by have := HH.out.1.lt.1; omega
          have tg1 : Tang l base bt bm ba bd lv l.length (cnt l dn) (up dn i true) W1 := by rw [hW1]; exact hS.t.setDn i true
          have hz1 : W1.heap.size = wr.heap.size := by rw [hW1]; simp [World.setCell]
          have hp1 : W1.ownsRow w.heap.size 3 1 (.slice (some ⟨g, 0, none⟩) m sc) m (ints r) := by rw [hW1]; exact own_set hpop (fun e => by have := (hpop.lt bd e.symm).1; omega)
          have ho1 : MovO W1 w.heap.size 32 u5 out := by rw [hW1]; exact own_set hS.o (fun e => by have := (World.ownsRow.lt hS.o bd e.symm).1; omega)
          have hb1 : Below base w W1 := by rw [hW1]; exact hS.b.setCell HH.out.1.lt.2.2.2 _
          have hap : some g ≠ u5.ownBlock := fun e => hS.ap g (by rw [hsv]; rfl) e.symm
          obtain ⟨o, hoo⟩ : ∃ o, o = out.length := ⟨_, rfl⟩
          rw [← hoo] at hov hol
          have ho1' : W1.ownsRow w.heap.size 32 2 u5 o (cellsM out) := by rw [hoo]; exact ho1
          have HS := Lib.hid (And.intro hS.g (And.intro hmu (And.intro hM (And.intro hil (And.intro hdi (And.intro hci (And.intro hoo (And.intro tg1 (And.intro hp1 (And.intro ho1' (And.intro hb1 (And.intro hap (And.intro hbw hz1)))))))))))))
          have HSZ := Lib.hid (show w.heap.size ≤ wr.heap.size from hS.b.size)
          have HW1 := Lib.hid hW1
          have HOV := Lib.hid hov
          have e1 : (0 : Int) ≤ (m : Int) := by omega
          have e2 : (m : Int) ≤ 1000 := by omega
          have e3 : (m : Int) + 1 ≤ (sc : Int) := by omega
          have e4 : (0 : Int) ≤ (i : Int) := by omega
          have e5 : (i : Int) < (n : Int) := by have := HH.out.2.1; omega
          subst hsv
          clear hS hmu hM hl1 hns ho hpop hcap hil hdi hci hW1 tg1 hz1 hp1 ho1 ho1' hb1 hap hoo h1t h2t h3t h4t hbw
          go_upto_region 13 with (fail)
          change Code.wp _ _ _ _ (wr.setCell ⟨bd, i, none⟩ (.bool true))
          rw [← HW1.out]
          clear c0 t3 z3 f3
          have hls := HS.out.2.2.2.2.2.2.2.1.ls
          obtain ⟨b, _, hlab, hbl, q0, e0⟩ := SlS.at (by have h9 := hls; rw [HH.out.2.2.2.2.2.1] at h9; exact h9) i HS.out.2.2.2.1
          obtain rfl := e0
          rw [getD_mv HS.out.2.2.2.1] at q0
          obtain ⟨xt, xf, hx⟩ : ∃ a b, mv l i = (a, b) := ⟨_, _, rfl⟩
          rw [hx] at q0
          have x0 : W1.cell? (b.add (i * 2)) = some (I xt) := q0.f0
          have x1 : W1.cell? ⟨(b.add (i * 2)).block, (b.add (i * 2)).off + 1, none⟩ = some (I xf) := q0.f1
          have s0 := HS.out.2.2.2.2.2.2.2.1.tb.get 0 lv rfl
          rw [HH.out.2.2.2.2.2.1, hlab] at s0
          have hfr : fR l i = xf := by unfold fR; rw [hx]
          have hwx := HH.out.2.2.2.1 (xt, xf) (by rw [← hx]; exact mv_mem HS.out.2.2.2.1)
          have HX := Lib.hid (And.intro hx (And.intro hfr (And.intro hwx (And.intro hlab hbl))))
          obtain ⟨om, hom⟩ : ∃ v, v = u5 := ⟨_, rfl⟩
          have HOM := Lib.hid hom
          have HOR := Lib.hid (show W1.ownsRow w.heap.size 32 2 (.slice oa o oc) o (cellsM out) by rw [← HOV.out]; exact HS.out.2.2.2.2.2.2.2.2.2.1)
          have HAP := Lib.hid (show some g ≠ (Value.slice oa o oc).ownBlock by rw [← HOV.out]; exact HS.out.2.2.2.2.2.2.2.2.2.2.2.1)
          have hou := HOV.out
          subst hou
          clear hls q0 hx hfr hwx hlab hbl hom
          go_wp2_with (first | (at_builtin; refine Hid.out ?_) | go_in)
          unfold Hid
          change wpList _ _ _ _ _ (W1.alloc (.cells #[I xt, I xf] 32))
          refine wpList_append_lies _ rfl (.tmp 60) (.tmp 68) 24 rfl w.heap.size 32 i1 (.agg #[I 0, I 0]) 2 16 Try.underlying24 HM.out.1 HM.out.2.1 HM.out.2.2.1 HM.out.2.2.2 rfl (by decide) (.slice oa o oc) o (cellsM out) rfl (HOR.out.alloc _) ⟨W1.heap.size, 0, none⟩ 1 1 [I xt, I xf] rfl rfl (World.news_of_block (heap_alloc_new W1 _)) (by simp [Value.oneCell']) (by decide) (by unfold maxLen; omega) (by omega) (by have h1 := HSZ.out; have h2 := HS.out.2.2.2.2.2.2.2.2.2.2.2.2.2; simp; omega) _ rfl ?_
          intro g3 c3 w3 ho3 hg3 hat3 hlt3
          obtain ⟨h1t, h2t, h3t, h4t⟩ := HH.out.2.2.2.2.2.2
          have hrow : ∀ k, (Value.slice oa o oc).ownBlock = some k → w.heap.size ≤ k := fun k hk => (HOR.out.lt k hk).1
          have hg1l : g < W1.heap.size := (HS.out.2.2.2.2.2.2.2.2.1.lt g rfl).2
          have hsz1 : w.heap.size ≤ W1.heap.size := by rw [HS.out.2.2.2.2.2.2.2.2.2.2.2.2.2]; exact HSZ.out
          have hbw := HS.out.2.2.2.2.2.2.2.2.2.2.2.2.1
          have tg3 : Tang l base bt bm ba bd lv l.length (cnt l dn) (up dn i true) w3 := (HS.out.2.2.2.2.2.2.2.1.alloc _).kept hg3 (fun e => by have := hrow bt e; omega) (fun e => by have := hrow bm e; omega) (fun e => by have := hrow ba e; omega) (fun e => by have := hrow bd e; omega) (fun k hk => by have := hrow k hk; omega)
          have hp3 : w3.ownsRow w.heap.size 3 1 (.slice (some ⟨g, 0, none⟩) m sc) m (ints r) := (HS.out.2.2.2.2.2.2.2.2.1.alloc _).kept hg3 (Or.inr HAP.out)
          have o3 : MovO w3 w.heap.size 32 (.slice (some ⟨g3, 0, none⟩) (o + 1) c3) (out ++ [mv l i]) := by
            rw [HX.out.1]
            exact MovO.app (by rw [← HS.out.2.2.2.2.2.2.1]; exact ho3)
          have hb3 : Below base w w3 := (HS.out.2.2.2.2.2.2.2.2.2.2.1.alloc (by omega) (.cells #[I xt, I xf] 32)).grown hg3 (by simp; omega) (fun k hk => by have := hrow k hk; omega)
          have hgg : g3 ≠ g := by
            rcases hat3 with e | e
            · exact fun e2 => HAP.out (by rw [e, e2])
            · simp at e; omega
          have hz3 : w.heap.size ≤ w3.heap.size := by have := hg3.size; simp at this; omega
          obtain ⟨b', _, hlab', hbl', q0, e0⟩ := SlS.at (by have h9 := tg3.ls; rw [HH.out.2.2.2.2.2.1] at h9; exact h9) i HS.out.2.2.2.1
          obtain rfl := e0
          rw [HX.out.2.2.2.1] at hlab'
          cases hlab'
          rw [getD_mv HS.out.2.2.2.1, HX.out.1] at q0
          have y1 : w3.cell? ⟨(b.add (i * 2)).block, (b.add (i * 2)).off + 1, none⟩ = some (I xf) := q0.f1
          have s3 := tg3.tb.get 0 lv rfl
          rw [HH.out.2.2.2.2.2.1, HX.out.2.2.2.1] at s3
          have t1 := tg3.tb.get 1 (.map (some bm)) rfl
          obtain ⟨cc, bb, hlk, _, hcc⟩ := look_by tg3.mp 0 HX.out.2.2.1.2
          have H3 := Lib.hid (And.intro tg3 (And.intro hp3 (And.intro o3 (And.intro hb3 (And.intro hgg hz3)))))
          have HCC := Lib.hid hcc
          clear ho3 hg3 hat3 hlt3 h1t h2t h3t h4t hrow hg1l hsz1 hbw tg3 hp3 o3 hb3 hgg hz3 q0 hbl' hcc x0 x1 s0
          go_upto_region 14 with (fail)
          go_quiet (fail)
          obtain ⟨V, hV⟩ : ∃ V, V = w3.drewN nq := ⟨_, rfl⟩
          rw [← hV]
          have hbV : Below w3.heap.size w3 V := by rw [hV]; exact below_drewN (Below.refl _ _) nq
          have tgV := H3.out.1.below hbV
          have hpV := own_below H3.out.2.1 hbV
          have oV := H3.out.2.2.1.below hbV
          have hbb := H3.out.2.2.2.1.trans (hbV.mono (by have := HS.out.2.2.2.2.2.2.2.2.2.2.2.2.1; have := H3.out.2.2.2.2.2; omega))
          have hzV : w.heap.size ≤ V.heap.size := Nat.le_trans H3.out.2.2.2.2.2 hbV.size
          have H4 := Lib.hid (And.intro tgV (And.intro hpV (And.intro oV (And.intro hbb hzV))))
          have hul := und_less HS.out.2.2.2.1 HS.out.2.2.2.2.1
          have hmu := HS.out.2.1
          have HMU := Lib.hid (show ct l.length (fun j => !(up dn i true) j) < k by omega)
          clear hV hbV tgV hpV oV hbb hzV hlk y1 s3 t1 hul hmu
          cases bb with
          | false =>
            have hnone : ∀ j, j < l.length → tO l j ≠ fR l i := by
              rw [HX.out.2.1]
              rcases HCC.out with ⟨q1, _⟩ | ⟨_, q1⟩
              · cases q1
              · exact q1
            obtain ⟨hr1, hr2⟩ := ready_none HH.out.2.2.2.2.1 HS.out.1 hnone
            have HN := Lib.hid (show Ro2 w l base bt bm ba bd lv k (.slice (some ⟨g, 0, none⟩) m sc) (.slice (some ⟨g3, 0, none⟩) (o + 1) c3) V from ⟨_, r, _, ⟨good_step HH.out.2.2.2.2.1 HS.out.1 hr1 hr2, H4.out.1.turn (fun j hj => (cnt_other HS.out.2.2.2.1 HS.out.2.2.2.2.1 (fun e => hnone j hj e.symm)).symm) (fun _ _ => rfl), by show World.ownsRow _ _ _ _ _ _ _; rw [← HS.out.2.2.1]; exact H4.out.2.1, H4.out.2.2.1, fun q hq => by
              have e : g = q := by simpa [Value.ownBlock] using hq
              subst e
              simp [Value.ownBlock]
              exact H3.out.2.2.2.2.1, H4.out.2.2.2.1⟩, HMU.out⟩)
            clear hnone hr1 hr2
            go_wp2_with fail
            go_roundg k
            case rel => exact HN.out
            case measure => omega
          | true =>
            obtain ⟨j, hj, hjt, hjc⟩ : ∃ j : Nat, j < l.length ∧ tO l j = fR l i ∧ cc = (j : Int) := by
              rw [HX.out.2.1]
              rcases HCC.out with ⟨_, q⟩ | ⟨q1, _⟩
              · exact q
              · cases q1
            subst hjc
            obtain ⟨hr1, hr2⟩ := ready_some HH.out.2.2.2.2.1 HS.out.1 hj hjt
            have hless := cnt_less HS.out.2.2.2.1 HS.out.2.2.2.2.1 hjt.symm
            obtain ⟨C, hC⟩ : ∃ C, C = cnt l (up dn i true) j := ⟨_, rfl⟩
            rw [← hC] at hless hr1 hr2
            have hCb : C ≤ 1000 := by
              have h1 : cnt l (up dn i true) j ≤ l.length := ct_le
              have := HH.out.2.2.1
              omega
            have t2 := H4.out.1.tb.get 2 (.slice (some ⟨ba, 0, none⟩) l.length l.length) rfl
            rw [← HH.out.2.1] at t2
            have z2 := H4.out.1.ab.get j (I (cnt l dn j : Int)) (arrF_get (fun i_1 => I (cnt l dn i_1 : Int)) hj)
            rw [hless, show ((C + 1 : Nat) : Int) = (C : Int) + 1 by omega] at z2
            have f2 := H4.out.1.ab.free j
            obtain ⟨W5, hW5⟩ : ∃ W, W = V.setCell ⟨ba, j, none⟩ (I (C : Int)) := ⟨_, rfl⟩
            have tg5 : Tang l base bt bm ba bd lv l.length (cnt l (up dn i true)) (up dn i true) W5 := by
              rw [hW5]
              refine (H4.out.1.setAsk j C).turn (fun x hx => ?_) (fun _ _ => rfl)
              by_cases e : x = j
              · subst e; rw [up_same, hC]
              · rw [up_other _ _ e]
                exact (cnt_other HS.out.2.2.2.1 HS.out.2.2.2.2.1 (fun e2 => e (HH.out.2.2.2.2.1 x j hx hj (by rw [← e2, hjt])))).symm
            have hbal : ba < w.heap.size := HH.out.2.2.2.2.2.2.2.2.1
            have hp5 : W5.ownsRow w.heap.size 3 1 (.slice (some ⟨g, 0, none⟩) m sc) m (ints r) := by rw [hW5]; exact own_set H4.out.2.1 (fun e => by have := (H4.out.2.1.lt ba e.symm).1; omega)
            have o5 : MovO W5 w.heap.size 32 (.slice (some ⟨g3, 0, none⟩) (o + 1) c3) (out ++ [mv l i]) := by rw [hW5]; exact own_set H4.out.2.2.1 (fun e => by have := (World.ownsRow.lt H4.out.2.2.1 ba e.symm).1; omega)
            have hb5 : Below base w W5 := by rw [hW5]; exact H4.out.2.2.2.1.setCell HH.out.1.lt.2.2.1 _
            have hz5 : w.heap.size ≤ W5.heap.size := by rw [hW5]; simp [World.setCell]; exact H4.out.2.2.2.2
            have y2 := tg5.tb.get 2 (.slice (some ⟨ba, 0, none⟩) l.length l.length) rfl
            have y3 := tg5.tb.get 3 (.slice (some ⟨bd, 0, none⟩) l.length l.length) rfl
            rw [← HH.out.2.1] at y2 y3
            have v2 := tg5.ab.get j (I (cnt l (up dn i true) j : Int)) (arrF_get (fun i_1 => I (cnt l (up dn i true) i_1 : Int)) hj)
            rw [← hC] at v2
            have v3 := tg5.db.get j (.bool (up dn i true j)) (arrF_get (fun x => Value.bool (up dn i true x)) hj)
            obtain ⟨dd, hdd⟩ : ∃ d, d = up dn i true j := ⟨_, rfl⟩
            rw [← hdd] at v3 hr1 hr2
            have H5 := Lib.hid (And.intro tg5 (And.intro hp5 (And.intro o5 (And.intro hb5 (And.intro hz5 hdd)))))
            have HW5 := Lib.hid hW5
            have q1 : (0 : Int) ≤ (j : Int) := by omega
            have q2 : (j : Int) < (n : Int) := by have := HH.out.2.1; omega
            have q3 : (0 : Int) ≤ (C : Int) := by omega
            have q4 : (C : Int) ≤ 1000 := by omega
            have HR := Lib.hid (And.intro hr1 hr2)
            clear hless hC hCb hW5 tg5 hbal hp5 o5 hb5 hz5 hdd hr1 hr2 hj hjt
            go_upto_region 17 with (fail)
            change Code.wp _ _ _ _ (V.setCell ⟨ba, j, none⟩ (I (C : Int)))
            rw [← HW5.out]
            clear t2 z2 f2
            have HNO := Lib.hid (fun hno : ¬ (C = 0 ∧ dd = false) => (show Ro2 w l base bt bm ba bd lv k (.slice (some ⟨g, 0, none⟩) m sc) (.slice (some ⟨g3, 0, none⟩) (o + 1) c3) W5 from ⟨_, r, _, ⟨good_step HH.out.2.2.2.2.1 HS.out.1 (HR.out.2 hno).1 (HR.out.2 hno).2, H5.out.1, by show World.ownsRow _ _ _ _ _ _ _; rw [← HS.out.2.2.1]; exact H5.out.2.1, H5.out.2.2.1, fun q hq => by
              have e : g = q := by simpa [Value.ownBlock] using hq
              subst e
              simp [Value.ownBlock]
              exact H3.out.2.2.2.2.1, H5.out.2.2.2.1⟩, HMU.out⟩))
            by_cases hC0 : C = 0
            · subst hC0
              cases dd with
              | true =>
                have HN := Lib.hid (HNO.out (by simp))
                clear HNO
                go_wp2_with fail
                go_roundg k
                case rel => exact HN.out
                case measure => omega
              | false =>
                clear HNO
                go_wp2_with (first | (at_builtin; refine Hid.out ?_) | go_in)
                unfold Hid
                refine wpList_append_lies _ rfl (.tmp 115) (.tmp 117) 41 rfl w.heap.size 3 i0 (I 0) 1 8 Try.underlying41 HI.out.1 HI.out.2.1 HI.out.2.2.1 HI.out.2.2.2 rfl (by decide) (.slice (some ⟨g, 0, none⟩) m sc) m (ints r) rfl (H5.out.2.1.alloc _) ⟨W5.heap.size, 0, none⟩ 1 1 [I (j : Int)] rfl rfl (World.news_of_block (heap_alloc_new W5 _)) (by simp [Value.oneCell']) (by decide) (by unfold maxLen; omega) (by omega) (by have h1 := H5.out.2.2.2.2.1; simp; omega) _ rfl ?_
                intro g6 c6 w6 ho6 hg6 hat6 hlt6
                obtain ⟨h1t, h2t, h3t, h4t⟩ := HH.out.2.2.2.2.2.2
                have hbw := HS.out.2.2.2.2.2.2.2.2.2.2.2.2.1
                have hz5 := H5.out.2.2.2.2.1
                have hgl : w.heap.size ≤ g := (H5.out.2.1.lt g rfl).1
                have hg3l : g3 < W5.heap.size := (World.ownsRow.lt H5.out.2.2.1 g3 rfl).2
                have HN := Lib.hid (show Ro2 w l base bt bm ba bd lv k (.slice (some ⟨g6, 0, none⟩) (m + 1) c6) (.slice (some ⟨g3, 0, none⟩) (o + 1) c3) w6 from ⟨_, r ++ [j], _, ⟨good_step HH.out.2.2.2.2.1 HS.out.1 (HR.out.1 (by simp)).1 (HR.out.1 (by simp)).2,
                  (H5.out.1.alloc _).kept hg6 (by simp [Value.ownBlock]; omega) (by simp [Value.ownBlock]; omega) (by simp [Value.ownBlock]; omega) (by simp [Value.ownBlock]; omega) (fun q hq => by
                    have e : g = q := by simpa [Value.ownBlock] using hq
                    omega), by
                    show World.ownsRow _ _ _ _ _ _ _
                    rw [List.length_append, List.length_singleton, ← HS.out.2.2.1]
                    simpa using ho6, World.ownsRow.kept (World.ownsRow.alloc H5.out.2.2.1 _) hg6 (Or.inr (by simp [Value.ownBlock]; exact H3.out.2.2.2.2.1)), fun q hq => by
                    have e : g6 = q := by simpa [Value.ownBlock] using hq
                    subst e
                    simp [Value.ownBlock]
                    rcases hat6 with e | e
                    · have e2 : g = g6 := by simpa [Value.ownBlock] using e
                      rw [← e2]; exact H3.out.2.2.2.2.1
                    · simp at e; omega,
                  (H5.out.2.2.2.1.alloc (by omega) (.cells #[I (j : Int)] 3)).grown hg6 (by simp; omega) (fun q hq => by
                    have e : g = q := by simpa [Value.ownBlock] using hq
                    omega)⟩, HMU.out⟩)
                clear ho6 hg6 hat6 hlt6 h1t h2t h3t h4t hbw hz5 hgl hg3l
                go_wp2_with fail
                go_roundg k
                case rel => exact HN.out
                case measure => omega
            · have g0 : ((C : Int) == 0) = false := by simpa using hC0
              have HN := Lib.hid (HNO.out (fun h => hC0 h.1))
              clear HNO hC0
              go_wp2_with fail
              go_roundg k
              case rel => exact HN.out
              case measure => omega
end Go.Proofs.Ytnbkcdhblmfopaa
