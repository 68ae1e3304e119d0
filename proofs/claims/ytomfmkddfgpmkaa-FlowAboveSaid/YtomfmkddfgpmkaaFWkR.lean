/-
  The document's own walk, that calls itself.
-/
import Derived.Test.YtomfmkddfgpmkaaFFace
import Derived.Test.YtomfmkddfgpmkaaFTame
namespace Go.Proofs.Ytomfmkddfgpmkaa
open Go Go.RowKit Fl

namespace Fl
theorem wkRow_len {f : Nat → List Bool → List Nat → Option (List Bool × List Nat)} (hf : ∀ y b o r, f y b o = some r → o.length ≤ r.2.length) : ∀ (l : List Nat) (b : List Bool) (o : List Nat) (r : List Bool × List Nat), wkRow f l b o = some r → o.length ≤ r.2.length
  | [], _, _, _, h => by cases h; exact Nat.le_refl _
  | y :: l, b, o, r, h => by
    unfold wkRow at h
    split at h
    · exact wkRow_len hf l b o r h
    · cases h1 : f y b o with
      | none => rw [h1] at h; cases h
      | some q =>
        rw [h1] at h
        exact Nat.le_trans (hf _ _ _ _ h1) (wkRow_len hf l _ _ _ h)
theorem wkF_len (G : List (List Nat)) : ∀ (k n : Nat) (b : List Bool) (o : List Nat) (r : List Bool × List Nat), wkF G k n b o = some r → o.length ≤ r.2.length
  | 0, _, _, _, _, h => by cases h
  | k + 1, n, b, o, r, h => by
    unfold wkF at h
    cases h1 : wkRow (wkF G k) (row G n) (b.set n true) o with
    | none => rw [h1] at h; cases h
    | some q =>
      rw [h1] at h
      cases h
      have := wkRow_len (wkF_len G k) _ _ _ _ h1
      simp
      omega
theorem wkRow_cons {f : Nat → List Bool → List Nat → Option (List Bool × List Nat)} {y : Nat} {l : List Nat} {b : List Bool} {o : List Nat} : wkRow f (y :: l) b o = if b.getD y false = true then wkRow f l b o else (f y b o).bind (fun r => wkRow f l r.1 r.2) := rfl
end Fl

theorem belowBB {B : Nat} {a b c : World} (h : Below B a b) (k : Below B b c) : Below B a c := ⟨k.os.trans h.os, k.tape.trans h.tape, k.output.trans h.output, Nat.le_trans h.size k.size, fun i hi => (k.block i hi).trans (h.block i hi)⟩
/-- What the walk leaves. -/
def WkT (base bb N : Nat) (b' : List Bool) (o' : List Nat) (w W : World) (e : Ending) : Prop :=
  ∃ u, e = .returned u ∧ Blk bb (arrB b') 4 W ∧ b'.length = N ∧ Nums W base u o' ∧ some bb ≠ u.ownBlock ∧ Below base w W
def WkR (base bb N : Nat) (G : List (List Nat)) (k n : Nat) (Z : Option (List Bool × List Nat)) (w : World) (ov iv : Value) (W : World) : Prop :=
  ∃ (i : Nat) (bs : List Bool) (o : List Nat), i ≤ (row G n).length ∧ iv = I (i : Int) ∧ wkRow (wkF G k) ((row G n).drop i) bs o = Z ∧ Blk bb (arrB bs) 4 W ∧ bs.length = N ∧ Nums W base ov o ∧ some bb ≠ ov.ownBlock ∧ Below base w W

set_option maxRecDepth 100000 in
set_option maxHeartbeats 1600000 in
theorem walkR_any (bg cap N bb base : Nat) (G : List (List Nat)) (hG : GOk G) (hGl : G.length = N) (hN : N ≤ 1000) (hbb : base ≤ bb) (hrow : ∀ i, (row G i).length ≤ 1000) : ∀ (k n : Nat) (bs : List Bool) (o : List Nat) (b' : List Bool) (o' : List Nat) (ov : Value) (w : World), wkF G k n bs o = some (b', o') → n < N → bs.length = N → o'.length ≤ 100000 → GrB base w bg G → Blk bb (arrB bs) 4 w → Nums w base ov o → some bb ≠ ov.ownBlock →
    Calls Try.prog 31 #[.slice (some ⟨bg, 0, none⟩) N cap, I (n : Int), .slice (some ⟨bb, 0, none⟩) N N, ov] w fun e w' => WkT base bb N b' o' w w' e := by
  intro k
  induction k with
  | zero => intro n bs o b' o' ov w h; cases h
  | succ k ih =>
    intro n bs o b' o' ov w h hn hbl hol hgr hb ho hne
    have IH := Lib.hid ih
    obtain ⟨i0, hi, hz0, hz1, hz2⟩ := info_parts info_int'
    have HI := Lib.hid (And.intro hi (And.intro hz0 (And.intro hz1 hz2)))
    obtain ⟨o2, hr, ho2⟩ : ∃ o2, wkRow (wkF G k) (row G n) (bs.set n true) o = some (b', o2) ∧ o' = o2 ++ [n] := by
      unfold wkF at h
      cases h1 : wkRow (wkF G k) (row G n) (bs.set n true) o with
      | none => rw [h1] at h; cases h
      | some q => rw [h1] at h; cases h; exact ⟨_, rfl, rfl⟩
    obtain ⟨rv, c0w, hrv⟩ := hgr.row n (by omega)
    obtain ⟨L, hL⟩ : ∃ L, L = (row G n).length := ⟨_, rfl⟩
    obtain ⟨ra, rc, rfl⟩ : ∃ a c, rv = .slice a L c := by
      rcases hrv with ⟨e, e2⟩ | ⟨g, c, e, _⟩
      · exact ⟨_, _, by rw [e, hL, e2]; rfl⟩
      · exact ⟨_, _, by rw [e, hL]⟩
    obtain ⟨s1, m1, k1, rfl⟩ : ∃ a m c, ov = .slice a m c := by
      rcases own_slice ho with ⟨h, _⟩ | ⟨g, cap, h⟩
      · exact ⟨_, _, _, h⟩
      · exact ⟨_, _, _, h⟩
    obtain ⟨bv, hbv⟩ : ∃ q, q = bs.getD n false := ⟨_, rfl⟩
    have y0 := hb.get n (.bool bv) (by rw [hbv]; exact arrB_getD bs n false (by omega))
    have y1 := hb.free n
    obtain ⟨W1, hW1⟩ : ∃ W, W = w.setCell ⟨bb, n, none⟩ (.bool true) := ⟨_, rfl⟩
    have hB1 : Below base w W1 := by rw [hW1]; exact (Below.refl base w).setCell (p := ⟨bb, n, none⟩) hbb _
    have hb1 : Blk bb (arrB (bs.set n true)) 4 W1 := by rw [hW1, ← arrB_set]; exact hb.set n _
    have ho1 : Nums W1 base (.slice s1 m1 k1) o := by rw [hW1]; exact own_set ho hne
    have c0 : W1.cell? ⟨bg, n, none⟩ = some (.slice ra L rc) := cell_belowB hB1 hgr.lt c0w
    have d1 : (0 : Int) ≤ (n : Int) := by omega
    have d2 : (n : Int) < (N : Int) := by omega
    have HST := Lib.hid (show WkR base bb N G k n (some (b', o2)) w (.slice s1 m1 k1) (I 0) W1 from ⟨0, _, _, Nat.zero_le _, rfl, hr, hb1, by simp [hbl], ho1, hne, hB1⟩)
    have HH := Lib.hid (And.intro hgr (And.intro hrv (And.intro hL (And.intro ho2 (And.intro hol hn)))))
    have HW := Lib.hid hW1
    clear ih h hr ho2 hbl hol hgr hb ho hne hrv hL c0w hbv hB1 hb1 ho1 hi hz0 hz1 hz2 hn hW1
    go_enter Try.func31, Try.ntmps31
    go_upto_region 2 with (fail)
    change Code.wp _ _ _ _ (w.setCell ⟨bb, n, none⟩ (.bool true))
    rw [← HW.out]
    clear y0 y1
    go_wp2_with fail
    go_loopw [3, 19] (fun ov iv W => WkR base bb N G k n (some (b', o2)) w ov iv W) (fun _ iv _ => L - (intOf iv).toNat)
    case atStart => exact HST.out
    case round =>
      obtain ⟨i, bs, o, hi, rfl, hr, hb, hbl, ho, hne, hbe⟩ := hrel
      have HQ := Lib.hid (And.intro hr (And.intro hb (And.intro hbl (And.intro ho (And.intro hne (And.intro hbe hi))))))
      obtain ⟨s2, m2, k2, hu3⟩ : ∃ a m c, u3 = .slice a m c := by
        rcases own_slice ho with ⟨h, _⟩ | ⟨g, cap, h⟩
        · exact ⟨_, _, _, h⟩
        · exact ⟨_, _, _, h⟩
      by_cases hil : i < L
      · have hir : i < (row G n).length := by rw [← HH.out.2.2.1]; exact hil
        obtain ⟨g, hra, hgl, hcs⟩ : ∃ g, ra = some ⟨g, 0, none⟩ ∧ g < base ∧ ∀ q (h : q < (row G n).length), w.cell? ⟨g, q, none⟩ = some (I ((row G n)[q] : Int)) := by
          rcases HH.out.2.1 with ⟨e, e2⟩ | ⟨g, c, e, h1, h2⟩
          · rw [e2] at hir; exact absurd hir (by simp)
          · cases e; exact ⟨g, rfl, h1, h2⟩
        subst hra
        obtain ⟨y, hy⟩ : ∃ y, y = (row G n)[i] := ⟨_, rfl⟩
        have c1 : wr.cell? ⟨g, i, none⟩ = some (I (y : Int)) := by rw [hy]; exact cell_belowB hbe hgl (hcs i hir)
        have hyN : y < N := by rw [hy, ← hGl]; exact hG n _ (List.getElem_mem hir)
        obtain ⟨bv, hbv⟩ : ∃ q, q = bs.getD y false := ⟨_, rfl⟩
        have y0 := hb.get y (.bool bv) (by rw [hbv]; exact arrB_getD bs y false (by omega))
        have hdr : (row G n).drop i = y :: (row G n).drop (i + 1) := by rw [hy]; exact List.drop_eq_getElem_cons hir
        have hcons := hr
        rw [hdr, wkRow_cons, ← hbv] at hcons
        have d0 : decide (i < L) = true := by simpa using hil
        have d3 : (0 : Int) ≤ (i : Int) := by omega
        have d4 : (i : Int) < (L : Int) := by omega
        have d5 : (0 : Int) ≤ (y : Int) := by omega
        have d6 : (y : Int) < (N : Int) := by omega
        have d7 : (i : Int) ≤ 1000 := by have := hrow n; omega
        have HX := Lib.hid (And.intro hir (And.intro hyN hcons))
        rw [hu3] at HQ
        subst hu3
        clear hgl hcs hy hbv hdr hcons hr hb hbl ho hne hbe hi hil hir hyN c0 HST HW
        cases bv
        · have hc2 := HX.out.2.2
          rw [if_neg (by simp)] at hc2
          cases hf : wkF G k y bs o with
          | none => rw [hf] at hc2; cases hc2
          | some r =>
            rw [hf] at hc2
            have hc3 : wkRow (wkF G k) ((row G n).drop (i + 1)) r.1 r.2 = some (b', o2) := hc2
            have hlen : r.2.length ≤ 100000 := by
              have h1 := wkRow_len (wkF_len G k) _ _ _ _ hc3
              have h2 := HH.out.2.2.2.2.1
              rw [HH.out.2.2.2.1] at h2
              simp at h1 h2
              omega
            have HC := Lib.hid (IH.out y bs o r.1 r.2 (.slice s2 m2 k2) wr hf HX.out.2.1 HQ.out.2.2.1 hlen (HH.out.1.below HQ.out.2.2.2.2.2.1) HQ.out.2.1 HQ.out.2.2.2.1 HQ.out.2.2.2.2.1)
            have H3 := Lib.hid hc3
            clear hc2 hc3 hf hlen
            go_wp2_with fail
            refine HC.out.mono ?_
            rintro e w2 ⟨u, rfl, z1, z2, z3, z4, z5⟩
            have HN := Lib.hid (show WkR base bb N G k n (some (b', o2)) w u (I ((i : Int) + 1)) w2 from ⟨i + 1, r.1, r.2, HX.out.1, rfl, H3.out, z1, z2, z3, z4, belowBB HQ.out.2.2.2.2.2.1 z5⟩)
            clear z1 z2 z3 z4 z5
            go_wp2_with fail
            exact ⟨HN.out, by have h1 := HX.out.1; have h2 := HH.out.2.2.1; simp [intOf]; omega⟩
        · have HN := Lib.hid (show WkR base bb N G k n (some (b', o2)) w (.slice s2 m2 k2) (I ((i : Int) + 1)) wr from ⟨i + 1, bs, o, HX.out.1, rfl, by
            have hc2 := HX.out.2.2
            rw [if_pos rfl] at hc2
            exact hc2, HQ.out.2.1, HQ.out.2.2.1, HQ.out.2.2.2.1, HQ.out.2.2.2.2.1, HQ.out.2.2.2.2.2.1⟩)
          go_wp2_with fail
          exact ⟨HN.out, by have h1 := HX.out.1; have h2 := HH.out.2.2.1; simp [intOf]; omega⟩
      · have d0 : decide (i < L) = false := by simpa using hil
        have hend : (b', o2) = (bs, o) := by
          rw [List.drop_eq_nil_of_le (by rw [← HH.out.2.2.1]; omega)] at hr
          exact (Option.some.inj hr).symm
        have e1 : b' = bs := congrArg Prod.fst hend
        have e2 : o2 = o := congrArg Prod.snd hend
        have hol : o.length + 1 ≤ 100000 := by
          have h2 := HH.out.2.2.2.2.1
          rw [HH.out.2.2.2.1, e2] at h2
          simpa using h2
        have HE := Lib.hid (And.intro e1 (And.intro e2 hol))
        rw [hu3] at HQ
        subst hu3
        clear hr hb hbl ho hne hbe hi hil hend e1 e2 hol c0 HST HW
        go_wp2_with (first | (at_builtin; refine Hid.out ?_) | go_in)
        unfold Hid
        refine wpList_append_own_at _ rfl _ _ 25 rfl base 3 i0 (I 0) 1 8 Try.underlying25 HI.out.1 HI.out.2.1 HI.out.2.2.1 HI.out.2.2.2 rfl (by decide) (.slice s2 m2 k2) o.length (ints o) rfl (HQ.out.2.2.2.1.alloc _) ⟨wr.heap.size, 0, none⟩ 1 1 [I (n : Int)] rfl rfl (cell_one_new _ _ _) (by simp [Value.oneCell']) (by have := HE.out.2.2; unfold maxLen; omega) (by have := HE.out.2.2; omega) (by have h1 := HQ.out.2.2.2.2.2.1.size; have h2 := HH.out.1.le; simp; omega) ?_
        intro v' w4 hn4 hg _ hat
        have FIN := Lib.hid (show WkT base bb N b' o' w w4 (.returned v') from by
          refine ⟨v', rfl, ?_, by rw [HE.out.1]; exact HQ.out.2.2.1, ?_, ?_, ?_⟩
          · rw [HE.out.1]
            exact (HQ.out.2.1.alloc _).other hg HQ.out.2.2.2.2.1
          · rw [HH.out.2.2.2.1, HE.out.2.1]
            show World.ownsRow _ _ _ _ _ _ _
            rw [List.length_append]
            simpa using hn4
          · rcases hat with e | e
            · rw [e]; exact HQ.out.2.2.2.2.1
            · rw [e]
              have := HQ.out.2.1.lt
              simp
              omega
          · have h1 := HQ.out.2.2.2.2.2.1
            have h2 := HH.out.1.le
            have h3 := h1.size
            exact (h1.alloc (by omega) _).grown hg (by simp; omega) (fun k hk => (HQ.out.2.2.2.1.lt k hk).1))
        clear hn4 hg hat
        go_wp2_with fail
        go_ret
        exact FIN.out
end Go.Proofs.Ytomfmkddfgpmkaa
