/-
  Borders of any graph of few nodes: the walks; and of none.
-/
import Derived.Test.YtomfmkddfgpmkaaFBdW
import Derived.Test.YtomfmkddfgpmkaaFBdR
import Derived.Test.YtomfmkddfgpmkaaFAbW
import Derived.Test.YtomfmkddfgpmkaaFNils
namespace Go.Proofs.Ytomfmkddfgpmkaa
open Go Go.RowKit Fl

theorem intoW_gz' {base bl n : Nat} {T : Nat → List Nat} {W : World} (h : IntoW base bl n T W) : GZ W (.slice (some ⟨bl, 0, none⟩) n n) ((List.range n).map fun a => castL (T a)) := by
  obtain ⟨_, vs, h1, h2, h3, _, _⟩ := h
  refine ⟨some ⟨bl, 0, none⟩, n, by simp, fun i hi => ?_⟩
  have hi1 : i < n := by simpa using hi
  have hi' : i < vs.length := by omega
  refine ⟨bl, vs[i], rfl, h2.lt, h2.get i _ (by simp [hi']), ?_⟩
  have e : ((List.range n).map fun a => castL (T a))[i] = castL (T i) := by simp
  rw [e]
  exact nums_rowZ (h3 i hi')
/-- What borders are answered as. -/
def BordersF (w : World) (Z : List (List Int)) (W : World) (e : Ending) : Prop :=
  ∃ v, e = .returned (.tuple #[v, I (errF Z)]) ∧ GZ W v (if errF Z = 0 then brdZ (natG Z) (natG Z).length else []) ∧ Below w.heap.size w W

set_option maxRecDepth 100000 in
set_option maxHeartbeats 800000 in
theorem Borders_any (bg cap : Nat) (Z : List (List Int)) (ht : TameZ Z) (hz0 : Z ≠ []) (w : World) (h : GrZ w bg Z) :
    Calls Try.prog 19 #[.slice (some ⟨bg, 0, none⟩) Z.length cap] w fun e w' => BordersF w Z w' e := by
  have HFA := Lib.hid (fault_any bg cap Z (by have := ht.1; omega) (fun i hi => by have := ht.2 i hi; omega) w h)
  obtain ⟨er, her⟩ : ∃ er, er = errF Z := ⟨_, rfl⟩
  obtain ⟨n, hn⟩ : ∃ n, n = Z.length := ⟨_, rfl⟩
  rw [← her] at HFA
  rw [← hn] at HFA ⊢
  have HE := Lib.hid (And.intro her hn)
  by_cases he : er = 0
  · have hz : errF Z = 0 := by rw [← her]; exact he
    have HI := Lib.hid (wlk_any bg cap (natG Z) (natG_ne hz0) (by rw [natG_len]; exact ht.1) (natG_ok hz) ht.row w (gr_nat h hz))
    have HIn : Hid (∀ w1, Below w.heap.size w w1 → Calls Try.prog 30 #[.slice (some ⟨bg, 0, none⟩) (natG Z).length cap] w1 fun e w' => IntoT w1 (natG Z) w' e) :=
      fun w1 hb => into_any bg cap (natG Z) (by rw [natG_len]; have := ht.1; omega) (natG_ok hz) (fun i => by have := ht.row i; omega) w1 (gr_nat (h.below hb) hz)
    rw [natG_len, ← hn] at HI HIn
    obtain ⟨_, ⟨P, hP⟩, hok, hc⟩ := wlk_inv (natG_ok hz) (natG_ne hz0)
    have HZ := Lib.hid (And.intro hz (And.intro hP (And.intro hok (And.intro hc (And.intro (show (natG Z).length ≠ 0 by have := natG_ne hz0; omega) (And.intro (show (natG Z).length ≤ 24 by rw [natG_len]; exact ht.1) (natG_ok hz)))))))
    clear ht h her hn hz hz0 hP hc hok
    subst he
    go_enter Try.func19, Try.ntmps19
    go_wp2_with fail
    refine HFA.out.mono ?_
    rintro e w' ⟨rfl, rfl⟩
    go_wp2_with fail
    refine HI.out.mono ?_
    rintro e w1 ⟨bw, bf, br, bn, v0, v1, rfl, hS, hb⟩
    obtain ⟨g, cp, hv0⟩ := ent_slice hS HZ.out.2.1
    subst hv0
    have HI2 := Lib.hid (HIn.out w1 hb)
    have H1 := Lib.hid (And.intro hS hb)
    clear hS hb
    go_wp2_with fail
    refine HI2.out.mono ?_
    rintro e w2 ⟨bl, rfl, hi, hb⟩
    have HR := Lib.hid (abvR_at H1.out.1 hb hi)
    have HA := Lib.hid (above_any bw g (wlk (natG Z)).ent.length cp bf br (natG Z).length bl (natG Z) (wlk (natG Z)) P (by have := HZ.out.2.2.2.2.2.1; omega) HZ.out.2.1 HZ.out.2.2.1 HZ.out.2.2.2.1 w2 HR.out)
    have H2 := Lib.hid hb
    clear hi hb
    go_wp2_with fail
    refine HA.out.mono ?_
    rintro e w3 ⟨b, rfl, hk, hl, hlo, hb⟩
    have HB := Lib.hid (borders_any bw g (wlk (natG Z)).ent.length cp bf br (natG Z).length bl b (natG Z) HZ.out.2.2.2.2.2.2 HZ.out.2.2.2.2.1 HZ.out.2.2.2.2.2.1 w3 (HR.out.below hb) (by unfold abvL; rw [if_neg HZ.out.2.2.2.2.1]; exact hk))
    have H3 := Lib.hid (below_of H1.out.2 (below_of H2.out hb))
    clear hk hl hlo hb HA
    go_wp2_with fail
    refine HB.out.mono ?_
    rintro e w4 ⟨bl4, rfl, hi4, hb4⟩
    have FIN := Lib.hid (show BordersF w Z w4 (.returned (.tuple #[.slice (some ⟨bl4, 0, none⟩) (natG Z).length (natG Z).length, I 0])) from
      ⟨_, by rw [HZ.out.1], by rw [if_pos HZ.out.1]; exact intoW_gz' hi4, below_of H3.out hb4⟩)
    clear hi4 hb4
    go_wp2_with fail
    go_ret2
    exact FIN.out
  · have g0 : (er != 0) = true := by simp; exact he
    have HZ := Lib.hid (show errF Z ≠ 0 by rw [← her]; exact he)
    have FIN := Lib.hid (show BordersF w Z w (.returned (.tuple #[.slice none 0 0, I er])) from ⟨_, by rw [her], by rw [if_neg HZ.out]; exact gz_nil _ _ _, Below.refl _ _⟩)
    clear ht h her hn he
    go_enter Try.func19, Try.ntmps19
    go_wp2_with fail
    refine HFA.out.mono ?_
    rintro e w' ⟨rfl, rfl⟩
    go_wp2_with fail
    go_ret2
    exact FIN.out

set_option maxRecDepth 100000 in
set_option maxHeartbeats 1600000 in
theorem borders_nil (bw ba b0 N : Nat) (hn : N = 0) (w : World) :
    Calls Try.prog 33 #[.pointer (some ⟨bw, 0, none⟩), .slice (some ⟨ba, 0, none⟩) N N, .slice (some ⟨b0, 0, none⟩) N N] w fun e w' => ∃ bl, e = .returned (.slice (some ⟨bl, 0, none⟩) N N) ∧ Below w.heap.size w w' := by
  have hmk := mkSn N (by omega)
  have d0 : decide (0 < N) = false := by simp; omega
  clear hn
  go_enter Try.func33, Try.ntmps33
  obtain ⟨W, hW⟩ : ∃ W, W = (w.alloc (.cells (Array.replicate N (.slice none 0 0)) 25)).alloc (.cells #[.slice (some ⟨w.heap.size, 0, none⟩) N N] 22) := ⟨_, rfl⟩
  obtain ⟨bl, hbl⟩ : ∃ b, b = w.heap.size := ⟨_, rfl⟩
  obtain ⟨bb, hbb⟩ : ∃ b, b = w.heap.size + 1 := ⟨_, rfl⟩
  have x7 : W.cell? ⟨bb, 0, none⟩ = some (.slice (some ⟨bl, 0, none⟩) N N) := by rw [hW, hbl, hbb]; exact (bdG_start w N).kb.get 0 _ rfl
  have HST := Lib.hid (show Below w.heap.size w W by rw [hW]; exact (bdG_start w N).be)
  have HW := Lib.hid (And.intro hW (And.intro hbl hbb))
  clear hW hbl hbb
  go_upto_region 2 with (fail)
  rw [← HW.out.2.2, ← HW.out.2.1]
  change Code.wp _ _ _ _ ((w.alloc (.cells (Array.replicate N (.slice none 0 0)) 25)).alloc (.cells #[.slice (some ⟨bl, 0, none⟩) N N] 22))
  rw [HW.out.2.1, ← HW.out.1, ← HW.out.2.1]
  go_wp2_with fail
  go_loopw [17] (fun iv wr => iv = I 0 ∧ wr = W) (fun _ _ => 0)
  case atStart => exact ⟨rfl, rfl⟩
  case round =>
    obtain ⟨rfl, rfl⟩ := hrel
    go_wp2_with fail
    go_ret
    exact ⟨bl, rfl, HST.out⟩

set_option maxRecDepth 100000 in
set_option maxHeartbeats 800000 in
theorem Borders_nil (a : Option Addr) (c : Nat) (w : World) :
    Calls Try.prog 19 #[.slice a 0 c] w fun e w' => ∃ b, e = .returned (.tuple #[.slice (some ⟨b, 0, none⟩) 0 0, I 0]) ∧ Below w.heap.size w w' := by
  have HFA := Lib.hid (fault_gz (.slice a 0 c) [] (by simp) (by simp) w (gz_nil w a c))
  go_enter Try.func19, Try.ntmps19
  go_wp2_with fail
  refine HFA.out.mono ?_
  rintro e w' ⟨rfl, rfl⟩
  rw [show Fl.errF [] = 0 from rfl]
  go_wp2_with fail
  refine (newWalk_nil a c w).mono ?_
  rintro e w1 ⟨p, rfl, bw, bf, br, rfl, hW, hb⟩
  have HI := Lib.hid (into_nil a c w1)
  have H1 := Lib.hid (And.intro hW hb)
  clear hW hb
  go_wp2_with fail
  refine HI.out.mono ?_
  rintro e w2 ⟨bl, rfl, kl, _, hb2⟩
  have HA := Lib.hid (above_nil bw bl 0 rfl w2 (cell_below hb2 H1.out.1.blk.lt (H1.out.1.blk.get 0 _ rfl)) (Nat.lt_of_lt_of_le H1.out.1.blk.lt hb2.size))
  have H2 := Lib.hid (belowB H1.out.2 hb2)
  clear kl hb2
  go_wp2_with fail
  refine HA.out.mono ?_
  rintro e w3 ⟨b, rfl, _, _, hb3⟩
  have HB := Lib.hid (borders_nil bw b bl 0 rfl w3)
  have H3 := Lib.hid (belowB H2.out hb3)
  clear hb3 HA
  go_wp2_with fail
  refine HB.out.mono ?_
  rintro e w4 ⟨b4, rfl, hb4⟩
  have FIN := Lib.hid (belowB H3.out hb4)
  clear hb4
  go_wp2_with fail
  go_ret2
  exact ⟨_, rfl, FIN.out⟩

theorem Borders_own (v : Value) (Z : List (List Int)) (base : Nat) (ht : TameZ Z) (w : World) (h : OwnG base Z v w) :
    Calls Try.prog 19 #[v] w fun e w' => BordersF w Z w' e := by
  by_cases hz : Z = []
  · subst hz
    obtain ⟨a, c, rfl⟩ := h.size
    refine (Borders_nil a c w).mono ?_
    rintro e w' ⟨b, rfl, hb⟩
    exact ⟨_, rfl, gz_nil _ _ _, hb⟩
  · obtain ⟨bg, c, rfl, hg⟩ := h.gz.grZ hz
    exact Borders_any bg c Z ht hz w hg
end Go.Proofs.Ytomfmkddfgpmkaa
