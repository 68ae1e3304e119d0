/-
  Joined: FOver, FGlue.
-/
import Derived.Test.YtomfmkddfgpmkaaFForN
import Derived.Test.YtomfmkddfgpmkaaFOrd
import Derived.Test.YtomfmkddfgpmkaaFFault
import Derived.Deep.QuietTactic
import Derived.BigQuiet
/-! Who stands over whom, by places: the walk of Over. -/

namespace Go.Proofs.Ytomfmkddfgpmkaa
open Go Go.RowKit Fl

def overB (P : List Int) (S : List Nat) (a b : Nat) : Bool := decide (P.getD a 0 ≤ P.getD b 0 ∧ P.getD b 0 < P.getD a 0 + ((S.getD a 0 : Nat) : Int))
def OverT (w : World) (v : Bool) (e : Ending) (w' : World) : Prop := e = .returned (.bool v) ∧ Below w.heap.size w w'

set_option maxRecDepth 100000 in
set_option maxHeartbeats 2000000 in
theorem Over_any (p z N a b : Nat) (P : List Int) (S : List Nat) (ha : a < N) (hb : b < N) (hP : ∀ x, x < N → -1 ≤ P.getD x 0 ∧ P.getD x 0 ≤ 1000000000000) (hS : ∀ x, x < N → ((S.getD x 0 : Nat) : Int) ≤ 1000000000000) (w : World) (kp : Blk p (arrZ P) 3 w) (kz : Blk z (arrN S) 3 w) (hl : P.length = N ∧ S.length = N) :
    Calls Try.prog 44 #[forestN p z N, I (a : Int), I (b : Int)] w (OverT w (overB P S a b)) := by
  obtain ⟨W, hW⟩ : ∃ W, W = w.alloc (.cells #[.slice (some ⟨p, 0, none⟩) N N, .slice (some ⟨z, 0, none⟩) N N] 58) := ⟨_, rfl⟩
  obtain ⟨q, hq⟩ : ∃ q, q = w.heap.size := ⟨_, rfl⟩
  have kq : Blk q #[.slice (some ⟨p, 0, none⟩) N N, .slice (some ⟨z, 0, none⟩) N N] 58 W := by rw [hq, hW]; exact Blk.new _ _ _
  have hbel : Below w.heap.size w W := by rw [hW]; exact (Below.refl _ _).alloc (Nat.le_refl _) _
  have kp' := kp.below hbel kp.lt
  have kz' := kz.below hbel kz.lt
  obtain ⟨pa, hpa⟩ : ∃ x, x = P.getD a 0 := ⟨_, rfl⟩
  obtain ⟨pb, hpb⟩ : ∃ x, x = P.getD b 0 := ⟨_, rfl⟩
  obtain ⟨sa, hsa⟩ : ∃ x, x = S.getD a 0 := ⟨_, rfl⟩
  have y0 := kp'.get a (I pa) (by rw [hpa]; exact arrZ_getD _ _ _ (by rw [hl.1]; exact ha))
  have y1 := kp'.get b (I pb) (by rw [hpb]; exact arrZ_getD _ _ _ (by rw [hl.1]; exact hb))
  have y2 := kz'.get a (I (sa : Int)) (by rw [hsa]; exact arrN_getD _ _ _ (by rw [hl.2]; exact ha))
  have x0 := kq.get 0 (.slice (some ⟨p, 0, none⟩) N N) rfl
  have x1 := kq.get 1 (.slice (some ⟨z, 0, none⟩) N N) rfl
  have d0 : (0 : Int) ≤ (a : Int) := by omega
  have d1 : (a : Int) < (N : Int) := by omega
  have d2 : (0 : Int) ≤ (b : Int) := by omega
  have d3 : (b : Int) < (N : Int) := by omega
  have hA := hP a ha
  rw [← hpa] at hA
  have hSa := hS a ha
  rw [← hsa] at hSa
  obtain ⟨e1, e2⟩ := hA
  have e3 : IntKind.i64.wrap (pa + (sa : Int)) = pa + (sa : Int) := IntWalk.i64_in _ (by omega)
  have hO : overB P S a b = (decide (pa ≤ pb) && decide (pb < pa + (sa : Int))) := by
    unfold overB
    rw [← hpa, ← hpb, ← hsa]
    simp
  rw [hO]
  have HW := Lib.hid (And.intro hW (And.intro hq hbel))
  clear kp kz kp' kz' kq hbel hW hq hpa hpb hsa hO hP hS hSa ha hb hl
  by_cases h1 : pa ≤ pb
  · have g1 : decide (pa ≤ pb) = true := by simpa using h1
    by_cases h2 : pb < pa + (sa : Int)
    · have g2 : decide (pb < pa + (sa : Int)) = true := by simpa using h2
      rw [g1, g2]
      go_enter Try.func44, Try.ntmps44
      go_upto_region 1 with (fail)
      rw [← HW.out.2.1]
      change Code.wp _ _ _ _ (w.alloc (.cells #[.slice (some ⟨p, 0, none⟩) N N, .slice (some ⟨z, 0, none⟩) N N] 58))
      rw [← HW.out.1]
      go_quiet (fail)
      go_wp2_with fail
      go_ret
      exact ⟨rfl, HW.out.2.2.os, HW.out.2.2.tape, HW.out.2.2.output, HW.out.2.2.size, HW.out.2.2.block⟩
    · have g2 : decide (pb < pa + (sa : Int)) = false := by simpa using h2
      rw [g1, g2]
      go_enter Try.func44, Try.ntmps44
      go_upto_region 1 with (fail)
      rw [← HW.out.2.1]
      change Code.wp _ _ _ _ (w.alloc (.cells #[.slice (some ⟨p, 0, none⟩) N N, .slice (some ⟨z, 0, none⟩) N N] 58))
      rw [← HW.out.1]
      go_quiet (fail)
      go_wp2_with fail
      go_ret
      exact ⟨rfl, HW.out.2.2.os, HW.out.2.2.tape, HW.out.2.2.output, HW.out.2.2.size, HW.out.2.2.block⟩
  · have g1 : decide (pa ≤ pb) = false := by simpa using h1
    rw [g1]
    go_enter Try.func44, Try.ntmps44
    go_upto_region 1 with (fail)
    rw [← HW.out.2.1]
    change Code.wp _ _ _ _ (w.alloc (.cells #[.slice (some ⟨p, 0, none⟩) N N, .slice (some ⟨z, 0, none⟩) N N] 58))
    rw [← HW.out.1]
    go_quiet (fail)
    go_wp2_with fail
    go_ret
    exact ⟨rfl, HW.out.2.2.os, HW.out.2.2.tape, HW.out.2.2.output, HW.out.2.2.size, HW.out.2.2.block⟩
end Go.Proofs.Ytomfmkddfgpmkaa

/-! A walk and the ways into nodes, as above reads them. -/

namespace Go.Proofs.Ytomfmkddfgpmkaa
open Go Go.RowKit Fl

theorem abvR_of {base base' bw bf br bn bl g cap : Nat} {G : List (List Nat)} {s : Ws} {v1 : Value} {W : World} (h : WalkS base bw bf br bn G s (.slice (some ⟨g, 0, none⟩) s.ent.length cap) v1 W) (hi : IntoW base' bl G.length (fun t => Fl.rowSt G G.length 0 t) W) :
    AbvR W bw g s.ent.length cap bf br G.length bl G s :=
  ⟨h.wk.blk.get 0 _ rfl, h.wk.blk.get 2 _ rfl, h.wk.blk.get 3 _ rfl, fun i hi => nums_get h.en rfl i hi,
    fun a ha => h.wk.frm.get a _ (arrZ_getD _ _ _ (by rw [h.wk.fl]; exact ha)), fun a ha => h.wk.rch.get a _ (arrB_getD _ _ _ (by rw [h.wk.rl]; exact ha)),
    into_gr hi, h.wk.blk.lt, h.wk.frm.lt, h.wk.rch.lt, (h.en.lt g rfl).2, rfl, rfl⟩
end Go.Proofs.Ytomfmkddfgpmkaa
