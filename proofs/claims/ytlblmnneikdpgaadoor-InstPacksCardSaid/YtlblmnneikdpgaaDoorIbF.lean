/-
  Decode: the instruction with whose bytes a list begins, and how many these are; or none.
-/
import Derived.Test.YtlblmnneikdpgaaDoorIbJ
namespace Go.Proofs.YtlblmnneikdpgaaDoor
open Go Go.RowKit Ib

/-- What Decode answers. -/
def DecT (q : List Nat) (w W : World) (e : Ending) : Prop := Below w.heap.size w W ∧ ((∃ x, PreW q x ∧ e = .returned (.tuple #[wV x, I ((encW x).length : Int), I 0])) ∨ ((∀ x, ¬ PreW q x) ∧ e = .returned (.tuple #[.agg zC, I 0, I 3])))
theorem below1 {B b j : Nat} {W W' : World} (h : B ≤ b) (hb : Below B W W') (v : Value) : Below B W (W'.setCell ⟨b, j, none⟩ v) :=
  ⟨hb.os, hb.tape, hb.output, by have := hb.size; simp [World.setCell]; exact this, fun k hk => (Below.heap_setCell _ _ _ _ (show k ≠ b by omega)).trans (hb.block k hk)⟩
theorem below5 {B b : Nat} {W : World} (h : B ≤ b) (v0 v1 v2 v3 v4 : Value) : Below B W (((((W.setCell ⟨b, 0, none⟩ v0).setCell ⟨b, 1, none⟩ v1).setCell ⟨b, 2, none⟩ v2).setCell ⟨b, 3, none⟩ v3).setCell ⟨b, 4, none⟩ v4) :=
  below1 h (below1 h (below1 h (below1 h (below1 h (Below.refl _ _) v0) v1) v2) v3) v4
theorem info23 : (Tryd.prog.info? 23).map (·.size) = some 5 := by kernel_rfl
set_option maxRecDepth 100000 in
set_option maxHeartbeats 3200000 in
theorem decode_any (aM aW : Addr) (a : Option Addr) (n c : Nat) (q : List Nat) (hq : Byt q) (hn : q.length ≤ 9223372036854775807) (w : World) (hp : ByteZ w (.slice a n c) q) (hs : Sen aM aW w) :
    Calls Tryd.prog 17 #[.slice a n c] w fun e w' => DecT q w w' e := by
  obtain ⟨W1, hW1⟩ : ∃ W, W = ((w.alloc (.cells zC 23)).alloc (.cells #[.slice a n c] 88)).alloc (.cells zC 23) := ⟨_, rfl⟩
  obtain ⟨b0, hb0⟩ : ∃ b, b = w.heap.size := ⟨_, rfl⟩
  obtain ⟨br, hbr⟩ : ∃ b, b = w.heap.size + 1 := ⟨_, rfl⟩
  obtain ⟨bx, hbx⟩ : ∃ b, b = w.heap.size + 1 + 1 := ⟨_, rfl⟩
  have hB1 : Below w.heap.size w W1 := by rw [hW1]; exact (((Below.refl _ _).alloc (Nat.le_refl _) _).alloc (by simp) _).alloc (by simp; omega) _
  have k0 : Blk b0 zC 23 W1 := by rw [hW1, hb0]; exact ((Blk.new _ _ _).alloc _).alloc _
  have kr : Blk br #[.slice a n c] 88 W1 := by rw [hW1, hbr]; exact (Blk.new' _ _ _ (by simp)).alloc _
  have kx : Blk bx zC 23 W1 := by rw [hW1, hbx]; exact Blk.new' _ _ _ (by simp)
  have hnl : n = q.length := ByteZ.len hp
  have HWK := Lib.hid (walk_q br W1)
  have hS : ∀ k, LtW w k → k < W1.heap.size := fun k hk => Nat.lt_of_lt_of_le hk hB1.size
  have hr1 : Rq (LtW w) br bx q zC W1 := ⟨⟨_, kr, hp.keep byteV_stays (fun k hk => hB1.block k hk) (fun _ h => h), by unfold LtW; omega⟩, kx⟩
  have HWD := Lib.hid (fun (w2 : World) (hb : Below W1.heap.size W1 w2) => word_q (LtW w) aM aW br bx q hq w2 (hr1.below hS hb) (fun k hk => Nat.lt_of_lt_of_le (hS k hk) hb.size) (hs.below (below_tr hB1 hb) (fun k hk => hs.lts k hk)) (fun k hk => by have := hs.lts k hk; omega) (fun k hk => by have := hs.lts k hk; omega) (by omega) (by unfold LtW; omega))
  have H1 := Lib.hid (And.intro hB1 (And.intro hs (And.intro k0 (And.intro hnl hn))))
  have HW1 := Lib.hid (And.intro hW1 (And.intro hb0 (And.intro hbr hbx)))
  have hne : b0 ≠ br ∧ b0 ≠ bx := by omega
  have HNE := Lib.hid hne
  clear hq hn hp hs hW1 hb0 hbr hbx hB1 k0 kr kx hnl hS hr1 hne
  go_enter Tryd.func17, Tryd.ntmps17
  go_upto_region 3 with (fail)
  rw [← HW1.out.2.2.2, ← HW1.out.2.2.1, ← HW1.out.2.1]
  change Code.wp _ _ _ _ (((w.alloc (.cells zC 23)).alloc (.cells #[.slice a n c] 88)).alloc (.cells zC 23))
  rw [← HW1.out.1]
  go_wp2_with fail
  refine HWK.out.mono ?_
  rintro e w2 ⟨rfl, hb2⟩
  have HC := Lib.hid (HWD.out w2 hb2)
  have H2 := Lib.hid hb2
  clear hb2 HWD HWK
  go_wp2_with fail
  refine HC.out.mono ?_
  rintro e w3 ⟨hf3, hor⟩
  have k3 : Blk b0 zC 23 w3 := hf3.blk (H1.out.2.2.1.below H2.out H1.out.2.2.1.lt) HNE.out.1 HNE.out.2
  have hB3 : Below w.heap.size w w3 := (below_tr H1.out.1 H2.out).trans ⟨hf3.os, hf3.tape, hf3.output, hf3.size, fun k hk => hf3.block k (by have := H1.out.1.size; have := H2.out.size; omega) (by have := HW1.out.2.2.1; omega) (by have := HW1.out.2.2.2; omega)⟩
  have u0 := k3.get 0 (B8 0) rfl
  have u1 := k3.get 1 (B8 0) rfl
  have u2 := k3.get 2 (B8 0) rfl
  have u3 := k3.get 3 (B8 0) rfl
  have u4 := k3.get 4 (I 0) rfl
  have v0 := k3.free 0
  have v1 := k3.free 1
  have v2 := k3.free 2
  have v3 := k3.free 3
  have v4 := k3.free 4
  have HB0 := Lib.hid HW1.out.2.1
  rcases hor with ⟨x, hpx, rfl, hr3⟩ | ⟨hno, rfl⟩
  · obtain ⟨xo, xa, xb, xc, xi⟩ := x
    have hpl : (encW ⟨xo, xa, xb, xc, xi⟩).length ≤ q.length := hpx.2.length_le
    obtain ⟨v, kr3, hsl, _⟩ := hr3.rd
    obtain ⟨va, vc, rfl⟩ := hsl.size
    have hdl : (q.drop (encW ⟨xo, xa, xb, xc, xi⟩).length).length = q.length - (encW ⟨xo, xa, xb, xc, xi⟩).length := List.length_drop
    obtain ⟨K, hK⟩ : ∃ K, K = (encW ⟨xo, xa, xb, xc, xi⟩).length := ⟨_, rfl⟩
    obtain ⟨m, hm⟩ : ∃ m, m = (q.drop (encW ⟨xo, xa, xb, xc, xi⟩).length).length := ⟨_, rfl⟩
    rw [← hm] at kr3
    have c0 := kr3.get 0 (.slice va m vc) rfl
    have kx3 : Blk bx (wC ⟨xo, xa, xb, xc, xi⟩) 23 w3 := hr3.tg
    have x0 := kx3.get 0 (B8 xo) rfl
    have x1 := kx3.get 1 (B8 xa) rfl
    have x2 := kx3.get 2 (B8 xb) rfl
    have x3 := kx3.get 3 (B8 xc) rfl
    have x4 := kx3.get 4 (I xi) rfl
    have hnm : (n : Int) - (m : Int) = (K : Int) := by have := H1.out.2.2.2.1; omega
    have hnb : (n : Int) ≤ 9223372036854775807 := by have := H1.out.2.2.2.1; have := H1.out.2.2.2.2; omega
    have hmb : (m : Int) ≤ (n : Int) := by omega
    have hm0 : (0 : Int) ≤ (m : Int) := by omega
    have HX := Lib.hid (And.intro hpx (And.intro hnm hK))
    have HB3 := Lib.hid (And.intro hB3 k3)
    clear hf3 k3 hB3 hpx hr3 hpl kr3 hsl hdl hK hm kx3 hnm
    have n1 : ¬ br = b0 := fun e => HNE.out.1 e.symm
    have n2 : ¬ bx = b0 := fun e => HNE.out.2 e.symm
    go_wp2_with fail
    go_region
    all_goals (
      have hk5 := ((((HB3.out.2.set 0 (B8 xo)).set 1 (B8 xa)).set 2 (B8 xb)).set 3 (B8 xc)).set 4 (I xi)
      have hb5 : Below w.heap.size w (((((w3.setCell ⟨b0, 0, none⟩ (B8 xo)).setCell ⟨b0, 1, none⟩ (B8 xa)).setCell ⟨b0, 2, none⟩ (B8 xb)).setCell ⟨b0, 3, none⟩ (B8 xc)).setCell ⟨b0, 4, none⟩ (I xi)) := by
        have hb := HB0.out
        exact HB3.out.1.trans (below5 (by omega) _ _ _ _ _)
      have FIN := Lib.hid (And.intro hk5 hb5)
      clear hk5 hb5
      go_wp2_with fail
      refine bodyPost_ret (results_row3 rfl _ _ b0 23 (wC ⟨xo, xa, xb, xc, xi⟩) (0, 0) _ rfl FIN.out.1 Tryd.underlying23 rfl info23) rfl ?_
      refine ⟨⟨FIN.out.2.os, FIN.out.2.tape, FIN.out.2.output, FIN.out.2.size, FIN.out.2.block⟩, Or.inl ⟨⟨xo, xa, xb, xc, xi⟩, HX.out.1, ?_⟩⟩
      rw [HX.out.2.1, HX.out.2.2]
      rfl)
  · have HE := Lib.hid (errno_wrong w3 (H1.out.2.1.below hB3 (fun k hk => H1.out.2.1.lts k hk)))
    have HB3 := Lib.hid (And.intro hB3 k3)
    have HNO := Lib.hid hno
    clear hf3 k3 hB3 hno
    go_wp2_with fail
    refine HE.out.mono ?_
    rintro e w4 ⟨rfl, rfl⟩
    go_wp2_with fail
    have hk5 : Blk b0 zC 23 _ := ((((HB3.out.2.set 0 (B8 0)).set 1 (B8 0)).set 2 (B8 0)).set 3 (B8 0)).set 4 (I 0)
    refine bodyPost_ret (results_row3 rfl _ _ b0 23 zC (0, 0) _ rfl hk5 Tryd.underlying23 rfl info23) rfl ?_
    exact ⟨HB3.out.1.trans (below5 (by have := HB0.out; omega) _ _ _ _ _), Or.inr ⟨HNO.out, rfl⟩⟩
end Go.Proofs.YtlblmnneikdpgaaDoor
