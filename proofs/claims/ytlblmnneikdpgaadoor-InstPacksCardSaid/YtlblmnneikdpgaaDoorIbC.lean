/-
  Encode: the bytes of an instruction that is right; of others none.
-/
import Derived.Test.YtlblmnneikdpgaaDoorIbZ
import Derived.Test.YtlblmnneikdpgaaDoorIbA
namespace Go.Proofs.YtlblmnneikdpgaaDoor
open Go Go.RowKit Ib

/-- What Encode answers. -/
def EncT (x : Wd) (w W : World) (e : Ending) : Prop := Below w.heap.size w W ∧ ((FormW x ∧ ∃ v, e = .returned (.tuple #[v, I 0]) ∧ W.ownsRow w.heap.size 5 1 v (encW x).length (bys (encW x))) ∨ (¬ FormW x ∧ e = .returned (.tuple #[.slice none 0 0, I 3])))
set_option maxRecDepth 100000 in
set_option maxHeartbeats 1600000 in
theorem encode_any (aM aW : Addr) (x : Wd) (hx : WfW x) (w : World) (hs : Sen aM aW w) : Calls Tryd.prog 12 #[wV x] w fun e w' => EncT x w w' e := by
  obtain ⟨xo, xa, xb, xc, xi⟩ := x
  obtain ⟨W1, hW1⟩ : ∃ W, W = (w.alloc (.cells #[B8 xo, B8 xa, B8 xb, B8 xc, I xi] 23)).alloc (.cells #[.slice none 0 0] 68) := ⟨_, rfl⟩
  obtain ⟨b1, hb1⟩ : ∃ b, b = w.heap.size := ⟨_, rfl⟩
  obtain ⟨bt, hbt⟩ : ∃ b, b = w.heap.size + 1 := ⟨_, rfl⟩
  have hB1 : Below w.heap.size w W1 := by rw [hW1]; exact ((Below.refl _ _).alloc (Nat.le_refl _) _).alloc (by simp) _
  have k1 : Blk b1 #[B8 xo, B8 xa, B8 xb, B8 xc, I xi] 23 W1 := by rw [hW1, hb1]; exact (Blk.new _ _ _).alloc _
  have kt : Blk bt #[.slice none 0 0] 68 W1 := by rw [hW1, hbt]; exact Blk.new' _ _ _ (by simp)
  have HWK := Lib.hid (walk_w bt W1)
  have HWD := Lib.hid (fun (w2 : World) (hb : Below W1.heap.size W1 w2) => word_w bt w.heap.size b1 0 aM aW (.slice none 0 0) [] ⟨xo, xa, xb, xc, xi⟩ hx (by simp) w2
    ⟨kt.below hb kt.lt, ⟨rfl, Or.inl ⟨rfl, rfl⟩⟩, by simp [Value.ownBlock], by omega⟩ (hs.below (below_tr hB1 hb) (fun k hk => hs.lts k hk)) (fun k hk => hs.lts k hk)
    (by have k2 := k1.below hb k1.lt; exact ⟨k2.get 0 _ rfl, k2.get 1 _ rfl, k2.get 2 _ rfl, k2.get 3 _ rfl, k2.get 4 _ rfl⟩) (by omega) (by simp [Value.ownBlock]))
  have H1 := Lib.hid (And.intro hB1 (And.intro hs kt))
  have HW1 := Lib.hid (And.intro hW1 (And.intro hb1 hbt))
  clear hx hs hW1 hb1 hbt hB1 k1 kt
  go_enter Tryd.func12, Tryd.ntmps12
  go_upto_region 2 with (fail)
  rw [← HW1.out.2.2, ← HW1.out.2.1]
  change Code.wp _ _ _ _ ((w.alloc (.cells #[B8 xo, B8 xa, B8 xb, B8 xc, I xi] 23)).alloc (.cells #[.slice none 0 0] 68))
  rw [← HW1.out.1]
  go_wp2_with fail
  refine HWK.out.mono ?_
  rintro e w2 ⟨rfl, hb2⟩
  have HC := Lib.hid (HWD.out w2 hb2)
  have H2 := Lib.hid (And.intro hb2 (And.intro (H1.out.2.2.below hb2 H1.out.2.2.lt) (H1.out.2.1.below (below_tr H1.out.1 hb2) (fun k hk => H1.out.2.1.lts k hk))))
  clear hb2 HWD HWK
  go_wp2_with fail
  refine HC.out.mono ?_
  rintro e w3 h3
  have hB3 : ∀ v', Fw bt (.slice none 0 0) v' w2 w3 → Below w.heap.size w w3 := fun v' hf => by
    have h1 := hf.below (base := w.heap.size) (l := []) ⟨H2.out.2.1, ⟨rfl, Or.inl ⟨rfl, rfl⟩⟩, by simp [Value.ownBlock], by have := HW1.out.2.2; omega⟩
    exact (below_tr H1.out.1 H2.out.1).trans h1
  rcases h3 with ⟨hf, rfl, v', hw, hfw⟩ | ⟨hf, rfl, v', l', hw, hfw⟩
  · have c0 := hw.blk.get 0 v' rfl
    have hbb := hB3 v' hfw
    have FIN := Lib.hid (show EncT ⟨xo, xa, xb, xc, xi⟩ w w3 (.returned (.tuple #[v', I 0])) from ⟨hbb, Or.inl ⟨hf, v', rfl, by simpa using hw.own⟩⟩)
    clear hf hw hfw hB3 hbb
    go_wp2_with fail
    go_ret2
    exact FIN.out
  · have hbb := hB3 v' hfw
    have HE := Lib.hid (errno_wrong w3 (H1.out.2.1.below hbb (fun k hk => H1.out.2.1.lts k hk)))
    have FIN := Lib.hid (show EncT ⟨xo, xa, xb, xc, xi⟩ w w3 (.returned (.tuple #[.slice none 0 0, I 3])) from ⟨hbb, Or.inr ⟨hf, rfl⟩⟩)
    clear hf hw hfw hB3 hbb
    go_wp2_with fail
    refine HE.out.mono ?_
    rintro e w4 ⟨rfl, rfl⟩
    go_wp2_with fail
    go_ret2
    exact FIN.out
end Go.Proofs.YtlblmnneikdpgaaDoor
