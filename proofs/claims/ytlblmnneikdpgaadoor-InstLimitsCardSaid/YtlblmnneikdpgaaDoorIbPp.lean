/-
  inst.Pack, walked: of up to 300000 instructions.
-/
import Derived.Test.YtlblmnneikdpgaaDoorIbEa
namespace Go.Proofs.YtlblmnneikdpgaaDoor
open Go Go.RowKit Ib

/-- What Pack answers. -/
def PackP (l : List Wd) (w W : World) (e : Ending) : Prop := Below w.heap.size w W ∧ ((262144 < l.length ∧ e = .returned (.tuple #[.slice none 0 0, I 2])) ∨
  (l.length ≤ 262144 ∧ (∀ x ∈ l, FormW x) ∧ ∃ v, e = .returned (.tuple #[v, I 0]) ∧ ByteZ W v (encs l)) ∨ (l.length ≤ 262144 ∧ ¬ (∀ x ∈ l, FormW x) ∧ e = .returned (.tuple #[.slice none 0 0, I 3])))

set_option maxRecDepth 100000 in
set_option maxHeartbeats 1600000 in
theorem pack_any (aM aW : Addr) (u : Value) (l : List Wd) (hl : l.length ≤ 300000) (hw : ∀ x ∈ l, WfW x) (w : World) (hz : WordZ w u l) (hs : Sen aM aW w) :
    Calls Tryd.prog 23 #[u] w fun e w' => PackP l w w' e := by
  obtain ⟨a, c, rfl⟩ := hz.size
  obtain ⟨n, hn⟩ : ∃ n, n = l.length := ⟨_, rfl⟩
  rw [← hn] at hz ⊢
  obtain ⟨W1, hW1⟩ : ∃ W, W = (w.alloc (.cells #[.slice a n c] 40)).alloc (.cells #[.slice none 0 0] 68) := ⟨_, rfl⟩
  obtain ⟨bl, hbl⟩ : ∃ b, b = w.heap.size := ⟨_, rfl⟩
  obtain ⟨bt, hbt⟩ : ∃ b, b = w.heap.size + 1 := ⟨_, rfl⟩
  have hB1 : Below w.heap.size w W1 := by rw [hW1]; exact ((Below.refl _ _).alloc (Nat.le_refl _) _).alloc (by simp) _
  have kl : Blk bl #[.slice a n c] 40 W1 := by rw [hW1, hbl]; exact (Blk.new _ _ _).alloc _
  have kt : Blk bt #[.slice none 0 0] 68 W1 := by rw [hW1, hbt]; exact Blk.new' _ _ _ (by simp)
  have HWK := Lib.hid (walk_w bt W1)
  have hmf : ∀ (fn : Fn) (first cap : Array Value) (w : World), (Instr.makeFunc fn first cap).run Tryd.prog w = .ok (.func fn first cap) w := fun _ _ _ _ => rfl
  have HE := Lib.hid (fun (w2 : World) (hb : Below W1.heap.size W1 w2) => each_w bt bl aM aW (.slice a n c) l hl hw w2
    ⟨kt.below hb kt.lt, ⟨rfl, Or.inl ⟨rfl, rfl⟩⟩, by simp [Value.ownBlock], Nat.le_refl _⟩ (hs.below (below_tr hB1 hb) (fun k hk => hs.lts k hk)) (fun k hk => by have := hs.lts k hk; omega) (kl.below hb kl.lt) (by omega)
    (hz.keep wordV_stays (fun k hk => (below_tr hB1 hb).block k hk) (fun k hk => by unfold LtW at hk; omega)))
  have H1 := Lib.hid (And.intro hB1 (And.intro hs (show w.heap.size ≤ bt by omega)))
  have HW1 := Lib.hid (And.intro hW1 (And.intro hbl hbt))
  clear hs hW1 hbl hbt hB1 kl kt hz hw hl hn
  go_enter Tryd.func23, Tryd.ntmps23
  go_upto_region 2 with (fail)
  rw [← HW1.out.2.2, ← HW1.out.2.1]
  change Code.wp _ _ _ _ ((w.alloc (.cells #[.slice a n c] 40)).alloc (.cells #[.slice none 0 0] 68))
  rw [← HW1.out.1]
  go_wp2_with fail
  refine HWK.out.mono ?_
  rintro e w2 ⟨rfl, hb2⟩
  have HC := Lib.hid (HE.out w2 hb2)
  have HB2 := Lib.hid (below_tr H1.out.1 hb2)
  clear hb2 HWK HE
  go_wp2_with fail
  refine HC.out.mono ?_
  rintro e w3 ⟨hb3, hor⟩
  have hB3 : Below w.heap.size w w3 := HB2.out.trans ⟨hb3.os, hb3.tape, hb3.output, hb3.size, fun k hk => hb3.block k (by have := H1.out.2.2; omega)⟩
  have hs3 := H1.out.2.1.below hB3 (fun k hk => H1.out.2.1.lts k hk)
  rcases hor with ⟨hbig, rfl⟩ | ⟨hsm, hf, rfl, v', hwt⟩ | ⟨hsm, hf, rfl⟩
  · have HN := Lib.hid (errno_many w3 hs3)
    have FIN := Lib.hid (show PackP l w w3 (.returned (.tuple #[.slice none 0 0, I 2])) from ⟨hB3, Or.inl ⟨hbig, rfl⟩⟩)
    clear hb3 hB3 hs3 hbig
    go_wp2_with fail
    refine HN.out.mono ?_
    rintro e w4 ⟨rfl, rfl⟩
    go_wp2_with fail
    go_ret2
    exact FIN.out
  · have c0 := hwt.blk.get 0 v' rfl
    have FIN := Lib.hid (show PackP l w w3 (.returned (.tuple #[v', I 0])) from ⟨hB3, Or.inr (Or.inl ⟨hsm, hf, v', rfl, own_bytes hwt.own⟩)⟩)
    clear hb3 hB3 hs3 hsm hf hwt
    go_wp2_with fail
    go_ret2
    exact FIN.out
  · have HN := Lib.hid (errno_wrong w3 hs3)
    have FIN := Lib.hid (show PackP l w w3 (.returned (.tuple #[.slice none 0 0, I 3])) from ⟨hB3, Or.inr (Or.inr ⟨hsm, hf, rfl⟩)⟩)
    clear hb3 hB3 hs3 hsm hf
    go_wp2_with fail
    refine HN.out.mono ?_
    rintro e w4 ⟨rfl, rfl⟩
    go_wp2_with fail
    go_ret2
    exact FIN.out
end Go.Proofs.YtlblmnneikdpgaaDoor
