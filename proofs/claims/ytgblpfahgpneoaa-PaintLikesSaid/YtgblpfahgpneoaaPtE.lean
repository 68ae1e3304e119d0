/-
  Each once: slices.DeleteFunc with the closure that marks whom it met: walked.
-/
import Derived.Test.YtgblpfahgpneoaaPtD
import Derived.Test.YtgblpfahgpneoaaPtW
import Derived.Test.YtgblpfahgpneoaaPtR
import Derived.Lib.SliceRun
namespace Go.Proofs.Ytgblpfahgpneoaa
open Go Go.RowKit

/-- The closure's boxes: the list of marks, and the node. -/
structure Ndl (n bL b10 b11 node : Nat) (lf : Nat → Int) (W : World) : Prop where
  k0 : Blk b10 #[.slice (some ⟨bL, 0, none⟩) n n] 25 W
  kl : Blk bL (arrF n fun i => I (lf i)) 3 W
  k1 : Blk b11 #[I (node : Int)] 3 W
  ne : b10 ≠ bL ∧ b11 ≠ bL
section
variable {n bL b10 b11 node : Nat} {lf lf' : Nat → Int} {W W' : World} {S : Nat → Prop}
theorem Ndl.frs (h : Ndl n bL b10 b11 node lf W) (hf : FrS S W W') (h1 : ¬ S b10) (h2 : ¬ S bL) (h3 : ¬ S b11) : Ndl n bL b10 b11 node lf W' := ⟨h.k0.frs hf h1, h.kl.frs hf h2, h.k1.frs hf h3, h.ne⟩
theorem Ndl.drewN (h : Ndl n bL b10 b11 node lf W) (q : Nat) : Ndl n bL b10 b11 node lf (W.drewN q) := ⟨h.k0, h.kl, h.k1, h.ne⟩
theorem Ndl.set (h : Ndl n bL b10 b11 node lf W) (x : Nat) (v : Int) : Ndl n bL b10 b11 node (up lf x v) (W.setCell ⟨bL, x, none⟩ (I v)) := by
  refine ⟨h.k0.setOther h.ne.1 _ _, ?_, h.k1.setOther h.ne.2 _ _, h.ne⟩
  have h9 := h.kl.set x (I v)
  rw [arrF_set] at h9
  have e : (up (fun i => I (lf i)) x (I v)) = fun j => I (up lf x v j) := by
    funext j
    unfold up
    split <;> rfl
  rw [e] at h9
  exact h9
theorem Ndl.turn (h : Ndl n bL b10 b11 node lf W) (e : ∀ x, lf' x = lf x) : Ndl n bL b10 b11 node lf' W := by
  obtain rfl : lf' = lf := funext e
  exact h
end
def mk (lf : Nat → Int) (l : List Nat) (v : Int) (x : Nat) : Int := if x ∈ l then v else lf x
theorem mk_nil (lf : Nat → Int) (v : Int) (x : Nat) : mk lf [] v x = lf x := by unfold mk; rw [if_neg (by simp)]
theorem mk_app (lf : Nat → Int) (l : List Nat) (v : Int) (y x : Nat) : mk lf (l ++ [y]) v x = up (mk lf l v) y v x := by
  unfold mk up
  by_cases e : x = y
  · subst e; rw [if_pos (by simp), if_pos rfl]
  · rw [if_neg e]
    show _ = if x ∈ l then v else lf x
    by_cases h : x ∈ l
    · rw [if_pos (by simp [h]), if_pos h]
    · rw [if_neg (by simp [h, e]), if_neg h]

def Fv (b10 b11 : Nat) : Value := .func (.func 19) #[] #[.pointer (some ⟨b10, 0, none⟩), .pointer (some ⟨b11, 0, none⟩)]
def CloT (n bL b10 b11 node : Nat) (lf : Nat → Int) (x : Nat) (W W' : World) (e : Ending) : Prop := e = .returned (.bool (lf x == (node : Int) + 1)) ∧ Ndl n bL b10 b11 node (up lf x ((node : Int) + 1)) W' ∧ FrS (fun k => k = bL) W W'

set_option maxRecDepth 100000 in
set_option maxHeartbeats 1600000 in
theorem clo_any {n bL b10 b11 node : Nat} {lf : Nat → Int} (x : Nat) (hx : x < n) (hn : node ≤ 60000) (W : World) (h : Ndl n bL b10 b11 node lf W) :
    Calls Try.prog 19 #[I (x : Int), .pointer (some ⟨b10, 0, none⟩), .pointer (some ⟨b11, 0, none⟩)] W fun e w' => CloT n bL b10 b11 node lf x W w' e := by
  have d0 : (0 : Int) ≤ (x : Int) := by omega
  have d1 : (x : Int) < (n : Int) := by omega
  have d2 : (0 : Int) ≤ (node : Int) := by omega
  have d3 : (node : Int) ≤ 60000 := by omega
  have c0 := h.k0.get 0 _ rfl
  have c1 := h.k1.get 0 _ rfl
  have c2 := h.kl.get x _ (arrF_get _ hx)
  have f2 := h.kl.free x
  have HH := Lib.hid h
  clear h hx hn
  go_enter Try.func19, Try.ntmps19
  go_wp2_with fail
  go_quiet (fail)
  go_wp2_with fail
  go_ret
  exact ⟨rfl, (HH.out.drewN _).set x _, ((FrS.refl (fun k => k = bL) W).drewN _).set bL x _ rfl⟩

def IxR (n bL b10 b11 node : Nat) (lf : Nat → Int) (L : List Nat) (w : World) (iv : Value) (W : World) : Prop := ∃ i : Nat, i ≤ L.length ∧ iv = I (i : Int) ∧ (L.take i).Nodup ∧ Ndl n bL b10 b11 node (mk lf (L.take i) ((node : Int) + 1)) W ∧ FrS (fun k => k = bL) w W
def IxT (n bL b10 b11 node : Nat) (lf : Nat → Int) (L : List Nat) (w : World) (W : World) (e : Ending) : Prop := FrS (fun k => k = bL) w W ∧ ((e = .returned (I (-1)) ∧ L.Nodup ∧ Ndl n bL b10 b11 node (mk lf L ((node : Int) + 1)) W) ∨
  ∃ i : Nat, i < L.length ∧ e = .returned (I (i : Int)) ∧ (L.take i).Nodup ∧ L.getD i 0 ∈ L.take i ∧ Ndl n bL b10 b11 node (mk lf (L.take (i + 1)) ((node : Int) + 1)) W)

set_option maxRecDepth 100000 in
set_option maxHeartbeats 1600000 in
theorem index_any {n bL b10 b11 node g m c : Nat} {lf : Nat → Int} (L : List Nat) (hm : m = L.length) (hmb : m ≤ 4000) (hL : ∀ x ∈ L, x < n) (hn : node ≤ 60000) (hlf : ∀ x, lf x ≠ (node : Int) + 1) (w : World) (hg : g ≠ bL) (hc : ∀ j, j < m → w.cell? ⟨g, j, none⟩ = some (I ((L.getD j 0 : Nat) : Int))) (hgl : g < w.heap.size) (h : Ndl n bL b10 b11 node lf w) :
    Calls Try.prog 22 #[.slice (some ⟨g, 0, none⟩) m c, Fv b10 b11] w fun e w' => IxT n bL b10 b11 node lf L w w' e := by
  have hmi : (m : Int) ≤ 4000 := by omega
  have HH := Lib.hid (And.intro hm (And.intro hL (And.intro hn (And.intro hlf (And.intro hg (And.intro hc hgl))))))
  have HS := Lib.hid (show IxR n bL b10 b11 node lf L w (I 0) w from ⟨0, Nat.zero_le _, rfl, by simp, h.turn (fun x => by rw [List.take_zero]; exact mk_nil _ _ _), FrS.refl _ _⟩)
  clear hm hmb hL hn hlf hg hc hgl h
  unfold Fv
  go_enter Try.func22, Try.ntmps22
  go_wp2_with fail
  go_loopw [8] (fun iv W => IxR n bL b10 b11 node lf L w iv W) (fun iv _ => m - (intOf iv).toNat)
  case atStart => exact HS.out
  case round =>
    obtain ⟨i, hi, rfl, hnd, hN, hF⟩ := hrel
    by_cases hin : i < m
    · have hil : i < L.length := by rw [← HH.out.1]; exact hin
      obtain ⟨x, hx⟩ : ∃ x, x = L.getD i 0 := ⟨_, rfl⟩
      have hxm : x ∈ L := by rw [hx, getD_of _ _ _ hil]; exact List.getElem_mem hil
      have hxn : x < n := HH.out.2.1 x hxm
      have cx : wr.cell? ⟨g, i, none⟩ = some (I (x : Int)) := by
        have h1 := HH.out.2.2.2.2.2.1 i hin
        rw [← hx] at h1
        unfold World.cell? at h1 ⊢
        rw [hF.block g HH.out.2.2.2.2.2.2 HH.out.2.2.2.2.1]
        exact h1
      have HC := Lib.hid (clo_any x hxn HH.out.2.2.1 wr hN)
      have d0 : decide (i < m) = true := by simpa using hin
      have d1 : (0 : Int) ≤ (i : Int) := by omega
      have d2 : (i : Int) < (m : Int) := by omega
      have htk : L.take (i + 1) = L.take i ++ [x] := by rw [List.take_succ_eq_append_getElem hil, hx, getD_of _ _ _ hil]
      have hit : (mk lf (L.take i) ((node : Int) + 1) x == (node : Int) + 1) = decide (x ∈ L.take i) := by
        unfold mk
        by_cases e : x ∈ L.take i
        · rw [if_pos e]; simp [e]
        · rw [if_neg e]; simp [e, HH.out.2.2.2.1 x]
      have H1 := Lib.hid (And.intro hnd (And.intro hF (And.intro hx (And.intro htk (And.intro hil hin)))))
      have HT := Lib.hid hit
      clear hnd hF hx htk hil hin hi hN hxm hxn hit
      go_wp2_with fail
      refine HC.out.mono ?_
      rintro e w1 ⟨rfl, hN1, hF1⟩
      rw [HT.out]
      have hN2 : Ndl n bL b10 b11 node (mk lf (L.take (i + 1)) ((node : Int) + 1)) w1 := hN1.turn (fun y => by rw [H1.out.2.2.2.1]; exact mk_app _ _ _ _ _)
      by_cases hme : x ∈ L.take i
      · have FIN := Lib.hid (show IxT n bL b10 b11 node lf L w w1 (.returned (I (i : Int))) from ⟨H1.out.2.1.trans hF1, Or.inr ⟨i, H1.out.2.2.2.2.1, rfl, H1.out.1, by rw [← H1.out.2.2.1]; exact hme, hN2⟩⟩)
        rw [decide_eq_true hme]
        clear hN1 hF1 hN2 hme
        go_wp2_with fail
        go_ret
        exact FIN.out
      · have HN := Lib.hid (show IxR n bL b10 b11 node lf L w (I ((i : Int) + 1)) w1 from ⟨i + 1, H1.out.2.2.2.2.1, rfl, by rw [H1.out.2.2.2.1]; exact nodup_snoc H1.out.1 hme, hN2, H1.out.2.1.trans hF1⟩)
        rw [decide_eq_false hme]
        clear hN1 hF1 hN2 hme
        go_wp2_with fail
        exact ⟨HN.out, by have := H1.out.2.2.2.2.2; simp [intOf]; omega⟩
    · have d0 : decide (i < m) = false := by simpa using hin
      have hil : i = L.length := by have := HH.out.1; omega
      rw [hil, List.take_length] at hnd hN
      have FIN := Lib.hid (show IxT n bL b10 b11 node lf L w wr (.returned (I (-1))) from ⟨hF, Or.inl ⟨rfl, hnd, hN⟩⟩)
      clear hnd hF hN hin hi hil
      go_wp2_with fail
      go_ret
      exact FIN.out
end Go.Proofs.Ytgblpfahgpneoaa
