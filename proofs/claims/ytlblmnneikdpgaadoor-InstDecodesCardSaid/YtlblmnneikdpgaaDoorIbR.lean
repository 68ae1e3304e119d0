/-
  The reader of instructions: so many bytes; one; a number.
-/
import Derived.Test.YtlblmnneikdpgaaDoorIbA
import Derived.Test.YtlblmnneikdpgaaDoorIbK
namespace Go.Proofs.YtlblmnneikdpgaaDoor
open Go Go.RowKit Ib

theorem add0 (b : Addr) : b.add 0 = b := by
  obtain ⟨x, y, z⟩ := b
  unfold Addr.add
  split <;> simp_all
section
variable {S : Nat → Prop} {W : World} {a : Option Addr} {m c : Nat} {l : List Nat}
theorem ByteZ.take (h : SlS S 1 ByteV W (.slice a m c) l) (n : Nat) (hn : n ≤ l.length) : SlS S 1 ByteV W (.slice a n c) (l.take n) := by
  have hc := h.cap
  have hm := ByteZ.len h
  refine ⟨a, c, by rw [List.length_take, Nat.min_eq_left hn], by rw [List.length_take]; omega, fun i hi => ?_⟩
  rw [List.length_take] at hi
  obtain ⟨b, vs, e, h1, h2, h3⟩ := h.at i (by omega)
  exact ⟨b, vs, e, h1, h2, by rw [List.getElem_take]; exact h3⟩
theorem ByteZ.drop {b : Addr} (h : SlS S 1 ByteV W (.slice (some b) m c) l) (n : Nat) (hn : n ≤ l.length) : SlS S 1 ByteV W (.slice (some (b.add n)) (m - n) (c - n)) (l.drop n) := by
  have hc := h.cap
  have hm := ByteZ.len h
  refine ⟨_, _, by rw [List.length_drop, hm], by rw [List.length_drop]; omega, fun i hi => ?_⟩
  have hi' : i < l.length - n := by rw [← List.length_drop]; exact hi
  obtain ⟨b', vs, e, h1, h2, h3⟩ := h.at (n + i) (by have := Nat.add_lt_of_lt_sub hi'; omega)
  cases e
  refine ⟨_, vs, rfl, by rw [addB_blk]; exact h1, ?_, by rw [List.getElem_drop]; exact h3⟩
  intro k u hk
  have h4 := h2 k u hk
  have e : ((b.add n).add (i * 1)).add k = (b.add ((n + i) * 1)).add k := by rw [add_add b n (i * 1), show n + i * 1 = (n + i) * 1 by omega]
  rw [e]
  exact h4
theorem ByteZ.none (h : SlS S 1 ByteV W (.slice none m c) l) : l = [] := by
  cases l with
  | nil => rfl
  | cons y l' => obtain ⟨b, vs, e, _⟩ := h.at 0 (by simp); cases e
end
/-- A reader in block br, before which lies q, in blocks of S. -/
def RdV (S : Nat → Prop) (br : Nat) (q : List Nat) (W : World) : Prop := ∃ v, Blk br #[v] 88 W ∧ SlS S 1 ByteV W v q ∧ ¬ S br
theorem RdV.lt {S : Nat → Prop} {br : Nat} {q : List Nat} {W : World} (h : RdV S br q W) : br < W.heap.size := by
  obtain ⟨v, h1, _⟩ := h
  exact h1.lt
theorem RdV.keep {S : Nat → Prop} {br : Nat} {q : List Nat} {W W' : World} (h : RdV S br q W) (hk : ∀ k, S k ∨ k = br → W'.heap[k]? = W.heap[k]?) : RdV S br q W' := by
  obtain ⟨v, h1, h2, h3⟩ := h
  exact ⟨v, (hk br (Or.inr rfl)).trans h1, h2.keep byteV_stays (fun k hs => hk k (Or.inl hs)) (fun _ hs => hs), h3⟩
/-- What takes n bytes. -/
def TkT (S : Nat → Prop) (aW : Addr) (br n : Nat) (q : List Nat) (W W' : World) (e : Ending) : Prop := W.grownBy W' (some br) ∧
  ((n ≤ q.length ∧ ∃ v1, e = .returned (.tuple #[v1, .nilIface]) ∧ SlS S 1 ByteV W' v1 (q.take n) ∧ RdV S br (q.drop n) W') ∨ (q.length < n ∧ e = .returned (.tuple #[.slice none 0 0, eV aW]) ∧ RdV S br q W'))
theorem grown_setb (W : World) (br : Nat) (v : Value) : W.grownBy (W.setCell ⟨br, 0, none⟩ v) (some br) :=
  ⟨rfl, rfl, rfl, by simp [World.setCell], fun k _ hne => Below.heap_setCell _ _ _ _ (fun e => hne (by rw [e]))⟩
theorem take_done {S : Nat → Prop} {aW : Addr} {br n : Nat} {q : List Nat} {W : World} {v v1 v2 : Value} (hn : n ≤ q.length) (hb : Blk br #[v] 88 W) (h3 : ¬ S br) (h1 : SlS S 1 ByteV W v1 (q.take n)) (h2 : SlS S 1 ByteV W v2 (q.drop n)) :
    TkT S aW br n q W (W.setCell ⟨br, 0, none⟩ v2) (.returned (.tuple #[v1, .nilIface])) := by
  have hk : ∀ k, S k → (W.setCell ⟨br, 0, none⟩ v2).heap[k]? = W.heap[k]? := fun k hs => Below.heap_setCell _ _ _ _ (fun e => h3 (by have e' : k = br := e; rw [← e']; exact hs))
  exact ⟨grown_setb _ _ _, Or.inl ⟨hn, v1, rfl, h1.keep byteV_stays hk (fun _ hs => hs), v2, hb.set 0 v2, h2.keep byteV_stays hk (fun _ hs => hs), h3⟩⟩

set_option maxRecDepth 100000 in
set_option maxHeartbeats 1600000 in
theorem take_any (S : Nat → Prop) (aM aW : Addr) (br n : Nat) (q : List Nat) (hn : n ≤ 255) (w : World) (h : RdV S br q w) (hs : Sen aM aW w) :
    Calls Tryd.prog 88 #[.pointer (some ⟨br, 0, none⟩), I (n : Int)] w fun e w' => TkT S aW br n q w w' e := by
  obtain ⟨v, hb, hsl, hS⟩ := h
  obtain ⟨a, c, rfl⟩ := hsl.size
  have hcap := hsl.cap
  obtain ⟨m, hm⟩ : ∃ m, m = q.length := ⟨_, rfl⟩
  rw [← hm] at hb hsl hcap
  have c0 := hb.get 0 (.slice a m c) rfl
  have f0 := hb.free 0
  by_cases hnm : n ≤ m
  · have g0 : decide (m < n) = false := by simpa using hnm
    have h1 := ByteZ.take hsl n (by omega)
    have d0 : (0 : Int) ≤ (n : Int) := by omega
    have d1 : (n : Int) ≤ (m : Int) := by omega
    have d2 : (n : Int) ≤ (c : Int) := by omega
    have d3 : (m : Int) ≤ (c : Int) := by omega
    cases a with
    | none =>
      have hq := ByteZ.none hsl
      subst hq
      have hm0 : m = 0 := hm
      have hn0 : n = 0 := by omega
      subst hm0 hn0
      have FIN := Lib.hid (fun c2 => take_done (aW := aW) (Nat.zero_le _) hb hS h1 (SlS.nil (S := S) (V := ByteV) (k := 1) (W := w) none c2))
      clear hsl hcap hb h1 hm hnm hs
      go_enter Tryd.func88, Tryd.ntmps88
      go_wp2_with fail
      go_ret2
      exact FIN.out _
    | some b =>
      by_cases hcn : c = n
      · have hmn : m = n := by omega
        subst hcn hmn
        have hd : q.drop m = [] := by rw [hm]; exact List.drop_length
        have FIN := Lib.hid (fun (a2 : Option Addr) (c2 : Nat) => take_done (aW := aW) (by omega) hb hS h1 (by rw [hd]; exact SlS.nil (S := S) (V := ByteV) (k := 1) (W := w) a2 c2))
        clear hsl hcap hb h1 hm hnm hs hd
        go_enter Tryd.func88, Tryd.ntmps88
        go_wp2_with fail
        go_ret2
        exact FIN.out _ _
      · have g1 : ¬ c = n := hcn
        have FIN := Lib.hid (take_done (aW := aW) (by omega) hb hS h1 (ByteZ.drop hsl n (by omega)))
        clear hsl hcap hb h1 hm hnm hs hcn
        go_enter Tryd.func88, Tryd.ntmps88
        go_wp2_with fail
        go_ret2
        exact FIN.out
  · have g0 : decide (m < n) = true := by simp; omega
    have c1 := hs.cW
    have FIN := Lib.hid (show ∀ nq, TkT S aW br n q w (w.drewN nq) (.returned (.tuple #[.slice none 0 0, eV aW])) from fun nq => ⟨⟨rfl, rfl, rfl, Nat.le_refl _, fun _ _ _ => rfl⟩, Or.inr ⟨by omega, rfl, _, hb.drewN nq, (hsl.keep byteV_stays (fun _ _ => rfl) (fun _ h => h)), hS⟩⟩)
    clear hsl hcap hb hm hnm hs
    go_enter Tryd.func88, Tryd.ntmps88
    go_wp2_with fail
    go_quiet (fail)
    go_wp2_with fail
    go_ret2
    exact FIN.out _

/-- Where a byte is put. -/
def OneR (S : Nat → Prop) (aW : Addr) (br : Nat) (a : Addr) (q : List Nat) (W W' : World) (e : Ending) : Prop :=
  (∃ x q' W2, q = x :: q' ∧ e = .returned .nilIface ∧ W.grownBy W2 (some br) ∧ RdV S br q' W2 ∧ W' = W2.setCell a (B8 x)) ∨ (q = [] ∧ e = .returned (eV aW) ∧ W.grownBy W' (some br) ∧ RdV S br q W')
theorem grown_cell {W W' : World} {row : Option Nat} (h : W.grownBy W' row) {a : Addr} {v : Value} (hc : W.cell? a = some v) (hne : some a.block ≠ row) : W'.cell? a = some v := h.cell hc hne
theorem grown_free {W W' : World} {row : Option Nat} (h : W.grownBy W' row) {a : Addr} (hl : a.block < W.heap.size) (hc : W.frozen? a = false) (hne : some a.block ≠ row) : W'.frozen? a = false := by
  unfold World.frozen? at hc ⊢
  rw [h.block a.block hl hne]
  exact hc
set_option maxRecDepth 100000 in
set_option maxHeartbeats 1600000 in
theorem one_r (S : Nat → Prop) (aM aW : Addr) (br : Nat) (a : Addr) (old : Value) (q : List Nat) (w : World) (h : RdV S br q w) (hs : Sen aM aW w) (ha : w.cell? a = some old) (hf : w.frozen? a = false) (hne : a.block ≠ br) :
    Calls Tryd.prog 62 #[.pointer (some ⟨br, 0, none⟩), .pointer (some a)] w fun e w' => OneR S aW br a q w w' e := by
  have HC := Lib.hid (take_any S aM aW br 1 q (by omega) w h hs)
  have HA := Lib.hid (And.intro ha (And.intro hf hne))
  clear h hs ha hf hne
  go_enter Tryd.func62, Tryd.ntmps62
  go_wp2_with fail
  refine HC.out.mono ?_
  rintro e w1 ⟨hg, hor⟩
  rcases hor with ⟨hl, v1, rfl, hsl, hrd⟩ | ⟨hl, rfl, hrd⟩
  · obtain ⟨x, q', rfl⟩ : ∃ x q', q = x :: q' := by
      cases q with
      | nil => simp at hl
      | cons x q' => exact ⟨x, q', rfl⟩
    have hsl' : SlS S 1 ByteV w1 v1 [x] := by simpa using hsl
    obtain ⟨va, vc, rfl⟩ := hsl'.size
    obtain ⟨b, rfl, _, hcb⟩ := ByteZ.cell hsl' 0 (by simp)
    have y0 : w1.cell? (b.add 0) = some (B8 x) := hcb
    have y1 : w1.cell? b = some (B8 x) := by rw [add0] at y0; exact y0
    have hne' : some a.block ≠ some br := fun e => HA.out.2.2 (by injection e)
    have x0 := grown_cell hg HA.out.1 hne'
    have x1 := grown_free hg (lt_of_cell HA.out.1) HA.out.2.1 hne'
    have hrd' : RdV S br q' w1 := by simpa using hrd
    have FIN := Lib.hid (show OneR S aW br a (x :: q') w (w1.setCell a (B8 x)) (.returned .nilIface) from Or.inl ⟨x, q', w1, rfl, rfl, hg, hrd', rfl⟩)
    clear hg hl hsl hrd hsl' hcb hne' hrd'
    go_wp2_with fail
    go_ret
    exact FIN.out
  · have hq : q = [] := List.length_eq_zero_iff.1 (by omega)
    have FIN := Lib.hid (show OneR S aW br a q w w1 (.returned (eV aW)) from Or.inr ⟨hq, rfl, hg, hrd⟩)
    clear hg hl hrd hq
    go_wp2_with fail
    go_ret
    exact FIN.out
end Go.Proofs.YtlblmnneikdpgaaDoor
