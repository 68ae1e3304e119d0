/-
  The program's copy of lists: rows that are filled one by one; numbers.
-/
import Derived.Test.YtiimcckajjpbjaaCdX
namespace Go.Proofs.Ytiimcckajjpbjaa
open Go Go.RowKit Cd

/-- A row of n things in a block of its own, the first i of them filled. -/
def FillS (base g : Nat) (E : TypeId) (k n : Nat) {α : Type} (V : (Nat → Prop) → World → List Value → α → Prop) (W : World) (l : List α) (i : Nat) : Prop :=
  ∃ (cur : Array Value) (cs : List (List Value)), Blk g cur E W ∧ cur.size = n * k ∧ base ≤ g ∧ cs.length = i ∧ (∀ c ∈ cs, c.length = k) ∧ (∀ x j, x < i → j < k → cur[x * k + j]? = (cs[x]?.getD [])[j]?) ∧ ∀ x (h : x < l.length) (h' : x < cs.length), V (FreeS (fun m => base ≤ m ∧ m < W.heap.size ∧ m ≠ g) W) W cs[x] l[x]
section
variable {base g : Nat} {E : TypeId} {k n : Nat} {α : Type} {V : (Nat → Prop) → World → List Value → α → Prop} {W W' W2 : World} {l : List α} {i : Nat}
theorem fill_start {cur : Array Value} (hb : Blk g cur E W) (hs : cur.size = n * k) (hg : base ≤ g) : FillS base g E k n V W l 0 :=
  ⟨cur, [], hb, hs, hg, rfl, by simp, fun x j hx => absurd hx (by omega), fun x _ h => absurd h (by simp)⟩
theorem FillS.put (hV : StaysV V) {cur cur' : Array Value} {cs : List (List Value)} {vs : List Value} (hi : i < l.length) (hs : cur.size = n * k) (hg : base ≤ g) (h1 : cs.length = i) (h2 : ∀ c ∈ cs, c.length = k) (h3 : ∀ x j, x < i → j < k → cur[x * k + j]? = (cs[x]?.getD [])[j]?)
    (h4 : ∀ x (h : x < l.length) (h' : x < cs.length), V (FreeS (fun m => base ≤ m ∧ m < W.heap.size ∧ m ≠ g) W) W cs[x] l[x]) (hB : Below W.heap.size W W') (hx : V (FreeS (fun m => base ≤ m ∧ m < W'.heap.size ∧ m ≠ g) W') W' vs l[i]) (hk : vs.length = k)
    (hW2 : Blk g cur' E W2) (hc : cur'.size = cur.size) (hc1 : ∀ x, x < i * k → cur'[x]? = cur[x]?) (hc2 : ∀ j, j < k → cur'[i * k + j]? = vs[j]?) (he : ∀ m, m ≠ g → W2.heap[m]? = W'.heap[m]?) (hz : W'.heap.size ≤ W2.heap.size) : FillS base g E k n V W2 l (i + 1) := by
  refine ⟨cur', cs ++ [vs], hW2, by rw [hc, hs], hg, by simp [h1], fun c hc => ?_, fun x j hxi hj => ?_, fun x h h' => ?_⟩
  · rcases List.mem_append.1 hc with h | h
    · exact h2 c h
    · rw [List.mem_singleton.1 h]; exact hk
  · rcases Nat.lt_or_ge x i with h | h
    · have h5 : x * k + k ≤ i * k := by rw [← Nat.succ_mul]; exact Nat.mul_le_mul_right _ h
      rw [hc1 _ (by omega), h3 x j h hj, List.getElem?_append_left (by omega)]
    · obtain rfl : x = i := by omega
      rw [hc2 j hj, List.getElem?_append_right (by omega), h1, Nat.sub_self]
      rfl
  · rcases Nat.lt_or_ge x i with h5 | h5
    · rw [List.getElem_append_left (by omega)]
      exact stayF hV (h4 x h (by omega)) (fun m hm => (he m hm.2.2).trans (hB.block m hm.2.1)) (fun m hm => ⟨hm.1, Nat.lt_of_lt_of_le hm.2.1 (Nat.le_trans hB.size hz), hm.2.2⟩)
    · have h6 : x = i := by simp [h1] at h'; omega
      subst h6
      rw [List.getElem_append_right (by omega)]
      simp only [h1, Nat.sub_self, List.getElem_cons_zero]
      exact stayF hV hx (fun m hm => he m hm.2.2) (fun m hm => ⟨hm.1, Nat.lt_of_lt_of_le hm.2.1 hz, hm.2.2⟩)
theorem FillS.done (hn : n = l.length) (hm : n ≤ maxLen) (hV : StaysV V) (h : FillS base g E k n V W l n) : OwnS base E k V W (.slice (some ⟨g, 0, none⟩) n n) l := by
  obtain ⟨cur, cs, h1, h2, h3, h4, h5, h6, h7⟩ := h
  have hfl : cs.flatten = cur.toList := by
    apply List.ext_getElem?
    intro y
    by_cases hk : k = 0
    · subst hk
      have e1 : cs.flatten = [] := List.flatten_eq_nil_iff.2 fun c hc => List.length_eq_zero_iff.1 (h5 c hc)
      have e2 : cur.toList = [] := List.length_eq_zero_iff.1 (by rw [Array.length_toList, h2, Nat.mul_zero])
      rw [e1, e2]
    · have e : y = y / k * k + y % k := by have := Nat.div_add_mod y k; rw [Nat.mul_comm] at this; exact this.symm
      have hmk := Nat.mod_lt y (Nat.pos_of_ne_zero hk)
      rw [e, flat_at cs h5 _ _ hmk, Array.getElem?_toList (xs := cur)]
      by_cases hy : y / k < n
      · rw [h6 _ _ hy hmk]
      · have h8 : n * k ≤ y / k * k := Nat.mul_le_mul_right _ (by omega)
        rw [Array.getElem?_eq_none (xs := cur) (by omega), List.getElem?_eq_none (show cs.length ≤ y / k by omega)]
        simp
  refine ⟨cs, by omega, h5, ?_, fun x hx hx' => stayF hV (h7 x hx hx') (fun _ _ => rfl) (fun m hm => ⟨hm.1, hm.2.1, fun e => hm.2.2 (by simpa [Value.ownBlock] using e)⟩)⟩
  rw [hfl, ← hn]
  exact h1.owns h3 hm h2
end

theorem copyI_one (x : Int) (w : World) : Calls Try.prog 86 #[I x] w fun e w' => e = .returned (I x) ∧ w' = w := by
  go_enter Try.func86, Try.ntmps86
  go_wp2_with fail
  go_ret
  exact ⟨rfl, rfl⟩

/-- A copy of a list: nil of nil. -/
def CopyT (w : World) (E : TypeId) (k : Nat) {α : Type} (V : (Nat → Prop) → World → List Value → α → Prop) (l : List α) (W : World) (e : Ending) : Prop := ∃ u, e = .returned u ∧ OwnS w.heap.size E k V W u l ∧ Below w.heap.size w W
def EaR (w : World) (g : Nat) (E : TypeId) (k n : Nat) {α : Type} (V : (Nat → Prop) → World → List Value → α → Prop) (l : List α) (iv : Value) (W : World) : Prop := ∃ i : Nat, i ≤ n ∧ iv = I (i : Int) ∧ FillS w.heap.size g E k n V W l i ∧ Below w.heap.size w W

theorem madeOne (x : Value) (n : Nat) : madeCells #[x] n = Array.replicate n x := by
  apply Array.ext
  · simp [size_madeCells]
  · intro i h1 h2
    simp [madeCells, Nat.mod_one]
theorem mkIs (n : Nat) (hn : n ≤ 4000000) (u : World) : (Instr.makeSlice 47 (I (n : Int)) (I (n : Int))).run Try.prog u = .ok (.slice (some ⟨u.heap.size, 0, none⟩) n n) (u.alloc (.cells (Array.replicate n (I 0)) 3)) := by
  obtain ⟨i0, hi, hz0, hz1, hz2⟩ := info_parts infoI
  have h := run_makeSlice (P := Try.prog) (w := u) 47 3 i0 _ Try.underlying47 hi hz0 .i64 .i64 (n : Int) (n : Int) (by omega) (Int.le_refl _) (by rw [hz1]; simp; omega) (by rw [hz2]; simp; omega) (by omega)
  rw [hz1, show (I 0).cells = #[I 0] from rfl, madeOne] at h
  simpa using h

set_option maxRecDepth 100000 in
set_option maxHeartbeats 1600000 in
theorem eachI_any (v : Value) (l : List Int) (hl : l.length ≤ 4000000) (w : World) (h : IntsZ w v l) :
    Calls Try.prog 85 #[v, .func (.func 86) #[] #[]] w fun e w' => CopyT w 3 1 IntV l w' e := by
  obtain ⟨a, c, rfl⟩ := h.size
  obtain ⟨n, hn⟩ : ∃ n, n = l.length := ⟨_, rfl⟩
  rw [← hn] at h ⊢
  have hnb : n ≤ 4000000 := by omega
  have hmk := mkIs n hnb
  have HH := Lib.hid (And.intro h (And.intro hn hnb))
  clear h hn hl
  cases a with
  | none =>
    have hl0 : l = [] := by
      cases l with
      | nil => rfl
      | cons y l' => obtain ⟨b, vs, e1, _⟩ := HH.out.1.at 0 (by simp); cases e1
    obtain rfl : n = 0 := by rw [HH.out.2.1, hl0]; rfl
    have FIN := Lib.hid (show CopyT w 3 1 IntV l w (.returned (.slice none 0 0)) from ⟨_, rfl, by rw [hl0]; exact OwnS.start, Below.refl _ _⟩)
    clear hl0 hmk
    have hnil : ∀ (n c : Nat) (w : World), (binOp .eql 47 (.slice none n c) (.slice none 0 0)).run Try.prog w = .ok (.bool true) w := fun n c w => Lib.run_eql_slice_nil w _ _ none n c 0 0 Try.underlying47
    go_enter Try.func85, Try.ntmps85
    go_wp2_with fail
    go_ret
    exact FIN.out
  | some b =>
    have hnil : ∀ (n c : Nat) (w : World), (binOp .eql 47 (.slice (some b) n c) (.slice none 0 0)).run Try.prog w = .ok (.bool false) w := fun n c w => Lib.run_eql_slice_nil w _ _ (some b) n c 0 0 Try.underlying47
    go_enter Try.func85, Try.ntmps85
    obtain ⟨W1, hW1⟩ : ∃ W, W = w.alloc (.cells (Array.replicate n (I 0)) 3) := ⟨_, rfl⟩
    obtain ⟨g, hg⟩ : ∃ g, g = w.heap.size := ⟨_, rfl⟩
    have HST := Lib.hid (show EaR w g 3 1 n IntV l (I 0) W1 from ⟨0, Nat.zero_le _, rfl, fill_start (cur := Array.replicate n (I 0)) (by rw [hg, hW1]; exact Blk.new _ _ _) (by simp) (by omega), by rw [hW1]; exact (Below.refl _ _).alloc (Nat.le_refl _) _⟩)
    have HW1 := Lib.hid (And.intro hW1 hg)
    clear hW1 hg
    go_upto_region 4 with (fail)
    rw [← HW1.out.2]
    change Code.wp _ _ _ _ (w.alloc (.cells (Array.replicate n (I 0)) 3))
    rw [← HW1.out.1]
    go_wp2_with fail
    go_loopw [15] (fun iv W => EaR w g 3 1 n IntV l iv W) (fun iv _ => n - (intOf iv).toNat)
    case atStart => exact HST.out
    case round =>
      obtain ⟨i, hi, rfl, hf, hb⟩ := hrel
      by_cases hin : i < n
      · have il : i < l.length := by have := HH.out.2.1; omega
        obtain ⟨g1, _, e1, _, c0, e0⟩ := (HH.out.1.below intV_stays hb).at i il
        cases e1
        obtain rfl := e0
        obtain ⟨x, hx⟩ : ∃ x, x = l[i] := ⟨_, rfl⟩
        rw [← hx] at c0
        have x0 := c0.f0
        rw [Nat.mul_one] at x0
        obtain ⟨cur, cs, h1, h2, h3, h4, h5, h6, h7⟩ := hf
        have y0 := h1.get i (cur.getD i .nilIface) (by rw [Array.getD_eq_getD_getElem?, Array.getElem?_eq_getElem (by omega)]; rfl)
        have f0 := h1.free i
        have HN := Lib.hid (show EaR w g 3 1 n IntV l (I ((i : Int) + 1)) (wr.setCell ⟨g, i, none⟩ (I x)) from ⟨i + 1, hin, rfl, FillS.put intV_stays (W := wr) (W' := wr) (vs := [I x]) il h2 h3 h4 h5 h6 h7 (Below.refl _ _) (by rw [hx]; rfl) rfl (h1.set i (I x)) (by simp) (fun y hy => by rw [Array.getElem?_setIfInBounds_ne (by omega)]) (fun j hj => by
          obtain rfl : j = 0 := by omega
          rw [Nat.mul_one, Nat.add_zero, Array.getElem?_setIfInBounds_self_of_lt (by omega)]
          rfl) (fun m hm => Below.heap_setCell _ _ _ _ hm) (by simp [World.setCell]), hb.setCell (p := ⟨g, i, none⟩) h3 _⟩)
        have d0 : decide (i < n) = true := by simpa using hin
        have d1 : (0 : Int) ≤ (i : Int) := by omega
        have d2 : (i : Int) < (n : Int) := by omega
        have d3 : (n : Int) ≤ 4000000 := by omega
        have HI := Lib.hid hin
        clear c0 hx il hin hi hb h1 h2 h3 h4 h5 h6 h7 HST hmk
        go_wp2_with fail
        refine (copyI_one x wr).mono ?_
        rintro e w' ⟨rfl, rfl⟩
        go_wp2_with fail
        exact ⟨HN.out, by have := HI.out; simp [intOf]; omega⟩
      · have d0 : decide (i < n) = false := by simpa using hin
        obtain rfl : i = n := by omega
        have FIN := Lib.hid (show CopyT w 3 1 IntV l wr (.returned (.slice (some ⟨g, 0, none⟩) i i)) from ⟨_, rfl, hf.done HH.out.2.1 (by have := HH.out.2.2; unfold maxLen; omega) intV_stays, hb⟩)
        clear hf hb hin hi HST hmk
        go_wp2_with fail
        go_ret
        exact FIN.out

set_option maxRecDepth 100000 in
theorem copyI_any (v : Value) (l : List Int) (hl : l.length ≤ 4000000) (w : World) (h : IntsZ w v l) :
    Calls Try.prog 74 #[v] w fun e w' => CopyT w 3 1 IntV l w' e := by
  have HC := Lib.hid (eachI_any v l hl w h)
  clear h hl
  go_enter Try.func74, Try.ntmps74
  go_wp2_with fail
  refine HC.out.mono ?_
  rintro e w' ⟨u, rfl, h1, h2⟩
  have FIN := Lib.hid (show CopyT w 3 1 IntV l w' (.returned u) from ⟨u, rfl, h1, h2⟩)
  clear h1 h2
  go_wp2_with fail
  go_ret
  exact FIN.out
end Go.Proofs.Ytiimcckajjpbjaa
