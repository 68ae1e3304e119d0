/-
  The program's copy of lists: what is known, and spots.
-/
import Derived.Test.YtiimcckajjpbjaaCdP
namespace Go.Proofs.Ytiimcckajjpbjaa
open Go Go.RowKit Cd

/-- Values one behind the other are stored. -/
def setsW (w : World) (g o : Nat) : List Value → World
  | [] => w
  | v :: r => setsW (w.setCell ⟨g, o, none⟩ v) g (o + 1) r
def setsA (cur : Array Value) (o : Nat) : List Value → Array Value
  | [] => cur
  | v :: r => setsA (cur.setIfInBounds o v) (o + 1) r
theorem setsA_size : ∀ (vs : List Value) (cur : Array Value) (o : Nat), (setsA cur o vs).size = cur.size
  | [], _, _ => rfl
  | v :: r, cur, o => by unfold setsA; rw [setsA_size r]; simp
theorem setsA_lt : ∀ (vs : List Value) (cur : Array Value) (o x : Nat), x < o → (setsA cur o vs)[x]? = cur[x]?
  | [], _, _, _, _ => rfl
  | v :: r, cur, o, x, h => by unfold setsA; rw [setsA_lt r _ _ _ (by omega), Array.getElem?_setIfInBounds_ne (by omega)]
theorem setsA_at : ∀ (vs : List Value) (cur : Array Value) (o j : Nat), j < vs.length → o + vs.length ≤ cur.size → (setsA cur o vs)[o + j]? = vs[j]?
  | [], _, _, _, h, _ => absurd h (by simp)
  | v :: r, cur, o, 0, h, hs => by
    unfold setsA
    rw [setsA_lt r _ _ _ (by omega), Nat.add_zero, Array.getElem?_setIfInBounds_self_of_lt (by simp at hs; omega)]
    rfl
  | v :: r, cur, o, j + 1, h, hs => by
    unfold setsA
    rw [show o + (j + 1) = o + 1 + j by omega, setsA_at r _ _ _ (by simpa using h) (by simp at hs ⊢; omega)]
    rfl
theorem Blk.sets {g : Nat} {E : TypeId} : ∀ (vs : List Value) {cur : Array Value} {w : World} (o : Nat), Blk g cur E w → Blk g (setsA cur o vs) E (setsW w g o vs)
  | [], _, _, _, h => h
  | v :: r, _, _, o, h => Blk.sets r (o + 1) (h.set o v)
theorem setsW_other {g : Nat} : ∀ (vs : List Value) (w : World) (o m : Nat), m ≠ g → (setsW w g o vs).heap[m]? = w.heap[m]?
  | [], _, _, _, _ => rfl
  | v :: r, w, o, m, h => by unfold setsW; rw [setsW_other r _ _ _ h]; exact Below.heap_setCell _ _ _ _ h
theorem setsW_size {g : Nat} : ∀ (vs : List Value) (w : World) (o : Nat), (setsW w g o vs).heap.size = w.heap.size
  | [], _, _ => rfl
  | v :: r, w, o => by unfold setsW; rw [setsW_size r]; simp [World.setCell]
theorem setsW_below {g B : Nat} (hg : B ≤ g) {w0 : World} : ∀ (vs : List Value) (w : World) (o : Nat), Below B w0 w → Below B w0 (setsW w g o vs)
  | [], _, _, h => h
  | v :: r, w, o, h => setsW_below hg r _ _ (h.setCell (p := ⟨g, o, none⟩) hg v)
/-- One more thing is filled in. -/
theorem FillS.sets {base g : Nat} {E : TypeId} {k n : Nat} {α : Type} {V : (Nat → Prop) → World → List Value → α → Prop} {W W' : World} {l : List α} {i : Nat} (hV : StaysV V) {vs : List Value} (h : FillS base g E k n V W l i) (hn : i < n) (hi : i < l.length) (hB : Below W.heap.size W W') (hx : V (FreeS (fun m => base ≤ m ∧ m < W'.heap.size ∧ m ≠ g) W') W' vs l[i]) (hk : vs.length = k) : FillS base g E k n V (setsW W' g (i * k) vs) l (i + 1) := by
  obtain ⟨cur, cs, h1, h2, h3, h4, h5, h6, h7⟩ := h
  have hle : i * k + k ≤ n * k := by rw [← Nat.succ_mul]; exact Nat.mul_le_mul_right _ hn
  exact FillS.put hV (W := W) (W' := W') (vs := vs) hi h2 h3 h4 h5 h6 h7 hB hx hk (Blk.sets vs (i * k) (h1.below hB h1.lt)) (setsA_size _ _ _) (fun y hy => setsA_lt _ _ _ _ hy) (fun j hj => setsA_at _ _ _ _ (by omega) (by omega)) (fun m hm => setsW_other _ _ _ _ hm) (by rw [setsW_size]; exact Nat.le_refl _)
/-- The cells that are filled are there. -/
theorem FillS.cell {base g : Nat} {E : TypeId} {k n : Nat} {α : Type} {V : (Nat → Prop) → World → List Value → α → Prop} {W W' : World} {l : List α} {i : Nat} (h : FillS base g E k n V W l i) (hB : Below W.heap.size W W') (hn : i < n) (j : Nat) (hj : j < k) : ∃ v, W'.cell? ⟨g, i * k + j, none⟩ = some v ∧ W'.frozen? ⟨g, i * k + j, none⟩ = false := by
  obtain ⟨cur, cs, h1, h2, _⟩ := h
  have hle : i * k + k ≤ n * k := by rw [← Nat.succ_mul]; exact Nat.mul_le_mul_right _ hn
  have hk := h1.below hB h1.lt
  exact ⟨_, hk.get _ _ (Array.getElem?_eq_getElem (by omega)), hk.free _⟩

theorem mkDs (n : Nat) (hn : n ≤ 1000000) (u : World) : (Instr.makeSlice 48 (I (n : Int)) (I (n : Int))).run Try.prog u = .ok (.slice (some ⟨u.heap.size, 0, none⟩) n n) (u.alloc (.cells (madeCells #[I 0, I 0, U8 0, I 0, I 0, I 0] (n * 6)) 52)) := by
  obtain ⟨i0, hi, hz0, hz1, hz2⟩ := info_parts infoD
  have h := run_makeSlice (P := Try.prog) (w := u) 48 52 i0 _ Try.underlying48 hi hz0 .i64 .i64 (n : Int) (n : Int) (by omega) (Int.le_refl _) (by rw [hz1]; simp; omega) (by rw [hz2]; simp; omega) (by omega)
  rw [hz1, show (Value.agg #[I 0, I 0, U8 0, I 0, I 0, I 0]).cells = #[I 0, I 0, U8 0, I 0, I 0, I 0] from rfl] at h
  simpa using h
set_option maxRecDepth 100000 in
set_option maxHeartbeats 1600000 in
theorem copyD_one (d0 d1 d2 d3 d4 d5 : Int) (w : World) : Calls Try.prog 88 #[.agg #[I d0, I d1, U8 d2, I d3, I d4, I d5]] w fun e w' => e = .returned (.agg #[I d0, I d1, U8 d2, I d3, I d4, I d5]) ∧ Below w.heap.size w w' := by
  go_enter Try.func88, Try.ntmps88
  go_wp2_with fail
  refine bodyPost_ret (v := .agg #[I d0, I d1, U8 d2, I d3, I d4, I d5]) (by simp [results, Try.results88, go_sem]) rfl ⟨rfl, ?_⟩
  exact ((Below.refl _ _).alloc (Nat.le_refl _) _).alloc (by simp) _

set_option maxRecDepth 100000 in
set_option maxHeartbeats 3200000 in
theorem eachD_any (v : Value) (l : List DbgP) (hl : l.length ≤ 1000000) (w : World) (h : DbgsZ w v l) :
    Calls Try.prog 87 #[v, .func (.func 88) #[] #[]] w fun e w' => CopyT w 52 6 DbgV l w' e := by
  obtain ⟨a, c, rfl⟩ := h.size
  obtain ⟨n, hn⟩ : ∃ n, n = l.length := ⟨_, rfl⟩
  rw [← hn] at h ⊢
  have hnb : n ≤ 1000000 := by omega
  have hmk := mkDs n hnb
  have HH := Lib.hid (And.intro h (And.intro hn hnb))
  clear h hn hl
  cases a with
  | none =>
    have hl0 : l = [] := by
      cases l with
      | nil => rfl
      | cons y l' => obtain ⟨b, vs, e1, _⟩ := HH.out.1.at 0 (by simp); cases e1
    obtain rfl : n = 0 := by rw [HH.out.2.1, hl0]; rfl
    have FIN := Lib.hid (show CopyT w 52 6 DbgV l w (.returned (.slice none 0 0)) from ⟨_, rfl, by rw [hl0]; exact OwnS.start, Below.refl _ _⟩)
    clear hl0 hmk
    have hnil : ∀ (n c : Nat) (w : World), (binOp .eql 48 (.slice none n c) (.slice none 0 0)).run Try.prog w = .ok (.bool true) w := fun n c w => Lib.run_eql_slice_nil w _ _ none n c 0 0 Try.underlying48
    go_enter Try.func87, Try.ntmps87
    go_wp2_with fail
    go_ret
    exact FIN.out
  | some b =>
    have hnil : ∀ (n c : Nat) (w : World), (binOp .eql 48 (.slice (some b) n c) (.slice none 0 0)).run Try.prog w = .ok (.bool false) w := fun n c w => Lib.run_eql_slice_nil w _ _ (some b) n c 0 0 Try.underlying48
    go_enter Try.func87, Try.ntmps87
    obtain ⟨Z, hZ⟩ : ∃ Z, Z = madeCells #[I 0, I 0, U8 0, I 0, I 0, I 0] (n * 6) := ⟨_, rfl⟩
    rw [← hZ] at hmk
    obtain ⟨W1, hW1⟩ : ∃ W, W = w.alloc (.cells Z 52) := ⟨_, rfl⟩
    obtain ⟨g, hg⟩ : ∃ g, g = w.heap.size := ⟨_, rfl⟩
    have HST := Lib.hid (show EaR w g 52 6 n DbgV l (I 0) W1 from ⟨0, Nat.zero_le _, rfl, fill_start (cur := Z) (by rw [hg, hW1]; exact Blk.new _ _ _) (by rw [hZ]; simp [size_madeCells]) (by omega), by rw [hW1]; exact (Below.refl _ _).alloc (Nat.le_refl _) _⟩)
    have HW1 := Lib.hid (And.intro hW1 hg)
    clear hW1 hg hZ
    go_upto_region 4 with (fail)
    rw [← HW1.out.2]
    change Code.wp _ _ _ _ (w.alloc (.cells Z 52))
    rw [← HW1.out.1]
    go_wp2_with fail
    go_loopw [15] (fun iv W => EaR w g 52 6 n DbgV l iv W) (fun iv _ => n - (intOf iv).toNat)
    case atStart => exact HST.out
    case round =>
      obtain ⟨i, hi, rfl, hf, hb⟩ := hrel
      by_cases hin : i < n
      · have il : i < l.length := by have := HH.out.2.1; omega
        obtain ⟨g1, _, e1, gl, c0, e0⟩ := (HH.out.1.below dbgV_stays hb).at i il
        cases e1
        obtain rfl := e0
        obtain ⟨x, hx⟩ : ∃ x, x = l[i] := ⟨_, rfl⟩
        rw [← hx] at c0
        unfold encD at c0
        have x0 := c0.f0
        have x1 := c0.f1
        have x2 := c0.f2
        have x3 := c0.f3
        have x4 := c0.f4
        have x5 := c0.f5
        have HX : Hid (∀ w2, Below wr.heap.size wr w2 → EaR w g 52 6 n DbgV l (I ((i : Int) + 1)) (setsW w2 g (i * 6) (encD x))) := fun w2 hb2 => ⟨i + 1, hin, rfl, hf.sets dbgV_stays hin il hb2 (by rw [hx]; rfl) rfl, setsW_below (by obtain ⟨_, _, _, _, h3, _⟩ := hf; exact h3) _ _ _ (below_tr hb hb2)⟩
        have HC : Hid (∀ w2, Below wr.heap.size wr w2 → ∀ j, j < 6 → ∃ v, w2.cell? ⟨g, i * 6 + j, none⟩ = some v ∧ w2.frozen? ⟨g, i * 6 + j, none⟩ = false) := fun w2 hb2 j hj => hf.cell hb2 hin j hj
        have HB1 := Lib.hid ((Below.refl wr.heap.size wr).alloc (Nat.le_refl _) (.cells #[I x.dep, I x.var, U8 x.kind, I x.arg, I x.a, I x.b] 52))
        have HONE := Lib.hid (copyD_one x.dep x.var x.kind x.arg x.a x.b)
        have d0 : decide (i < n) = true := by simpa using hin
        have d1 : (0 : Int) ≤ (i : Int) := by omega
        have d2 : (i : Int) < (n : Int) := by omega
        have d3 : (n : Int) ≤ 1000000 := by omega
        have HI := Lib.hid hin
        clear c0 hx il hin hi hb hf gl HST hmk
        go_wp2_with fail
        refine (HONE.out _).mono ?_
        rintro e w2 ⟨rfl, hb2⟩
        have hb3 := below_tr HB1.out hb2
        have HN := Lib.hid (HX.out w2 hb3)
        obtain ⟨v0, y0, f0⟩ := HC.out w2 hb3 0 (by decide)
        obtain ⟨v1, y1, f1⟩ := HC.out w2 hb3 1 (by decide)
        obtain ⟨v2, y2, f2⟩ := HC.out w2 hb3 2 (by decide)
        obtain ⟨v3, y3, f3⟩ := HC.out w2 hb3 3 (by decide)
        obtain ⟨v4, y4, f4⟩ := HC.out w2 hb3 4 (by decide)
        obtain ⟨v5, y5, f5⟩ := HC.out w2 hb3 5 (by decide)
        rw [Nat.add_zero] at y0 f0
        clear hb2 hb3 HX HC HB1 HONE x0 x1 x2 x3 x4 x5
        go_wp2_with fail
        exact ⟨HN.out, by have := HI.out; simp [intOf]; omega⟩
      · have d0 : decide (i < n) = false := by simpa using hin
        obtain rfl : i = n := by omega
        have FIN := Lib.hid (show CopyT w 52 6 DbgV l wr (.returned (.slice (some ⟨g, 0, none⟩) i i)) from ⟨_, rfl, hf.done HH.out.2.1 (by have := HH.out.2.2; unfold maxLen; omega) dbgV_stays, hb⟩)
        clear hf hb hin hi HST hmk
        go_wp2_with fail
        go_ret
        exact FIN.out
end Go.Proofs.Ytiimcckajjpbjaa
