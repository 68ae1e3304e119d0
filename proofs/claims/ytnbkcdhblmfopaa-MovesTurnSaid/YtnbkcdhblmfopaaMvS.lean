/-
  The document's look for a source, and its check.
-/
import Derived.Test.YtnbkcdhblmfopaaMvM
namespace Go.Proofs.Ytnbkcdhblmfopaa
open Go Go.RowKit Mv

def SrcT (w : World) (l : List M) (p : Int) (W : World) (e : Ending) : Prop := ∃ v b, e = .returned (.tuple #[I v, .bool b]) ∧ (b = true ∧ src l p = some v ∨ b = false ∧ src l p = none) ∧ Below w.heap.size w W
def SrcR (w : World) (l : List M) (p : Int) (iv : Value) (W : World) : Prop := ∃ i : Nat, i ≤ l.length ∧ iv = I (i : Int) ∧ (∀ j, j < i → srcB l p j = false) ∧ Below w.heap.size w W

set_option maxRecDepth 100000 in
set_option maxHeartbeats 1600000 in
theorem source_any (v : Value) (l : List M) (hl : l.length ≤ 1000) (p : Int) (w : World) (h : MovZ w v l) :
    Calls Try.prog 20 #[v, I p] w fun e w' => SrcT w l p w' e := by
  obtain ⟨a, c, rfl⟩ := h.size
  obtain ⟨n, hn⟩ : ∃ n, n = l.length := ⟨_, rfl⟩
  rw [← hn] at h ⊢
  have hnb : (n : Int) ≤ 1000 := by omega
  have HH := Lib.hid (And.intro h (And.intro hn hl))
  clear h hn hl
  go_enter Try.func20, Try.ntmps20
  go_wp2_with fail
  go_loopw [10] (fun iv W => SrcR w l p iv W) (fun iv _ => n - (intOf iv).toNat)
  case atStart => exact ⟨0, Nat.zero_le _, rfl, fun j hj => absurd hj (by omega), Below.refl _ _⟩
  case round =>
    obtain ⟨i, hi, rfl, hno, hbe⟩ := hrel
    by_cases hin : i < n
    · have hil : i < l.length := by rw [← HH.out.2.1]; exact hin
      obtain ⟨b, _, rfl, hbl, c0, e0⟩ := (HH.out.1.below movV_stays hbe).at i hil
      obtain rfl := e0
      rw [getD_mv hil] at c0
      obtain ⟨xt, xf, hx⟩ : ∃ a b, mv l i = (a, b) := ⟨_, _, rfl⟩
      rw [hx] at c0
      have x0 : wr.cell? (b.add (i * 2)) = some (I xt) := c0.f0
      have x1 : wr.cell? ⟨(b.add (i * 2)).block, (b.add (i * 2)).off + 1, none⟩ = some (I xf) := c0.f1
      have hsb : srcB l p i = (decide (xt = p) && decide (xf ≠ p)) := by unfold srcB tO fR; rw [hx]
      have hfr : fR l i = xf := by unfold fR; rw [hx]
      have d0 : decide (i < n) = true := by simpa using hin
      have d1 : (0 : Int) ≤ (i : Int) := by omega
      have d2 : (i : Int) < (n : Int) := by omega
      have hB1 : Below w.heap.size w (wr.alloc (.cells #[I xt, I xf] 31)) := hbe.alloc hbe.size _
      have HN := Lib.hid (fun hb : srcB l p i = false => (show SrcR w l p (I ((i : Int) + 1)) (wr.alloc (.cells #[I xt, I xf] 31)) from ⟨i + 1, by omega, rfl, fun j hj => by
          by_cases e : j = i
          · rw [e]; exact hb
          · exact hno j (by omega), hB1⟩))
      have FIN := Lib.hid (fun hb : srcB l p i = true => (show SrcT w l p (wr.alloc (.cells #[I xt, I xf] 31)) (.returned (.tuple #[I xf, .bool true])) from ⟨_, _, rfl, Or.inl ⟨rfl, by rw [src_some hil hb hno, hfr]⟩, hB1⟩))
      have HT := Lib.hid (And.intro hin hsb)
      clear hno hbe hil hbl c0 hx hsb hB1 hin hi hfr
      by_cases h1 : xt = p
      · subst h1
        by_cases h2 : xf = xt
        · subst h2
          clear FIN
          go_wp2_with fail
          exact ⟨HN.out (by rw [HT.out.2]; simp), by have := HT.out.1; simp [intOf]; omega⟩
        · have g2 : (xf != xt) = true := by simpa using h2
          have g3 : (xf == xt) = false := by simpa using h2
          have HD := Lib.hid h2
          clear h2
          go_wp2_with fail
          go_ret2
          exact FIN.out (by rw [HT.out.2]; simp [HD.out])
      · have g1 : (xt == p) = false := by simpa using h1
        have HD := Lib.hid h1
        clear h1
        go_wp2_with fail
        exact ⟨HN.out (by rw [HT.out.2]; simp [HD.out]), by have := HT.out.1; simp [intOf]; omega⟩
    · have d0 : decide (i < n) = false := by simpa using hin
      have FIN := Lib.hid (show SrcT w l p wr (.returned (.tuple #[I 0, .bool false])) from ⟨_, _, rfl, Or.inr ⟨rfl, src_none fun j hj => hno j (by have := HH.out.2.1; omega)⟩, hbe⟩)
      clear hno hbe hin hi
      go_wp2_with fail
      go_ret2
      exact FIN.out

/-- What must be refused. -/
def BadS (l : List M) (spare : Int) (b : Bool) (i : Nat) : Prop := b = true ∧ (tO l i = spare ∨ fR l i = spare)
def Bad (l : List M) (spare : Int) (b : Bool) : Prop := (∃ i, i < l.length ∧ BadS l spare b i) ∨ ¬ Dis l
def ChkT (w : World) (l : List M) (spare : Int) (b : Bool) (W : World) (e : Ending) : Prop := ∃ c, e = .returned (I c) ∧ (c = 3 ∧ Bad l spare b ∨ c = 0 ∧ ¬ Bad l spare b) ∧ Below w.heap.size w W
def ChkR (w : World) (l : List M) (spare : Int) (b : Bool) (iv : Value) (W : World) : Prop := ∃ i : Nat, i ≤ l.length ∧ iv = I (i : Int) ∧ (∀ j, j < i → ¬ BadS l spare b j ∧ ∀ k, k < j → tO l k ≠ tO l j) ∧ Below w.heap.size w W
def ChkI (w : World) (bx : Nat) (x : M) (l : List M) (i : Nat) (iv : Value) (W : World) : Prop := ∃ k : Nat, k ≤ i ∧ iv = I (k : Int) ∧ (∀ j, j < k → tO l j ≠ tO l i) ∧ Below w.heap.size w W ∧ Blk bx #[I x.1, I x.2] 31 W
theorem dis_of {l : List M} (h : ∀ j, j < l.length → ∀ k, k < j → tO l k ≠ tO l j) : Dis l := fun i j hi hj e => by
  rcases Nat.lt_trichotomy i j with h1 | h1 | h1
  · exact absurd e (h j hj i h1)
  · exact h1
  · exact absurd e.symm (h i hi j h1)

set_option maxRecDepth 100000 in
set_option maxHeartbeats 1600000 in
theorem check_any (a : Option Addr) (c : Nat) (l : List M) (hl : l.length ≤ 1000) (hc : l.length ≤ c) (spare : Int) (sp : Bool) (w : World) (h : MovZ w (.slice a l.length c) l) :
    Calls Try.prog 11 #[.slice a l.length c, I spare, .bool sp] w fun e w' => ChkT w l spare sp w' e := by
  obtain ⟨n, hn⟩ : ∃ n, n = l.length := ⟨_, rfl⟩
  rw [← hn] at h ⊢
  have hnb : (n : Int) ≤ 1000 := by omega
  have hnc : (n : Int) ≤ (c : Int) := by omega
  have HH := Lib.hid (And.intro h (And.intro hn hl))
  clear h hn hl hc
  go_enter Try.func11, Try.ntmps11
  go_wp2_with fail
  go_loopw [13] (fun iv W => ChkR w l spare sp iv W) (fun iv _ => n - (intOf iv).toNat)
  case atStart => exact ⟨0, Nat.zero_le _, rfl, fun j hj => absurd hj (by omega), Below.refl _ _⟩
  case round =>
    obtain ⟨i, hi, rfl, hno, hbe⟩ := hrel
    by_cases hin : i < n
    · have hil : i < l.length := by rw [← HH.out.2.1]; exact hin
      obtain ⟨b, _, rfl, hbl, c0, e0⟩ := (HH.out.1.below movV_stays hbe).at i hil
      obtain rfl := e0
      rw [getD_mv hil] at c0
      obtain ⟨xt, xf, hx⟩ : ∃ a b, mv l i = (a, b) := ⟨_, _, rfl⟩
      rw [hx] at c0
      have x0 : wr.cell? (b.add (i * 2)) = some (I xt) := c0.f0
      have x1 : wr.cell? ⟨(b.add (i * 2)).block, (b.add (i * 2)).off + 1, none⟩ = some (I xf) := c0.f1
      have hbs : BadS l spare sp i ↔ sp = true ∧ (xt = spare ∨ xf = spare) := by unfold BadS tO fR; rw [hx]
      have hto : tO l i = xt := by unfold tO; rw [hx]
      have d0 : decide (i < n) = true := by simpa using hin
      have d1 : (0 : Int) ≤ (i : Int) := by omega
      have d2 : (i : Int) < (n : Int) := by omega
      have d3 : (i : Int) ≤ (c : Int) := by omega
      have hB1 : Below w.heap.size w (wr.alloc (.cells #[I xt, I xf] 31)) := hbe.alloc hbe.size _
      have FIN := Lib.hid (fun hbad : Bad l spare sp => (show ChkT w l spare sp (wr.alloc (.cells #[I xt, I xf] 31)) (.returned (I 3)) from ⟨_, rfl, Or.inl ⟨rfl, hbad⟩, hB1⟩))
      have HB := Lib.hid hbs
      by_cases hbad : BadS l spare sp i
      · have HF := Lib.hid (show Bad l spare sp from Or.inl ⟨i, hil, hbad⟩)
        rw [hbs] at hbad
        obtain ⟨rfl, hbad⟩ := hbad
        clear hil hno hbe c0 hx hbs hB1 hin hi hbl hto
        by_cases h1 : xt = spare
        · subst h1
          clear hbad
          go_wp2_with fail
          go_ret
          exact FIN.out HF.out
        · have g1 : (xt == spare) = false := by simpa using h1
          obtain rfl : xf = spare := by rcases hbad with h | h; exact absurd h h1; exact h
          clear hbad h1
          go_wp2_with fail
          go_ret
          exact FIN.out HF.out
      · have hg : sp = false ∨ (sp = true ∧ xt ≠ spare ∧ xf ≠ spare) := by
          cases sp with
          | false => exact Or.inl rfl
          | true => exact Or.inr ⟨rfl, fun e => hbad (hbs.2 ⟨rfl, Or.inl e⟩), fun e => hbad (hbs.2 ⟨rfl, Or.inr e⟩)⟩
        obtain ⟨bx, hbx⟩ : ∃ g, g = wr.heap.size := ⟨_, rfl⟩
        obtain ⟨W1, hW1⟩ : ∃ W, W = wr.alloc (.cells #[I xt, I xf] 31) := ⟨_, rfl⟩
        have kx : Blk bx #[I xt, I xf] 31 W1 := by rw [hbx, hW1]; exact Blk.new _ _ _
        rw [← hW1] at hB1
        have hlo : w.heap.size ≤ bx := by rw [hbx]; exact hbe.size
        have H1 := Lib.hid (And.intro hno (And.intro hB1 (And.intro kx (And.intro hto (And.intro hin (And.intro hbad (And.intro hil hlo)))))))
        have HW := Lib.hid (And.intro hW1 hbx)
        clear hno hbe c0 hx hbs hB1 hW1 kx hin hi hbl hbx hto hbad FIN HB hil hlo
        rcases hg with rfl | ⟨rfl, h1, h2⟩
        · go_upto_region 6 with (fail)
          change Code.wp _ _ _ _ (wr.alloc (.cells #[I xt, I xf] 31))
          rw [← HW.out.2, ← HW.out.1]
          clear x0 x1
          go_wp2_with fail
          go_loopw [35] (fun iv W => ChkI w bx (xt, xf) l i iv W) (fun iv _ => i - (intOf iv).toNat)
          case atStart => exact ⟨0, Nat.zero_le _, rfl, fun j hj => absurd hj (by omega), H1.out.2.1, H1.out.2.2.1⟩
          case round =>
            obtain ⟨k, hk, rfl, hnk, hbk, kk⟩ := hrel
            have y0 := kk.get 0 (I xt) rfl
            by_cases hki : k < i
            · have hkl : k < l.length := by have := H1.out.2.2.2.2.2.2.1; omega
              obtain ⟨b', _, e1, hbl', c1, e2⟩ := (HH.out.1.below movV_stays hbk).at k hkl
              obtain rfl := e2
              cases e1
              rw [getD_mv hkl] at c1
              obtain ⟨zt, zf, hz⟩ : ∃ a b, mv l k = (a, b) := ⟨_, _, rfl⟩
              rw [hz] at c1
              have z0 : wr.cell? (b.add (k * 2)) = some (I zt) := c1.f0
              have z1 : wr.cell? ⟨(b.add (k * 2)).block, (b.add (k * 2)).off + 1, none⟩ = some (I zf) := c1.f1
              have hzo : tO l k = zt := by unfold tO; rw [hz]
              have q0 : decide (k < i) = true := by simpa using hki
              have q1 : (0 : Int) ≤ (k : Int) := by omega
              have q2 : (k : Int) < (i : Int) := by omega
              have hB2 : Below w.heap.size w (wr.alloc (.cells #[I zt, I zf] 31)) := hbk.alloc hbk.size _
              have hlt : bx < wr.heap.size := kk.lt
              have hnb2 : ¬ bx = wr.heap.size := by omega
              by_cases h1 : zt = xt
              · have FIN := Lib.hid (show ChkT w l spare false (wr.alloc (.cells #[I zt, I zf] 31)) (.returned (I 3)) from ⟨_, rfl, Or.inl ⟨rfl, Or.inr fun hd => by
                  have := hd k i hkl H1.out.2.2.2.2.2.2.1 (by rw [hzo, h1, H1.out.2.2.2.1])
                  omega⟩, hB2⟩)
                subst h1
                clear hnk hbk kk hkl c1 hz hzo hB2 hki hk
                go_wp2_with fail
                go_ret
                exact FIN.out
              · have g1 : (zt == xt) = false := by simpa using h1
                have HN := Lib.hid (show ChkI w bx (xt, xf) l i (I ((k : Int) + 1)) (wr.alloc (.cells #[I zt, I zf] 31)) from ⟨k + 1, by omega, rfl, fun j hj => by
                  by_cases e : j = k
                  · rw [e, hzo, H1.out.2.2.2.1]; exact h1
                  · exact hnk j (by omega), hB2, kk.alloc _⟩)
                have HT := Lib.hid hki
                clear hnk hbk kk hkl c1 hz hzo hB2 hki hk h1
                go_wp2_with fail
                exact ⟨HN.out, by have := HT.out; simp [intOf]; omega⟩
            · have q0 : decide (k < i) = false := by simpa using hki
              have HN := Lib.hid (show ChkR w l spare false (I ((i : Int) + 1)) wr from ⟨i + 1, by have := H1.out.2.2.2.2.2.2.1; omega, rfl, fun j hj => by
                by_cases e : j = i
                · subst e
                  exact ⟨H1.out.2.2.2.2.2.1, fun k' hk' => hnk k' (by omega)⟩
                · exact H1.out.1 j (by omega), hbk⟩)
              have HT := Lib.hid H1.out.2.2.2.2.1
              clear hnk hbk kk hki hk
              go_wp2_with fail
              exact ⟨HN.out, by have := HT.out; simp [intOf]; omega⟩
        · have g1 : (xt == spare) = false := by simpa using h1
          have g2 : (xf == spare) = false := by simpa using h2
          clear h1 h2
          go_upto_region 6 with (fail)
          change Code.wp _ _ _ _ (wr.alloc (.cells #[I xt, I xf] 31))
          rw [← HW.out.2, ← HW.out.1]
          clear x0 x1 g1 g2
          go_wp2_with fail
          go_loopw [35] (fun iv W => ChkI w bx (xt, xf) l i iv W) (fun iv _ => i - (intOf iv).toNat)
          case atStart => exact ⟨0, Nat.zero_le _, rfl, fun j hj => absurd hj (by omega), H1.out.2.1, H1.out.2.2.1⟩
          case round =>
            obtain ⟨k, hk, rfl, hnk, hbk, kk⟩ := hrel
            have y0 := kk.get 0 (I xt) rfl
            by_cases hki : k < i
            · have hkl : k < l.length := by have := H1.out.2.2.2.2.2.2.1; omega
              obtain ⟨b', _, e1, hbl', c1, e2⟩ := (HH.out.1.below movV_stays hbk).at k hkl
              obtain rfl := e2
              cases e1
              rw [getD_mv hkl] at c1
              obtain ⟨zt, zf, hz⟩ : ∃ a b, mv l k = (a, b) := ⟨_, _, rfl⟩
              rw [hz] at c1
              have z0 : wr.cell? (b.add (k * 2)) = some (I zt) := c1.f0
              have z1 : wr.cell? ⟨(b.add (k * 2)).block, (b.add (k * 2)).off + 1, none⟩ = some (I zf) := c1.f1
              have hzo : tO l k = zt := by unfold tO; rw [hz]
              have q0 : decide (k < i) = true := by simpa using hki
              have q1 : (0 : Int) ≤ (k : Int) := by omega
              have q2 : (k : Int) < (i : Int) := by omega
              have hB2 : Below w.heap.size w (wr.alloc (.cells #[I zt, I zf] 31)) := hbk.alloc hbk.size _
              have hlt : bx < wr.heap.size := kk.lt
              have hnb2 : ¬ bx = wr.heap.size := by omega
              by_cases h1 : zt = xt
              · have FIN := Lib.hid (show ChkT w l spare true (wr.alloc (.cells #[I zt, I zf] 31)) (.returned (I 3)) from ⟨_, rfl, Or.inl ⟨rfl, Or.inr fun hd => by
                  have := hd k i hkl H1.out.2.2.2.2.2.2.1 (by rw [hzo, h1, H1.out.2.2.2.1])
                  omega⟩, hB2⟩)
                subst h1
                clear hnk hbk kk hkl c1 hz hzo hB2 hki hk
                go_wp2_with fail
                go_ret
                exact FIN.out
              · have g1 : (zt == xt) = false := by simpa using h1
                have HN := Lib.hid (show ChkI w bx (xt, xf) l i (I ((k : Int) + 1)) (wr.alloc (.cells #[I zt, I zf] 31)) from ⟨k + 1, by omega, rfl, fun j hj => by
                  by_cases e : j = k
                  · rw [e, hzo, H1.out.2.2.2.1]; exact h1
                  · exact hnk j (by omega), hB2, kk.alloc _⟩)
                have HT := Lib.hid hki
                clear hnk hbk kk hkl c1 hz hzo hB2 hki hk h1
                go_wp2_with fail
                exact ⟨HN.out, by have := HT.out; simp [intOf]; omega⟩
            · have q0 : decide (k < i) = false := by simpa using hki
              have HN := Lib.hid (show ChkR w l spare true (I ((i : Int) + 1)) wr from ⟨i + 1, by have := H1.out.2.2.2.2.2.2.1; omega, rfl, fun j hj => by
                by_cases e : j = i
                · subst e
                  exact ⟨H1.out.2.2.2.2.2.1, fun k' hk' => hnk k' (by omega)⟩
                · exact H1.out.1 j (by omega), hbk⟩)
              have HT := Lib.hid H1.out.2.2.2.2.1
              clear hnk hbk kk hki hk
              go_wp2_with fail
              exact ⟨HN.out, by have := HT.out; simp [intOf]; omega⟩
    · have d0 : decide (i < n) = false := by simpa using hin
      have FIN := Lib.hid (show ChkT w l spare sp wr (.returned (I 0)) from ⟨_, rfl, Or.inr ⟨rfl, fun h => by
        have hln := HH.out.2.1
        rcases h with ⟨j, h1, h2⟩ | h
        · exact (hno j (by omega)).1 h2
        · exact h (dis_of fun j hj => (hno j (by omega)).2)⟩, hbe⟩)
      clear hno hbe hin hi
      go_wp2_with fail
      go_ret
      exact FIN.out
end Go.Proofs.Ytnbkcdhblmfopaa
