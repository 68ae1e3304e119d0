/-
  The document's own bytes of a list of instructions: ref.Pack, walked.
-/
import Derived.Test.YtlblmnneikdpgaaDoorIbWs
import Derived.Test.YtlblmnneikdpgaaDoorIbO
namespace Go.Proofs.YtlblmnneikdpgaaDoor
open Go Go.RowKit Ib

/-- The bytes of instructions, one behind the other. -/
def encs (l : List Wd) : List Nat := l.flatMap encW
theorem encs_succ (l : List Wd) (i : Nat) (x : Wd) (h : l[i]? = some x) : encs (l.take (i + 1)) = encs (l.take i) ++ encW x := by
  unfold encs
  rw [List.take_add_one, h, List.flatMap_append]
  simp
theorem encs_len (l : List Wd) (h : ∀ x ∈ l, WfW x) : (encs l).length ≤ 20 * l.length := by
  induction l with
  | nil => simp [encs]
  | cons x r ih =>
    have h1 := ih (fun y hy => h y (List.mem_cons_of_mem _ hy))
    have h2 := encW_len (h x List.mem_cons_self)
    unfold encs at h1 ⊢
    rw [List.flatMap_cons, List.length_append, List.length_cons]
    omega
theorem encs_cons (x : Wd) (l : List Wd) : encs (x :: l) = encW x ++ encs l := by unfold encs; rw [List.flatMap_cons]
theorem encW_ne {x : Wd} (h : FormW x) : encW x ≠ [] := by
  obtain ⟨n, im, hnm, _⟩ := h
  rw [encW_of hnm]
  simp
/-- Where bytes are those of instructions, and more, and all of them are those of instructions, what is more begins with one's. -/
theorem pre_of_encs : ∀ (l l' : List Wd) (r : List Nat), (∀ x ∈ l, FormW x) → (∀ x ∈ l', FormW x) → encs l' = encs l ++ r → r ≠ [] → ∃ x, PreW r x
  | [], [], r, _, _, he, hr => absurd (by simpa [encs] using he.symm) hr
  | [], z :: t, r, _, h', he, _ => ⟨z, h' z List.mem_cons_self, by rw [show r = encs (z :: t) from by simpa [encs] using he.symm, encs_cons]; exact List.prefix_append _ _⟩
  | y :: l, [], r, h, _, he, _ => by
    rw [encs_cons] at he
    have h1 : encW y = [] := by
      have h2 : ([] : List Nat) = encW y ++ encs l ++ r := by simpa [encs] using he
      have h3 := congrArg List.length h2
      simp only [List.length_nil, List.length_append] at h3
      exact List.length_eq_zero_iff.1 (by omega)
    exact absurd h1 (encW_ne (h y List.mem_cons_self))
  | y :: l, z :: t, r, h, h', he, hr => by
    have e : z = y := PreW.one (p := encs (z :: t)) ⟨h' z List.mem_cons_self, by rw [encs_cons]; exact List.prefix_append _ _⟩ ⟨h y List.mem_cons_self, by rw [he, encs_cons, List.append_assoc]; exact List.prefix_append _ _⟩
    subst e
    rw [encs_cons, encs_cons, List.append_assoc] at he
    exact pre_of_encs l t r (fun x hx => h x (List.mem_cons_of_mem _ hx)) (fun x hx => h' x (List.mem_cons_of_mem _ hx)) (List.append_cancel_left he) hr
def PackT (l : List Wd) (w W : World) (e : Ending) : Prop := Below w.heap.size w W ∧ (((∀ x ∈ l, FormW x) ∧ ∃ v, e = .returned (.tuple #[v, I 0]) ∧ W.ownsRow w.heap.size 5 1 v (encs l).length (bys (encs l))) ∨ (¬ (∀ x ∈ l, FormW x) ∧ e = .returned (.tuple #[.slice none 0 0, I 3])))

set_option maxRecDepth 100000 in
set_option maxHeartbeats 3200000 in
theorem refPack_any (u : Value) (l : List Wd) (hl : l.length ≤ 262144) (hw : ∀ x ∈ l, WfW x) (w : World) (h1 : WordZ w u l) : Calls Tryd.prog 24 #[u] w fun e w' => PackT l w w' e := by
  obtain ⟨a, c, rfl, hc1, q1⟩ := h1
  obtain ⟨n, hn⟩ : ∃ n, n = l.length := ⟨_, rfl⟩
  have HQ := Lib.hid (And.intro q1 (And.intro hn hw))
  rw [← hn] at hl hc1 ⊢
  clear q1 hn hw
  have hl' : (n : Int) ≤ 262144 := by omega
  go_enter Tryd.func24, Tryd.ntmps24
  go_wp2_with fail
  go_loopw [4, 12] (fun pv iv wr => ∃ i : Nat, i ≤ n ∧ iv = I (i : Int) ∧ (∀ x ∈ l.take i, FormW x) ∧ wr.ownsRow w.heap.size 5 1 pv (encs (l.take i)).length (bys (encs (l.take i))) ∧ Below w.heap.size w wr) (fun _ iv _ => n - (intOf iv).toNat)
  case atStart => exact ⟨0, Nat.zero_le _, rfl, by simp, own_start, Below.refl _ _⟩
  case round =>
    obtain ⟨i, hi, rfl, hf, hown, hb⟩ := hrel
    by_cases hlt : i < n
    · have i1 : i < l.length := by have := HQ.out.2.1; omega
      obtain ⟨g, vs, ra, gl, r0, e0⟩ := HQ.out.1 i i1
      subst ra e0
      obtain ⟨x, hx⟩ : ∃ x, x = l[i] := ⟨_, rfl⟩
      have hx' : l[i]? = some x := by rw [hx]; exact List.getElem?_eq_getElem i1
      have hwx : WfW x := HQ.out.2.2 x (by rw [hx]; exact List.getElem_mem i1)
      rw [← hx] at r0
      have r1 := r0.keep (hb.block _ gl)
      have hlen : (encs (l.take i)).length ≤ 20 * 262144 := by
        have h1 := encs_len (l.take i) (fun y hy => HQ.out.2.2 y (List.mem_of_mem_take hy))
        have h2 : (l.take i).length ≤ i := by simp; omega
        omega
      obtain ⟨xo, xa, xb, xc, xi⟩ := x
      have x0 := r1.f0
      have x1 := r1.f1
      have x2 := r1.f2
      have x3 := r1.f3
      have x4 := r1.f4
      obtain ⟨W1, hW1⟩ : ∃ W, W = wr.alloc (.cells (wB ⟨xo, xa, xb, xc, xi⟩) 23) := ⟨_, rfl⟩
      obtain ⟨bx, hbx⟩ : ∃ b, b = wr.heap.size := ⟨_, rfl⟩
      have k1 : Blk bx (wB ⟨xo, xa, xb, xc, xi⟩) 23 W1 := by rw [hW1, hbx]; exact Blk.new _ _ _
      have hb1 : Below w.heap.size w W1 := by rw [hW1]; exact hb.alloc hb.size _
      have ho1 : W1.ownsRow w.heap.size 5 1 u4 (encs (l.take i)).length (bys (encs (l.take i))) := by rw [hW1]; exact hown.alloc _
      have HF := Lib.hid (refForm_any ⟨xo, xa, xb, xc, xi⟩ hwx W1)
      have HX := Lib.hid (And.intro hx' (And.intro hwx (And.intro hlt (And.intro hf (And.intro hlen (And.intro k1 (And.intro hb1 ho1)))))))
      have HW1 := Lib.hid (And.intro hW1 hbx)
      have d0 : decide (i < n) = true := by simpa using hlt
      have d1 : (0 : Int) ≤ (i : Int) := by omega
      have d2 : (i : Int) < (n : Int) := by omega
      clear r0 r1 gl hx hx' hwx hlen hW1 hbx k1 hb1 ho1 hf hown hb i1 hlt
      go_upto_region 7 with (fail)
      rw [← HW1.out.2]
      change Code.wp _ _ _ _ (wr.alloc (.cells (wB ⟨xo, xa, xb, xc, xi⟩) 23))
      rw [← HW1.out.1]
      obtain ⟨z0, z1, z2, z3, z4⟩ := fv_of HX.out.2.2.2.2.2.1
      clear x0 x1 x2 x3 x4
      go_wp2_with fail
      refine HF.out.mono ?_
      rintro e w2 ⟨fb, rfl, hfb, hb2⟩
      have k2 := HX.out.2.2.2.2.2.1.below hb2 HX.out.2.2.2.2.2.1.lt
      obtain ⟨x0, x1, x2, x3, x4⟩ := fv_of k2
      have H2 := Lib.hid (And.intro (below_tr HX.out.2.2.2.2.2.2.1 hb2) (own_below HX.out.2.2.2.2.2.2.2 hb2))
      cases fb with
      | false =>
        have FIN := Lib.hid (show PackT l w w2 (.returned (.tuple #[.slice none 0 0, I 3])) from ⟨H2.out.1, Or.inr ⟨(fun h => by
          have h1 := hfb.2 (h _ (List.mem_of_getElem? HX.out.1))
          cases h1), rfl⟩⟩)
        clear hfb hb2 k2 z0 z1 z2 z3 z4
        go_wp2_with fail
        go_ret2
        exact FIN.out
      | true =>
        have hF := hfb.1 rfl
        have HE := Lib.hid (refEncode_any ⟨xo, xa, xb, xc, xi⟩ HX.out.2.1 hF w2)
        have HFF := Lib.hid hF
        clear hfb hb2 k2 hF z0 z1 z2 z3 z4
        go_wp2_with (first | (at_builtin; refine Hid.out ?_) | (go_at_call 19; refine HE.out.mono ?_; rintro e w3 ⟨v3, rfl, hown3, hb3⟩))
        unfold Hid
        refine wpList_append_b rfl (.tmp 19) (.tmp 21) rfl w.heap.size u4 v3 (encs (l.take i)).length (bys (encs (l.take i))) rfl (own_below H2.out.2 hb3) rfl (encW ⟨xo, xa, xb, xc, xi⟩) _ (own_bytes hown3) (Or.inr (by
          obtain ⟨n1, im1, hnm, _⟩ := HFF.out
          rw [encW_of hnm]; simp)) (by
          have h1 := HX.out.2.2.2.2.1
          have h2 := encW_len HX.out.2.1
          omega) (below_tr H2.out.1 hb3).size ?_
        intro v4 w4 hown4 hgr4 hat4
        have HN := Lib.hid (show ∃ j : Nat, j ≤ n ∧ I ((i : Int) + 1) = I (j : Int) ∧ (∀ x ∈ l.take j, FormW x) ∧ w4.ownsRow w.heap.size 5 1 v4 (encs (l.take j)).length (bys (encs (l.take j))) ∧ Below w.heap.size w w4 from ⟨i + 1, HX.out.2.2.1, rfl, (fun y hy => by
          rw [List.take_add_one, HX.out.1] at hy
          rcases List.mem_append.1 hy with h | h
          · exact HX.out.2.2.2.1 y h
          · simp at h
            rw [h]
            exact HFF.out), by
          rw [encs_succ l i _ HX.out.1, List.length_append, show bys (encs (l.take i) ++ encW ⟨xo, xa, xb, xc, xi⟩) = bys (encs (l.take i)) ++ bys (encW ⟨xo, xa, xb, xc, xi⟩) from by simp]
          exact hown4, (below_tr H2.out.1 hb3).grown hgr4 (below_tr H2.out.1 hb3).size (fun k hk => (H2.out.2.lt k hk).1)⟩)
        have HL := Lib.hid HX.out.2.2.1
        clear hown3 hb3 hown4 hgr4 hat4
        go_wp2_with fail
        exact ⟨HN.out, by have := HL.out; simp [intOf]; omega⟩
    · have d0 : decide (i < n) = false := by simpa using hlt
      have he : l.take i = l := List.take_of_length_le (by have := HQ.out.2.1; omega)
      rw [he] at hf hown
      have FIN := Lib.hid (show PackT l w wr (.returned (.tuple #[u4, I 0])) from ⟨hb, Or.inl ⟨hf, u4, rfl, hown⟩⟩)
      clear hf hown hb hlt he hi
      go_wp2_with fail
      go_ret2
      exact FIN.out
end Go.Proofs.YtlblmnneikdpgaaDoor
