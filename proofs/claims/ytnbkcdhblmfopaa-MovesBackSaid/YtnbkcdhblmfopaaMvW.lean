/-
  The document's world of places: where a place stands.
-/
import Derived.Test.YtnbkcdhblmfopaaMvS
namespace Go.Proofs.Ytnbkcdhblmfopaa
open Go Go.RowKit Mv

abbrev intsZ (l : List Int) : List Value := l.map I
abbrev NumI (W : World) (base : Nat) (v : Value) (l : List Int) : Prop := W.ownsRow base 3 1 v l.length (intsZ l)
theorem NumI.cell {W : World} {base g m k : Nat} {l : List Int} (h : NumI W base (.slice (some ⟨g, 0, none⟩) m k) l) {i : Nat} (hi : i < l.length) : W.cell? ⟨g, i, none⟩ = some (I (l.getD i 0)) := by
  have h2 : W.ownsRow base 3 1 (.slice (some ⟨g, 0, none⟩) l.length k) l.length (intsZ l) := by
    have h3 := h
    rcases h.2 with ⟨e, _⟩ | ⟨_, _, _, e, _⟩
    · cases e
    · cases e; exact h
  rw [h2.cellAt i (by omega), List.getElem?_map, List.getElem?_eq_getElem hi, List.getD_eq_getElem?_getD, List.getElem?_eq_getElem hi]
  rfl
theorem NumI.form {W : World} {base : Nat} {v : Value} {l : List Int} (h : NumI W base v l) : v = .slice none 0 0 ∧ l.length = 0 ∨ ∃ g k, v = .slice (some ⟨g, 0, none⟩) l.length k := by
  rcases own_slice h with h | ⟨g, k, e⟩
  · exact Or.inl h
  · exact Or.inr ⟨g, k, e⟩
theorem NumI.row {W : World} {base : Nat} {v : Value} {l : List Int} (h : NumI W base v l) : ∃ a k, v = .slice a l.length k := by
  rcases h.form with ⟨e, e2⟩ | ⟨g, k, e⟩
  · exact ⟨none, 0, by rw [e, e2]⟩
  · exact ⟨_, _, e⟩
/-- A world of places. -/
structure WoV (base bw : Nat) (pv hv : Value) (pl hs : List Int) (W : World) : Prop where
  bk : Blk bw #[pv, hv] 52 W
  po : NumI W base pv pl
  ho : NumI W base hv hs
  d1 : ∀ k, pv.ownBlock = some k → k ≠ bw ∧ hv.ownBlock ≠ some k
  d2 : ∀ k, hv.ownBlock = some k → k ≠ bw
  le : base ≤ bw
  ln : pl.length = hs.length
def WoW (base bw : Nat) (pl hs : List Int) (W : World) : Prop := ∃ pv hv, WoV base bw pv hv pl hs W
theorem WoV.below {base bw : Nat} {pv hv : Value} {pl hs : List Int} {W W' : World} (h : WoV base bw pv hv pl hs W) (hb : Below W.heap.size W W') : WoV base bw pv hv pl hs W' :=
  ⟨h.bk.below hb h.bk.lt, own_below h.po hb, own_below h.ho hb, h.d1, h.d2, h.le, h.ln⟩
theorem WoW.below {base bw : Nat} {pl hs : List Int} {W W' : World} (h : WoW base bw pl hs W) (hb : Below W.heap.size W W') : WoW base bw pl hs W' := by
  obtain ⟨pv, hv, h⟩ := h
  exact ⟨pv, hv, h.below hb⟩
/-- Nothing else. -/
def Apart (w : World) (bw : Nat) (pv hv : Value) (W : World) : Prop := ∀ k, k < w.heap.size → k ≠ bw → pv.ownBlock ≠ some k → hv.ownBlock ≠ some k → W.heap[k]? = w.heap[k]?
def AtT (w : World) (base bw : Nat) (pv hv : Value) (p : Int) (pl hs : List Int) (W : World) (e : Ending) : Prop :=
  ∃ (i : Nat) (pl' hs' : List Int), e = .returned (I (i : Int)) ∧ i < pl'.length ∧ pl'.getD i 0 = p ∧ (p ∈ pl ∧ pl' = pl ∧ hs' = hs ∨ p ∉ pl ∧ pl' = pl ++ [p] ∧ hs' = hs ++ [p]) ∧ WoW base bw pl' hs' W ∧ Below base w W ∧ Apart w bw pv hv W
def AtR (w : World) (p : Int) (pl : List Int) (iv : Value) (W : World) : Prop := ∃ i : Nat, i ≤ pl.length ∧ iv = I (i : Int) ∧ (∀ j, j < i → pl.getD j 0 ≠ p) ∧ W = w
theorem mem_getD {l : List Int} {p : Int} (h : p ∈ l) : ∃ i, i < l.length ∧ l.getD i 0 = p := by
  obtain ⟨i, hi, e⟩ := List.getElem_of_mem h
  exact ⟨i, hi, by rw [List.getD_eq_getElem?_getD, List.getElem?_eq_getElem hi]; exact e⟩
theorem getD_mem {l : List Int} {i : Nat} (h : i < l.length) : l.getD i 0 ∈ l := by
  rw [List.getD_eq_getElem?_getD, List.getElem?_eq_getElem h]
  exact List.getElem_mem h

set_option maxRecDepth 100000 in
set_option maxHeartbeats 1600000 in
theorem at_any (base bw : Nat) (pv hv : Value) (p : Int) (pl hs : List Int) (hl : pl.length ≤ 100000) (w : World) (h : WoV base bw pv hv pl hs w) :
    Calls Try.prog 19 #[.pointer (some ⟨bw, 0, none⟩), I p] w fun e w' => AtT w base bw pv hv p pl hs w' e := by
  obtain ⟨i0, p1, p2, p3, p4⟩ := info_parts infoI
  have HI := Lib.hid (And.intro p1 (And.intro p2 (And.intro p3 p4)))
  clear p1 p2 p3 p4
  obtain ⟨n, hn⟩ : ∃ n, n = pl.length := ⟨_, rfl⟩
  obtain ⟨s0, k0, hpv⟩ := h.po.row
  obtain ⟨s1, k1, hhv⟩ := h.ho.row
  rw [← h.ln, ← hn] at hhv
  rw [← hn] at hpv
  have hnb : (n : Int) ≤ 100000 := by omega
  have x0 := h.bk.get 0 pv rfl
  have x1 := h.bk.get 1 hv rfl
  have HH := Lib.hid (And.intro h (And.intro hn hl))
  have HP := Lib.hid hpv
  rw [hpv] at x0
  rw [hhv] at x1
  have HV := Lib.hid hhv
  clear h hn hl hpv hhv
  go_enter Try.func19, Try.ntmps19
  go_wp2_with fail
  go_loopw [12] (fun iv W => AtR w p pl iv W) (fun iv _ => n - (intOf iv).toNat)
  case atStart => exact ⟨0, Nat.zero_le _, rfl, fun j hj => absurd hj (by omega), rfl⟩
  case round =>
    obtain ⟨i, hi, rfl, hno, rfl⟩ := hrel
    by_cases hin : i < n
    · obtain ⟨g, hg⟩ : ∃ g, s0 = some ⟨g, 0, none⟩ := by
        rcases HH.out.1.po.form with ⟨_, e⟩ | ⟨g, k, e⟩
        · have := HH.out.2.1; omega
        · rw [HP.out] at e; cases e; exact ⟨g, rfl⟩
      subst hg
      have hpo := HH.out.1.po
      rw [HP.out] at hpo
      have c0 := hpo.cell (i := i) (by rw [← HH.out.2.1]; exact hin)
      obtain ⟨q, hq⟩ : ∃ q, q = pl.getD i 0 := ⟨_, rfl⟩
      rw [← hq] at c0
      have d0 : decide (i < n) = true := by simpa using hin
      have d1 : (0 : Int) ≤ (i : Int) := by omega
      have d2 : (i : Int) < (n : Int) := by omega
      clear hpo
      by_cases h1 : q = p
      · have FIN := Lib.hid (show AtT wr base bw pv hv p pl hs wr (.returned (I (i : Int))) from ⟨i, pl, hs, rfl, by rw [← HH.out.2.1]; exact hin, by rw [← hq]; exact h1, Or.inl ⟨by rw [← h1, hq]; exact getD_mem (by rw [← HH.out.2.1]; exact hin), rfl, rfl⟩, ⟨_, _, HH.out.1⟩, Below.refl _ _, fun _ _ _ _ _ => rfl⟩)
        subst h1
        clear hno hin hi hq
        go_wp2_with fail
        go_ret
        exact FIN.out
      · have g1 : (q == p) = false := by simpa using h1
        have HN := Lib.hid (show AtR wr p pl (I ((i : Int) + 1)) wr from ⟨i + 1, by have := HH.out.2.1; omega, rfl, fun j hj => by
          by_cases e : j = i
          · rw [e, ← hq]; exact h1
          · exact hno j (by omega), rfl⟩)
        have HT := Lib.hid hin
        clear hno hin hi hq h1
        go_wp2_with fail
        exact ⟨HN.out, by have := HT.out; simp [intOf]; omega⟩
    · have d0 : decide (i < n) = false := by simpa using hin
      have hnm : p ∉ pl := fun hm => by
        obtain ⟨j, hj, e⟩ := mem_getD hm
        exact hno j (by have := HH.out.2.1; omega) e
      have HNM := Lib.hid hnm
      have f0 := HH.out.1.bk.free 0
      have f1 := HH.out.1.bk.free 1
      have hlt := HH.out.1.bk.lt
      clear hno hin hi hnm
      go_wp2_with (first | (at_builtin; refine Hid.out ?_) | go_in)
      unfold Hid
      change wpList _ _ _ _ _ (wr.alloc (.cells #[I p] 3))
      have hpo : wr.ownsRow base 3 1 (.slice s0 n k0) n (intsZ pl) := by
        have h9 := HH.out.1.po
        unfold NumI at h9
        rw [HP.out, ← HH.out.2.1] at h9
        exact h9
      refine wpList_append_lies _ rfl (.tmp 26) (.tmp 28) 41 rfl base 3 i0 (I 0) 1 8 Try.underlying41 HI.out.1 HI.out.2.1 HI.out.2.2.1 HI.out.2.2.2 rfl (by decide) (.slice s0 n k0) n (intsZ pl) rfl (hpo.alloc _) ⟨wr.heap.size, 0, none⟩ 1 1 [I p] rfl rfl (World.news_of_block (heap_alloc_new wr _)) (by simp [Value.oneCell']) (by decide) (by unfold maxLen; omega) (by omega) (by have h1 := HH.out.1.le; simp; omega) _ rfl ?_
      intro g2 c2 w2 ho2 hg2 hat2 hlt2
      rw [← HP.out] at hg2 hat2
      have hhv : wr.ownsRow base 3 1 (.slice s1 n k1) n (intsZ hs) := by
        have h9 := HH.out.1.ho
        unfold NumI at h9
        rw [HV.out, ← HH.out.1.ln, ← HH.out.2.1] at h9
        exact h9
      have hne : some bw ≠ pv.ownBlock := fun e => (HH.out.1.d1 bw e.symm).1 rfl
      have hvlt : ∀ k, hv.ownBlock = some k → k < wr.heap.size := fun k hk => (HH.out.1.ho.lt k hk).2
      have hgw : g2 ≠ bw ∧ hv.ownBlock ≠ some g2 := by
        rcases hat2 with e | e
        · exact HH.out.1.d1 g2 e
        · simp at e
          exact ⟨by omega, fun e2 => by have := hvlt g2 e2; omega⟩
      have k2 : Blk bw #[pv, hv] 52 w2 := (HH.out.1.bk.alloc _).other hg2 hne
      have B2 : Below base wr w2 := ((Below.refl _ _).alloc (by have := HH.out.1.le; omega) (.cells #[I p] 3)).grown hg2 (by have := HH.out.1.le; simp; omega) (fun k hk => (HH.out.1.po.lt k hk).1)
      have hv2 : w2.ownsRow base 3 1 (.slice s1 n k1) n (intsZ hs) := (hhv.alloc _).kept hg2 (by
        rw [← HV.out]
        cases hh : hv.ownBlock with
        | none => exact Or.inl rfl
        | some k => exact Or.inr fun e => (HH.out.1.d1 k e.symm).2 hh)
      obtain ⟨W3, hW3⟩ : ∃ W, W = w2.setCell ⟨bw, 0, none⟩ (.slice (some ⟨g2, 0, none⟩) (n + 1) c2) := ⟨_, rfl⟩
      have k3 : Blk bw #[.slice (some ⟨g2, 0, none⟩) (n + 1) c2, hv] 52 W3 := by rw [hW3]; exact k2.set 0 _
      have po3 : W3.ownsRow base 3 1 (.slice (some ⟨g2, 0, none⟩) (n + 1) c2) (n + 1) (intsZ pl ++ [I p]) := by rw [hW3]; exact own_set ho2 (by simp [Value.ownBlock]; exact fun e => hgw.1 e.symm)
      have hv3 : W3.ownsRow base 3 1 (.slice s1 n k1) n (intsZ hs) := by rw [hW3]; exact own_set hv2 (by rw [← HV.out]; exact fun e => HH.out.1.d2 bw e.symm rfl)
      have B3 : Below base wr W3 := by rw [hW3]; exact B2.setCell HH.out.1.le _
      have hz3 : W3.heap.size = w2.heap.size := by rw [hW3]; simp [World.setCell]
      have F3 : Apart wr bw pv hv W3 := fun k hk h1 h2 h3 => by
        rw [hW3, Below.heap_setCell _ _ _ _ (show k ≠ bw from h1), hg2.block k (by simp; omega) (fun e => h2 e.symm)]
        exact heap_alloc_old _ _ hk
      have HF3 := Lib.hid (And.intro F3 (show wr.heap.size ≤ W3.heap.size by rw [hz3]; have := hg2.size; simp at this; omega))
      have y0 : w2.cell? ⟨bw, 0, none⟩ = some (.slice s0 n k0) := by rw [← HP.out]; exact k2.get 0 pv rfl
      have f2 := k2.free 0
      have H3 := Lib.hid (And.intro k3 (And.intro po3 (And.intro hv3 (And.intro B3 (And.intro hgw (show g2 < W3.heap.size by rw [hz3]; exact hlt2))))))
      have HW3 := Lib.hid hW3
      clear F3 hhv hne hvlt hgw k2 B2 hv2 hW3 k3 po3 hv3 B3 hz3 ho2 hg2 hat2 hlt2 hpo x0 x1 f0 f1
      go_upto_region 8 with (fail)
      change Code.wp _ _ _ _ (w2.setCell ⟨bw, 0, none⟩ (.slice (some ⟨g2, 0, none⟩) (n + 1) c2))
      rw [← HW3.out]
      clear y0 f2
      have y1 : W3.cell? ⟨bw, 1, none⟩ = some (.slice s1 n k1) := by rw [← HV.out]; exact H3.out.1.get 1 hv rfl
      have f3 := H3.out.1.free 1
      have hlt3 := H3.out.1.lt
      go_wp2_with (first | (at_builtin; refine Hid.out ?_) | go_in)
      unfold Hid
      change wpList _ _ _ _ _ (W3.alloc (.cells #[I p] 3))
      refine wpList_append_lies _ rfl (.tmp 36) (.tmp 38) 41 rfl base 3 i0 (I 0) 1 8 Try.underlying41 HI.out.1 HI.out.2.1 HI.out.2.2.1 HI.out.2.2.2 rfl (by decide) (.slice s1 n k1) n (intsZ hs) rfl (H3.out.2.2.1.alloc _) ⟨W3.heap.size, 0, none⟩ 1 1 [I p] rfl rfl (World.news_of_block (heap_alloc_new W3 _)) (by simp [Value.oneCell']) (by decide) (by unfold maxLen; omega) (by omega) (by have h1 := HH.out.1.le; simp; omega) _ rfl ?_
      intro g5 c5 w5 ho5 hg5 hat5 hlt5
      rw [← HV.out] at hg5 hat5
      have k5 : Blk bw #[.slice (some ⟨g2, 0, none⟩) (n + 1) c2, hv] 52 w5 := (H3.out.1.alloc _).other hg5 (fun e => HH.out.1.d2 bw e.symm rfl)
      have po5 : w5.ownsRow base 3 1 (.slice (some ⟨g2, 0, none⟩) (n + 1) c2) (n + 1) (intsZ pl ++ [I p]) := (H3.out.2.1.alloc _).kept hg5 (Or.inr fun e => H3.out.2.2.2.2.1.2 e.symm)
      have hg5b : g5 ≠ bw ∧ g5 ≠ g2 := by
        rcases hat5 with e | e
        · exact ⟨HH.out.1.d2 g5 e, fun e2 => H3.out.2.2.2.2.1.2 (by rw [← e2]; exact e)⟩
        · simp at e
          have h1 := H3.out.2.2.2.2.2
          exact ⟨by omega, by omega⟩
      have B5 : Below base wr w5 := (H3.out.2.2.2.1.alloc (by have := HH.out.1.le; omega) (.cells #[I p] 3)).grown hg5 (by have := HH.out.1.le; simp; omega) (fun k hk => (HH.out.1.ho.lt k hk).1)
      have F6 : Apart wr bw pv hv (w5.setCell ⟨bw, 1, none⟩ (.slice (some ⟨g5, 0, none⟩) (n + 1) c5)) := fun k hk h1 h2 h3 => by
        have h4 := HF3.out.2
        rw [Below.heap_setCell _ _ _ _ (show k ≠ bw from h1), hg5.block k (by simp; omega) (fun e => h3 e.symm), heap_alloc_old _ _ (by omega)]
        exact HF3.out.1 k hk h1 h2 h3
      have FIN := Lib.hid (show AtT wr base bw pv hv p pl hs (w5.setCell ⟨bw, 1, none⟩ (.slice (some ⟨g5, 0, none⟩) (n + 1) c5)) (.returned (I (n : Int))) from
        ⟨n, pl ++ [p], hs ++ [p], rfl, by have := HH.out.2.1; simp; omega, by rw [List.getD_eq_getElem?_getD, List.getElem?_append_right (by have := HH.out.2.1; omega), HH.out.2.1]; simp, Or.inr ⟨HNM.out, rfl, rfl⟩,
        ⟨.slice (some ⟨g2, 0, none⟩) (n + 1) c2, .slice (some ⟨g5, 0, none⟩) (n + 1) c5, ⟨k5.set 1 _,
          by
            have h9 := own_set (a := ⟨bw, 1, none⟩) (u := .slice (some ⟨g5, 0, none⟩) (n + 1) c5) po5 (by simp [Value.ownBlock]; exact fun e => H3.out.2.2.2.2.1.1 e.symm)
            unfold NumI
            rw [List.length_append, List.length_singleton, ← HH.out.2.1]
            simpa using h9,
          by
            have h9 := own_set (a := ⟨bw, 1, none⟩) (u := .slice (some ⟨g5, 0, none⟩) (n + 1) c5) ho5 (by simp [Value.ownBlock]; exact fun e => hg5b.1 e.symm)
            unfold NumI
            rw [List.length_append, List.length_singleton, ← HH.out.1.ln, ← HH.out.2.1]
            simpa using h9,
          fun k hk => by
            have e : g2 = k := by simpa [Value.ownBlock] using hk
            subst e
            exact ⟨H3.out.2.2.2.2.1.1, by simp [Value.ownBlock]; exact hg5b.2⟩,
          fun k hk => by
            have e : g5 = k := by simpa [Value.ownBlock] using hk
            subst e
            exact hg5b.1,
          HH.out.1.le, by simp [HH.out.1.ln]⟩⟩, B5.setCell HH.out.1.le _, F6⟩)
      have z0 := k5.get 0 (.slice (some ⟨g2, 0, none⟩) (n + 1) c2) rfl
      have z1 : w5.cell? ⟨bw, 1, none⟩ = some (.slice s1 n k1) := by rw [← HV.out]; exact k5.get 1 hv rfl
      have f5 := k5.free 1
      clear F6 k5 po5 hg5b B5 ho5 hg5 hat5 hlt5 y1 f3
      go_wp2_with fail
      go_ret
      exact FIN.out
end Go.Proofs.Ytnbkcdhblmfopaa
