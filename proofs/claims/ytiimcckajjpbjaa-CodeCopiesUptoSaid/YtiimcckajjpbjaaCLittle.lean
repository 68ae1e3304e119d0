/-
  The statement's own little code.
-/
import Derived.Test.YtiimcckajjpbjaaCRight
import Derived.Laws.AppendOwnNone
namespace Go.Proofs.Ytiimcckajjpbjaa
open Go Go.RowKit Go.Maps Cd

theorem info_inst : (Try.prog.info? 50).map (fun i => (i.zero, i.size, i.bytes)) = some (some (.agg #[.int .u8 0, I 0, .slice none 0 0, I 0, I 0, .slice none 0 0]), 6, 80) := by kernel_rfl
/-- An instruction's cells. -/
def instL (op : Nat) (av : Value) : List Value := [.int .u8 (op : Int), I (dstOf op), av, I (immOf op), I 0, .slice none 0 0]
theorem instL_get (op : Nat) (av : Value) (m : Nat) (hm : m < 6) : (instL op av)[m]? = some ((instL op av)[m]'hm) := List.getElem?_eq_getElem _

theorem add_off (b n : Nat) : (⟨b, 0, none⟩ : Addr).add n = ⟨b, n, none⟩ := by unfold Addr.add; split <;> simp_all
/-- Instructions in a row of their own. -/
theorem ins_of {w : World} {base B bi k cap j op : Nat} {av : Value} {xs : List Value} (h : w.ownsRow base 50 6 (.slice (some ⟨bi, 0, none⟩) k cap) k xs) (hB : bi < B) (hx : ∀ m, m < 6 → xs[j * 6 + m]? = (instL op av)[m]?) (ha : ArgAt B w op av) : InsAt B w bi j op := by
  have key : ∀ m u, m < 6 → (instL op av)[m]? = some u → w.cell? ⟨bi, j * 6 + m, none⟩ = some u := by
    intro m u hm hu
    have := h.cells (g := bi) rfl (j * 6 + m) u ((hx m hm).trans hu)
    rw [add_off] at this
    exact this
  exact ⟨hB, av, key 0 _ (by decide) rfl, key 1 _ (by decide) rfl, key 2 _ (by decide) rfl, key 3 _ (by decide) rfl, key 4 _ (by decide) rfl, key 5 _ (by decide) rfl, ha⟩

def Littled (k : Nat) (ks : Nat → Nat) (w w' : World) (e : Ending) : Prop := ∃ bf bb bi cap, e = .returned (codV bf) ∧ Cod w'.heap.size bf bb bi k cap ks 3 w' ∧ Below w.heap.size w w' ∧ w.heap.size ≤ bf ∧ w.heap.size ≤ bb ∧ bf ≠ bb

theorem int0 (n : Int) : Value.int .i64 n = I n := rfl

set_option maxRecDepth 100000 in
set_option maxHeartbeats 800000 in
theorem little_none (w : World) : Calls Try.prog 22 #[.slice none 0 0] w fun e w' => Littled 1 (fun _ => 30) w w' e := by
  obtain ⟨W, hW⟩ : ∃ W, W = (((((w.alloc (codC (w.heap.size + 1 + 1 + 1 + 1))).alloc (instC 30 0 (.slice none 0 0) 7)).alloc (blkC (w.heap.size + 1) 1 1)).alloc (blkC (w.heap.size + 1) 1 1)).alloc (funC (w.heap.size + 1 + 1 + 1) 3)) := ⟨_, rfl⟩
  have get : ∀ i o, [codC (w.heap.size + 1 + 1 + 1 + 1), instC 30 0 (.slice none 0 0) 7, blkC (w.heap.size + 1) 1 1, blkC (w.heap.size + 1) 1 1, funC (w.heap.size + 1 + 1 + 1) 3][i]? = some o → W.heap[w.heap.size + i]? = some o := by
    intro i o hi
    rw [hW]
    exact five_get w _ _ _ _ _ i o hi
  have hsz : W.heap.size = w.heap.size + 5 := by rw [hW]; simp
  have k0 : Blk w.heap.size #[.slice (some ⟨w.heap.size + 1 + 1 + 1 + 1, 0, none⟩) 1 1, .slice none 0 0, I 0] 25 W := get 0 _ rfl
  have k1 : Blk (w.heap.size + 1) #[.int .u8 30, I 0, .slice none 0 0, I 7, I 0, .slice none 0 0] 50 W := get 1 _ rfl
  have hb : Below w.heap.size w W := by rw [hW]; exact (((((Below.refl _ _).alloc (Nat.le_refl _) _).alloc (by simp) _).alloc (by simp; omega) _).alloc (by simp; omega) _).alloc (by simp; omega) _
  have FIN := Lib.hid (show Littled 1 (fun _ => 30) w W (.returned (codV (w.heap.size + 1 + 1 + 1 + 1))) from
    ⟨_, w.heap.size + 1 + 1 + 1, w.heap.size + 1, 1, rfl, ⟨get 4 _ rfl, get 3 _ rfl, fun j hj => by
      obtain rfl : j = 0 := by omega
      refine ins_of (k1.owns (size := 6) (n := 1) (Nat.zero_le _) (by unfold maxLen; omega) rfl) (by omega) (av := .slice none 0 0) (fun m hm => ?_) (Or.inl ⟨rfl, rfl⟩)
      rw [Nat.zero_mul, Nat.zero_add]
      rfl, by omega, by omega, Nat.le_refl _, by omega⟩, hb, by omega, by omega, by omega⟩)
  have HW := Lib.hid hW
  have g0 := k0.get 0 (.slice (some ⟨w.heap.size + 1 + 1 + 1 + 1, 0, none⟩) 1 1) rfl
  have g1 := k0.get 1 (.slice none 0 0) rfl
  have g2 := k0.get 2 (I 0) rfl
  have HG := Lib.hid (And.intro g0 (And.intro g1 g2))
  clear get hsz k0 k1 hb hW g0 g1 g2
  go_enter Try.func22, Try.ntmps22
  go_wp2_with fail
  change bodyPost _ _ _ _ _ (((((w.alloc (codC (w.heap.size + 1 + 1 + 1 + 1))).alloc (instC 30 0 (.slice none 0 0) 7)).alloc (blkC (w.heap.size + 1) 1 1)).alloc (blkC (w.heap.size + 1) 1 1)).alloc (funC (w.heap.size + 1 + 1 + 1) 3))
  rw [← HW.out]
  have g0 := HG.out.1
  have g1 := HG.out.2.1
  have g2 := HG.out.2.2
  exact bodyPost_ret (v := codV (w.heap.size + 1 + 1 + 1 + 1)) (by simp [results, Try.results22, go_sem, g0, g1, g2]) rfl FIN.out

set_option maxRecDepth 100000 in
set_option maxHeartbeats 1600000 in
theorem little_one (bq ba : Nat) (w : World) (hq : Blk bq #[.int .u8 31, I 1, .slice (some ⟨ba, 0, none⟩) 1 1, I 0, I 0, .slice none 0 0] 50 w) (ha : Blk ba #[I 1] 3 w) :
    Calls Try.prog 22 #[.slice (some ⟨bq, 0, none⟩) 1 1] w fun e w' => Littled 2 (fun j => if j = 0 then 30 else 31) w w' e := by
  obtain ⟨i0, hi, hz0, hz1, hz2⟩ := info_parts info_inst
  have HI := Lib.hid (And.intro hi (And.intro hz0 (And.intro hz1 hz2)))
  have H := Lib.hid (And.intro hq ha)
  clear hi hz0 hz1 hz2 hq ha
  go_enter Try.func22, Try.ntmps22
  go_wp2_with (at_builtin; refine Hid.out ?_)
  unfold Hid
  obtain ⟨p2, hp2⟩ : ∃ p, p = w.heap.size := ⟨_, rfl⟩
  obtain ⟨W, hW⟩ : ∃ W, W = (w.alloc (.cells #[.slice none 0 0, .slice none 0 0, I 0] 25)).alloc (instC 30 0 (.slice none 0 0) 7) := ⟨_, rfl⟩
  have hbel : Below w.heap.size w W := by rw [hW]; exact ((Below.refl _ _).alloc (Nat.le_refl _) _).alloc (by simp) _
  have hsz : W.heap.size = w.heap.size + 2 := by rw [hW]; simp
  have kp : Blk p2 #[.slice none 0 0, .slice none 0 0, I 0] 25 W := by rw [hW, hp2]; exact (Blk.new _ _ _).alloc _
  have ki : Blk (w.heap.size + 1) #[.int .u8 30, I 0, .slice none 0 0, I 7, I 0, .slice none 0 0] 50 W := by rw [hW]; exact Blk.new' _ _ _ (by simp)
  have hq := H.out.1.below hbel H.out.1.lt
  have ha := H.out.2.below hbel H.out.2.lt
  have ho := ki.owns (base := w.heap.size) (size := 6) (n := 1) (by omega) (by unfold maxLen; omega) rfl
  change wpList _ _ _ _ _ ((w.alloc (.cells #[.slice none 0 0, .slice none 0 0, I 0] 25)).alloc (instC 30 0 (.slice none 0 0) 7))
  rw [← hW]
  have H1 := Lib.hid (And.intro hbel (And.intro hsz (And.intro kp (And.intro ha (And.intro hp2 (And.intro H.out.1.lt H.out.2.lt))))))
  refine wpList_append_own_at _ rfl _ _ 43 rfl w.heap.size 50 i0 _ 6 80 Try.underlying43 HI.out.1 HI.out.2.1 HI.out.2.2.1 HI.out.2.2.2 rfl (by decide) (.slice (some ⟨w.heap.size + 1, 0, none⟩) 1 1) 1 (instL 30 (.slice none 0 0)) rfl ho ⟨bq, 0, none⟩ 1 1 (instL 31 (.slice (some ⟨ba, 0, none⟩) 1 1)) rfl rfl ?_ (by unfold instL; simp [Value.oneCell']) (by unfold maxLen; omega) (by omega) (by omega) ?_
  · intro j u hu
    rw [add_off]
    exact hq.get j u (by rw [← Array.getElem?_toList]; exact hu)
  · intro v' w4 ho4 hg4 _ hat
    obtain ⟨g, cap, rfl⟩ : ∃ g cap, v' = .slice (some ⟨g, 0, none⟩) 2 cap := by
      rcases own_slice ho4 with ⟨_, h⟩ | ⟨g, cap, h⟩
      · exact absurd h (by decide)
      · exact ⟨g, cap, h⟩
    have hgl := ho4.lt g rfl
    have kp4 : Blk p2 #[.slice none 0 0, .slice none 0 0, I 0] 25 w4 := H1.out.2.2.1.other hg4 (by have := H1.out.2.2.2.2.1; simp [Value.ownBlock]; omega)
    have ka4 : Blk ba #[I 1] 3 w4 := H1.out.2.2.2.1.other hg4 (by have := H1.out.2.2.2.2.2.2; simp [Value.ownBlock]; omega)
    have hb4 : Below w.heap.size w w4 := H1.out.1.grown hg4 H1.out.1.size (by intro k hk; simp [Value.ownBlock] at hk; omega)
    have hs4 : W.heap.size ≤ w4.heap.size := hg4.size
    have hgp : g ≠ p2 := by
      have h1 := H1.out.2.2.2.2.1
      have h2 := H1.out.2.1
      rcases hat with h | h
      · simp [Value.ownBlock] at h; omega
      · simp [Value.ownBlock] at h; omega
    obtain ⟨bb, hbb⟩ : ∃ p, p = w4.heap.size + 1 := ⟨_, rfl⟩
    obtain ⟨bf, hbf⟩ : ∃ p, p = w4.heap.size + 1 + 1 := ⟨_, rfl⟩
    obtain ⟨W5, hW5⟩ : ∃ W5, W5 = ((w4.setCell ⟨p2, 0, none⟩ (.slice (some ⟨bf, 0, none⟩) 1 1)).setCell ⟨p2, 1, none⟩ (.slice none 0 0)).setCell ⟨p2, 2, none⟩ (I 0) := ⟨_, rfl⟩
    have hs5 : W5.heap.size = w4.heap.size := by rw [hW5]; simp [World.setCell]
    have kp5 : Blk p2 #[.slice (some ⟨bf, 0, none⟩) 1 1, .slice none 0 0, I 0] 25 W5 := by rw [hW5]; exact ((kp4.set 0 _).set 1 _).set 2 _
    have hbl : p2 ≠ ba := by have := H1.out.2.2.2.2.1; have := H1.out.2.2.2.2.2.2; omega
    have ka5 : Blk ba #[I 1] 3 W5 := by rw [hW5]; exact ((ka4.setOther (Ne.symm hbl) _ _).setOther (Ne.symm hbl) _ _).setOther (Ne.symm hbl) _ _
    have ho5 : W5.ownsRow w.heap.size 50 6 (.slice (some ⟨g, 0, none⟩) 2 cap) 2 (instL 30 (.slice none 0 0) ++ instL 31 (.slice (some ⟨ba, 0, none⟩) 1 1)) := by
      rw [hW5]
      exact own_set (own_set (own_set ho4 (by simp [Value.ownBlock]; exact Ne.symm hgp)) (by simp [Value.ownBlock]; exact Ne.symm hgp)) (by simp [Value.ownBlock]; exact Ne.symm hgp)
    have hb5 : Below w.heap.size w W5 := by
      rw [hW5]
      have h1 := H1.out.2.2.2.2.1
      exact ((hb4.setCell (p := ⟨p2, 0, none⟩) (by show w.heap.size ≤ p2; omega) _).setCell (p := ⟨p2, 1, none⟩) (by show w.heap.size ≤ p2; omega) _).setCell (p := ⟨p2, 2, none⟩) (by show w.heap.size ≤ p2; omega) _
    obtain ⟨W6, hW6⟩ : ∃ W6, W6 = ((W5.alloc (blkC g 2 cap)).alloc (blkC g 2 cap)).alloc (funC bb 3) := ⟨_, rfl⟩
    have hc6 : Below W5.heap.size W5 W6 := by rw [hW6]; exact (((Below.refl _ _).alloc (Nat.le_refl _) _).alloc (by simp) _).alloc (by simp; omega) _
    have kb6 : Blk1 bb g 2 cap W6 := by rw [hW6, hbb, ← hs5]; exact (Blk.new' _ _ _ (by simp)).alloc _
    have kf6 : Blk bf #[I 0, I 0, I 3, .slice (some ⟨bb, 0, none⟩) 1 1] 35 W6 := by rw [hW6, hbf, ← hs5]; exact Blk.new' _ _ _ (by simp)
    have hs6 : W6.heap.size = w4.heap.size + 3 := by rw [hW6]; simp; omega
    have kp6 := kp5.below hc6 kp5.lt
    have ka6 := ka5.below hc6 ka5.lt
    have ho6 := own_below ho5 hc6
    have FIN := Lib.hid (show Littled 2 (fun j => if j = 0 then 30 else 31) w W6 (.returned (codV bf)) from
      ⟨bf, bb, g, cap, rfl, ⟨kf6, kb6, fun j hj => by
        rcases Nat.lt_or_ge j 1 with h | h
        · obtain rfl : j = 0 := by omega
          refine ins_of ho6 (by omega) (av := .slice none 0 0) (fun m hm => ?_) (Or.inl ⟨rfl, rfl⟩)
          rw [Nat.zero_mul, Nat.zero_add, List.getElem?_append_left (by exact hm)]
          rfl
        · obtain rfl : j = 1 := by omega
          refine ins_of ho6 (by omega) (av := .slice (some ⟨ba, 0, none⟩) 1 1) (fun m hm => ?_) (Or.inr ⟨Or.inl rfl, ba, by have := ka6.lt; omega, rfl, ka6⟩)
          rw [List.getElem?_append_right (by show 6 ≤ _; omega), show 1 * 6 + m - (instL 30 (.slice none 0 0)).length = m by show 1 * 6 + m - 6 = m; omega]
          rfl, by omega, by omega, Nat.le_refl _, by omega⟩, hb5.trans (hc6.mono hb5.size), by have := hb4.size; omega, by have := hb4.size; omega, by omega⟩)
    have c0 := kp4.get 0 (.slice none 0 0) rfl
    have c1 := kp4.get 1 (.slice none 0 0) rfl
    have c2 := kp4.get 2 (I 0) rfl
    have f0 := kp4.free 0
    have f1 := kp4.free 1
    have f2 := kp4.free 2
    have l2 := kp4.lt
    have l3 : ¬ p2 = w4.heap.size := by omega
    have l4 : ¬ p2 = w4.heap.size + 1 := by omega
    have l5 : ¬ p2 = w4.heap.size + 1 + 1 := by omega
    have l6 : p2 < w4.heap.size + 1 := by omega
    have l7 : p2 < w4.heap.size + 1 + 1 := by omega
    have HG := Lib.hid (And.intro (kp6.get 0 (.slice (some ⟨bf, 0, none⟩) 1 1) rfl) (And.intro (kp6.get 1 (.slice none 0 0) rfl) (kp6.get 2 (I 0) rfl)))
    have HW := Lib.hid (And.intro hW5 (And.intro hW6 (And.intro hbb (And.intro hbf hp2))))
    rw [← hp2]
    clear hW hbel hsz kp ki hq ha ho ho4 hg4 hat hgl kp4 ka4 hb4 hs4 hgp hbb hbf hW5 hs5 kp5 hbl ka5 ho5 hb5 hW6 hc6 kb6 kf6 hs6 kp6 ka6 ho6 hp2
    go_wp2_with fail
    rw [← HW.out.2.2.2.1, ← HW.out.2.2.1]
    change bodyPost _ _ _ _ _ (((((((w4.setCell ⟨p2, 0, none⟩ (.slice (some ⟨bf, 0, none⟩) 1 1)).setCell ⟨p2, 1, none⟩ (.slice none 0 0)).setCell ⟨p2, 2, none⟩ (I 0)).alloc (blkC g 2 cap)).alloc (blkC g 2 cap)).alloc (funC bb 3)))
    rw [← HW.out.1, ← HW.out.2.1]
    have g0 := HG.out.1
    have g1 := HG.out.2.1
    have g2 := HG.out.2.2
    exact bodyPost_ret (v := codV bf) (by simp [results, Try.results22, go_sem, g0, g1, g2]) rfl FIN.out
end Go.Proofs.Ytiimcckajjpbjaa
