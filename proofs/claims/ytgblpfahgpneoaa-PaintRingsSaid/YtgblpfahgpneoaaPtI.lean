/-
  A copy of the first pairs of a list: walked.
-/
import Derived.Test.YtgblpfahgpneoaaPtA
namespace Go.Proofs.Ytgblpfahgpneoaa
open Go Go.RowKit

theorem infoP : (Try.prog.info? 29).map (fun i => (i.zero, i.size, i.bytes)) = some (some (.agg #[I 0, I 0]), 2, 16) := by kernel_rfl
theorem encP_len (x : P2) : (encP x).length = 2 := rfl
theorem oneP (x : P2) : ∀ u ∈ encP x, u.oneCell' = true := by
  intro u hu
  simp only [encP, List.mem_cons, List.not_mem_nil, or_false] at hu
  rcases hu with rfl | rfl <;> rfl
theorem take_sl {S : Nat → Prop} {k : Nat} {α : Type} {V : (Nat → Prop) → World → List Value → α → Prop} {W : World} {a : Option Addr} {n c : Nat} {l : List α} (h : SlS S k V W (.slice a n c) l) (j : Nat) (hj : j ≤ l.length) : SlS S k V W (.slice a j c) (l.take j) := by
  obtain ⟨a', c', e, r⟩ := h
  cases e
  have hl : (l.take j).length = j := by rw [List.length_take]; omega
  refine ⟨a, c, by rw [hl], fun i hi => ?_⟩
  obtain ⟨b, vs, e1, e2, e3, e4⟩ := r i (by omega)
  exact ⟨b, vs, e1, e2, e3, by rw [List.getElem_take]; exact e4⟩
abbrev OwnP (base : Nat) (W : World) (v : Value) (l : List P2) : Prop := OwnS base 29 2 PairV W v l
def TwinT (w : World) (l : List P2) (most : Nat) (W : World) (e : Ending) : Prop := ∃ u, e = .returned u ∧ OwnP w.heap.size W u (l.take most) ∧ Below w.heap.size w W

set_option maxRecDepth 100000 in
set_option maxHeartbeats 1600000 in
theorem twins_any (most : Nat) (hmo : most ≤ 4000) (a : Option Addr) (m c : Nat) (l : List P2) (hm : m = l.length) (hc : m ≤ c) (w : World) (h : PairZ w (.slice a m c) l) :
    Calls Try.prog 8 #[.slice a m c, I (most : Int)] w fun e w' => TwinT w l most w' e := by
  obtain ⟨i0, p1, p2, p3, p4⟩ := info_parts infoP
  have HI := Lib.hid (And.intro p1 (And.intro p2 (And.intro p3 p4)))
  clear p1 p2 p3 p4
  obtain ⟨r, hr⟩ : ∃ r, r = min m most := ⟨_, rfl⟩
  have htk : l.take r = l.take most := by
    rw [hr, hm]
    by_cases e : l.length ≤ most
    · rw [Nat.min_eq_left e, List.take_length, List.take_of_length_le e]
    · rw [Nat.min_eq_right (by omega)]
  have hz := take_sl h r (by omega)
  rw [htk] at hz
  have hlen : (l.take most).length = r := by rw [List.length_take]; omega
  have HH := Lib.hid (And.intro hz (And.intro hlen (show r ≤ 4000 by omega)))
  have e1 : (r : Int) ≤ (c : Int) := by omega
  have e0 : (0 : Int) ≤ (r : Int) := by omega
  have hmin : m ≤ most ∧ r = m ∨ most < m ∧ r = most := by omega
  clear h hm hmo htk hz hlen hr
  rcases hmin with ⟨h1, rfl⟩ | ⟨h1, rfl⟩
  · have h2 : (r : Int) ≤ (most : Int) := by omega
    have h3 : ¬ (most : Int) < (r : Int) := by omega
    go_enter Try.func8, Try.ntmps8
    go_wp2_with (first | (at_builtin; refine Hid.out ?_) | go_in)
    unfold Hid
    refine wpList_plain rfl fun _ hK => wp_clone (enc := encP) (.tmp 5) (.tmp 11) 22 rfl 29 i0 (.agg #[I 0, I 0]) 2 16 Try.underlying22 HI.out.1 HI.out.2.1 HI.out.2.2.1 HI.out.2.2.2 rfl (by decide) encP_len oneP w.heap.size rfl (heap_alloc_new w _) (.slice a r c) rfl _ (LtW w) (HH.out.1.keep pairV_stays (fun k hk => heap_alloc_old w _ hk) (fun _ h => h)) (by rw [HH.out.2.1]; have := HH.out.2.2; omega) (by decide) ?_
    intro u w' how hgr hat
    have FIN := Lib.hid (show TwinT w l most w' (.returned u) from ⟨u, rfl, how, ((Below.refl w.heap.size w).alloc (Nat.le_refl _) _).grown hgr (by simp) (fun k hk => by cases hk; exact Nat.le_refl _)⟩)
    refine hK _ _ ?_
    clear how hgr hat hK
    go_wp2_with fail
    go_ret
    exact FIN.out
  · have h2 : (r : Int) ≤ (m : Int) := by omega
    have h3 : (r : Int) < (m : Int) := by omega
    go_enter Try.func8, Try.ntmps8
    go_wp2_with (first | (at_builtin; refine Hid.out ?_) | go_in)
    unfold Hid
    refine wpList_plain rfl fun _ hK => wp_clone (enc := encP) (.tmp 5) (.tmp 11) 22 rfl 29 i0 (.agg #[I 0, I 0]) 2 16 Try.underlying22 HI.out.1 HI.out.2.1 HI.out.2.2.1 HI.out.2.2.2 rfl (by decide) encP_len oneP w.heap.size rfl (heap_alloc_new w _) (.slice a r c) rfl _ (LtW w) (HH.out.1.keep pairV_stays (fun k hk => heap_alloc_old w _ hk) (fun _ h => h)) (by rw [HH.out.2.1]; have := HH.out.2.2; omega) (by decide) ?_
    intro u w' how hgr hat
    have FIN := Lib.hid (show TwinT w l r w' (.returned u) from ⟨u, rfl, how, ((Below.refl w.heap.size w).alloc (Nat.le_refl _) _).grown hgr (by simp) (fun k hk => by cases hk; exact Nat.le_refl _)⟩)
    refine hK _ _ ?_
    clear how hgr hat hK
    go_wp2_with fail
    go_ret
    exact FIN.out
end Go.Proofs.Ytgblpfahgpneoaa
