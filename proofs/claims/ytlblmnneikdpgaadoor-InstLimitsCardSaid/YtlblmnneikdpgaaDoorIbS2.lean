/-
  Bytes of one's own with marked room behind, and that they are as they were.
-/
import Derived.Test.YtlblmnneikdpgaaDoorIbM
import Derived.Test.YtlblmnneikdpgaaDoorIbD
import Derived.Test.YtlblmnneikdpgaaDoorIbG
namespace Go.Proofs.YtlblmnneikdpgaaDoor
open Go Go.RowKit Ib

set_option maxRecDepth 100000 in
set_option maxHeartbeats 1600000 in
theorem spare_any (a : Option Addr) (n c : Nat) (m : List Nat) (w : World) (hp : ByteZ w (.slice a n c) m) (hm : m.length ≤ 60000000000000) :
    Calls Tryd.prog 20 #[.slice a n c] w fun e w' => ∃ g cap, m.length + 1 ≤ cap ∧ e = .returned (.slice (some ⟨g, 0, none⟩) m.length cap) ∧
      w'.ownsRow w.heap.size 5 1 (.slice (some ⟨g, 0, none⟩) (m.length + 1) cap) (m.length + 1) (bys (m ++ [165])) ∧ Below w.heap.size w w' := by
  obtain rfl := ByteZ.len hp
  obtain ⟨L, hL⟩ : ∃ L, L = m.length := ⟨_, rfl⟩
  rw [← hL] at hp hm ⊢
  have H0 := Lib.hid (And.intro hp (And.intro hm hL))
  clear hp hm hL
  go_enter Tryd.func20, Tryd.ntmps20
  go_wp2_with (at_builtin; refine Hid.out ?_)
  unfold Hid
  have hb0 : Below w.heap.size w (w.alloc (.cells #[] 5)) := (Below.refl _ _).alloc (Nat.le_refl _) _
  refine wpList_append_b rfl (.tmp 3) (.tmp 4) rfl w.heap.size (.slice (some ⟨w.heap.size, 0, none⟩) 0 0) (.slice a L c) 0 [] rfl ((Blk.new w #[] 5).owns (Nat.le_refl _) (by decide) (by simp)) rfl m _ (H0.out.1.below byteV_stays hb0) (Or.inl (by simp [Value.ownBlock])) (by have := H0.out.2.1; have := H0.out.2.2; omega) hb0.size ?_
  intro v1 w1 hown1 hgr1 hat1
  have hb1 : Below w.heap.size w w1 := hb0.grown hgr1 hb0.size (fun k hk => by cases hk; exact Nat.le_refl _)
  have H1 := Lib.hid (And.intro hown1 hb1)
  clear hown1 hgr1 hat1 hb0 hb1
  go_wp2_with (at_builtin; refine Hid.out ?_)
  unfold Hid
  have hb1 : Below w.heap.size w (w1.alloc (.cells #[B8 165] 5)) := H1.out.2.alloc H1.out.2.size _
  refine wpList_append_b rfl (.tmp 5) (.tmp 6) rfl w.heap.size v1 (.slice (some ⟨w1.heap.size, 0, none⟩) 1 1) (0 + m.length) ([] ++ bys m) rfl (H1.out.1.alloc _) rfl [165] _ (own_bytes (base := w.heap.size) (n := 1) ((Blk.new w1 #[B8 165] 5).owns H1.out.2.size (by decide) (by simp))) (Or.inr (by simp)) (by have := H0.out.2.1; have := H0.out.2.2; simp; omega) hb1.size ?_
  intro v2 w2 hown2 hgr2 hat2
  have hb2 : Below w.heap.size w w2 := hb1.grown hgr2 hb1.size (fun k hk => (H1.out.1.lt k hk).1)
  have hown3 : w2.ownsRow w.heap.size 5 1 v2 (L + 1) (bys (m ++ [165])) := by
    rw [show bys (m ++ [165]) = [] ++ bys m ++ bys [165] from by simp, show L + 1 = 0 + m.length + [165].length from by rw [← H0.out.2.2]; simp]
    exact hown2
  have hz := own_bytes hown3
  obtain ⟨g, cap, rfl⟩ : ∃ g cap, v2 = .slice (some ⟨g, 0, none⟩) (L + 1) cap := by
    rcases own_slice hown3 with ⟨_, e2⟩ | h
    · omega
    · exact h
  have hcap := hz.cap
  have FIN := Lib.hid (And.intro hcap (And.intro hown3 hb2))
  have l0 : (0 : Int) ≤ (L : Int) := by omega
  have l1 : (L : Int) ≤ (cap : Int) := by omega
  clear hown2 hgr2 hat2 hb1 hb2 hown3 hz hcap
  go_wp2_with fail
  go_ret
  exact ⟨g, cap, FIN.out.1, rfl, FIN.out.2.1, FIN.out.2.2⟩

set_option maxRecDepth 100000 in
set_option maxHeartbeats 1600000 in
theorem kept_any (g cap : Nat) (a : Option Addr) (c : Nat) (m : List Nat) (hm : Byt m) (w : World) (h1 : ByteZ w (.slice (some ⟨g, 0, none⟩) m.length cap) m) (h2 : ByteZ w (.slice a m.length c) m) (hcap : m.length + 1 ≤ cap)
    (hcell : w.cell? ⟨g, m.length, none⟩ = some (B8 165)) (hb : m.length ≤ 60000000000000) :
    Calls Tryd.prog 22 #[.slice (some ⟨g, 0, none⟩) m.length cap, .slice a m.length c] w fun e w' => e = .returned (.bool true) ∧ w = w' := by
  have hS := sameB_any hm hm w h1 h2
  rw [decide_eq_true rfl] at hS
  obtain ⟨L, hL⟩ : ∃ L, L = m.length := ⟨_, rfl⟩
  rw [← hL] at hcap hcell hb hS ⊢
  have HS := Lib.hid hS
  have l0 : (0 : Int) ≤ (L : Int) := by omega
  have l1 : (L : Int) + 1 ≤ (cap : Int) := by omega
  have l2 : (L : Int) ≤ 60000000000000 := by omega
  clear hS h1 h2 hL hcap hb hm
  go_enter Tryd.func22, Tryd.ntmps22
  go_wp2_with fail
  refine HS.out.mono ?_
  rintro e w1 ⟨rfl, rfl⟩
  go_wp2_with fail
  go_ret
  exact ⟨rfl, rfl⟩

/-- So many, and no more. -/
theorem fits_any (aM aW : Addr) (b o : Nat) (n : Int) (w : World) (hs : Sen aM aW w) (hc : w.cell? ⟨b, o, none⟩ = some (I n)) :
    Calls Tryd.prog 46 #[.pointer (some ⟨b, o, none⟩)] w fun e w' => e = .returned (if 262144 < n then eV aM else .nilIface) ∧ w = w' := by
  have c0 := hs.cM
  clear hs
  by_cases h : 262144 < n
  · rw [if_pos h]
    go_enter Tryd.func46, Tryd.ntmps46
    go_wp2_with fail
    go_ret
    exact ⟨rfl, rfl⟩
  · rw [if_neg h]
    have h' : n ≤ 262144 := by omega
    clear h
    go_enter Tryd.func46, Tryd.ntmps46
    go_wp2_with fail
    go_ret
    exact ⟨rfl, rfl⟩
end Go.Proofs.YtlblmnneikdpgaaDoor
