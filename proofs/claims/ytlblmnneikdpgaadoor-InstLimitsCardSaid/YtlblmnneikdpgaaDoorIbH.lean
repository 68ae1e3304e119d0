/-
  The document's examples of layer 20.
-/
import Derived.Test.YtlblmnneikdpgaaDoorIbC
import Derived.Test.YtlblmnneikdpgaaDoorIbF
import Derived.Test.YtlblmnneikdpgaaDoorIbG
import Derived.KernelRfl
namespace Go.Proofs.YtlblmnneikdpgaaDoor
open Go Go.RowKit Ib

def w1E : Wd := ⟨30, 3, 0, 0, -2⟩
def w2E : Wd := ⟨30, 3, 0, 0, 128⟩
def w3E : Wd := ⟨45, 0, 0, 0, 300⟩
theorem e1E : encW w1E = [30, 3, 1, 254] := by decide
theorem e2E : encW w2E = [30, 3, 2, 128, 0] := by decide
theorem e3E : encW w3E = [45, 2, 44, 1] := by decide
theorem f1E : FormW w1E := ⟨1, true, by decide, by unfold RegOk w1E; decide, by decide, by decide⟩
theorem f2E : FormW w2E := ⟨1, true, by decide, by unfold RegOk w2E; decide, by decide, by decide⟩
theorem f3E : FormW w3E := ⟨0, true, by decide, by unfold RegOk w3E; decide, by decide, by decide⟩
theorem byt_of {l : List Nat} (h : l.all (fun x => decide (x < 256)) = true) : Byt l := fun x hx => by simpa using List.all_eq_true.1 h x hx
theorem n4E (x : Wd) : ¬ PreW [30, 3, 2, 5, 0] x := fun hp => by
  have h := (pre_num (op := 30) (n := 1) (rs := [3]) (q := [2, 5, 0]) (l := [5, 0]) (q' := []) (m := 5) (by decide) rfl ⟨rfl, by decide⟩ (byt_of (by decide)) (by decide)).2 x hp
  exact absurd h.2 (by decide)
theorem own_byt {l : List Nat} {w : World} {base : Nat} {v : Value} {n : Nat} (_ : w.ownsRow base 5 1 v n (bys l)) : True := trivial
theorem blk_bytes {b : Nat} {l : List Nat} {W : World} {n : Nat} (hn : n = l.length) (h : Blk b (bys l).toArray 5 W) : ByteZ W (.slice (some ⟨b, 0, none⟩) n n) l := by
  subst hn
  refine ⟨_, _, rfl, Nat.le_refl _, fun i hi => ⟨⟨b, 0, none⟩, [B8 l[i]], rfl, h.lt, ?_, rfl⟩⟩
  intro k u hk
  have hk0 : k = 0 := by
    rcases k with _ | k
    · rfl
    · simp at hk
  subst hk0
  simp at hk
  subst hk
  have e : ((⟨b, 0, none⟩ : Addr).add (i * 1)).add 0 = ⟨b, i, none⟩ := by simp [Addr.add]; try omega
  rw [e]
  exact h.get i _ (by simp [hi])
def LawT (w W : World) (e : Ending) : Prop := e = .returned (.bool true) ∧ Below w.heap.size w W
set_option maxRecDepth 100000 in
set_option maxHeartbeats 3200000 in
theorem awake_any (aM aW : Addr) (w : World) (hs : Sen aM aW w) : Calls Tryd.prog 11 #[] w fun e w' => LawT w w' e := by
  have HC1 := Lib.hid (encode_any aM aW w1E ⟨by decide, by decide, by decide, by decide, by unfold In64; decide⟩ w hs)
  have H0 := Lib.hid hs
  clear hs
  go_enter Tryd.func11, Tryd.ntmps11
  go_wp2_with fail
  refine HC1.out.mono ?_
  rintro e w1 ⟨hb1, (⟨_, v1, rfl, ho1⟩ | ⟨hno, _⟩)⟩
  case inr => exact absurd f1E hno
  have hs1 := H0.out.below hb1 (fun k hk => H0.out.lts k hk)
  have HC2 := Lib.hid (encode_any aM aW w2E ⟨by decide, by decide, by decide, by decide, by unfold In64; decide⟩ w1 hs1)
  have H1 := Lib.hid (And.intro hb1 (And.intro (own_bytes ho1) hs1))
  clear hb1 ho1 hs1
  go_wp2_with fail
  refine HC2.out.mono ?_
  rintro e w2 ⟨hb2, (⟨_, v2, rfl, ho2⟩ | ⟨hno, _⟩)⟩
  case inr => exact absurd f2E hno
  have hs2 := H1.out.2.2.below hb2 (fun k hk => H1.out.2.2.lts k hk)
  have HC3 := Lib.hid (encode_any aM aW w3E ⟨by decide, by decide, by decide, by decide, by unfold In64; decide⟩ w2 hs2)
  have H2 := Lib.hid (And.intro (below_tr H1.out.1 hb2) (And.intro (H1.out.2.1.below byteV_stays hb2) (And.intro (own_bytes ho2) hs2)))
  clear hb2 ho2 hs2
  go_wp2_with fail
  refine HC3.out.mono ?_
  rintro e w3 ⟨hb3, (⟨_, v3, rfl, ho3⟩ | ⟨hno, _⟩)⟩
  case inr => exact absurd f3E hno
  obtain ⟨W3, hW3⟩ : ∃ W, W = w3.alloc (.cells #[B8 30, B8 3, B8 2, B8 5, B8 0] 5) := ⟨_, rfl⟩
  obtain ⟨b3, hb3'⟩ : ∃ b, b = w3.heap.size := ⟨_, rfl⟩
  have hB3 : Below w2.heap.size w2 W3 := by rw [hW3]; exact hb3.alloc hb3.size _
  have hs3 := H2.out.2.2.2.below hB3 (fun k hk => H2.out.2.2.2.lts k hk)
  have k3 : Blk b3 (bys [30, 3, 2, 5, 0]).toArray 5 W3 := by rw [hW3, hb3']; exact Blk.new _ _ _
  have HC4 := Lib.hid (decode_any aM aW (some ⟨b3, 0, none⟩) 5 5 [30, 3, 2, 5, 0] (byt_of (by decide)) (by decide) W3 (blk_bytes rfl k3) hs3)
  have H3 := Lib.hid (And.intro (below_tr H2.out.1 hB3) (And.intro (H2.out.2.1.below byteV_stays hB3) (And.intro (H2.out.2.2.1.below byteV_stays hB3) ((own_bytes ho3).below byteV_stays (show Below w3.heap.size w3 W3 by rw [hW3]; exact (Below.refl _ _).alloc (Nat.le_refl _) _)))))
  have HW3 := Lib.hid (And.intro hW3 hb3')
  clear hb3 ho3 hW3 hb3' hB3 hs3 k3
  go_wp2_with fail
  rw [← HW3.out.2]
  change Calls _ _ _ (w3.alloc (.cells #[B8 30, B8 3, B8 2, B8 5, B8 0] 5)) _
  rw [← HW3.out.1]
  refine HC4.out.mono ?_
  rintro e w4 ⟨hb4, (⟨x, hx, _⟩ | ⟨_, rfl⟩)⟩
  case inl => exact absurd hx (n4E x)
  obtain ⟨W5, hW5⟩ : ∃ W, W = (w4.alloc (.cells zC 23)).alloc (.cells #[B8 30, B8 3, B8 1, B8 254] 5) := ⟨_, rfl⟩
  obtain ⟨b5, hb5⟩ : ∃ b, b = w4.heap.size + 1 := ⟨_, rfl⟩
  have hB5 : Below W3.heap.size W3 W5 := by rw [hW5]; exact (hb4.alloc hb4.size _).alloc (by have := hb4.size; simp; omega) _
  have k5 : Blk b5 (bys [30, 3, 1, 254]).toArray 5 W5 := by rw [hW5, hb5]; exact Blk.new' _ _ _ (by simp)
  have H5 := Lib.hid (And.intro (below_tr H3.out.1 hB5) (And.intro (H3.out.2.1.below byteV_stays hB5) (And.intro (H3.out.2.2.1.below byteV_stays hB5) (H3.out.2.2.2.below byteV_stays hB5))))
  have HS1 := Lib.hid (sameB_any (l := encW w1E) (m := [30, 3, 1, 254]) (by rw [e1E]; exact byt_of (by decide)) (byt_of (by decide)) W5 H5.out.2.1 (blk_bytes rfl k5))
  have HW5 := Lib.hid (And.intro hW5 hb5)
  clear hb4 hW5 hb5 hB5 k5
  go_wp2_with fail
  rw [← HW5.out.2]
  change Calls _ _ _ ((w4.alloc (.cells zC 23)).alloc (.cells #[B8 30, B8 3, B8 1, B8 254] 5)) _
  rw [← HW5.out.1]
  refine HS1.out.mono ?_
  rintro e w5 ⟨rfl, rfl⟩
  rw [decide_eq_true e1E]
  obtain ⟨W6, hW6⟩ : ∃ W, W = W5.alloc (.cells #[B8 30, B8 3, B8 2, B8 128, B8 0] 5) := ⟨_, rfl⟩
  obtain ⟨b6, hb6⟩ : ∃ b, b = W5.heap.size := ⟨_, rfl⟩
  have hB6 : Below W5.heap.size W5 W6 := by rw [hW6]; exact (Below.refl _ _).alloc (Nat.le_refl _) _
  have k6 : Blk b6 (bys [30, 3, 2, 128, 0]).toArray 5 W6 := by rw [hW6, hb6]; exact Blk.new _ _ _
  have H6 := Lib.hid (And.intro (below_tr H5.out.1 hB6) (And.intro (H5.out.2.2.1.below byteV_stays hB6) (H5.out.2.2.2.below byteV_stays hB6)))
  have HS2 := Lib.hid (sameB_any (l := encW w2E) (m := [30, 3, 2, 128, 0]) (by rw [e2E]; exact byt_of (by decide)) (byt_of (by decide)) W6 H6.out.2.1 (blk_bytes rfl k6))
  have HW6 := Lib.hid (And.intro hW6 hb6)
  clear hW6 hb6 hB6 k6
  go_wp2_with fail
  rw [← HW6.out.2]
  change Calls _ _ _ (W5.alloc (.cells #[B8 30, B8 3, B8 2, B8 128, B8 0] 5)) _
  rw [← HW6.out.1]
  refine HS2.out.mono ?_
  rintro e w6 ⟨rfl, rfl⟩
  rw [decide_eq_true e2E]
  obtain ⟨W7, hW7⟩ : ∃ W, W = W6.alloc (.cells #[B8 45, B8 2, B8 44, B8 1] 5) := ⟨_, rfl⟩
  obtain ⟨b7, hb7⟩ : ∃ b, b = W6.heap.size := ⟨_, rfl⟩
  have hB7 : Below W6.heap.size W6 W7 := by rw [hW7]; exact (Below.refl _ _).alloc (Nat.le_refl _) _
  have k7 : Blk b7 (bys [45, 2, 44, 1]).toArray 5 W7 := by rw [hW7, hb7]; exact Blk.new _ _ _
  have FIN := Lib.hid (show LawT w W7 (.returned (.bool true)) from ⟨rfl, below_tr H6.out.1 hB7⟩)
  have HS3 := Lib.hid (sameB_any (l := encW w3E) (m := [45, 2, 44, 1]) (by rw [e3E]; exact byt_of (by decide)) (byt_of (by decide)) W7 (H6.out.2.2.below byteV_stays hB7) (blk_bytes rfl k7))
  have HW7 := Lib.hid (And.intro hW7 hb7)
  clear hW7 hb7 hB7 k7
  go_wp2_with fail
  rw [← HW7.out.2]
  change Calls _ _ _ (W6.alloc (.cells #[B8 45, B8 2, B8 44, B8 1] 5)) _
  rw [← HW7.out.1]
  refine HS3.out.mono ?_
  rintro e w7 ⟨rfl, rfl⟩
  rw [decide_eq_true e3E]
  go_wp2_with fail
  go_ret
  exact FIN.out
end Go.Proofs.YtlblmnneikdpgaaDoor
