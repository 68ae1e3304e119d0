/-
  Every instruction has its bytes, or isn't right; they are read again, whatever stands behind: walked.
-/
import Derived.Test.YtlblmnneikdpgaaDoorIbM
import Derived.Test.YtlblmnneikdpgaaDoorIbD
import Derived.Deep.DeepCutAuto
import Derived.Deep.CutRange
namespace Go.Proofs.YtlblmnneikdpgaaDoor
open Go Go.RowKit Ib

abbrev wB (x : Wd) : Array Value := #[B8 x.op, B8 x.a, B8 x.b, B8 x.c, I x.imm]
/-- An instruction's five cells. -/
abbrev Fv (b : Nat) (x : Wd) (w : World) : Prop := w.cell? ⟨b, 0, none⟩ = some (B8 x.op) ∧ w.cell? ⟨b, 1, none⟩ = some (B8 x.a) ∧ w.cell? ⟨b, 2, none⟩ = some (B8 x.b) ∧ w.cell? ⟨b, 3, none⟩ = some (B8 x.c) ∧ w.cell? ⟨b, 4, none⟩ = some (I x.imm)
theorem fv_of {b : Nat} {x : Wd} {w : World} (h : Blk b (wB x) 23 w) : Fv b x w := ⟨h.get 0 _ rfl, h.get 1 _ rfl, h.get 2 _ rfl, h.get 3 _ rfl, h.get 4 _ rfl⟩

abbrev zR : Array Value := #[.int .u8 0, .int .u8 0, .int .u8 0, .int .u8 0, .int .i64 0]
theorem enc_a {w6 W : World} {b : Nat} (hW : Below w6.heap.size w6 W) (hb : w6.heap.size ≤ b) (kb : Blk b #[] 5 W) {u : Value} {l : List Nat} (ho : ByteZ w6 u l) :
    W.ownsRow w6.heap.size 5 1 (.slice (some ⟨b, 0, none⟩) 0 0) 0 [] ∧ ByteZ W u l ∧ w6.heap.size ≤ W.heap.size ∧ ∀ w7, W.grownBy w7 (Value.slice (some ⟨b, 0, none⟩) 0 0).ownBlock → Below w6.heap.size w6 w7 :=
  ⟨kb.owns hb (by decide) (by simp), ho.below byteV_stays hW, hW.size, fun w7 hg => hW.grown hg hW.size (fun k hk => by cases hk; exact hb)⟩
theorem enc_b {w6 w7 W : World} (h67 : Below w6.heap.size w6 w7) (h7W : Below w7.heap.size w7 W) {v : Value} {n : Nat} {xs : List Value} (hown : w7.ownsRow w6.heap.size 5 1 v n xs) {u : Value} {l : List Nat} (ho : ByteZ w6 u l) :
    W.ownsRow w6.heap.size 5 1 v n xs ∧ ByteZ W u l ∧ w6.heap.size ≤ W.heap.size ∧ ∀ w8, W.grownBy w8 v.ownBlock → Below w6.heap.size w6 w8 :=
  ⟨own_below hown h7W, ho.below byteV_stays (below_tr h67 h7W), (below_tr h67 h7W).size, fun w8 hg => (below_tr h67 h7W).grown hg (below_tr h67 h7W).size (fun k hk => (hown.lt k hk).1)⟩
theorem und {w w' : World} (h : Below w.drew.heap.size w.drew w') : Below w.heap.size w w' := ⟨h.os, h.tape, h.output, h.size, h.block⟩
set_option maxRecDepth 100000 in
set_option maxHeartbeats 12800000 in
theorem instEncodes_body (aM aW : Addr) (x : Wd) (hx : WfW x) (a : Option Addr) (n c : Nat) (m : List Nat) (hm : Byt m) (hml : m.length ≤ 9223372036854775807) (w : World) (hp : ByteZ w (.slice a n c) m) (hs : Sen aM aW w) :
    Calls Tryd.prog 3 #[wV x, .slice a n c] w fun e w' => LawT w w' e := by
  obtain ⟨xo, xa, xb, xc, xi⟩ := x
  obtain ⟨W1, hW1⟩ : ∃ W, W = w.alloc (.cells (wB ⟨xo, xa, xb, xc, xi⟩) 23) := ⟨_, rfl⟩
  obtain ⟨b1, hb1⟩ : ∃ b, b = w.heap.size := ⟨_, rfl⟩
  have hB1 : Below w.heap.size w W1 := by rw [hW1]; exact (Below.refl _ _).alloc (Nat.le_refl _) _
  have k1 : Blk b1 (wB ⟨xo, xa, xb, xc, xi⟩) 23 W1 := by rw [hW1, hb1]; exact Blk.new _ _ _
  have hs1 := hs.below hB1 (fun k hk => hs.lts k hk)
  have hp1 := hp.below byteV_stays hB1
  have HA := Lib.hid (awake_any aM aW W1 hs1)
  have H1 := Lib.hid (And.intro hB1 (And.intro k1 (And.intro hs1 (And.intro hp1 (And.intro hx (And.intro hm hml))))))
  have HW1 := Lib.hid (And.intro hW1 hb1)
  clear hx hs hp hm hml hW1 hb1 hB1 k1 hs1 hp1
  go_enter Tryd.func3, Tryd.ntmps3
  go_upto_region 1 with (fail)
  rw [← HW1.out.2]
  change Code.wp _ _ _ _ (w.alloc (.cells (wB ⟨xo, xa, xb, xc, xi⟩) 23))
  rw [← HW1.out.1]
  go_wp2_with fail
  refine HA.out.mono ?_
  rintro e w2 ⟨rfl, hb2⟩
  have k2 := H1.out.2.1.below hb2 H1.out.2.1.lt
  have hs2 := H1.out.2.2.1.below hb2 (fun k hk => H1.out.2.2.1.lts k hk)
  have hp2 := H1.out.2.2.2.1.below byteV_stays hb2
  have HE1 := Lib.hid (encode_any aM aW ⟨xo, xa, xb, xc, xi⟩ H1.out.2.2.2.2.1 w2 hs2)
  obtain ⟨x0, x1, x2, x3, x4⟩ := fv_of k2
  have H2 := Lib.hid (And.intro (below_tr H1.out.1 hb2) (And.intro k2 (And.intro hs2 hp2)))
  clear hb2 k2 hs2 hp2 HA
  go_wp2_with fail
  refine HE1.out.mono ?_
  rintro e w3 ⟨hb3, hor1⟩
  have k3 := H2.out.2.1.below hb3 H2.out.2.1.lt
  have hs3 := H2.out.2.2.1.below hb3 (fun k hk => H2.out.2.2.1.lts k hk)
  have hp3 := H2.out.2.2.2.below byteV_stays hb3
  have HF0 := Lib.hid (fun W => form_any ⟨xo, xa, xb, xc, xi⟩ H1.out.2.2.2.2.1 W)
  have HF1 := Lib.hid (fun W => refForm_any ⟨xo, xa, xb, xc, xi⟩ H1.out.2.2.2.2.1 W)
  have HT0 := Lib.hid (fun W => traps_any xo W)
  have HT1 := Lib.hid (fun W => refTraps_any xo W)
  have hS3 := fv_of k3
  have H3 := Lib.hid (And.intro (below_tr H2.out.1 hb3) (And.intro k3 (And.intro hs3 hp3)))
  clear hb3 k3 hs3 hp3 HE1 x0 x1 x2 x3 x4
  rcases hor1 with ⟨hfx, v1, rfl, ho1⟩ | ⟨hfx, rfl⟩
  · have HO := Lib.hid (And.intro hfx (own_bytes ho1))
    clear hfx ho1
    go_upto_region 4 with (fail)
    go_region_held3 (fun w' => w'.cell? ⟨b1, 0, none⟩ = some (B8 xo) ∧ w'.cell? ⟨b1, 1, none⟩ = some (B8 xa) ∧ w'.cell? ⟨b1, 2, none⟩ = some (B8 xb) ∧ w'.cell? ⟨b1, 3, none⟩ = some (B8 xc) ∧ w'.cell? ⟨b1, 4, none⟩ = some (I xi)) (first | exact hS5 | exact hS4 | exact hS3 | go_keep) (first
      | (go_at_call 13
         refine (HF0.out _).mono ?_
         rintro e w4 ⟨f1, rfl, hf1, hb4⟩
         obtain rfl : f1 = true := hf1.2 HO.out.1
         have H4 := Lib.hid (show Below w3.heap.size w3 w4 from by first | exact hb4 | exact und hb4)
         have hS4 := fv_of (H3.out.2.1.below H4.out H3.out.2.1.lt)
         clear hf1 hb4 hS3)
      | (go_at_call 14
         refine (HF1.out _).mono ?_
         rintro e w5 ⟨f2, rfl, hf2, hb5⟩
         obtain rfl : f2 = true := hf2.2 HO.out.1
         have H5 := Lib.hid (below_tr H4.out (show Below w4.heap.size w4 w5 from by first | exact hb5 | exact und hb5))
         have hS5 := fv_of (H3.out.2.1.below H5.out H3.out.2.1.lt)
         clear hf2 hb5 hS4)
      | (go_at_call 15
         refine (HT0.out _).mono ?_
         rintro e w6 ⟨rfl, rfl⟩)
      | (go_at_call 16
         refine (HT1.out _).mono ?_
         rintro e w7 ⟨rfl, rfl⟩))
    obtain ⟨x0, x1, x2, x3, x4⟩ := hS5
    have HF2 := Lib.hid (HF1.out w5)
    clear HF0 HF1 HT0 HT1
    go_wp2_with fail
    refine HF2.out.mono ?_
    rintro e w6 ⟨f3, rfl, hf3, hb6⟩
    obtain rfl : f3 = true := hf3.2 HO.out.1
    have hb36 := below_tr H5.out hb6
    have k6 := H3.out.2.1.below hb36 H3.out.2.1.lt
    have hs6 := H3.out.2.2.1.below hb36 (fun k hk => H3.out.2.2.1.lts k hk)
    have hp6 := H3.out.2.2.2.below byteV_stays hb36
    have ho6 := HO.out.2.below byteV_stays hb36
    have hF := HO.out.1
    obtain ⟨L, hL⟩ : ∃ L, L = (encW ⟨xo, xa, xb, xc, xi⟩).length := ⟨_, rfl⟩
    have hL20 : L ≤ 20 := by rw [hL]; exact encW_len H1.out.2.2.2.2.1
    obtain ⟨a1, c1, rfl⟩ := ho6.size
    rw [← hL] at ho6 ⊢
    obtain rfl := ByteZ.len hp6
    obtain ⟨N, hN⟩ : ∃ N, N = min m.length 50 := ⟨_, rfl⟩
    have hc6 := hp6.cap
    have hn0 : (0 : Int) ≤ (N : Int) := by omega
    have hn1 : (N : Int) ≤ (m.length : Int) := by omega
    have hn2 : (N : Int) ≤ (c : Int) := by omega
    have hmin : min (m.length : Int) 50 = (N : Int) := by omega
    obtain ⟨E, hE⟩ : ∃ E, E = encW ⟨xo, xa, xb, xc, xi⟩ := ⟨_, rfl⟩
    obtain ⟨T, hT⟩ : ∃ T, T = m.take N := ⟨_, rfl⟩
    obtain ⟨q, hq⟩ : ∃ q, q = E ++ T := ⟨_, rfl⟩
    have HQ := Lib.hid hq
    clear hq
    rw [← hE] at ho6 hL
    have hp7 := ByteZ.take hp6 N (by omega)
    rw [← hT] at hp7
    have H6 := Lib.hid (And.intro (below_tr H3.out.1 hb36) (And.intro k6 (And.intro hs6 (And.intro hp7 (And.intro ho6 hF)))))
    have HE := Lib.hid (show E = encW ⟨xo, xa, xb, xc, xi⟩ ∧ T = m.take N ∧ E.length = L ∧ L ≤ 20 ∧ T.length ≤ 50 ∧ Byt q ∧ PreW q ⟨xo, xa, xb, xc, xi⟩ from ⟨hE, hT, hL.symm, hL20, by rw [hT, List.length_take]; omega, (fun z hz => by
      rw [HQ.out] at hz
      rcases List.mem_append.1 hz with h | h
      · rw [hE] at h; exact encW_byt H1.out.2.2.2.2.1 z h
      · rw [hT] at h; exact H1.out.2.2.2.2.2.1 z (List.mem_of_mem_take h)), ⟨hF, by rw [HQ.out, hE]; exact List.prefix_append _ _⟩⟩)
    have SA1 := Lib.hid (And.intro True.intro (enc_a (W := (w6.alloc (Obj.cells #[] 5)).drew) (b := w6.heap.size) (below_drewN ((Below.refl _ _).alloc (Nat.le_refl _) _) 1) (Nat.le_refl _) (Blk.new w6 #[] 5) ho6))
    have SA2 := Lib.hid (And.intro (show Blk w6.heap.size zR 23 ((w6.alloc (Obj.cells zR 23)).alloc (Obj.cells #[] 5)).drew from (Blk.new w6 zR 23).alloc _) (enc_a (W := ((w6.alloc (Obj.cells zR 23)).alloc (Obj.cells #[] 5)).drew) (b := w6.heap.size + 1) (below_drewN (((Below.refl _ _).alloc (Nat.le_refl _) _).alloc (by simp) _) 1) (Nat.le_succ _) (Blk.new' _ _ _ (by simp)) ho6))
    have SA3 := Lib.hid (And.intro (show Blk (w6.heap.size + 1) zR 23 ((w6.alloc (Obj.cells #[] 5)).alloc (Obj.cells zR 23)).drew from Blk.new' _ _ _ (by simp)) (enc_a (W := ((w6.alloc (Obj.cells #[] 5)).alloc (Obj.cells zR 23)).drew) (b := w6.heap.size) (below_drewN (((Below.refl _ _).alloc (Nat.le_refl _) _).alloc (by simp) _) 1) (Nat.le_refl _) ((Blk.new w6 #[] 5).alloc _) ho6))
    have HN := Lib.hid hN
    clear hf3 hb6 hb36 k6 hs6 hp6 hp7 ho6 hF hL hL20 hN hc6 hE hT HF2 HO H5 H4 H3 x0 x1 x2 x3 x4
    go_upto_region 8 with (fail)
    try dsimp only
    go_cut [7, 8, 9] from 41 to 54 (fun u v y W => (∃ z, u = .pointer (some ⟨z, 0, none⟩) ∧ Blk z (wB ⟨xo, xa, xb, xc, xi⟩) 23 W) ∧ v = I (L : Int) ∧ y = I 0 ∧ Below w6.heap.size w6 W)
    case first =>
      go_region_held3 (fun _ => True) (exact trivial) (first
      | (with_reducible show if _ then Oper.wp _ _ _ ((w6.alloc (Obj.cells #[] 5)).drew) _ _ else _
         refine step_append_b rfl (.tmp 42) (.tmp 43) rfl w6.heap.size (.slice (some ⟨w6.heap.size, 0, none⟩) 0 0) (.slice a1 L c1) 0 [] rfl SA1.out.2.1 rfl E _ SA1.out.2.2.1 (Or.inl (by simp [Value.ownBlock])) (by have := HE.out.2.2.1; have := HE.out.2.2.2.1; omega) SA1.out.2.2.2.1 ?_
         intro v7 w7 hown7 hgr7 hat7
         have G7 := Lib.hid (And.intro hown7 (And.intro (SA1.out.2.2.2.2 _ hgr7) (show v7.ownBlock ≠ none from by rcases hat7 with h | h <;> rw [h] <;> simp [Value.ownBlock])))
         clear hown7 hgr7 hat7 SA1 SA2 SA3)
      | (with_reducible show if _ then Oper.wp _ _ _ (((w6.alloc (Obj.cells zR 23)).alloc (Obj.cells #[] 5)).drew) _ _ else _
         refine step_append_b rfl (.tmp 42) (.tmp 43) rfl w6.heap.size (.slice (some ⟨w6.heap.size + 1, 0, none⟩) 0 0) (.slice a1 L c1) 0 [] rfl SA2.out.2.1 rfl E _ SA2.out.2.2.1 (Or.inl (by simp [Value.ownBlock])) (by have := HE.out.2.2.1; have := HE.out.2.2.2.1; omega) SA2.out.2.2.2.1 ?_
         intro v7 w7 hown7 hgr7 hat7
         have G7 := Lib.hid (And.intro hown7 (And.intro (SA2.out.2.2.2.2 _ hgr7) (show v7.ownBlock ≠ none from by rcases hat7 with h | h <;> rw [h] <;> simp [Value.ownBlock])))
         have Z7 := Lib.hid (show Blk (w6.heap.size) zR 23 w7 ∧ some (w6.heap.size) ≠ v7.ownBlock ∧ w6.heap.size ≤ w6.heap.size from ⟨SA2.out.1.other hgr7 (by simp [Value.ownBlock]), by (have h9 := SA2.out.1.lt; rcases hat7 with h | h <;> rw [h] <;> simp [Value.ownBlock] <;> (try simp at h9) <;> omega), by omega⟩)
         clear hown7 hgr7 hat7 SA1 SA2 SA3)
      | (with_reducible show if _ then Oper.wp _ _ _ (((w6.alloc (Obj.cells #[] 5)).alloc (Obj.cells zR 23)).drew) _ _ else _
         refine step_append_b rfl (.tmp 42) (.tmp 43) rfl w6.heap.size (.slice (some ⟨w6.heap.size, 0, none⟩) 0 0) (.slice a1 L c1) 0 [] rfl SA3.out.2.1 rfl E _ SA3.out.2.2.1 (Or.inl (by simp [Value.ownBlock])) (by have := HE.out.2.2.1; have := HE.out.2.2.2.1; omega) SA3.out.2.2.2.1 ?_
         intro v7 w7 hown7 hgr7 hat7
         have G7 := Lib.hid (And.intro hown7 (And.intro (SA3.out.2.2.2.2 _ hgr7) (show v7.ownBlock ≠ none from by rcases hat7 with h | h <;> rw [h] <;> simp [Value.ownBlock])))
         have Z7 := Lib.hid (show Blk (w6.heap.size + 1) zR 23 w7 ∧ some (w6.heap.size + 1) ≠ v7.ownBlock ∧ w6.heap.size ≤ w6.heap.size + 1 from ⟨SA3.out.1.other hgr7 (by simp [Value.ownBlock]), by (have h9 := SA3.out.1.lt; rcases hat7 with h | h <;> rw [h] <;> simp [Value.ownBlock] <;> (try simp at h9) <;> omega), by omega⟩)
         clear hown7 hgr7 hat7 SA1 SA2 SA3)
      | (with_reducible show if _ then Oper.wp _ _ _ (w7) _ _ else _
         have HB8 := Lib.hid (enc_b (W := w7) G7.out.2.1 (Below.refl _ _) G7.out.1 H6.out.2.2.2.1)
         have Z7' := Z7
         refine step_append_b rfl (.tmp 44) (.tmp 49) rfl w6.heap.size v7 (.slice a N c) (0 + E.length) ([] ++ bys E) rfl HB8.out.1 rfl T _ HB8.out.2.1 (Or.inl G7.out.2.2) (by have := HE.out.2.2.1; have := HE.out.2.2.2.1; have := HE.out.2.2.2.2.1; omega) HB8.out.2.2.1 ?_
         intro v8 w8 hown8 hgr8 hat8
         have hown8' : w8.ownsRow w6.heap.size 5 1 v8 q.length (bys q) := by
           rw [HQ.out, show bys (E ++ T) = [] ++ bys E ++ bys T from by simp, show (E ++ T).length = 0 + E.length + T.length from by simp]
           exact hown8
         have hby8 := own_bytes hown8'
         have Z8 := Lib.hid (And.intro (Z7.out.1.other hgr8 Z7.out.2.1) Z7.out.2.2)
         have G8 := Lib.hid (HB8.out.2.2.2 _ hgr8)
         obtain ⟨a8, c8, rfl⟩ := hby8.size
         have Y8 := Lib.hid hby8
         clear hown8 hown8' hby8 hgr8 hat8 HB8 G7 Z7 Z7')
      | (with_reducible show if _ then Oper.wp _ _ _ ((w7.alloc (Obj.cells zR 23))) _ _ else _
         have HB8 := Lib.hid (enc_b (W := (w7.alloc (Obj.cells zR 23))) G7.out.2.1 ((Below.refl _ _).alloc (Nat.le_refl _) _) G7.out.1 H6.out.2.2.2.1)
         refine step_append_b rfl (.tmp 44) (.tmp 49) rfl w6.heap.size v7 (.slice a N c) (0 + E.length) ([] ++ bys E) rfl HB8.out.1 rfl T _ HB8.out.2.1 (Or.inl G7.out.2.2) (by have := HE.out.2.2.1; have := HE.out.2.2.2.1; have := HE.out.2.2.2.2.1; omega) HB8.out.2.2.1 ?_
         intro v8 w8 hown8 hgr8 hat8
         have hown8' : w8.ownsRow w6.heap.size 5 1 v8 q.length (bys q) := by
           rw [HQ.out, show bys (E ++ T) = [] ++ bys E ++ bys T from by simp, show (E ++ T).length = 0 + E.length + T.length from by simp]
           exact hown8
         have hby8 := own_bytes hown8'
         have Z8 := Lib.hid (And.intro ((Blk.new w7 zR 23).other hgr8 (by intro h9; have h8 := (G7.out.1.lt _ h9.symm).2; omega)) G7.out.2.1.size)
         have G8 := Lib.hid (HB8.out.2.2.2 _ hgr8)
         obtain ⟨a8, c8, rfl⟩ := hby8.size
         have Y8 := Lib.hid hby8
         clear hown8 hown8' hby8 hgr8 hat8 HB8 G7)
      | (with_reducible show if _ then Oper.wp _ _ _ (w7) _ _ else _
         have HB8 := Lib.hid (enc_b (W := w7) G7.out.2.1 (Below.refl _ _) G7.out.1 H6.out.2.2.2.1)
         refine step_append_b rfl (.tmp 44) (.tmp 49) rfl w6.heap.size v7 (.slice a N c) (0 + E.length) ([] ++ bys E) rfl HB8.out.1 rfl T _ HB8.out.2.1 (Or.inl G7.out.2.2) (by have := HE.out.2.2.1; have := HE.out.2.2.2.1; have := HE.out.2.2.2.2.1; omega) HB8.out.2.2.1 ?_
         intro v8 w8 hown8 hgr8 hat8
         have hown8' : w8.ownsRow w6.heap.size 5 1 v8 q.length (bys q) := by
           rw [HQ.out, show bys (E ++ T) = [] ++ bys E ++ bys T from by simp, show (E ++ T).length = 0 + E.length + T.length from by simp]
           exact hown8
         have hby8 := own_bytes hown8'
         have G8 := Lib.hid (HB8.out.2.2.2 _ hgr8)
         obtain ⟨a8, c8, rfl⟩ := hby8.size
         have Y8 := Lib.hid hby8
         clear hown8 hown8' hby8 hgr8 hat8 HB8 G7)
      | (go_at_call 17
         have Z8' := Z8
         with_reducible show Calls _ _ _ (w8) _
         have hbw := below_tr G8.out (show Below w8.heap.size w8 w8 from (Below.refl _ _))
         refine (decode_any aM aW a8 q.length c8 q HE.out.2.2.2.2.2.1 (by have := HE.out.2.2.1; have := HE.out.2.2.2.1; have := HE.out.2.2.2.2.1; rw [HQ.out, List.length_append]; omega) w8 (Y8.out.below byteV_stays (Below.refl _ _)) (H6.out.2.2.1.below hbw (fun k hk => H6.out.2.2.1.lts k hk))).mono ?_
         rintro e w9 ⟨hb9, hor9⟩
         obtain rfl : e = .returned (.tuple #[wV ⟨xo, xa, xb, xc, xi⟩, I (L : Int), I 0]) := by
           rcases hor9 with ⟨y, hpy, rfl⟩ | ⟨hno, _⟩
           · obtain rfl := hpy.one HE.out.2.2.2.2.2.2
             rw [← HE.out.1, HE.out.2.2.1]
           · exact absurd HE.out.2.2.2.2.2.2 (hno _)
         have K9 := Lib.hid (below_tr hbw hb9)
         have Z9 := Lib.hid (And.intro (Z8.out.1.below hb9 Z8.out.1.lt) Z8.out.2)
         have y0 := Z9.out.1.get 0 (.int .u8 0) rfl
         have y1 := Z9.out.1.get 1 (.int .u8 0) rfl
         have y2 := Z9.out.1.get 2 (.int .u8 0) rfl
         have y3 := Z9.out.1.get 3 (.int .u8 0) rfl
         have y4 := Z9.out.1.get 4 (.int .i64 0) rfl
         have u0 := Z9.out.1.free 0
         have u1 := Z9.out.1.free 1
         have u2 := Z9.out.1.free 2
         have u3 := Z9.out.1.free 3
         have u4 := Z9.out.1.free 4
         clear hb9 hor9 hbw G8 Y8 Z8 Z8')
      | (go_at_call 17
         with_reducible show Calls _ _ _ ((w8.alloc (Obj.cells zR 23))) _
         have hbw := below_tr G8.out (show Below w8.heap.size w8 (w8.alloc (Obj.cells zR 23)) from ((Below.refl _ _).alloc (Nat.le_refl _) _))
         refine (decode_any aM aW a8 q.length c8 q HE.out.2.2.2.2.2.1 (by have := HE.out.2.2.1; have := HE.out.2.2.2.1; have := HE.out.2.2.2.2.1; rw [HQ.out, List.length_append]; omega) (w8.alloc (Obj.cells zR 23)) (Y8.out.below byteV_stays ((Below.refl _ _).alloc (Nat.le_refl _) _)) (H6.out.2.2.1.below hbw (fun k hk => H6.out.2.2.1.lts k hk))).mono ?_
         rintro e w9 ⟨hb9, hor9⟩
         obtain rfl : e = .returned (.tuple #[wV ⟨xo, xa, xb, xc, xi⟩, I (L : Int), I 0]) := by
           rcases hor9 with ⟨y, hpy, rfl⟩ | ⟨hno, _⟩
           · obtain rfl := hpy.one HE.out.2.2.2.2.2.2
             rw [← HE.out.1, HE.out.2.2.1]
           · exact absurd HE.out.2.2.2.2.2.2 (hno _)
         have K9 := Lib.hid (below_tr hbw hb9)
         have Z9 := Lib.hid (And.intro ((Blk.new w8 zR 23).below hb9 (Blk.new w8 zR 23).lt) G8.out.size)
         have y0 := Z9.out.1.get 0 (.int .u8 0) rfl
         have y1 := Z9.out.1.get 1 (.int .u8 0) rfl
         have y2 := Z9.out.1.get 2 (.int .u8 0) rfl
         have y3 := Z9.out.1.get 3 (.int .u8 0) rfl
         have y4 := Z9.out.1.get 4 (.int .i64 0) rfl
         have u0 := Z9.out.1.free 0
         have u1 := Z9.out.1.free 1
         have u2 := Z9.out.1.free 2
         have u3 := Z9.out.1.free 3
         have u4 := Z9.out.1.free 4
         clear hb9 hor9 hbw G8 Y8)
      | (go_at_call 17
         with_reducible show Calls _ _ _ (w8) _
         have hbw := below_tr G8.out (show Below w8.heap.size w8 w8 from (Below.refl _ _))
         refine (decode_any aM aW a8 q.length c8 q HE.out.2.2.2.2.2.1 (by have := HE.out.2.2.1; have := HE.out.2.2.2.1; have := HE.out.2.2.2.2.1; rw [HQ.out, List.length_append]; omega) w8 (Y8.out.below byteV_stays (Below.refl _ _)) (H6.out.2.2.1.below hbw (fun k hk => H6.out.2.2.1.lts k hk))).mono ?_
         rintro e w9 ⟨hb9, hor9⟩
         obtain rfl : e = .returned (.tuple #[wV ⟨xo, xa, xb, xc, xi⟩, I (L : Int), I 0]) := by
           rcases hor9 with ⟨y, hpy, rfl⟩ | ⟨hno, _⟩
           · obtain rfl := hpy.one HE.out.2.2.2.2.2.2
             rw [← HE.out.1, HE.out.2.2.1]
           · exact absurd HE.out.2.2.2.2.2.2 (hno _)
         have K9 := Lib.hid (below_tr hbw hb9)
         clear hb9 hor9 hbw G8 Y8)
      )
      all_goals
        go_wp2_with fail
        go_meet
        case rel =>
          first
          | exact ⟨⟨_, rfl, ((((Z9.out.1.set 0 (B8 xo)).set 1 (B8 xa)).set 2 (B8 xb)).set 3 (B8 xc)).set 4 (I xi)⟩, rfl, rfl, K9.out.trans (below5 Z9.out.2 _ _ _ _ _)⟩
          | exact ⟨⟨_, rfl, Blk.new w9 (wB ⟨xo, xa, xb, xc, xi⟩) 23⟩, rfl, rfl, K9.out.alloc K9.out.size _⟩
    case rest =>
      clear SA1 SA2 SA3 hn0 hn1 hn2 hmin HN
      obtain ⟨⟨z, rfl, hkz⟩, rfl, rfl, hbc⟩ := hcut
      have kb := H6.out.2.1.below hbc H6.out.2.1.lt
      have hoc := H6.out.2.2.2.2.1.below byteV_stays hbc
      have hF := H6.out.2.2.2.2.2
      have hq := eq_wd ⟨xo, xa, xb, xc, xi⟩ ⟨xo, xa, xb, xc, xi⟩
      rw [(wEq_iff _ _).2 rfl] at hq
      have hbE : Byt E := by rw [HE.out.1]; exact encW_byt H1.out.2.2.2.2.1
      obtain ⟨x0, x1, x2, x3, x4⟩ := fv_of kb
      obtain ⟨z0, z1, z2, z3, z4⟩ := fv_of hkz
      have HC := Lib.hid (And.intro (below_tr H6.out.1 hbc) (And.intro kb (And.intro hkz (And.intro hoc (And.intro hF hbE)))))
      have HRE := Lib.hid (fun W => refEncode_any ⟨xo, xa, xb, xc, xi⟩ H1.out.2.2.2.2.1 hF W)
      clear hbc kb hkz hoc hF hbE
      go_wp2_with fail
      refine (HRE.out _).mono ?_
      rintro e w10 ⟨v10, rfl, ho10, hb10⟩
      rw [← HE.out.1] at ho10
      have H10 := Lib.hid (show Below wc.heap.size wc w10 from by first | exact hb10 | exact und hb10)
      have Y10 := Lib.hid (own_bytes ho10)
      obtain ⟨a10, c10, rfl⟩ := (own_bytes ho10).size
      clear ho10 hb10 x0 x1 x2 x3 x4 z0 z1 z2 z3 z4
      obtain ⟨x0, x1, x2, x3, x4⟩ := fv_of (HC.out.2.1.below H10.out HC.out.2.1.lt)
      obtain ⟨z0, z1, z2, z3, z4⟩ := fv_of (HC.out.2.2.1.below H10.out HC.out.2.2.1.lt)
      have HSB := Lib.hid (show Calls Tryd.prog 18 #[.slice a1 L c1, .slice a10 E.length c10] w10 fun e w' => e = .returned (.bool true) ∧ w10 = w' from
        (sameB_any (l := E) (m := E) HC.out.2.2.2.2.2 HC.out.2.2.2.2.2 w10 (HC.out.2.2.2.1.below byteV_stays H10.out) Y10.out).mono fun e w' h => ⟨by rw [h.1, decide_eq_true rfl], h.2⟩)
      have FIN := Lib.hid (show LawT w w10 (.returned (.bool true)) from ⟨rfl, below_tr HC.out.1 H10.out⟩)
      go_wp2_with fail
      refine HSB.out.mono ?_
      rintro e w11 ⟨rfl, rfl⟩
      go_wp2_with fail
      go_ret
      exact FIN.out
  · have HO := Lib.hid hfx
    clear hfx
    go_upto_region 4 with (fail)
    go_region_held3 (fun w' => w'.cell? ⟨b1, 0, none⟩ = some (B8 xo) ∧ w'.cell? ⟨b1, 1, none⟩ = some (B8 xa) ∧ w'.cell? ⟨b1, 2, none⟩ = some (B8 xb) ∧ w'.cell? ⟨b1, 3, none⟩ = some (B8 xc) ∧ w'.cell? ⟨b1, 4, none⟩ = some (I xi)) (first | exact hS5 | exact hS4 | exact hS3 | go_keep) (first
      | (go_at_call 13
         refine (HF0.out _).mono ?_
         rintro e w4 ⟨f1, rfl, hf1, hb4⟩
         obtain rfl : f1 = false := by
           cases f1 with
           | false => rfl
           | true => exact absurd (hf1.1 rfl) HO.out
         have H4 := Lib.hid (show Below w3.heap.size w3 w4 from by first | exact hb4 | exact und hb4)
         have hS4 := fv_of (H3.out.2.1.below H4.out H3.out.2.1.lt)
         clear hf1 hb4 hS3)
      | (go_at_call 14
         refine (HF1.out _).mono ?_
         rintro e w5 ⟨f2, rfl, hf2, hb5⟩
         obtain rfl : f2 = false := by
           cases f2 with
           | false => rfl
           | true => exact absurd (hf2.1 rfl) HO.out
         have H5 := Lib.hid (below_tr H4.out (show Below w4.heap.size w4 w5 from by first | exact hb5 | exact und hb5))
         have hS5 := fv_of (H3.out.2.1.below H5.out H3.out.2.1.lt)
         clear hf2 hb5 hS4)
      | (go_at_call 15
         refine (HT0.out _).mono ?_
         rintro e w6 ⟨rfl, rfl⟩)
      | (go_at_call 16
         refine (HT1.out _).mono ?_
         rintro e w7 ⟨rfl, rfl⟩))
    obtain ⟨x0, x1, x2, x3, x4⟩ := hS5
    have HF2 := Lib.hid (HF1.out w5)
    clear HF0 HF1 HT0 HT1
    go_wp2_with fail
    refine HF2.out.mono ?_
    rintro e w6 ⟨f3, rfl, hf3, hb6⟩
    obtain rfl : f3 = false := by
      cases f3 with
      | false => rfl
      | true => exact absurd (hf3.1 rfl) HO.out
    have FIN := Lib.hid (show LawT w w6 (.returned (.bool true)) from ⟨rfl, below_tr H3.out.1 (below_tr H5.out hb6)⟩)
    clear hf3 hb6
    go_wp2_with fail
    go_ret
    exact FIN.out
end Go.Proofs.YtlblmnneikdpgaaDoor
