/-
  An instruction is written whole.
-/
import Derived.Test.YtlblmnneikdpgaaDoorIbY
namespace Go.Proofs.YtlblmnneikdpgaaDoor
open Go Go.RowKit Ib

/-- An instruction at a place. -/
structure WdC (b o : Nat) (x : Wd) (W : World) : Prop where
  c0 : W.cell? ⟨b, o, none⟩ = some (B8 x.op)
  c1 : W.cell? ⟨b, o + 1, none⟩ = some (B8 x.a)
  c2 : W.cell? ⟨b, o + 2, none⟩ = some (B8 x.b)
  c3 : W.cell? ⟨b, o + 3, none⟩ = some (B8 x.c)
  c4 : W.cell? ⟨b, o + 4, none⟩ = some (I x.imm)
theorem WdC.keep {b o : Nat} {x : Wd} {W W' : World} (h : WdC b o x W) (hk : W'.heap[b]? = W.heap[b]?) : WdC b o x W' := by
  obtain ⟨h0, h1, h2, h3, h4⟩ := h
  unfold World.cell? at h0 h1 h2 h3 h4
  refine ⟨?_, ?_, ?_, ?_, ?_⟩ <;> (unfold World.cell?; rw [hk]; assumption)
theorem WdC.lt {b o : Nat} {x : Wd} {W : World} (h : WdC b o x W) : b < W.heap.size := lt_of_cell h.c0
theorem WdC.fw {b o bt : Nat} {x : Wd} {v v' : Value} {W W' : World} (h : WdC b o x W) (hf : Fw bt v v' W W') (h1 : b ≠ bt) (h2 : some b ≠ v.ownBlock) : WdC b o x W' := h.keep (hf.block b h.lt h1 h2)
theorem WdC.below {b o : Nat} {x : Wd} {W W' : World} (h : WdC b o x W) (hb : Below W.heap.size W W') : WdC b o x W' := h.keep (hb.block b h.lt)
/-- A block that the writer's work leaves alone, still. -/
theorem Fw.other {bt k : Nat} {v v' : Value} {W W' : World} (hf : Fw bt v v' W W') (hk : k < W.heap.size) (h2 : some k ≠ v.ownBlock) : some k ≠ v'.ownBlock := by
  rcases hf.own with e | ⟨g, e, hg⟩
  · rw [e]; exact h2
  · rw [e]; intro e2; injection e2 with e2; omega
def SenB (aM aW : Addr) (base : Nat) : Prop := ∀ k, k = 1 ∨ k = 0 ∨ k = aM.block ∨ k = aW.block → k < base
/-- What writing an instruction leaves. -/
def WoT (bt base : Nat) (aW : Addr) (v : Value) (l : List Nat) (x : Wd) (W : World) (W' : World) (e : Ending) : Prop :=
  (FormW x ∧ e = .returned .nilIface ∧ ∃ v', Wt bt base v' (l ++ encW x) W' ∧ Fw bt v v' W W') ∨ (¬ FormW x ∧ e = .returned (eV aW) ∧ ∃ v' l', Wt bt base v' l' W' ∧ Fw bt v v' W W')
def WoR (bt base : Nat) (v : Value) (l : List Nat) (n : Nat) (x : Wd) (W0 : World) (iv : Value) (W : World) : Prop := ∃ (i : Nat) (v' : Value), i ≤ n ∧ iv = I (i : Int) ∧ Wt bt base v' (l ++ (encR x 3).take i) W ∧ Fw bt v v' W0 W
theorem immB_is {x : Wd} {n : Nat} {im : Bool} (h : names x.op = some (n, im)) : encW x = x.op :: (encR x n ++ immB (least x.op) (most x.op) x.imm) := by
  have h0 := names_le h
  unfold encW
  rw [h]
  cases im with
  | false =>
    have h1 := (names_nat _ (by omega) n false h).1 rfl
    unfold immB
    rw [h1.1, h1.2]
    rfl
  | true =>
    have h1 := bounds_true h
    unfold immB
    rcases names_true h with e | e | e | e | e | e | e | e | e <;> rw [e] <;> rfl
theorem encR_take (x : Wd) (n : Nat) : (encR x 3).take n = encR x (min n 3) := by unfold encR; rw [List.take_take]
abbrev ptrs (b o : Nat) : Array Value := #[.pointer (some ⟨b, o + 1, none⟩), .pointer (some ⟨b, o + 2, none⟩), .pointer (some ⟨b, o + 3, none⟩)]

set_option maxRecDepth 100000 in
set_option maxHeartbeats 3200000 in
theorem word_w (bt base b o : Nat) (aM aW : Addr) (v : Value) (l : List Nat) (x : Wd) (hx : WfW x) (hl : l.length ≤ 900000000) (w : World) (h : Wt bt base v l w) (hs : Sen aM aW w) (hsb : SenB aM aW base) (hc : WdC b o x w) (h1 : b ≠ bt) (h2 : some b ≠ v.ownBlock) :
    Calls Tryd.prog 39 #[wkW bt, .pointer (some ⟨b, o, none⟩)] w fun e w' => WoT bt base aW v l x w w' e := by
  obtain ⟨xo, xa, xb, xc, xi⟩ := x
  obtain ⟨W1, hW1⟩ : ∃ W, W = w.alloc (.cells (wkC bt) 74) := ⟨_, rfl⟩
  obtain ⟨bk, hbk⟩ : ∃ g, g = w.heap.size := ⟨_, rfl⟩
  have hB1 : Below w.heap.size w W1 := by rw [hW1]; exact (Below.refl _ _).alloc (Nat.le_refl _) _
  have kk : Blk bk (wkC bt) 74 W1 := by rw [hW1, hbk]; exact Blk.new _ _ _
  have hk1 : bk ≠ bt := by have := h.blk.lt; omega
  have hk2 : some bk ≠ v.ownBlock := fun e => by have := h.lt bk (Or.inr e); omega
  have HC := Lib.hid (fun (W : World) (hW : W = W1.drew) => one_w bt base v l ⟨b, o, none⟩ xo (by omega) W (by rw [hW]; exact (h.below hB1).below (below_drewN (Below.refl _ _) 1)) (by rw [hW]; exact (hc.below hB1).c0) h2)
  have y0 := kk.get 0 (.func (.func 56) #[.pointer (some ⟨bt, 0, none⟩)] #[]) rfl
  have HH := Lib.hid (And.intro hx (And.intro hl (And.intro h (And.intro hs (And.intro hsb (And.intro hc (And.intro h1 h2)))))))
  have H1 := Lib.hid (And.intro hB1 (And.intro kk (And.intro hk1 hk2)))
  have HW1 := Lib.hid (And.intro hW1 hbk)
  clear hx hl h hs hsb hc h1 h2 hB1 kk hk1 hk2 hW1 hbk
  go_enter Tryd.func39, Tryd.ntmps39
  go_upto_region 1 with (fail)
  rw [← HW1.out.2]
  change Code.wp _ _ _ _ (w.alloc (.cells (wkC bt) 74))
  rw [← HW1.out.1]
  go_region_with (refine (HC.out _ rfl).mono ?_; rintro e w2 ⟨rfl, v2, hw2, hf2⟩)
  have hF2 : Fw bt v v2 w w2 := (Fw.of_below bt v (H1.out.1.trans (below_drewN (Below.refl _ _) 1))).trans hf2
  have hc2 : WdC b o ⟨xo, xa, xb, xc, xi⟩ w2 := HH.out.2.2.2.2.2.1.fw hF2 HH.out.2.2.2.2.2.2.1 HH.out.2.2.2.2.2.2.2
  have hb2 : Below base w w2 := hF2.below HH.out.2.2.1
  have hs2 : Sen aM aW w2 := HH.out.2.2.2.1.below hb2 HH.out.2.2.2.2.1
  have hkk2 : Blk bk (wkC bt) 74 w2 := (hf2.block bk (by have := H1.out.2.1.lt; exact this) H1.out.2.2.1 H1.out.2.2.2).trans (H1.out.2.1.drewN 1)
  have hko2 : some bk ≠ v2.ownBlock := hf2.other (by have := H1.out.2.1.lt; exact this) H1.out.2.2.2
  have hbo2 : some b ≠ v2.ownBlock := hF2.other HH.out.2.2.2.2.2.1.lt HH.out.2.2.2.2.2.2.2
  have HS := Lib.hid (shapeOf_any xo w2)
  have x0 : w2.cell? ⟨b, o, none⟩ = some (B8 xo) := hc2.c0
  have H2 := Lib.hid (And.intro hw2 (And.intro hF2 (And.intro hc2 (And.intro hs2 (And.intro hkk2 (And.intro hko2 hbo2))))))
  clear hw2 hf2 hF2 hc2 hb2 hs2 hkk2 hko2 hbo2 y0 HC HW1
  go_wp2_with fail
  refine HS.out.mono ?_
  rintro e w3 ⟨hsh, hb3⟩
  rcases hsh with ⟨hno, rfl⟩ | ⟨n, im, hnm, rfl⟩
  · obtain ⟨W4, hW4⟩ : ∃ W, W = w3.alloc (.cells #[I 0, I 0, I 0] 80) := ⟨_, rfl⟩
    have hB4 : Below w2.heap.size w2 W4 := by rw [hW4]; exact hb3.alloc hb3.size _
    have hs4 : Sen aM aW W4 := H2.out.2.2.2.1.below hB4 (fun k hk => H2.out.2.2.2.1.lts k hk)
    have c0 := hs4.cW
    have FIN := Lib.hid (show WoT bt base aW v l ⟨xo, xa, xb, xc, xi⟩ w W4 (.returned (eV aW)) from Or.inr ⟨(by
      rintro ⟨n, im, h, _⟩
      rw [hno] at h
      injection h), rfl, v2, _, H2.out.1.below hB4, H2.out.2.1.trans (Fw.of_below bt v2 hB4)⟩)
    have HW4 := Lib.hid hW4
    clear hno hb3 hB4 hs4 hW4 x0
    go_upto_region 5 with (fail)
    change Code.wp _ _ _ _ (w3.alloc (.cells #[I 0, I 0, I 0] 80))
    rw [← HW4.out]
    go_wp2_with fail
    go_ret
    exact FIN.out
  · obtain ⟨W4, hW4⟩ : ∃ W, W = w3.alloc (.cells #[I (n : Int), I (least xo), I (most xo)] 80) := ⟨_, rfl⟩
    obtain ⟨bs, hbs⟩ : ∃ g, g = w3.heap.size := ⟨_, rfl⟩
    have hB4 : Below w2.heap.size w2 W4 := by rw [hW4]; exact hb3.alloc hb3.size _
    have ks : Blk bs #[I (n : Int), I (least xo), I (most xo)] 80 W4 := by rw [hW4, hbs]; exact Blk.new _ _ _
    have hbs2 : w2.heap.size ≤ bs := by rw [hbs]; exact hb3.size
    have z0 := ks.get 0 (I (n : Int)) rfl
    have hn := names_le hnm
    have hn0 : (n : Int) ≤ 3 := by omega
    have hn1 : (0 : Int) ≤ (n : Int) := by omega
    obtain ⟨lo, hlo⟩ : ∃ z, z = least xo := ⟨_, rfl⟩
    obtain ⟨hi, hhi⟩ : ∃ z, z = most xo := ⟨_, rfl⟩
    rw [← hlo, ← hhi] at hW4 ks
    have H4 := Lib.hid (And.intro hB4 (And.intro ks (And.intro hbs2 (And.intro hnm (And.intro hlo hhi)))))
    have HW4 := Lib.hid (And.intro hW4 hbs)
    rw [← hlo, ← hhi]
    clear hb3 hB4 ks hbs2 hn hnm hlo hhi hW4 hbs x0
    go_upto_region 5 with (fail)
    rw [← HW4.out.2]
    change Code.wp _ _ _ _ (w3.alloc (.cells #[I (n : Int), I lo, I hi] 80))
    rw [← HW4.out.1]
    go_upto_region 7 with (fail)
    have q1 : bs < W4.heap.size := H4.out.2.1.lt
    have q2 : ¬ bs = W4.heap.size := by omega
    obtain ⟨bp, hbp⟩ : ∃ g, g = W4.heap.size := ⟨_, rfl⟩
    obtain ⟨W5, hW5⟩ : ∃ W, W = (W4.alloc (.cells (ptrs b o) 128)).drew := ⟨_, rfl⟩
    have hB5 : Below w2.heap.size w2 W5 := by rw [hW5]; exact below_drewN (H4.out.1.alloc H4.out.1.size _) 1
    have kp : Blk bp (ptrs b o) 128 W5 := by rw [hW5, hbp]; exact Blk.new _ _ _
    have hbp2 : w2.heap.size ≤ bp := by rw [hbp]; exact H4.out.1.size
    have hbb : Below W4.heap.size W4 W5 := by rw [hW5]; exact below_drewN ((Below.refl _ _).alloc (Nat.le_refl _) _) 1
    have hw5 := H2.out.1.below hB5
    have hf5 := H2.out.2.1.trans (Fw.of_below bt v2 hB5)
    have hapart : ∀ g, w2.heap.size ≤ g → g ≠ bt ∧ some g ≠ v2.ownBlock := fun g hg => ⟨by have := H2.out.1.blk.lt; omega, fun e => by have := H2.out.1.lt g (Or.inr e); omega⟩
    have H5 := Lib.hid (And.intro hB5 (And.intro kp (And.intro (hapart bp hbp2) (And.intro hw5 (And.intro hf5 (And.intro (H4.out.2.1.below hbb H4.out.2.1.lt) (hapart bs H4.out.2.2.1)))))))
    have HST := Lib.hid (show WoR bt base v2 (l ++ [xo]) n ⟨xo, xa, xb, xc, xi⟩ W5 (I 0) W5 from ⟨0, v2, Nat.zero_le _, rfl, by rw [List.take_zero, List.append_nil]; exact hw5, Fw.refl _ _ _⟩)
    have HW5 := Lib.hid (And.intro hW5 hbp)
    clear hbp hW5 hB5 kp hbp2 hbb hw5 hf5 hapart
    go_region
    change Exit.then _ _ _ _ (W4.alloc (.cells (ptrs b o) 128)).drew
    rw [← HW5.out.1, ← HW5.out.2]
    clear z0 q1 q2
    go_wp2_with fail
    go_loopw [46] (fun iv W => WoR bt base v2 (l ++ [xo]) n ⟨xo, xa, xb, xc, xi⟩ W5 iv W) (fun iv _ => n - (intOf iv).toNat)
    case atStart => exact HST.out
    case round =>
      obtain ⟨i, v', hi', rfl, hW, hF⟩ := hrel
      clear HST
      by_cases hin : i < n
      · obtain ⟨r, hr⟩ : ∃ r, r = [xa, xb, xc].getD i 0 := ⟨_, rfl⟩
        have hn3 : n ≤ 3 := (names_le H4.out.2.2.2.1).1
        have hF2 := H5.out.2.2.2.2.1.trans hF
        have hci : wr.cell? ⟨b, o + 1 + i, none⟩ = some (B8 r) := by
          have hc := HH.out.2.2.2.2.2.1.fw hF2 HH.out.2.2.2.2.2.2.1 HH.out.2.2.2.2.2.2.2
          have : i = 0 ∨ i = 1 ∨ i = 2 := by omega
          rcases this with rfl | rfl | rfl
          · rw [hr]; exact hc.c1
          · rw [hr]; exact hc.c2
          · rw [hr]; exact hc.c3
        have kp : Blk bp (ptrs b o) 128 wr := (hF.block bp H5.out.2.1.lt H5.out.2.2.1.1 H5.out.2.2.1.2).trans H5.out.2.1
        have c0 : wr.cell? ⟨bp, i, none⟩ = some (.pointer (some ⟨b, o + 1 + i, none⟩)) := by
          have : i = 0 ∨ i = 1 ∨ i = 2 := by omega
          rcases this with rfl | rfl | rfl
          · exact kp.get 0 _ rfl
          · exact kp.get 1 _ rfl
          · exact kp.get 2 _ rfl
        have hkk : Blk bk (wkC bt) 74 wr := (hF.block bk (Nat.lt_of_lt_of_le H2.out.2.2.2.2.1.lt H5.out.1.size) H1.out.2.2.1 H2.out.2.2.2.2.2.1).trans (H2.out.2.2.2.2.1.below H5.out.1 H2.out.2.2.2.2.1.lt)
        have y0 := hkk.get 0 (.func (.func 56) #[.pointer (some ⟨bt, 0, none⟩)] #[]) rfl
        have hlen : (l ++ [xo] ++ (encR ⟨xo, xa, xb, xc, xi⟩ 3).take i).length ≤ 1000000000 := by
          have h1 := HH.out.2.1
          simp
          omega
        have htk : (encR ⟨xo, xa, xb, xc, xi⟩ 3).take (i + 1) = (encR ⟨xo, xa, xb, xc, xi⟩ 3).take i ++ [r] := by
          have : i = 0 ∨ i = 1 ∨ i = 2 := by omega
          rcases this with rfl | rfl | rfl <;> (rw [hr]; rfl)
        have hna : some b ≠ v'.ownBlock := hF2.other HH.out.2.2.2.2.2.1.lt HH.out.2.2.2.2.2.2.2
        have HC := Lib.hid (one_w bt base v' _ ⟨b, o + 1 + i, none⟩ r hlen wr hW hci hna)
        have d0 : decide (i < n) = true := by simpa using hin
        have d1 : (0 : Int) ≤ (i : Int) := by omega
        have d2 : (i : Int) < (n : Int) := by omega
        have d3 : (i : Int) < 3 := by omega
        have HX := Lib.hid (And.intro hF (And.intro htk hin))
        clear hr hn3 hF2 hci kp hkk hlen htk hna hF hW hin hi'
        go_wp2_with fail
        refine HC.out.mono ?_
        rintro e w6 ⟨rfl, v6, hw6, hf6⟩
        have HN := Lib.hid (show WoR bt base v2 (l ++ [xo]) n ⟨xo, xa, xb, xc, xi⟩ W5 (I ((i : Int) + 1)) w6 from ⟨i + 1, v6, HX.out.2.2, rfl, by rw [HX.out.2.1, ← List.append_assoc]; exact hw6, HX.out.1.trans hf6⟩)
        have HT := Lib.hid HX.out.2.2
        clear hw6 hf6 c0 y0
        go_wp2_with fail
        exact ⟨HN.out, by have := HT.out; simp [intOf]; omega⟩
      · obtain rfl : i = n := by omega
        have hn3 := names_le H4.out.2.2.2.1
        have hF2 := H5.out.2.2.2.2.1.trans hF
        have hc := HH.out.2.2.2.2.2.1.fw hF2 HH.out.2.2.2.2.2.2.1 HH.out.2.2.2.2.2.2.2
        have hkk : Blk bk (wkC bt) 74 wr := (hF.block bk (Nat.lt_of_lt_of_le H2.out.2.2.2.2.1.lt H5.out.1.size) H1.out.2.2.1 H2.out.2.2.2.2.2.1).trans (H2.out.2.2.2.2.1.below H5.out.1 H2.out.2.2.2.2.1.lt)
        have hks : Blk bs #[I (i : Int), I lo, I hi] 80 wr := (hF.block bs H5.out.2.2.2.2.2.1.lt H5.out.2.2.2.2.2.2.1 H5.out.2.2.2.2.2.2.2).trans H5.out.2.2.2.2.2.1
        have y0 := hkk.get 0 (.func (.func 56) #[.pointer (some ⟨bt, 0, none⟩)] #[]) rfl
        have y1 := hkk.get 1 (.func (.func 57) #[.pointer (some ⟨bt, 0, none⟩)] #[]) rfl
        have y2 := hkk.get 2 (.func (.func 58) #[.pointer (some ⟨bt, 0, none⟩)] #[]) rfl
        have z0 := hks.get 0 (I (i : Int)) rfl
        have z1 := hks.get 1 (I lo) rfl
        have z2 := hks.get 2 (I hi) rfl
        have hen : (encR ⟨xo, xa, xb, xc, xi⟩ 3).take i = encR ⟨xo, xa, xb, xc, xi⟩ i := by rw [encR_take, Nat.min_eq_left hn3.1]
        rw [hen] at hW
        have hlen : (l ++ [xo] ++ encR ⟨xo, xa, xb, xc, xi⟩ i).length ≤ 1000000000 := by
          have h1 := HH.out.2.1
          rw [List.length_append, encR_len _ hn3.1]
          simp
          omega
        have hna : some b ≠ v'.ownBlock := hF2.other HH.out.2.2.2.2.2.1.lt HH.out.2.2.2.2.2.2.2
        have hi64 : In64 xi := HH.out.1.2.2.2.2
        have HC := Lib.hid (fun (W : World) (hW' : W = wr.drew) => imm_w bt base v' _ ⟨b, o + 4, none⟩ i lo hi xi hi64 hlen W (by rw [hW']; exact hW.below (below_drewN (Below.refl _ _) 1)) (by rw [hW']; exact hc.c4) hna HH.out.2.2.2.2.2.2.1)
        have hee : l ++ [xo] ++ encR ⟨xo, xa, xb, xc, xi⟩ i ++ immB lo hi xi = l ++ encW ⟨xo, xa, xb, xc, xi⟩ := by
          have h1 := immB_is (x := ⟨xo, xa, xb, xc, xi⟩) H4.out.2.2.2.1
          rw [h1, ← H4.out.2.2.2.2.1, ← H4.out.2.2.2.2.2]
          simp
        have d0 : decide (i < i) = false := by simp
        have HX := Lib.hid (And.intro hF2 (And.intro hc (And.intro hee hna)))
        clear hn3 hF hF2 hc hkk hks hen hlen hi64 hee hna hW hin hi'
        go_wp2_with fail
        go_region_with (
          refine (HC.out _ rfl).mono ?_
          rintro e w7 ⟨rfl, v7, hw7, hf7⟩
          have hf7' := (HX.out.1.trans (Fw.of_below bt v' (below_drewN (Below.refl _ _) 1))).trans hf7
          have hc7 := HH.out.2.2.2.2.2.1.fw hf7' HH.out.2.2.2.2.2.2.1 HH.out.2.2.2.2.2.2.2
          have hs7 : Sen aM aW w7 := HH.out.2.2.2.1.below (hf7'.below HH.out.2.2.1) HH.out.2.2.2.2.1
          rw [HX.out.2.2.1] at hw7
          have HFO := Lib.hid (form_any ⟨xo, xa, xb, xc, xi⟩ HH.out.1 w7)
          have x0 : w7.cell? ⟨b, o, none⟩ = some (B8 xo) := hc7.c0
          have x1 : w7.cell? ⟨b, o + 1, none⟩ = some (B8 xa) := hc7.c1
          have x2 : w7.cell? ⟨b, o + 2, none⟩ = some (B8 xb) := hc7.c2
          have x3 : w7.cell? ⟨b, o + 3, none⟩ = some (B8 xc) := hc7.c3
          have x4 : w7.cell? ⟨b, o + 4, none⟩ = some (I xi) := hc7.c4
          have H7 := Lib.hid (And.intro hw7 (And.intro hf7' hs7))
          clear hw7 hf7 hf7' hc7 hs7 y0 y1 y2 z0 z1 z2)
        all_goals
          try (go_wp2_with fail)
          refine HFO.out.mono ?_
          rintro e w8 ⟨fb, rfl, hfb, hb8⟩
          have hs8 := H7.out.2.2.below hb8 (fun k hk => H7.out.2.2.lts k hk)
          have HU := Lib.hid (unless_any fb w8 hs8)
          have H8 := Lib.hid (And.intro (H7.out.1.below hb8) (H7.out.2.1.trans (Fw.of_below bt v7 hb8)))
          have FIN := Lib.hid (show WoT bt base aW v l ⟨xo, xa, xb, xc, xi⟩ w w8 (.returned (unlE aW fb)) from by
            cases fb with
            | true => exact Or.inl ⟨hfb.1 rfl, rfl, v7, H8.out.1, H8.out.2⟩
            | false => exact Or.inr ⟨fun h => absurd (hfb.2 h) (by decide), rfl, v7, _, H8.out.1, H8.out.2⟩)
          clear hfb hb8 hs8
          go_wp2_with fail
          refine HU.out.mono ?_
          rintro e w9 ⟨rfl, rfl⟩
          go_wp2_with fail
          go_ret
          exact FIN.out
end Go.Proofs.YtlblmnneikdpgaaDoor
