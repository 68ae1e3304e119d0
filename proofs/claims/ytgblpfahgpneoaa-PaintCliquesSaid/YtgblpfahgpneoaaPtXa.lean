/-
  PaintCliques: walked.
-/
import Derived.Test.YtgblpfahgpneoaaPtY
namespace Go.Proofs.Ytgblpfahgpneoaa
open Go Go.RowKit Go.Sort Go.BigFrame

/-- All pairs of the first a, and b of the next one's. -/
structure ClL (M a b : Nat) (L : List P2) : Prop where
  len : L.length ≤ 30 * a + b
  are : AreN M L
  all : ∀ x, x < a → ∀ y, y < x → ((x : Int), (y : Int)) ∈ L
  row : ∀ y, y < b → ((a : Int), (y : Int)) ∈ L
theorem ClL.app {M a b : Nat} {L : List P2} (h : ClL M a b L) (ha : a < M) (hb : b < a) : ClL M a (b + 1) (L ++ [((a : Int), (b : Int))]) := by
  refine ⟨by rw [List.length_append, List.length_singleton]; have := h.len; omega, fun p hp => ?_, fun x hx y hy => List.mem_append_left _ (h.all x hx y hy), fun y hy => ?_⟩
  · rcases List.mem_append.1 hp with e | e
    · exact h.are p e
    · rw [List.mem_singleton.1 e]; unfold NodeP; dsimp only; omega
  · by_cases e : y = b
    · rw [e]; simp
    · exact List.mem_append_left _ (h.row y (by omega))
theorem ClL.next {M a : Nat} {L : List P2} (h : ClL M a a L) (ha : a ≤ 30) : ClL M (a + 1) 0 L := by
  refine ⟨by have := h.len; omega, h.are, fun x hx y hy => ?_, fun y hy => absurd hy (by omega)⟩
  by_cases e : x = a
  · rw [e]; exact h.row y (by omega)
  · exact h.all x (by omega) y hy
theorem ClL.nei {M : Nat} {L : List P2} (h : ClL M M 0 L) : ∀ v x, v < M → x < M → v ≠ x → Nei L v x := fun v x hv hx hne => by
  rcases Nat.lt_or_gt_of_ne hne with h1 | h1
  · exact ⟨_, h.all x hx v h1, by show (x : Int) ≠ (v : Int); omega, Or.inr ⟨rfl, rfl⟩⟩
  · exact ⟨_, h.all v hv x h1, by show (v : Int) ≠ (x : Int); omega, Or.inl ⟨rfl, rfl⟩⟩
def Cq1 (w : World) (M base : Nat) (ov iv : Value) (W : World) : Prop := ∃ (a : Nat) (L : List P2), a ≤ M ∧ iv = I (a : Int) ∧ ClL M a 0 L ∧ PairO W base ov L ∧ Below w.heap.size w W ∧ base ≤ W.heap.size ∧ w.heap.size ≤ base
def Cq2 (w : World) (M base a : Nat) (ov iv : Value) (W : World) : Prop := ∃ (b : Nat) (L : List P2), b ≤ a ∧ iv = I (b : Int) ∧ ClL M a b L ∧ PairO W base ov L ∧ Below w.heap.size w W ∧ base ≤ W.heap.size ∧ w.heap.size ≤ base
def Cq3 (w : World) (M bc bs : Nat) (C : Nat → Int) (mv iv : Value) (W : World) : Prop := ∃ (i : Nat) (f : Nat → Bool), i ≤ M ∧ iv = I (i : Int) ∧ mv = I (ctf (fun v => decide (0 ≤ C v)) i : Int) ∧ (∀ c, f c = true → ∃ v, v < i ∧ C v = (c : Int)) ∧ Blk bs (arrF 16 fun c => .bool (f c)) 36 W ∧ Blk bc (arrF M fun i => I (C i)) 3 W ∧ Below w.heap.size w W ∧ bc < bs ∧ w.heap.size ≤ bs

set_option maxRecDepth 100000 in
set_option maxHeartbeats 3200000 in
theorem paintCliques_body (n k : Int) (hn : 0 ≤ n ∧ n ≤ 255) (hk : 0 ≤ k ∧ k ≤ 255) (w : World) :
    Calls Try.prog 6 #[.int .u8 n, .int .u8 k] w fun e w' => LawT w w' e := by
  obtain ⟨i0, p1, p2, p3, p4⟩ := info_parts infoP
  have HI := Lib.hid (And.intro p1 (And.intro p2 (And.intro p3 p4)))
  clear p1 p2 p3 p4
  have HAW := Lib.hid (awake_any w)
  obtain ⟨hn0, hn1⟩ := hn
  obtain ⟨hk0, hk1⟩ := hk
  obtain ⟨M, hM⟩ : ∃ M : Nat, n % 30 = (M : Int) := ⟨(n % 30).toNat, by omega⟩
  obtain ⟨K, hK⟩ : ∃ K : Nat, k % 17 = (K : Int) := ⟨(k % 17).toNat, by omega⟩
  have HMK := Lib.hid (show M ≤ 29 ∧ K ≤ 16 by omega)
  have hM2 : (M : Int) ≤ 29 := by omega
  have hM1 : (0 : Int) ≤ (M : Int) := by omega
  go_enter Try.func6, Try.ntmps6
  go_wp2_with fail
  refine HAW.out.mono ?_
  rintro e w1 ⟨rfl, hb1⟩
  have HS := Lib.hid (show Cq1 w M w1.heap.size (.slice none 0 0) (I 0) w1 from ⟨0, [], Nat.zero_le _, rfl, ⟨by simp, no_are, fun x hx => absurd hx (by omega), fun y hy => absurd hy (by omega)⟩, PairO.start, hb1, Nat.le_refl _, hb1.size⟩)
  clear hb1
  go_upto_region 6 with (fail)
  clear hM hK hn0 hn1 hk0 hk1
  go_loopw [7, 25] (fun ov iv W => Cq1 w M w1.heap.size ov iv W) (fun _ iv _ => M - (intOf iv).toNat)
  case atStart => exact HS.out
  case round =>
    obtain ⟨a, L, ha, rfl, hL, hO, hbe, hba, hwb⟩ := hrel
    by_cases hin : a < M
    · have d0 : decide (a < M) = true := by simpa using hin
      have d1 : (0 : Int) ≤ (a : Int) := by omega
      have d2 : (a : Int) < (M : Int) := by omega
      have HS2 := Lib.hid (show Cq2 w M w1.heap.size a u7 (I 0) wr from ⟨0, L, Nat.zero_le _, rfl, hL, hO, hbe, hba, hwb⟩)
      have HT := Lib.hid hin
      clear hL hO hbe hba hwb hin ha
      go_wp2_with fail
      go_loopw [7, 29] (fun ov iv W => Cq2 w M w1.heap.size a ov iv W) (fun _ iv _ => a - (intOf iv).toNat)
      case atStart => exact HS2.out
      case round =>
        obtain ⟨b, L, hb, rfl, hL, hO, hbe, hba, hwb⟩ := hrel
        obtain ⟨oa, oc, hov⟩ := hO.row
        subst hov
        by_cases hbn : b < a
        · have f0 : decide (b < a) = true := by simpa using hbn
          have f1 : (0 : Int) ≤ (b : Int) := by omega
          have f2 : (b : Int) < (a : Int) := by omega
          have hlen : L.length ≤ 1000 := by have := hL.len; have := HMK.out; have := HT.out; omega
          have H1 := Lib.hid (And.intro hO (And.intro hbe (And.intro hba (And.intro hwb (And.intro hbn hL)))))
          clear hO hbe hba hwb hbn hb hL
          go_wp2_with (first | (at_builtin; refine Hid.out ?_) | go_in)
          unfold Hid
          refine wpList_append_lies _ rfl (.tmp 32) (.tmp 36) 22 rfl w1.heap.size 29 i0 (.agg #[I 0, I 0]) 2 16 Try.underlying22 HI.out.1 HI.out.2.1 HI.out.2.2.1 HI.out.2.2.2 rfl (by decide) (.slice oa L.length oc) L.length (cellsP L) rfl (World.ownsRow.alloc H1.out.1 _) ⟨wr.heap.size, 0, none⟩ 1 1 [I (a : Int), I (b : Int)] rfl rfl (World.news_of_block (heap_alloc_new wr _)) (by simp [Value.oneCell']) (by decide) (by unfold maxLen; omega) (by omega) (by have h1 := H1.out.2.2.1; simp; omega) _ rfl ?_
          intro g4 c4 w4 ho4 hg4 hat4 hlt4
          have hB4 : Below w.heap.size w w4 := (H1.out.2.1.alloc H1.out.2.1.size (.cells #[I (a : Int), I (b : Int)] 29)).grown hg4 (by have := H1.out.2.1.size; simp; omega) (fun k hk => by have h9 := (World.ownsRow.lt H1.out.1 k hk).1; have := H1.out.2.2.2.1; omega)
          have HN := Lib.hid (show Cq2 w M w1.heap.size a (.slice (some ⟨g4, 0, none⟩) (L.length + 1) c4) (I ((b : Int) + 1)) w4 from ⟨b + 1, _, H1.out.2.2.2.2.1, rfl, H1.out.2.2.2.2.2.app HT.out H1.out.2.2.2.2.1, PairO.app ho4, hB4, by have h1 := hg4.size; have h2 := H1.out.2.2.1; simp at h1; omega, H1.out.2.2.2.1⟩)
          clear ho4 hg4 hat4 hlt4 hB4
          go_wp2_with fail
          exact ⟨HN.out, by have := H1.out.2.2.2.2.1; simp [intOf]; omega⟩
        · obtain rfl : b = a := by omega
          have f0 : decide (b < b) = false := by simp
          have HN := Lib.hid (show Cq1 w M w1.heap.size (.slice oa L.length oc) (I ((b : Int) + 1)) wr from ⟨b + 1, L, HT.out, rfl, hL.next (by have := HMK.out; have := HT.out; omega), hO, hbe, hba, hwb⟩)
          clear hO hbe hba hwb hbn hb hL
          go_wp2_with fail
          exact ⟨HN.out, by have := HT.out; simp [intOf]; omega⟩
    · obtain rfl : a = M := by omega
      obtain ⟨oa, oc, hov⟩ := hO.row
      subst hov
      have d0 : decide (a < a) = false := by simp
      have hlen : L.length ≤ 1000 := by have := hL.len; have := HMK.out; omega
      have HP := Lib.hid (paint_of a K (by have := HMK.out; omega) HMK.out.2 oa none L.length oc 0 0 L [] rfl (by omega) hO.cap.1 rfl (by omega) (by omega) wr hO.z (SlS.nil _ _))
      have H1 := Lib.hid (And.intro hbe hL)
      clear hO hbe hba hwb hin ha hL
      go_wp2_with fail
      refine HP.out.mono ?_
      rintro e w2 ⟨hok, _⟩
      obtain ⟨bc, C, rfl, hlc, kc, hcol, hb2⟩ := hok ⟨H1.out.2.are, no_are⟩
      have hcq := cliq hcol H1.out.2.are H1.out.2.nei
      obtain ⟨W3, hW3⟩ : ∃ W, W = w2.alloc (.cells (arrF 16 fun _ => .bool false) 36) := ⟨_, rfl⟩
      obtain ⟨bs, hbs⟩ : ∃ b, b = w2.heap.size := ⟨_, rfl⟩
      have HS3 := Lib.hid (show Cq3 w a bc bs C (I 0) (I 0) W3 from ⟨0, fun _ => false, Nat.zero_le _, rfl, rfl, fun c h => (by cases h), by rw [hW3, hbs]; exact Blk.new _ _ _, by rw [hW3]; exact kc.alloc _, by rw [hW3]; exact (below_tr H1.out.1 hb2).alloc (below_tr H1.out.1 hb2).size _, by have := kc.lt; omega, by have := (below_tr H1.out.1 hb2).size; omega⟩)
      have HW3 := Lib.hid (And.intro hW3 hbs)
      have H2 := Lib.hid (And.intro hcol hcq)
      clear hok hlc kc hcol hb2 hcq hW3 hbs
      go_upto_region 18 with (fail)
      change Code.wp _ _ _ _ (w2.alloc (.cells (arrF 16 fun _ => .bool false) 36))
      rw [← HW3.out.1, ← HW3.out.2]
      go_wp2_with fail
      go_loopw [13, 57] (fun mv iv W => Cq3 w a bc bs C mv iv W) (fun _ iv _ => a - (intOf iv).toNat)
      case atStart => exact HS3.out
      case round =>
        obtain ⟨i, f, hi, rfl, rfl, hf, ks, kc, hbe, hlt, hlo⟩ := hrel
        have hcl : (ctf (fun v => decide (0 ≤ C v)) i : Int) ≤ 29 := by have := ctf_le (fun v => decide (0 ≤ C v)) i; have := HMK.out; omega
        have hcl0 : (0 : Int) ≤ (ctf (fun v => decide (0 ≤ C v)) i : Int) := by omega
        by_cases hin : i < a
        · have z0 := kc.get i (I (C i)) (arrF_get _ hin)
          have hbo := H2.out.1.bo i hin
          have f0 : decide (i < a) = true := by simpa using hin
          have d1 : (0 : Int) ≤ (i : Int) := by omega
          have d2 : (i : Int) < (a : Int) := by omega
          have hsu : ctf (fun v => decide (0 ≤ C v)) (i + 1) = ctf (fun v => decide (0 ≤ C v)) i + if decide (0 ≤ C i) = true then 1 else 0 := rfl
          have HT := Lib.hid hin
          by_cases e : 0 ≤ C i
          · obtain ⟨u, hu⟩ : ∃ u : Nat, C i = (u : Int) := ⟨(C i).toNat, by omega⟩
            have hu16 : u < 16 := by have := HMK.out; omega
            have hfu : f u = false := by
              cases hq : f u with
              | false => rfl
              | true =>
                obtain ⟨v, hv, hvu⟩ := hf u hq
                exact absurd (hvu.trans hu.symm) (H2.out.1.pr v (by omega) i (H1.out.2.nei v i (by omega) hin (by omega)) (by omega))
            rw [hu] at z0
            have z1 := ks.get u (.bool (f u)) (arrF_get _ hu16)
            rw [hfu] at z1
            have g1 := ks.free u
            have t1 : ¬ (u : Int) < 0 := by omega
            have t2 : (u : Int) < (K : Int) := by omega
            have t3 : ¬ (K : Int) ≤ (u : Int) := by omega
            have t4 : (u : Int) < 16 := by omega
            rw [if_pos (decide_eq_true e)] at hsu
            have hHN : Cq3 w a bc bs C (I (ctf (fun v => decide (0 ≤ C v)) (i + 1) : Int)) (I ((i : Int) + 1)) (wr.setCell ⟨bs, u, none⟩ (.bool true)) := ⟨i + 1, up f u true, hin, rfl, rfl, fun c hc => by
                unfold up at hc
                split at hc
                · next e2 => exact ⟨i, by omega, by rw [hu, e2]⟩
                · obtain ⟨v, hv, hvc⟩ := hf c hc
                  exact ⟨v, by omega, hvc⟩, by
                have h9 := ks.set u (.bool true)
                rw [arrF_set] at h9
                have e2 : (up (fun c => Value.bool (f c)) u (.bool true)) = fun c => Value.bool (up f u true c) := by
                  funext c
                  unfold up
                  split <;> rfl
                rw [e2] at h9
                exact h9, kc.setOther (by omega) _ _, hbe.setCell (p := ⟨bs, u, none⟩) hlo _, hlt, hlo⟩
            rw [hsu, show ((ctf (fun v => decide (0 ≤ C v)) i + 1 : Nat) : Int) = (ctf (fun v => decide (0 ≤ C v)) i : Int) + 1 by omega] at hHN
            have HN := Lib.hid hHN
            clear hHN hsu hbo hf ks kc hbe hlt hlo hin hi e hu hfu
            generalize (ctf (fun v => decide (0 ≤ C v)) i : Int) = Q at *
            go_wp2_with fail
            exact ⟨HN.out, by have := HT.out; simp [intOf]; omega⟩
          · rw [if_neg (by simpa using e), Nat.add_zero] at hsu
            have hHN : Cq3 w a bc bs C (I (ctf (fun v => decide (0 ≤ C v)) (i + 1) : Int)) (I ((i : Int) + 1)) wr := ⟨i + 1, f, hin, rfl, rfl, fun c hc => by
                obtain ⟨v, hv, hvc⟩ := hf c hc
                exact ⟨v, by omega, hvc⟩, ks, kc, hbe, hlt, hlo⟩
            rw [hsu] at hHN
            have HN := Lib.hid hHN
            have t1 : C i < 0 := by omega
            clear hHN hsu hbo hf ks kc hbe hlt hlo hin hi e
            generalize (ctf (fun v => decide (0 ≤ C v)) i : Int) = Q at *
            generalize C i = ci at *
            go_wp2_with fail
            exact ⟨HN.out, by have := HT.out; simp [intOf]; omega⟩
        · obtain rfl : i = a := by omega
          have f0 : decide (i < i) = false := by simp
          have FIN := Lib.hid (show LawT w wr (.returned (.bool true)) from ⟨rfl, hbe⟩)
          rw [H2.out.2]
          clear hf ks kc hbe hlt hlo hi hin hcl hcl0
          by_cases e : i ≤ K
          · rw [Nat.min_eq_left e]
            have t1 : (i : Int) ≤ (K : Int) := by omega
            have t2 : ¬ (K : Int) < (i : Int) := by omega
            clear e
            go_wp2_with fail
            all_goals first
              | (exfalso; omega)
              | (go_ret
                 exact FIN.out)
          · rw [Nat.min_eq_right (by omega)]
            have t1 : (K : Int) < (i : Int) := by omega
            clear e
            go_wp2_with fail
            all_goals first
              | (exfalso; omega)
              | (go_ret
                 exact FIN.out)
end Go.Proofs.Ytgblpfahgpneoaa
