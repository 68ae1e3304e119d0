/-
  PaintPaints: walked.
-/
import Derived.Test.YtgblpfahgpneoaaPtY
import Derived.ChangeKeysEq
import Derived.Laws.StructEq
namespace Go.Proofs.Ytgblpfahgpneoaa
open Go Go.RowKit Go.Sort Go.BigFrame

theorem neq_p (a b : Int) (W : World) : (binOp .neq 29 (.agg #[I a, I b]) (.agg #[I a, I b])).run Try.prog W = .ok (.bool false) W := by
  obtain ⟨i0, p1, _⟩ := info_parts infoI
  have hc : Try.prog.cellsOf 3 = 1 := by kernel_rfl
  rw [run_neq_struct, run_equalIn_array W 9999 _ _ Try.underlying29 p1, hc]
  simp [Op.eqItems, go_sem, List.range_succ, Try.underlying3]
theorem nbr_one {p : P2} {v x y : Nat} (h : nbr p v x) (h' : nbr p v y) : x = y := by
  obtain ⟨h0, h1 | h1⟩ := h
  · obtain ⟨_, h2 | h2⟩ := h'
    · omega
    · exact absurd (h1.1.trans h2.1.symm) h0
  · obtain ⟨_, h2 | h2⟩ := h'
    · exact absurd (h2.1.trans h1.1.symm) h0
    · omega
/-- Who has no colour stands in as many pairs as there are colours. -/
theorem len_ge {n k : Nat} {l : List P2} {C : Nat → Int} (h : Col n k l C) {v : Nat} (hv : v < n) (hc : C v = -1) : k ≤ l.length := by
  have h1 : ∀ c : Nat, ∃ j : Nat, c < k → j < l.length ∧ ∃ x, nbr (pr l j) v x ∧ C x = (c : Int) := fun c => by
    by_cases hck : c < k
    · obtain ⟨x, ⟨p, hp, hn⟩, hx⟩ := h.fu v hv hc c hck
      obtain ⟨j, hj, rfl⟩ := List.getElem_of_mem hp
      rw [getD_pr hj] at hn
      exact ⟨j, fun _ => ⟨hj, x, hn, hx⟩⟩
    · exact ⟨0, fun e => absurd e hck⟩
  obtain ⟨g, hg⟩ := Classical.axiomOfChoice h1
  have hnd : ((List.range k).map g).Nodup := by
    refine List.pairwise_map.2 (List.Pairwise.imp_of_mem (fun {c d} hc2 hd2 hne => ?_) (range_nodup k))
    obtain ⟨_, x, n1, c1⟩ := hg c (List.mem_range.1 hc2)
    obtain ⟨_, y, n2, c2⟩ := hg d (List.mem_range.1 hd2)
    intro e
    rw [e] at n1
    obtain rfl := nbr_one n1 n2
    rw [c1] at c2
    omega
  have := Po.nodup_len (n := l.length) hnd (fun j hj => by
    obtain ⟨c, hc2, rfl⟩ := List.mem_map.1 hj
    exact (hg c (List.mem_range.1 hc2)).1)
  rw [List.length_map, List.length_range] at this
  exact this
theorem ctf_zero {f : Nat → Bool} : ∀ {n : Nat}, ctf f n ≠ 0 → ∃ v, v < n ∧ f v = true
  | 0, h => absurd rfl h
  | n + 1, h => by
    by_cases e : f n = true
    · exact ⟨n, by omega, e⟩
    · have h2 : ctf f (n + 1) = ctf f n := by
        show ctf f n + (if f n = true then 1 else 0) = ctf f n
        rw [if_neg e]
        rfl
      rw [h2] at h
      obtain ⟨v, hv, h3⟩ := ctf_zero h
      exact ⟨v, by omega, h3⟩
/-- What Paint answers, whatever it is called with. -/
def BadN (n k : Int) : Prop := n < 0 ∨ 60000 < n ∨ k < 0 ∨ 16 < k
def PaintX (n k : Int) (l l2 : List P2) (w W : World) (e : Ending) : Prop := ∃ (cs : Value) (ca : Option Addr) (cn cc : Nat) (ev : Int), e = .returned (.tuple #[cs, I ev]) ∧ cs = .slice ca cn cc ∧ Below w.heap.size w W ∧
  (BadN n k ∧ cn = 0 ∧ ev = 1 ∨ ∃ N K : Nat, n = (N : Int) ∧ k = (K : Int) ∧ N ≤ 60000 ∧ K ≤ 16 ∧ (¬ (AreN N l ∧ AreN N l2) ∧ cn = 0 ∧ ev = 3 ∨ (AreN N l ∧ AreN N l2) ∧ ev = 0 ∧ ∃ b C, ca = some ⟨b, 0, none⟩ ∧ N = cn ∧ N = cc ∧ Blk b (arrF N fun i => I (C i)) 3 W ∧ Col N K l C))
theorem paintX (n k : Int) (a a' : Option Addr) (m c m' c' : Nat) (l l2 : List P2) (hm : m = l.length) (hl : m ≤ 4000) (hc : m ≤ c) (hm2 : m' = l2.length) (hl2 : m' ≤ 4000) (hc2 : m' ≤ c') (w : World) (h : PairZ w (.slice a m c) l) (h2 : PairZ w (.slice a' m' c') l2) :
    Calls Try.prog 9 #[I n, .slice a m c, .slice a' m' c', I k] w fun e w' => PaintX n k l l2 w w' e := by
  by_cases hb : BadN n k
  · refine (paint_bad n k a a' m c m' c' hb w).mono ?_
    rintro e w' ⟨rfl, rfl⟩
    exact ⟨_, none, 0, 0, 1, rfl, rfl, Below.refl _ _, Or.inl ⟨hb, rfl, rfl⟩⟩
  · unfold BadN at hb
    obtain ⟨N, rfl⟩ : ∃ N : Nat, n = (N : Int) := ⟨n.toNat, by omega⟩
    obtain ⟨K, rfl⟩ : ∃ K : Nat, k = (K : Int) := ⟨k.toNat, by omega⟩
    refine (paint_of N K (by omega) (by omega) a a' m c m' c' l l2 hm hl hc hm2 hl2 hc2 w h h2).mono ?_
    rintro e w' ⟨h1, h2⟩
    by_cases hA : AreN N l ∧ AreN N l2
    · obtain ⟨b, C, rfl, hlo, kb, hcol, hbe⟩ := h1 hA
      exact ⟨_, _, _, _, 0, rfl, rfl, hbe, Or.inr ⟨N, K, rfl, rfl, by omega, by omega, Or.inr ⟨hA, rfl, b, C, rfl, rfl, rfl, kb, hcol⟩⟩⟩
    · obtain ⟨rfl, hbe⟩ := h2 hA
      exact ⟨_, none, 0, 0, 3, rfl, rfl, hbe, Or.inr ⟨N, K, rfl, rfl, by omega, by omega, Or.inl ⟨hA, rfl, rfl⟩⟩⟩
def CheckX (n k : Int) (l l2 : List P2) (w W : World) (e : Ending) : Prop := ∃ v : Int, e = .returned (I v) ∧ Below w.heap.size w W ∧ (BadN n k ∧ v = 1 ∨ ¬ BadN n k ∧ (¬ (AreN n.toNat l ∧ AreN n.toNat l2) ∧ v = 3 ∨ (AreN n.toNat l ∧ AreN n.toNat l2) ∧ v = 0))
theorem checkX (n k : Int) (a a' : Option Addr) (m c m' c' : Nat) (l l2 : List P2) (hm : m = l.length) (hl : m ≤ 4000) (hc : m ≤ c) (hm2 : m' = l2.length) (hl2 : m' ≤ 4000) (hc2 : m' ≤ c') (w : World) (h : PairZ w (.slice a m c) l) (h2 : PairZ w (.slice a' m' c') l2) :
    Calls Try.prog 10 #[I n, .slice a m c, .slice a' m' c', I k] w fun e w' => CheckX n k l l2 w w' e := by
  by_cases hb : BadN n k
  · refine (check_bad n k a a' m c m' c' hb w).mono ?_
    rintro e w' ⟨rfl, rfl⟩
    exact ⟨1, rfl, Below.refl _ _, Or.inl ⟨hb, rfl⟩⟩
  · have hb0 := hb
    unfold BadN at hb
    obtain ⟨N, rfl⟩ : ∃ N : Nat, n = (N : Int) := ⟨n.toNat, by omega⟩
    obtain ⟨K, rfl⟩ : ∃ K : Nat, k = (K : Int) := ⟨k.toNat, by omega⟩
    refine (check_any N K (by omega) (by omega) a a' m c m' c' l l2 hm hl hc hm2 hl2 hc2 w h h2).mono ?_
    rintro e w' ⟨hbe, ⟨hA, rfl⟩ | ⟨hA, rfl⟩⟩
    · exact ⟨0, rfl, hbe, Or.inr ⟨hb0, Or.inr ⟨hA, rfl⟩⟩⟩
    · exact ⟨3, rfl, hbe, Or.inr ⟨hb0, Or.inl ⟨hA, rfl⟩⟩⟩
def CnR (w : World) (N : Nat) (C : Nat → Int) (nv iv : Value) (W : World) : Prop := ∃ i : Nat, i ≤ N ∧ iv = I (i : Int) ∧ nv = I (ctf (fun v => decide (C v < 0)) i : Int) ∧ W = w
/-- What the law has made of the number of nodes. -/
def NewN (_ n' : Int) : Prop := n' < 0 ∨ 60000 < n' ∨ 0 ≤ n' ∧ n' ≤ 3000

set_option maxRecDepth 100000 in
set_option maxHeartbeats 3200000 in
theorem paintPaints_body (n k : Int) (a a2 : Option Addr) (m c m2 c2 : Nat) (l l2 : List P2) (hm : m = l.length) (hc : m ≤ c) (hm2 : m2 = l2.length) (hc2 : m2 ≤ c2) (w : World) (h : PairZ w (.slice a m c) l) (h2 : PairZ w (.slice a2 m2 c2) l2) :
    Calls Try.prog 3 #[I n, .slice a m c, .slice a2 m2 c2, I k] w fun e w' => LawT w w' e := by
  have HAW := Lib.hid (awake_any w)
  have HH := Lib.hid (And.intro hm (And.intro hc (And.intro hm2 (And.intro hc2 (And.intro h h2)))))
  clear hm hc hm2 hc2 h h2
  go_enter Try.func3, Try.ntmps3
  go_wp2_with fail
  refine HAW.out.mono ?_
  rintro e w1 ⟨rfl, hb1⟩
  have HB1 := Lib.hid hb1
  clear hb1
  go_upto_region 3 with (fail)
  go_cut [25] (fun bv W => ∃ b : Bool, bv = .bool b ∧ (b = true ↔ 3000 < n ∧ n ≤ 60000) ∧ W = w1)
  case first =>
    go_wp2_with fail
    all_goals (go_meet; case rel => exact ⟨_, rfl, by simp; try omega, rfl⟩)
  case rest =>
  obtain ⟨b, rfl, hb, hw⟩ := hcut
  rw [hw]
  clear hw
  go_upto_if 25 with (fail)
  go_cut [0] (fun nv W => ∃ n' : Int, nv = I n' ∧ NewN n n' ∧ W = w1)
  case first =>
    cases b with
    | true =>
      have h9 := hb.1 rfl
      go_wp2_with fail
      go_meet
      case rel => exact ⟨_, rfl, by unfold NewN; omega, rfl⟩
    | false =>
      have h9 : ¬ (3000 < n ∧ n ≤ 60000) := fun e => by have := hb.2 e; cases this
      go_wp2_with fail
      go_meet
      case rel => exact ⟨_, rfl, by unfold NewN; omega, rfl⟩
  case rest =>
  obtain ⟨n', rfl, hnew, hw⟩ := hcut
  rw [hw]
  clear hw hb
  have hz1 := HH.out.2.2.2.2.1.below pairV_stays HB1.out
  have HT1 := Lib.hid (twins_any 2000 (by omega) a m c l HH.out.1 HH.out.2.1 w1 hz1)
  have HNW := Lib.hid hnew
  clear hz1 hnew
  go_wp2_with fail
  refine HT1.out.mono ?_
  rintro e w2 ⟨u1, rfl, ho1, hb2⟩
  obtain ⟨L1, hL1⟩ : ∃ L, L = l.take 2000 := ⟨_, rfl⟩
  have hL1n : L1.length ≤ 2000 := by rw [hL1, List.length_take]; omega
  rw [← hL1] at ho1
  obtain ⟨ua1, uc1, rfl⟩ := ho1.row
  have hB2 := below_tr HB1.out hb2
  have HT2 := Lib.hid (twins_any 500 (by omega) a2 m2 c2 l2 HH.out.2.2.1 HH.out.2.2.2.1 w2 (HH.out.2.2.2.2.2.below pairV_stays hB2))
  have H2 := Lib.hid (And.intro hB2 (And.intro (ho1.z pairV_stays) (And.intro (pcap ho1) hL1n)))
  clear hb2 ho1 hB2 hL1 hL1n
  go_wp2_with fail
  refine HT2.out.mono ?_
  rintro e w3 ⟨u2, rfl, ho2, hb3⟩
  obtain ⟨L2, hL2⟩ : ∃ L, L = l2.take 500 := ⟨_, rfl⟩
  have hL2n : L2.length ≤ 500 := by rw [hL2, List.length_take]; omega
  rw [← hL2] at ho2
  obtain ⟨ua2, uc2, rfl⟩ := ho2.row
  have hB3 := below_tr H2.out.1 hb3
  have hz13 := H2.out.2.1.below pairV_stays hb3
  have HT3 := Lib.hid (twins_any 2000 (by omega) ua1 L1.length uc1 L1 rfl H2.out.2.2.1 w3 hz13)
  have H3 := Lib.hid (And.intro hB3 (And.intro hz13 (And.intro (ho2.z pairV_stays) (And.intro (pcap ho2) hL2n))))
  clear hb3 ho2 hB3 hL2 hL2n hz13
  go_wp2_with fail
  refine HT3.out.mono ?_
  rintro e w4 ⟨u3, rfl, ho3, hb4⟩
  rw [List.take_of_length_le H2.out.2.2.2] at ho3
  obtain ⟨ua3, uc3, rfl⟩ := ho3.row
  have hB4 := below_tr H3.out.1 hb4
  have hz14 := H3.out.2.1.below pairV_stays hb4
  have hz24 := H3.out.2.2.1.below pairV_stays hb4
  have HT4 := Lib.hid (twins_any 500 (by omega) ua2 L2.length uc2 L2 rfl H3.out.2.2.2.1 w4 hz24)
  have H4 := Lib.hid (And.intro hB4 (And.intro hz14 (And.intro hz24 (And.intro (ho3.z pairV_stays) (pcap ho3)))))
  clear hb4 ho3 hB4 hz14 hz24
  go_wp2_with fail
  refine HT4.out.mono ?_
  rintro e w5 ⟨u4, rfl, ho4, hb5⟩
  rw [List.take_of_length_le H3.out.2.2.2.2] at ho4
  obtain ⟨ua4, uc4, rfl⟩ := ho4.row
  have hB5 := below_tr H4.out.1 hb5
  have hz15 := H4.out.2.1.below pairV_stays hb5
  have hz25 := H4.out.2.2.1.below pairV_stays hb5
  have hz35 := H4.out.2.2.2.1.below pairV_stays hb5
  have hl1 := H2.out.2.2.2
  have hl2 := H3.out.2.2.2.2
  have HP := Lib.hid (paintX n' k ua3 ua4 L1.length uc3 L2.length uc4 L1 L2 rfl (by omega) H4.out.2.2.2.2 rfl (by omega) (pcap ho4) w5 hz35 (ho4.z pairV_stays))
  have H5 := Lib.hid (And.intro hB5 (And.intro hz15 (And.intro hz25 hz35)))
  clear hb5 ho4 hB5 hz15 hz25 hz35
  go_wp2_with fail
  refine HP.out.mono ?_
  rintro e w6 ⟨cs, ca, cn, cc, ev, rfl, rfl, hb6, hX⟩
  have hi1 : (L1.length : Int) ≤ 2000 := by omega
  have hi2 : (L2.length : Int) ≤ 500 := by omega
  have hi3 : (L1.length : Int) ≤ (uc1 : Int) := by have := H2.out.2.2.1; omega
  have hi4 : (L1.length : Int) ≤ (uc3 : Int) := by have := H4.out.2.2.2.2; omega
  have H6 := Lib.hid (And.intro (below_tr H5.out.1 hb6) (And.intro (H5.out.2.1.below pairV_stays hb6) (And.intro (H5.out.2.2.1.below pairV_stays hb6) (And.intro (H5.out.2.2.2.below pairV_stays hb6) hX))))
  have HS := Lib.hid (show RtR w6 L1.length (I 0) w6 from ⟨0, Nat.zero_le _, rfl, Below.refl _ _⟩)
  clear hb6 hX
  go_wp2_with fail
  go_loopw [46] (fun iv W => RtR w6 L1.length iv W) (fun iv _ => L1.length - (intOf iv).toNat)
  case atStart => exact HS.out
  case round =>
    obtain ⟨i, hi, rfl, hbe⟩ := hrel
    by_cases hin : i < L1.length
    · obtain ⟨b, _, rfl, hbl, c0, e0⟩ := (H6.out.2.1.below pairV_stays hbe).at i hin
      obtain rfl := e0
      obtain ⟨b', _, rfl, hbl', c0', e0'⟩ := (H6.out.2.2.2.1.below pairV_stays hbe).at i hin
      obtain rfl := e0'
      rw [getD_pr hin] at c0 c0'
      obtain ⟨p, q, hx⟩ : ∃ a b, pr L1 i = (a, b) := ⟨_, _, rfl⟩
      rw [hx] at c0 c0'
      have x0 : wr.cell? (b.add (i * 2)) = some (I p) := c0.f0
      have x1 : wr.cell? ⟨(b.add (i * 2)).block, (b.add (i * 2)).off + 1, none⟩ = some (I q) := c0.f1
      have y0 : wr.cell? (b'.add (i * 2)) = some (I p) := c0'.f0
      have y1 : wr.cell? ⟨(b'.add (i * 2)).block, (b'.add (i * 2)).off + 1, none⟩ = some (I q) := c0'.f1
      have d0 : decide (i < L1.length) = true := by simpa using hin
      have d1 : (0 : Int) ≤ (i : Int) := by omega
      have d2 : (i : Int) < (L1.length : Int) := by omega
      have d3 : (i : Int) ≤ (uc1 : Int) := by omega
      have d4 : (i : Int) ≤ (uc3 : Int) := by omega
      have hneq := neq_p p q
      have HN := Lib.hid (fun W2 (hb2 : Below w6.heap.size w6 W2) => show RtR w6 L1.length (I ((i : Int) + 1)) W2 from ⟨i + 1, hin, rfl, hb2⟩)
      have HT := Lib.hid (And.intro hin hbe)
      clear hbe hin hi hx c0 c0' hbl hbl'
      go_upto_region 11 with (fail)
      go_quiet (fail)
      go_wp2_with fail
      exact ⟨HN.out _ (below_drewN HT.out.2 _), by have := HT.out.1; simp [intOf]; omega⟩
    · have d0 : decide (i < L1.length) = false := by simpa using hin
      have hz1 := H6.out.2.1.below pairV_stays hbe
      have HCK := Lib.hid (checkX n' k ua1 ua2 L1.length uc1 L2.length uc2 L1 L2 rfl (by omega) H2.out.2.2.1 rfl (by omega) H3.out.2.2.2.1 wr hz1 (H6.out.2.2.1.below pairV_stays hbe))
      have H7 := Lib.hid (And.intro hbe hz1)
      clear hbe hin hi hz1
      go_wp2_with fail
      refine HCK.out.mono ?_
      rintro e w7 ⟨v, rfl, hb7, hCX⟩
      have FIN := Lib.hid (show LawT w w7 (.returned (.bool true)) from ⟨rfl, below_tr H6.out.1 (below_tr H7.out.1 hb7)⟩)
      have hX := H6.out.2.2.2.2
      rcases hX with ⟨hbad, rfl, rfl⟩ | ⟨N, K, rfl, rfl, hN, hK, ⟨hA, rfl, rfl⟩ | ⟨hA, rfl, bb, C, rfl, rfl, rfl, kb, hcol⟩⟩
      · rcases hCX with ⟨_, rfl⟩ | ⟨h9, _⟩
        · clear hb7
          go_wp2_with fail
          go_ret
          exact FIN.out
        · exact absurd hbad h9
      · have hnb : ¬ BadN (N : Int) (K : Int) := by unfold BadN; omega
        rcases hCX with ⟨h9, _⟩ | ⟨_, ⟨_, rfl⟩ | ⟨h9, _⟩⟩
        · exact absurd h9 hnb
        · clear hb7
          go_wp2_with fail
          go_ret
          exact FIN.out
        · rw [Int.toNat_natCast] at h9
          exact absurd h9 hA
      · have hnb : ¬ BadN (N : Int) (K : Int) := by unfold BadN; omega
        rcases hCX with ⟨h9, _⟩ | ⟨_, ⟨h9, _⟩ | ⟨_, rfl⟩⟩
        · exact absurd h9 hnb
        · rw [Int.toNat_natCast] at h9
          exact absurd hA h9
        · have k7 := (kb.below H7.out.1 kb.lt).below hb7 (kb.below H7.out.1 kb.lt).lt
          have hz7 := H7.out.2.below pairV_stays hb7
          by_cases h60 : 60 < N
          · have g1 : (60 : Int) < (N : Int) := by omega
            have g2 : (N : Int) ≤ 60000 := by omega
            have HS7 := Lib.hid (show CnR w7 N C (I 0) (I 0) w7 from ⟨0, Nat.zero_le _, rfl, rfl, rfl⟩)
            have HK7 := Lib.hid (And.intro k7 (And.intro hcol (And.intro hK hN)))
            clear hb7 k7 hz7 kb hcol hnb h60
            go_wp2_with fail
            go_loopw [15, 78] (fun nv iv W => CnR w7 N C nv iv W) (fun _ iv _ => N - (intOf iv).toNat)
            case atStart => exact HS7.out
            case round =>
              obtain ⟨j, hj, rfl, rfl, rfl⟩ := hrel
              have hcl : (ctf (fun v => decide (C v < 0)) j : Int) ≤ 60000 := by have := ctf_le (fun v => decide (C v < 0)) j; omega
              have hcl0 : (0 : Int) ≤ (ctf (fun v => decide (C v < 0)) j : Int) := by omega
              by_cases hjn : j < N
              · have z0 := HK7.out.1.get j (I (C j)) (arrF_get _ hjn)
                have f0 : decide (j < N) = true := by simpa using hjn
                have f1 : (0 : Int) ≤ (j : Int) := by omega
                have f2 : (j : Int) < (N : Int) := by omega
                have hsu : ctf (fun v => decide (C v < 0)) (j + 1) = ctf (fun v => decide (C v < 0)) j + if decide (C j < 0) = true then 1 else 0 := rfl
                have HN := Lib.hid (show CnR wr N C (I (ctf (fun v => decide (C v < 0)) (j + 1) : Int)) (I ((j : Int) + 1)) wr from ⟨j + 1, hjn, rfl, rfl, rfl⟩)
                rw [hsu] at HN
                have HT := Lib.hid hjn
                by_cases e : C j < 0
                · rw [if_pos (decide_eq_true e)] at HN
                  rw [show ((ctf (fun v => decide (C v < 0)) j + 1 : Nat) : Int) = (ctf (fun v => decide (C v < 0)) j : Int) + 1 by omega] at HN
                  clear hsu hjn hj
                  generalize C j = cj at *
                  generalize (ctf (fun v => decide (C v < 0)) j : Int) = Q at *
                  go_wp2_with fail
                  exact ⟨HN.out, by have := HT.out; simp [intOf]; omega⟩
                · rw [if_neg (by simpa using e), Nat.add_zero] at HN
                  have e' : decide (C j < 0) = false := decide_eq_false e
                  clear hsu hjn hj
                  generalize C j = cj at *
                  generalize (ctf (fun v => decide (C v < 0)) j : Int) = Q at *
                  go_wp2_with fail
                  exact ⟨HN.out, by have := HT.out; simp [intOf]; omega⟩
              · obtain rfl : j = N := by omega
                have f0 : decide (j < j) = false := by simp
                by_cases hq : ctf (fun v => decide (C v < 0)) j = 0
                · rw [hq]
                  clear hcl hcl0 hjn hj hq
                  go_wp2_with fail
                  go_ret
                  exact FIN.out
                · obtain ⟨v, hv, hvc⟩ := ctf_zero hq
                  have hle := len_ge HK7.out.2.1 hv (by
                    have h1 := (HK7.out.2.1.bo v hv).1
                    have h2 : C v < 0 := by simpa using hvc
                    omega)
                  have t1 : (K : Int) ≤ (L1.length : Int) := by omega
                  have t2 : ((ctf (fun v => decide (C v < 0)) j : Int) == 0) = false := by rw [beq_eq_false_iff_ne]; omega
                  have t3 : ¬ (ctf (fun v => decide (C v < 0)) j : Int) = 0 := by omega
                  clear hjn hj hq hv hvc
                  generalize (ctf (fun v => decide (C v < 0)) j : Int) = Q at *
                  by_cases hk0 : K = 0
                  · subst hk0
                    go_wp2_with fail
                    go_ret
                    exact FIN.out
                  · have t4 : ((K : Int) == 0) = false := by rw [beq_eq_false_iff_ne]; omega
                    have t5 : ¬ (K : Int) = 0 := by omega
                    have t6 : decide (K ≤ L1.length) = true := by rw [decide_eq_true_eq]; omega
                    clear hk0
                    go_wp2_with fail
                    go_ret
                    exact FIN.out
          · have g1 : ¬ (60 : Int) < (N : Int) := by omega
            have g2 : (N : Int) ≤ 60 := by omega
            have HRT := Lib.hid (right_any N K bb (by omega) hK C ua1 L1.length uc1 L1 rfl (by omega) H2.out.2.2.1 hA.1 hcol w7 hz7 k7)
            have H8 := Lib.hid (below_tr H6.out.1 (below_tr H7.out.1 hb7))
            clear hb7 k7 hz7 kb hcol hnb h60
            go_wp2_with fail
            refine HRT.out.mono ?_
            rintro e w8 ⟨rfl, hb8⟩
            have FIN2 := Lib.hid (show LawT w w8 (.returned (.bool true)) from ⟨rfl, below_tr H8.out hb8⟩)
            clear hb8
            go_wp2_with fail
            go_ret
            exact FIN2.out
end Go.Proofs.Ytgblpfahgpneoaa
