/-
  InstLimits' body, walked.
-/
import Derived.Test.YtlblmnneikdpgaaDoorIbPp
import Derived.Test.YtlblmnneikdpgaaDoorIbUp
import Derived.Test.YtlblmnneikdpgaaDoorIbH
import Derived.Test.YtlblmnneikdpgaaDoorIbAw
namespace Go.Proofs.YtlblmnneikdpgaaDoor
open Go Go.RowKit Ib

def mt : Wd := ⟨38, 0, 0, 0, 0⟩
theorem enc_mt : encW mt = [38, 0] := by decide
theorem form_mt : FormW mt := ⟨1, false, by decide, by unfold RegOk mt; decide, by decide, by decide⟩
theorem wf_mt : WfW mt := ⟨by decide, by decide, by decide, by decide, by unfold In64 mt; decide⟩
abbrev mr (K : Nat) : List Wd := List.replicate K mt
theorem mr_form (K : Nat) : ∀ x ∈ mr K, FormW x := fun x hx => by rw [(List.mem_replicate.1 hx).2]; exact form_mt
theorem mr_wf (K : Nat) : ∀ x ∈ mr K, WfW x := fun x hx => by rw [(List.mem_replicate.1 hx).2]; exact wf_mt
theorem mq_succ (K : Nat) : encs (mr (K + 1)) = 38 :: 0 :: encs (mr K) := by
  unfold mr
  rw [List.replicate_succ, encs_cons, enc_mt]
  rfl
theorem mq_len : ∀ K, (encs (mr K)).length = 2 * K
  | 0 => rfl
  | K + 1 => by rw [mq_succ, List.length_cons, List.length_cons, mq_len K]; omega
theorem mq_get : ∀ (K j : Nat), j < 2 * K → (encs (mr K))[j]? = some (if j % 2 = 0 then 38 else 0)
  | 0, j, h => absurd h (by omega)
  | K + 1, 0, _ => by rw [mq_succ]; rfl
  | K + 1, 1, _ => by rw [mq_succ]; rfl
  | K + 1, j + 2, h => by
    rw [mq_succ]
    show (encs (mr K))[j]? = _
    rw [mq_get K j (by omega), show (j + 2) % 2 = j % 2 by omega]
theorem mr_pre : ∀ (l : List Wd) (K : Nat) (r : List Nat), (∀ x ∈ l, FormW x) → encs l ++ r = encs (mr K) → r ≠ [] → l.length < K
  | [], 0, r, _, h, hr => absurd (by simpa [encs] using h) hr
  | [], K + 1, _, _, _, _ => by simp
  | y :: l, 0, r, hf, h, _ => by
    have h1 : encW y = [] := by
      have h2 : encW y ++ (encs l ++ r) = [] := by rw [← List.append_assoc, ← encs_cons]; exact h
      exact (List.append_eq_nil_iff.1 h2).1
    exact absurd h1 (encW_ne (hf y List.mem_cons_self))
  | y :: l, K + 1, r, hf, h, hr => by
    have h2 : encs (mr (K + 1)) = encW mt ++ encs (mr K) := by rw [mq_succ, enc_mt]; rfl
    have e : y = mt := PreW.one (p := encs (mr (K + 1))) ⟨hf y List.mem_cons_self, by rw [← h, encs_cons, List.append_assoc]; exact List.prefix_append _ _⟩ ⟨form_mt, by rw [h2]; exact List.prefix_append _ _⟩
    subst e
    rw [encs_cons, List.append_assoc, h2] at h
    have := mr_pre l K r (fun x hx => hf x (List.mem_cons_of_mem _ hx)) (List.append_cancel_left h) hr
    simp
    omega
theorem bytes_of_cur {b : Nat} {cur : Array Value} {W : World} {l : List Nat} (h : Blk b cur 5 W) (hs : cur.size = l.length) (hc : ∀ (j : Nat) (hj : j < l.length), cur[j]? = some (B8 l[j])) : ByteZ W (.slice (some ⟨b, 0, none⟩) l.length l.length) l := by
  refine ⟨_, _, rfl, Nat.le_refl _, fun i hi => ⟨⟨b, 0, none⟩, [B8 l[i]], rfl, h.lt, ?_, rfl⟩⟩
  intro k u hk
  have hk0 : k = 0 := by
    rcases k with _ | k
    · rfl
    · simp at hk
  subst hk0
  simp at hk
  subst hk
  have e : ((⟨b, 0, none⟩ : Addr).add (i * 1)).add 0 = ⟨b, i, none⟩ := by rw [Addr.add_lit, Addr.add_lit]; congr 1; omega
  rw [e]
  exact h.get i _ (hc i hi)
/-- How far the bytes are written. -/
def LmR (w : World) (b K i : Nat) (W : World) : Prop := ∃ cur : Array Value, Blk b cur 5 W ∧ cur.size = 2 * K ∧ (∀ j, j < 2 * i → cur[j]? = some (B8 (if j % 2 = 0 then 38 else 0))) ∧ (∀ j, 2 * i ≤ j → j < 2 * K → cur[j]? = some (B8 0)) ∧ Below w.heap.size w W
theorem LmR.step {w W : World} {b K i : Nat} (h : LmR w b K i W) (hi : i < K) (hb : w.heap.size ≤ b) : LmR w b K (i + 1) (W.setCell ⟨b, 2 * i, none⟩ (B8 38)) := by
  obtain ⟨cur, h1, h2, h3, h4, h5⟩ := h
  refine ⟨cur.setIfInBounds (2 * i) (B8 38), h1.set (2 * i) _, by simpa using h2, fun j hj => ?_, fun j h6 h7 => ?_, below1 hb h5 _⟩
  · by_cases e : 2 * i = j
    · subst e
      rw [Array.getElem?_setIfInBounds_self_of_lt (by omega), show 2 * i % 2 = 0 by omega]
      rfl
    · rw [Array.getElem?_setIfInBounds_ne e]
      by_cases h8 : j < 2 * i
      · exact h3 j h8
      · rw [h4 j (by omega) (by omega), show j % 2 = 1 by omega]
        rfl
  · rw [Array.getElem?_setIfInBounds_ne (by omega)]
    exact h4 j (by omega) h7
theorem LmR.done {w W : World} {b K : Nat} (h : LmR w b K K W) : ByteZ W (.slice (some ⟨b, 0, none⟩) (2 * K) (2 * K)) (encs (mr K)) := by
  obtain ⟨cur, h1, h2, h3, h4, h5⟩ := h
  have h6 := bytes_of_cur (l := encs (mr K)) h1 (by rw [mq_len, h2]) (fun j hj => by
    rw [mq_len] at hj
    rw [h3 j hj]
    have h7 := mq_get K j hj
    rw [List.getElem?_eq_getElem (by rw [mq_len]; exact hj)] at h7
    rw [Option.some.inj h7])
  rw [mq_len] at h6
  exact h6
theorem mk_bytes (n : Nat) (hn : n ≤ 1000000) (u : World) : (Instr.makeSlice 24 (I (n : Int)) (I (n : Int))).run Tryd.prog u = .ok (.slice (some ⟨u.heap.size, 0, none⟩) n n) (u.alloc (.cells (madeCells #[B8 0] n) 5)) := by
  obtain ⟨i0, hi, hz0, hz1, hz2⟩ := info_parts infoB'
  have h := run_makeSlice (P := Tryd.prog) (w := u) 24 5 i0 _ Tryd.underlying24 hi hz0 .i64 .i64 (n : Int) (n : Int) (by omega) (Int.le_refl _) (by rw [hz1]; simp; omega) (by rw [hz2]; simp; omega) (by omega)
  rw [hz1, show (B8 0).cells = #[B8 0] from rfl] at h
  simpa using h
theorem mk_words (n : Nat) (hn : n ≤ 1000000) (u : World) : (Instr.makeSlice 40 (I (n : Int)) (I (n : Int))).run Tryd.prog u = .ok (.slice (some ⟨u.heap.size, 0, none⟩) n n) (u.alloc (.cells (madeCells zR (n * 5)) 23)) := by
  obtain ⟨i0, hi, hz0, hz1, hz2⟩ := info_parts infoW
  have h := run_makeSlice (P := Tryd.prog) (w := u) 40 23 i0 _ Tryd.underlying40 hi hz0 .i64 .i64 (n : Int) (n : Int) (by omega) (Int.le_refl _) (by rw [hz1]; simp; omega) (by rw [hz2]; simp; omega) (by omega)
  rw [hz1, show (Value.agg zR).cells = zR from rfl] at h
  simpa using h
theorem made_get (n j : Nat) (hj : j < n) : (madeCells #[B8 0] n)[j]? = some (B8 0) := by
  unfold madeCells
  rw [Array.getElem?_map, Array.getElem?_range, if_pos hj]
  simp [Nat.mod_one]
theorem LmR.start {w W : World} {b K : Nat} (h : Blk b (madeCells #[B8 0] (2 * K)) 5 W) (hb : Below w.heap.size w W) : LmR w b K 0 W :=
  ⟨_, h, size_madeCells _ _, fun j hj => absurd hj (by omega), fun j _ hj => made_get _ _ hj, hb⟩

/-- How far the instructions are written. -/
def LwR (w : World) (b K i : Nat) (W : World) : Prop := ∃ cur : Array Value, Blk b cur 23 W ∧ cur.size = K * 5 ∧ (∀ j, j < i → ∀ k, k < 5 → cur[j * 5 + k]? = (encWd mt)[k]?) ∧ Below w.heap.size w W
theorem set5_far (cur : Array Value) (o : Nat) (v0 v1 v2 v3 v4 : Value) (x : Nat) (h : x < o) : (((((cur.setIfInBounds o v0).setIfInBounds (o + 1) v1).setIfInBounds (o + 2) v2).setIfInBounds (o + 3) v3).setIfInBounds (o + 4) v4)[x]? = cur[x]? := by
  rw [Array.getElem?_setIfInBounds_ne (by omega), Array.getElem?_setIfInBounds_ne (by omega), Array.getElem?_setIfInBounds_ne (by omega), Array.getElem?_setIfInBounds_ne (by omega), Array.getElem?_setIfInBounds_ne (by omega)]
theorem set5_at (cur : Array Value) (o : Nat) (v0 v1 v2 v3 v4 : Value) (ho : o + 5 ≤ cur.size) (m : Nat) (hm : m < 5) : (((((cur.setIfInBounds o v0).setIfInBounds (o + 1) v1).setIfInBounds (o + 2) v2).setIfInBounds (o + 3) v3).setIfInBounds (o + 4) v4)[o + m]? = [v0, v1, v2, v3, v4][m]? := by
  have h0 : o < cur.size := by omega
  have h1 : o + 1 < cur.size := by omega
  have h2 : o + 2 < cur.size := by omega
  have h3 : o + 3 < cur.size := by omega
  have h4 : o + 4 < cur.size := by omega
  match m, hm with
  | 0, _ => simp [Array.getElem?_setIfInBounds, h0, h1, h2, h3, h4]
  | 1, _ => simp [Array.getElem?_setIfInBounds, h0, h1, h2, h3, h4]
  | 2, _ => simp [Array.getElem?_setIfInBounds, h0, h1, h2, h3, h4]
  | 3, _ => simp [Array.getElem?_setIfInBounds, h0, h1, h2, h3, h4]
  | 4, _ => simp [Array.getElem?_setIfInBounds, h0, h1, h2, h3, h4]
  | n + 5, h => exact absurd h (by omega)
theorem LwR.step {w W : World} {b K i : Nat} (h : LwR w b K i W) (hi : i < K) (hb : w.heap.size ≤ b) :
    LwR w b K (i + 1) (((((W.setCell ⟨b, i * 5, none⟩ (.int .u8 38)).setCell ⟨b, i * 5 + 1, none⟩ (.int .u8 0)).setCell ⟨b, i * 5 + 2, none⟩ (.int .u8 0)).setCell ⟨b, i * 5 + 3, none⟩ (.int .u8 0)).setCell ⟨b, i * 5 + 4, none⟩ (.int .i64 0)) := by
  obtain ⟨cur, h1, h2, h3, h5⟩ := h
  refine ⟨_, ((((h1.set (i * 5) _).set (i * 5 + 1) _).set (i * 5 + 2) _).set (i * 5 + 3) _).set (i * 5 + 4) _, by simpa using h2, fun j hj k hk => ?_, below1 hb (below1 hb (below1 hb (below1 hb (below1 hb h5 _) _) _) _) _⟩
  by_cases e : j = i
  · subst e
    rw [set5_at cur (j * 5) _ _ _ _ _ (by omega) k hk]
    rfl
  · rw [set5_far cur (i * 5) _ _ _ _ _ _ (by omega)]
    exact h3 j (by omega) k hk
theorem LwR.done {w W : World} {b K : Nat} (h : LwR w b K K W) : WordZ W (.slice (some ⟨b, 0, none⟩) K K) (mr K) := by
  obtain ⟨cur, h1, h2, h3, h5⟩ := h
  refine ⟨_, K, by rw [List.length_replicate], by rw [List.length_replicate]; exact Nat.le_refl _, fun i hi => ⟨⟨b, 0, none⟩, encWd mt, rfl, h1.lt, ?_, by simp [FlatV]⟩⟩
  rw [List.length_replicate] at hi
  intro k u hk
  have hk5 : k < 5 := by
    have := (List.getElem?_eq_some_iff.1 hk).1
    simpa [encWd] using this
  rw [Addr.add_lit, Addr.add_lit, Nat.zero_add]
  exact h1.get _ _ ((h3 i hi k hk5).trans hk)

set_option maxRecDepth 100000 in
set_option maxHeartbeats 3200000 in
theorem instLimits_body (aM aW : Addr) (n : Nat) (hn : n < 256) (w : World) (hs : Sen aM aW w) :
    Calls Tryd.prog 6 #[B8 n] w fun e w' => LawT w w' e := by
  have HA := Lib.hid (awake_any aM aW w hs)
  have dn0 : (0 : Int) ≤ (n : Int) := by omega
  have dn1 : (n : Int) < 256 := by omega
  have H0 := Lib.hid hs
  clear hs hn
  go_enter Tryd.func6, Tryd.ntmps6
  go_wp2_with fail
  refine HA.out.mono ?_
  rintro e w1 ⟨rfl, hb1⟩
  obtain ⟨K, hK⟩ : ∃ K, K = 262142 + n / 2 % 5 := ⟨_, rfl⟩
  have hKn : (262142 : Int) + (n : Int) / 2 % 5 = (K : Int) := by omega
  have hmk : ∀ u : World, (Instr.makeSlice 24 (I (2 * (K : Int))) (I (2 * (K : Int)))).run Tryd.prog u = .ok (.slice (some ⟨u.heap.size, 0, none⟩) (2 * K) (2 * K)) (u.alloc (.cells (madeCells #[B8 0] (2 * K)) 5)) := fun u => by
    have h := mk_bytes (2 * K) (by omega) u
    rw [show ((2 * K : Nat) : Int) = 2 * (K : Int) from by omega] at h
    exact h
  have HKB := Lib.hid (show 262142 ≤ K ∧ K ≤ 262146 by omega)
  obtain ⟨Z, hZ⟩ : ∃ Z, Z = madeCells #[B8 0] (2 * K) := ⟨_, rfl⟩
  rw [← hZ] at hmk
  obtain ⟨W1, hW1⟩ : ∃ W, W = w1.alloc (.cells Z 5) := ⟨_, rfl⟩
  obtain ⟨b, hb⟩ : ∃ b, b = w1.heap.size := ⟨_, rfl⟩
  have hB1 : Below w.heap.size w W1 := by rw [hW1]; exact hb1.alloc hb1.size _
  have kb : Blk b Z 5 W1 := by rw [hW1, hb]; exact Blk.new _ _ _
  have HST := Lib.hid (LmR.start (w := w) (K := K) (by rw [← hZ]; exact kb) hB1)
  have HB := Lib.hid (show w.heap.size ≤ b by rw [hb]; exact hb1.size)
  have HW1 := Lib.hid (And.intro hW1 hb)
  have dk0 : (0 : Int) ≤ (K : Int) := by omega
  have dk1 : (K : Int) ≤ 262146 := by omega
  clear hb1 hW1 hb hB1 kb hZ HA hK
  go_upto_region 4 with (fail)
  clear hKn
  go_upto_region 5 with (fail)
  rw [← HW1.out.2]
  change Code.wp _ _ _ _ (w1.alloc (.cells Z 5))
  rw [← HW1.out.1]
  clear hmk
  go_wp2_with fail
  go_loopw [23] (fun iv W => ∃ i : Nat, i ≤ K ∧ iv = I (i : Int) ∧ LmR w b K i W) (fun iv _ => K - (intOf iv).toNat)
  case atStart => exact ⟨0, Nat.zero_le _, rfl, HST.out⟩
  case round =>
    obtain ⟨i, hi, rfl, hR⟩ := hrel
    by_cases hlt : i < K
    · have d0 : decide (i < K) = true := by simpa using hlt
      have hstep := hR.step hlt HB.out
      obtain ⟨cur, h1, h2, h3, h4, h5⟩ := hR
      have c0 := h1.get (2 * i) (B8 0) (h4 (2 * i) (by omega) (by omega))
      have v0 := h1.free (2 * i)
      have d1 : (0 : Int) ≤ (i : Int) := by omega
      have d2 : (i : Int) < (K : Int) := by omega
      have HX := Lib.hid (And.intro hstep hlt)
      clear h1 h2 h3 h4 h5 hstep hlt hi HST
      go_wp2_with fail
      exact ⟨⟨i + 1, HX.out.2, rfl, HX.out.1⟩, by have := HX.out.2; simp [intOf]; omega⟩
    · have d0 : decide (i < K) = false := by simpa using hlt
      have hiK : i = K := by omega
      rw [hiK] at hR
      have hz := hR.done
      obtain ⟨_, _, _, _, _, hbw⟩ := hR
      have hsw := H0.out.below hbw (fun k hk => H0.out.lts k hk)
      have HR := Lib.hid (And.intro hz (And.intro hbw hsw))
      have hby : Byt (encs (mr K)) := fun z hz => by
        obtain ⟨x, hx, hz⟩ := List.mem_flatMap.1 hz
        exact encW_byt (mr_wf K x hx) z hz
      have HBY := Lib.hid hby
      clear hz hbw hsw hby hiK hlt hi HST
      by_cases hpar : n % 2 = 0
      · have e0 : ((n : Int) % 2 == 0) = true := by simp; omega
        have HU := Lib.hid (unpack_any aM aW (some ⟨b, 0, none⟩) (2 * K) (2 * K) (encs (mr K)) HBY.out wr HR.out.1 HR.out.2.2)
        clear hpar dk0 dk1
        go_wp2_with fail
        refine HU.out.mono ?_
        rintro e w2 ⟨hb2, hor⟩
        have FIN := Lib.hid (show LawT w w2 (.returned (.bool true)) from ⟨rfl, below_tr HR.out.2.1 hb2⟩)
        clear hb2 HU
        rcases hor with ⟨l', h1, h2, h3, v, rfl, hzv⟩ | ⟨h, rfl⟩ | ⟨⟨l', r, h1, h2, h3, h4⟩, rfl⟩
        · have h5 : l' = mr K := encL_inj h2 (mr_form K) h1
          subst h5
          obtain ⟨av, cv, rfl⟩ := hzv.size
          rw [List.length_replicate] at h3 ⊢
          have d1 : decide ((K : Int) ≤ 262144) = true := by simp; omega
          clear h1 h2 h3 hzv
          go_wp2_with fail
          go_ret
          exact FIN.out
        · exact absurd (mr_form K) (fun h2 => h (mr K) rfl h2)
        · have h5 := mr_pre l' K r h2 h1 h4
          have d1 : decide ((K : Int) ≤ 262144) = false := by simp; omega
          have d2 : decide ((262144 : Int) < (K : Int)) = true := by simp; omega
          clear h1 h2 h3 h4 h5
          go_wp2_with fail
          go_ret
          exact FIN.out
      · have e0 : ((n : Int) % 2 == 0) = false := by simp; omega
        obtain ⟨WR, rfl⟩ : ∃ WR : World, WR = wr := ⟨_, rfl⟩
        have hmk : ∀ u : World, (Instr.makeSlice 40 (I (K : Int)) (I (K : Int))).run Tryd.prog u = .ok (.slice (some ⟨u.heap.size, 0, none⟩) K K) (u.alloc (.cells (madeCells zR (K * 5)) 23)) := mk_words K (by omega)
        obtain ⟨Z2, hZ2⟩ : ∃ Z, Z = madeCells zR (K * 5) := ⟨_, rfl⟩
        rw [← hZ2] at hmk
        obtain ⟨W2, hW2⟩ : ∃ W, W = WR.alloc (.cells Z2 23) := ⟨_, rfl⟩
        obtain ⟨b2, hb2⟩ : ∃ b, b = WR.heap.size := ⟨_, rfl⟩
        have hB2 : Below WR.heap.size WR W2 := by rw [hW2]; exact (Below.refl _ _).alloc (Nat.le_refl _) _
        have kb2 : Blk b2 Z2 23 W2 := by rw [hW2, hb2]; exact Blk.new _ _ _
        have HST := Lib.hid (show LwR WR b2 K 0 W2 from ⟨Z2, kb2, by rw [hZ2]; exact size_madeCells _ _, (fun j hj => absurd hj (by omega)), hB2⟩)
        have HB2 := Lib.hid (show WR.heap.size ≤ b2 by rw [hb2]; exact Nat.le_refl _)
        have HW2 := Lib.hid (And.intro hW2 hb2)
        clear hpar hW2 hb2 hB2 kb2 hZ2
        go_upto_region 14 with (fail)
        rw [← HW2.out.2]
        change Code.wp _ _ _ _ (WR.alloc (.cells Z2 23))
        rw [← HW2.out.1]
        clear hmk
        go_wp2_with fail
        go_loopw [68] (fun iv W => ∃ i : Nat, i ≤ K ∧ iv = I (i : Int) ∧ LwR WR b2 K i W) (fun iv _ => K - (intOf iv).toNat)
        case atStart => exact ⟨0, Nat.zero_le _, rfl, HST.out⟩
        case round =>
          obtain ⟨j, hj, rfl, hR⟩ := hrel
          by_cases hlt : j < K
          · have d0 : decide (j < K) = true := by simpa using hlt
            have hstep := hR.step hlt HB2.out
            obtain ⟨cur, h1, h2, h3, h5⟩ := hR
            obtain ⟨z0, hz0⟩ : ∃ z, cur[j * 5]? = some z := ⟨_, Array.getElem?_eq_getElem (by omega)⟩
            obtain ⟨z1, hz1⟩ : ∃ z, cur[j * 5 + 1]? = some z := ⟨_, Array.getElem?_eq_getElem (by omega)⟩
            obtain ⟨z2, hz2⟩ : ∃ z, cur[j * 5 + 2]? = some z := ⟨_, Array.getElem?_eq_getElem (by omega)⟩
            obtain ⟨z3, hz3⟩ : ∃ z, cur[j * 5 + 3]? = some z := ⟨_, Array.getElem?_eq_getElem (by omega)⟩
            obtain ⟨z4, hz4⟩ : ∃ z, cur[j * 5 + 4]? = some z := ⟨_, Array.getElem?_eq_getElem (by omega)⟩
            have c0 := h1.get (j * 5) z0 hz0
            have c1 := h1.get (j * 5 + 1) z1 hz1
            have c2 := h1.get (j * 5 + 2) z2 hz2
            have c3 := h1.get (j * 5 + 3) z3 hz3
            have c4 := h1.get (j * 5 + 4) z4 hz4
            have v0 := h1.free (j * 5)
            have v1 := h1.free (j * 5 + 1)
            have v2 := h1.free (j * 5 + 2)
            have v3 := h1.free (j * 5 + 3)
            have v4 := h1.free (j * 5 + 4)
            have d1 : (0 : Int) ≤ (j : Int) := by omega
            have d2 : (j : Int) < (K : Int) := by omega
            have HX := Lib.hid (And.intro hstep hlt)
            clear h1 h2 h3 h5 hstep hlt hj HST hz0 hz1 hz2 hz3 hz4
            go_wp2_with fail
            exact ⟨⟨j + 1, HX.out.2, rfl, HX.out.1⟩, by have := HX.out.2; simp [intOf]; omega⟩
          · have d0 : decide (j < K) = false := by simpa using hlt
            have hjK : j = K := by omega
            rw [hjK] at hR
            have hwz := hR.done
            obtain ⟨_, _, _, _, hbw2⟩ := hR
            have hsq := HR.out.2.2.below hbw2 (fun k hk => HR.out.2.2.lts k hk)
            have hbz := HR.out.1.below byteV_stays hbw2
            have HP := Lib.hid (pack_any aM aW (.slice (some ⟨b2, 0, none⟩) K K) (mr K) (by rw [List.length_replicate]; have := HKB.out.2; omega) (mr_wf K) wr hwz hsq)
            have HQ := Lib.hid (And.intro hbz (below_tr HR.out.2.1 hbw2))
            clear hwz hbw2 hsq hbz hjK hlt hj HST dk0 dk1
            go_wp2_with fail
            refine HP.out.mono ?_
            rintro e w2 ⟨hb2, hor⟩
            have FIN := Lib.hid (show LawT w w2 (.returned (.bool true)) from ⟨rfl, below_tr HQ.out.2 hb2⟩)
            rw [List.length_replicate] at hor
            rcases hor with ⟨h1, rfl⟩ | ⟨h1, h2, v, rfl, hzv⟩ | ⟨h1, h2, rfl⟩
            · have d1 : decide ((K : Int) ≤ 262144) = false := by simp; omega
              have d2 : decide ((262144 : Int) < (K : Int)) = true := by simp; omega
              clear h1 hb2
              go_wp2_with fail
              go_ret
              exact FIN.out
            · have hSB := sameB_any HBY.out HBY.out w2 hzv (HQ.out.1.below byteV_stays hb2)
              rw [decide_eq_true rfl] at hSB
              obtain ⟨av, cv, rfl⟩ := hzv.size
              have HSB := Lib.hid hSB
              have d1 : decide ((K : Int) ≤ 262144) = true := by simp; omega
              clear h1 h2 hb2 hzv hSB
              go_wp2_with fail
              refine HSB.out.mono ?_
              rintro e w3 ⟨rfl, rfl⟩
              go_wp2_with fail
              go_ret
              exact FIN.out
            · exact absurd (mr_form K) h2
end Go.Proofs.YtlblmnneikdpgaaDoor
