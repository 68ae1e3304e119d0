/-
  How well colours suit.
-/
import Derived.Test.YtgblpfahgpneoaaPtH
namespace Go.Proofs.Ytgblpfahgpneoaa
open Go Go.RowKit

def dS (C : Nat → Int) (T : Nat → Nat) (x c : Nat) : Int := if C x = (c : Int) then 4 else if C x = -1 ∧ tk T x c = false then 2 else 0
def slS (C : Nat → Int) (T : Nat → Nat) (k : Nat) (l : List Nat) (c : Nat) : Int := if c < k then (l.map fun x => dS C T x c).sum else 0
def wnS (C Wh : Nat → Int) (l : List Nat) (c : Nat) : Int := (l.map fun x => if Wh x = (c : Int) ∧ C x = -1 then (1 : Int) else 0).sum
theorem dS_le (C : Nat → Int) (T : Nat → Nat) (x c : Nat) : 0 ≤ dS C T x c ∧ dS C T x c ≤ 4 := by
  unfold dS
  split
  · omega
  · split <;> omega
theorem slS_app (C : Nat → Int) (T : Nat → Nat) (k : Nat) (l : List Nat) (x c : Nat) : slS C T k (l ++ [x]) c = slS C T k l c + if c < k then dS C T x c else 0 := by
  unfold slS
  split <;> simp
theorem wnS_app (C Wh : Nat → Int) (l : List Nat) (x c : Nat) : wnS C Wh (l ++ [x]) c = wnS C Wh l c + if Wh x = (c : Int) ∧ C x = -1 then 1 else 0 := by
  unfold wnS
  simp
theorem slS_le (C : Nat → Int) (T : Nat → Nat) (k : Nat) (l : List Nat) (c : Nat) : 0 ≤ slS C T k l c ∧ slS C T k l c ≤ 4 * l.length := by
  unfold slS
  split
  · induction l with
    | nil => simp
    | cons x r ih => have := dS_le C T x c; simp; omega
  · omega
theorem wnS_le (C Wh : Nat → Int) (l : List Nat) (c : Nat) : 0 ≤ wnS C Wh l c ∧ wnS C Wh l c ≤ l.length := by
  unfold wnS
  induction l with
  | nil => simp
  | cons x r ih =>
    rw [List.map_cons, List.sum_cons, List.length_cons]
    split <;> omega
theorem take_nat {l : List Nat} {i : Nat} (h : i < l.length) : l.take (i + 1) = l.take i ++ [l[i]] := List.take_succ_eq_append_getElem h
/-- Numbers that are in bounds. -/
structure PtOK (n : Nat) (nr lk : Nat → List Nat) (k : Nat) (C Wh : Nat → Int) (T : Nat → Nat) : Prop where
  hn : n ≤ 60000
  hk : k ≤ 16
  nl : ∀ v, v < n → (nr v).length ≤ 60000 ∧ ∀ x ∈ nr v, x < n
  ll : ∀ v, v < n → (lk v).length ≤ 60000 ∧ ∀ x ∈ lk v, x < n
  c : ∀ v, v < n → -1 ≤ C v ∧ C v < k
  w : ∀ v, v < n → -1 ≤ Wh v ∧ Wh v < k
  t : ∀ v, v < n → T v < 65536
structure SuV (w : World) (S : Nat → Int) (W : World) : Prop where
  r4 : Blk w.heap.size (arrF 16 fun _ => I 0) 56 W
  r5 : Blk (w.heap.size + 1) (arrF 16 fun c => I (S c)) 56 W
  b : Below w.heap.size w W
theorem SuV.put {w W : World} {S S' : Nat → Int} (h : SuV w S W) (j : Nat) (v : Int) (h1 : S' j = v) (h2 : ∀ c, c < 16 → c ≠ j → S' c = S c) : SuV w S' (W.setCell ⟨w.heap.size + 1, j, none⟩ (I v)) := by
  refine ⟨h.r4.setOther (by omega) _ _, ?_, h.b.setCell (by show w.heap.size ≤ w.heap.size + 1; omega) _⟩
  have h9 := h.r5.set j (I v)
  rw [arrF_set, arrF_congr (g := fun c => I (S' c)) (fun i hi => by
    unfold up
    split
    · next e => rw [e, h1]
    · next e => rw [h2 i hi e])] at h9
  exact h9
theorem SuV.drewN {w W : World} {S : Nat → Int} (h : SuV w S W) (q : Nat) : SuV w S (W.drewN q) := ⟨h.r4.drewN q, h.r5.drewN q, below_drewN h.b q⟩
theorem SuV.turn {w W : World} {S S' : Nat → Int} (h : SuV w S W) (e : ∀ c, c < 16 → S' c = S c) : SuV w S' W := ⟨h.r4, by rw [arrF_congr (g := fun c => I (S c)) (fun i hi => by rw [e i hi])]; exact h.r5, h.b⟩
def SuT (w : World) (S : Nat → Int) (W : World) (e : Ending) : Prop := e = .returned (.agg (arrF 16 fun c => I (S c))) ∧ Below w.heap.size w W
def Su1 (w : World) (C : Nat → Int) (T : Nat → Nat) (k : Nat) (l : List Nat) (iv : Value) (W : World) : Prop := ∃ i : Nat, i ≤ l.length ∧ iv = I (i : Int) ∧ SuV w (fun c => slS C T k (l.take i) c) W
def Su2 (w : World) (C : Nat → Int) (T : Nat → Nat) (k : Nat) (l : List Nat) (x : Nat) (jv : Value) (W : World) : Prop := ∃ j : Nat, j ≤ k ∧ jv = I (j : Int) ∧ SuV w (fun c => slS C T k l c + if c < j then dS C T x c else 0) W
def Su3 (w : World) (A : Nat → Int) (C Wh : Nat → Int) (l : List Nat) (iv : Value) (W : World) : Prop := ∃ i : Nat, i ≤ l.length ∧ iv = I (i : Int) ∧ SuV w (fun c => A c - wnS C Wh (l.take i) c) W

theorem arr16 (f : Nat → Value) : arrF 16 f = #[f 0, f 1, f 2, f 3, f 4, f 5, f 6, f 7, f 8, f 9, f 10, f 11, f 12, f 13, f 14, f 15] := rfl
theorem blk16 {b : Nat} {W : World} {T : TypeId} {f : Nat → Value} (h : Blk b (arrF 16 f) T W) (v0 v1 v2 v3 v4 v5 v6 v7 v8 v9 v10 v11 v12 v13 v14 v15 : Value) : Blk b #[v0, v1, v2, v3, v4, v5, v6, v7, v8, v9, v10, v11, v12, v13, v14, v15] T ((((((((((((((((W.setCell ⟨b, 0, none⟩ v0).setCell ⟨b, 1, none⟩ v1).setCell ⟨b, 2, none⟩ v2).setCell ⟨b, 3, none⟩ v3).setCell ⟨b, 4, none⟩ v4).setCell ⟨b, 5, none⟩ v5).setCell ⟨b, 6, none⟩ v6).setCell ⟨b, 7, none⟩ v7).setCell ⟨b, 8, none⟩ v8).setCell ⟨b, 9, none⟩ v9).setCell ⟨b, 10, none⟩ v10).setCell ⟨b, 11, none⟩ v11).setCell ⟨b, 12, none⟩ v12).setCell ⟨b, 13, none⟩ v13).setCell ⟨b, 14, none⟩ v14).setCell ⟨b, 15, none⟩ v15) := by
  have h9 := ((((((((((((((((h.set 0 v0).set 1 v1).set 2 v2).set 3 v3).set 4 v4).set 5 v5).set 6 v6).set 7 v7).set 8 v8).set 9 v9).set 10 v10).set 11 v11).set 12 v12).set 13 v13).set 14 v14).set 15 v15)
  rw [arr16 f] at h9
  simp only [List.setIfInBounds_toArray, List.set_cons_zero, List.set_cons_succ] at h9
  exact h9
theorem below16 {b B : Nat} {w W : World} (h : Below B w W) (hb : B ≤ b) (v0 v1 v2 v3 v4 v5 v6 v7 v8 v9 v10 v11 v12 v13 v14 v15 : Value) : Below B w ((((((((((((((((W.setCell ⟨b, 0, none⟩ v0).setCell ⟨b, 1, none⟩ v1).setCell ⟨b, 2, none⟩ v2).setCell ⟨b, 3, none⟩ v3).setCell ⟨b, 4, none⟩ v4).setCell ⟨b, 5, none⟩ v5).setCell ⟨b, 6, none⟩ v6).setCell ⟨b, 7, none⟩ v7).setCell ⟨b, 8, none⟩ v8).setCell ⟨b, 9, none⟩ v9).setCell ⟨b, 10, none⟩ v10).setCell ⟨b, 11, none⟩ v11).setCell ⟨b, 12, none⟩ v12).setCell ⟨b, 13, none⟩ v13).setCell ⟨b, 14, none⟩ v14).setCell ⟨b, 15, none⟩ v15) := ((((((((((((((((h.setCell (p := ⟨b, 0, none⟩) hb v0).setCell (p := ⟨b, 1, none⟩) hb v1).setCell (p := ⟨b, 2, none⟩) hb v2).setCell (p := ⟨b, 3, none⟩) hb v3).setCell (p := ⟨b, 4, none⟩) hb v4).setCell (p := ⟨b, 5, none⟩) hb v5).setCell (p := ⟨b, 6, none⟩) hb v6).setCell (p := ⟨b, 7, none⟩) hb v7).setCell (p := ⟨b, 8, none⟩) hb v8).setCell (p := ⟨b, 9, none⟩) hb v9).setCell (p := ⟨b, 10, none⟩) hb v10).setCell (p := ⟨b, 11, none⟩) hb v11).setCell (p := ⟨b, 12, none⟩) hb v12).setCell (p := ⟨b, 13, none⟩) hb v13).setCell (p := ⟨b, 14, none⟩) hb v14).setCell (p := ⟨b, 15, none⟩) hb v15)
theorem info16 : (Try.prog.info? 56).map (·.size) = some 16 := by kernel_rfl
set_option maxRecDepth 100000 in
set_option maxHeartbeats 1600000 in
theorem suits_any {n : Nat} {nr lk : Nat → List Nat} {k base bp bc bw bt : Nat} {nv lv : Value} {C Wh : Nat → Int} {T : Nat → Nat} (v : Nat) (hv : v < n) (hok : PtOK n nr lk k C Wh T) (w : World) (h : Pain n nr lk k base bp bc bw bt nv lv C Wh T w) :
    Calls Try.prog 23 #[.pointer (some ⟨bp, 0, none⟩), I (v : Int)] w fun e w' => SuT w (fun c => slS C T k (lk v) c - wnS C Wh (nr v) c) w' e := by
  have HH := Lib.hid (And.intro h (And.intro hok hv))
  obtain ⟨bl, hlv, hbl, hlr⟩ := h.lg
  obtain ⟨u, cu, a, d, rfl, hrow⟩ := hlr v hv
  obtain ⟨bn, hnv, hbn, hnr⟩ := h.ng
  obtain ⟨u2, cu2, a2, d2, rfl, hrow2⟩ := hnr v hv
  subst hlv hnv
  have lt1 : base ≤ w.heap.size := by have := h.pb.lt; have := h.lt.1; omega
  have x0 := h.pb.get 1 (.slice (some ⟨bl, 0, none⟩) n n) rfl
  have x1 := h.pb.get 0 (.slice (some ⟨bn, 0, none⟩) n n) rfl
  have x2 := h.pb.get 2 (I (k : Int)) rfl
  obtain ⟨L, hL⟩ : ∃ L, L = (lk v).length := ⟨_, rfl⟩
  obtain ⟨L2, hL2⟩ : ∃ L, L = (nr v).length := ⟨_, rfl⟩
  rw [← hL] at cu
  rw [← hL2] at cu2
  have e0 : (0 : Int) ≤ (v : Int) := by omega
  have e1 : (v : Int) < (n : Int) := by omega
  have e2 : (L : Int) ≤ 60000 := by have := (hok.ll v hv).1; omega
  have e3 : (L2 : Int) ≤ 60000 := by have := (hok.nl v hv).1; omega
  have e4 : (k : Int) ≤ 16 := by have := hok.hk; omega
  have H1 := Lib.hid (And.intro hrow (And.intro hrow2 (And.intro hL (And.intro hL2 (And.intro hbl (And.intro hbn (And.intro lt1 (And.intro cu cu2))))))))
  clear hrow hrow2 hL hL2 hlr hnr hbl hbn lt1 h hok hv
  go_enter Try.func23, Try.ntmps23
  go_upto_region 2 with (fail)
  obtain ⟨W, hW⟩ : ∃ W, W = (w.alloc (.cells (arrF 16 fun _ => I 0) 56)).alloc (.cells (arrF 16 fun _ => I 0) 56) := ⟨_, rfl⟩
  have hb : Below w.heap.size w W := by rw [hW]; exact ((Below.refl _ _).alloc (Nat.le_refl _) _).alloc (by simp) _
  have HS := Lib.hid (show Su1 w C T k (lk v) (I 0) W from ⟨0, Nat.zero_le _, rfl, ⟨by rw [hW]; exact (Blk.new _ _ _).alloc _, by
    rw [hW]
    have h9 : Blk (w.alloc (.cells (arrF 16 fun _ => I 0) 56)).heap.size (arrF 16 fun _ => I 0) 56 ((w.alloc (.cells (arrF 16 fun _ => I 0) 56)).alloc (.cells (arrF 16 fun _ => I 0) 56)) := Blk.new _ _ _
    rw [arrF_congr (g := fun _ => I 0) (fun c hc => by show I (slS C T k (List.take 0 (lk v)) c) = I 0; unfold slS; simp)]
    simpa using h9, hb⟩⟩)
  have HW := Lib.hid (And.intro hW hb)
  change Code.wp _ _ _ _ ((w.alloc (.cells (arrF 16 fun _ => I 0) 56)).alloc (.cells (arrF 16 fun _ => I 0) 56))
  rw [← HW.out.1]
  have hbp := HH.out.1.pb.lt
  have y0 := cell_below HW.out.2 hbp x0
  have y1 := cell_below HW.out.2 (by have := H1.out.2.2.2.2.1; have := H1.out.2.2.2.2.2.2.1; omega) cu
  clear hW hb x0
  go_wp2_with fail
  go_loopw [20] (fun iv wr => Su1 w C T k (lk v) iv wr) (fun iv _ => L - (intOf iv).toNat)
  case atStart => exact HS.out
  case round =>
    obtain ⟨i, hi, rfl, hs⟩ := hrel
    have hbe := hs.b
    by_cases hlt : i < L
    · have hil : i < (lk v).length := by rw [← H1.out.2.2.1]; exact hlt
      obtain ⟨g, rfl, hg, cx⟩ := H1.out.1 i hil
      obtain ⟨x, hx⟩ : ∃ x, x = (lk v)[i] := ⟨_, rfl⟩
      rw [← hx] at cx
      have hxn : x < n := by rw [hx]; exact (HH.out.2.1.ll v HH.out.2.2).2 _ (List.getElem_mem _)
      have c0 := cell_below hbe (by have := H1.out.2.2.2.2.2.2.1; omega) cx
      have c1 := cell_below hbe hbp x2
      have d1 : decide (i < L) = true := by simpa using hlt
      have d2 : (0 : Int) ≤ (i : Int) := by omega
      have d3 : (i : Int) < (L : Int) := by omega
      have HX := Lib.hid (And.intro hx (And.intro hxn (And.intro hil (And.intro hlt hbp))))
      have HJ := Lib.hid (show Su2 w C T k ((lk v).take i) x (I 0) wr from ⟨0, Nat.zero_le _, rfl, hs.turn (fun c _ => by rw [if_neg (by omega)]; omega)⟩)
      clear hs hbe hlt hx hxn hg cx x2 hi
      go_wp2_with fail
      go_loopw [28] (fun jv wr => Su2 w C T k ((lk v).take i) x jv wr) (fun jv _ => k - (intOf jv).toNat)
      case atStart => exact HJ.out
      case round =>
        obtain ⟨j, hj, rfl, hs⟩ := hrel
        have hbe := hs.b
        by_cases hlt : j < k
        · have hj16 : j < 16 := by have := HH.out.2.1.hk; omega
          have hpn := HH.out.1.below hbe
          have z0 := hpn.pb.get 3 (.slice (some ⟨bc, 0, none⟩) n n) rfl
          obtain ⟨xc, hxc⟩ : ∃ z, z = C x := ⟨_, rfl⟩
          have z1 := hpn.cb.get x (I xc) (by rw [arrF_get _ HX.out.2.1, hxc])
          obtain ⟨sj, hsj⟩ : ∃ z, z = slS C T k ((lk v).take i) j := ⟨_, rfl⟩
          have z2 := hs.r5.get j (I sj) (by rw [arrF_get _ hj16, if_neg (by omega), hsj]; simp)
          have f2 := hs.r5.free j
          have hle := slS_le C T k ((lk v).take i) j
          rw [← hsj] at hle
          have b1 : (0 : Int) ≤ sj := hle.1
          have b2 : sj ≤ 240000 := by
            have h7 := hle.2
            have h8 : ((lk v).take i).length ≤ 60000 := by rw [List.length_take]; have := (HH.out.2.1.ll v HH.out.2.2).1; omega
            omega
          have d4 : decide (j < k) = true := by simpa using hlt
          have d5 : (0 : Int) ≤ (x : Int) := by omega
          have d6 : (x : Int) < (n : Int) := by have := HX.out.2.1; omega
          have d7 : (0 : Int) ≤ (j : Int) := by omega
          have d8 : (j : Int) < 16 := by omega
          have HQ := Lib.hid (And.intro hlt hsj)
          have HP := Lib.hid (And.intro hs hpn)
          have HM := Lib.hid (may_any x j HX.out.2.1 hj16 HH.out.2.1.hn HH.out.2.1.t wr hpn)
          clear hs hbe hlt hsj hpn hle hj hj16
          have stp : ∀ (q : Nat) (dv : Int), dS C T x j = dv → SuV w (fun c => slS C T k ((lk v).take i) c + if c < j + 1 then dS C T x c else 0) ((wr.drewN q).setCell ⟨w.heap.size + 1, j, none⟩ (I (sj + dv))) := fun q dv hd =>
            (HP.out.1.drewN q).put j (sj + dv) (by rw [if_pos (by omega), hd, HQ.out.2]) (fun c _ hne => by
              by_cases e : c < j
              · rw [if_pos (by omega), if_pos e]
              · rw [if_neg (by omega), if_neg e])
          have stn : ∀ (q : Nat), dS C T x j = 0 → SuV w (fun c => slS C T k ((lk v).take i) c + if c < j + 1 then dS C T x c else 0) (wr.drewN q) := fun q hd =>
            (HP.out.1.drewN q).turn (fun c _ => by
              by_cases e : c < j
              · rw [if_pos (by omega), if_pos e]
              · by_cases e2 : c = j
                · subst e2; rw [if_pos (by omega), if_neg e, hd]
                · rw [if_neg (by omega), if_neg e])
          have STP := Lib.hid (And.intro stp stn)
          clear stp stn
          by_cases h1 : xc = (j : Int)
          · subst h1
            have HN := Lib.hid (STP.out.1 0 4 (by unfold dS; rw [if_pos hxc.symm]))
            clear hxc
            go_wp2_with fail
            exact ⟨⟨j + 1, by have := HQ.out.1; omega, rfl, HN.out⟩, by have := HQ.out.1; simp [intOf]; omega⟩
          · have g1 : (xc == (j : Int)) = false := by simpa using h1
            by_cases h2 : xc = -1
            · subst h2
              by_cases h3 : tk T x j = true
              · have HN := Lib.hid (fun q => STP.out.2 q (by unfold dS; rw [← hxc, if_neg (by omega), if_neg (by rw [h3]; simp)]))
                clear hxc
                go_wp2_with (go_at_call 24; refine (HM.out).mono ?_; rintro e w' ⟨rfl, q, rfl⟩; rw [h3])
                exact ⟨⟨j + 1, by have := HQ.out.1; omega, rfl, HN.out q⟩, by have := HQ.out.1; simp [intOf]; omega⟩
              · have h3 : tk T x j = false := by simpa using h3
                have HN := Lib.hid (fun q => STP.out.1 q 2 (by unfold dS; rw [← hxc, if_neg (by omega), if_pos ⟨rfl, h3⟩]))
                clear hxc
                go_wp2_with (go_at_call 24; refine (HM.out).mono ?_; rintro e w' ⟨rfl, q, rfl⟩; rw [h3])
                exact ⟨⟨j + 1, by have := HQ.out.1; omega, rfl, HN.out q⟩, by have := HQ.out.1; simp [intOf]; omega⟩
            · have g2 : (xc == (-1 : Int)) = false := by simpa using h2
              have HN := Lib.hid (STP.out.2 0 (by unfold dS; rw [← hxc, if_neg h1, if_neg (by simp [h2])]))
              clear hxc h1 h2
              go_wp2_with fail
              exact ⟨⟨j + 1, by have := HQ.out.1; omega, rfl, HN.out⟩, by have := HQ.out.1; simp [intOf]; omega⟩
        · have d4 : decide (j < k) = false := by simpa using hlt
          obtain rfl : j = k := by omega
          have HN := Lib.hid (show Su1 w C T j (lk v) (I ((i : Int) + 1)) wr from ⟨i + 1, HX.out.2.2.1, rfl, hs.turn (fun c _ => by
            rw [take_nat HX.out.2.2.1, slS_app, ← HX.out.1])⟩)
          clear hs hbe hlt hj
          go_wp2_with fail
          exact ⟨HN.out, by have := HX.out.2.2.2.1; simp [intOf]; omega⟩
    · have d1 : decide (i < L) = false := by simpa using hlt
      have hpn := HH.out.1.below hbe
      have z0 := cell_below hbe hbp x1
      have z1 := cell_below hbe (by have := H1.out.2.2.2.2.2.1; have := H1.out.2.2.2.2.2.2.1; omega) cu2
      have HS3 := Lib.hid (show Su3 w (fun c => slS C T k (lk v) c) C Wh (nr v) (I 0) wr from ⟨0, Nat.zero_le _, rfl, hs.turn (fun c _ => by
        rw [show i = (lk v).length by have := H1.out.2.2.1; omega, List.take_length]
        unfold wnS
        simp)⟩)
      have HBP := Lib.hid hbp
      clear hs hbe hlt hpn hi hbp
      go_wp2_with fail
      go_loopw [76] (fun iv wr => Su3 w (fun c => slS C T k (lk v) c) C Wh (nr v) iv wr) (fun iv _ => L2 - (intOf iv).toNat)
      case atStart => exact HS3.out
      case round =>
        obtain ⟨i, hi, rfl, hs⟩ := hrel
        have hbe := hs.b
        by_cases hlt : i < L2
        · have hil : i < (nr v).length := by rw [← H1.out.2.2.2.1]; exact hlt
          obtain ⟨g, rfl, hg, cx⟩ := H1.out.2.1 i hil
          obtain ⟨x, hx⟩ : ∃ x, x = (nr v)[i] := ⟨_, rfl⟩
          rw [← hx] at cx
          have hxn : x < n := by rw [hx]; exact (HH.out.2.1.nl v HH.out.2.2).2 _ (List.getElem_mem _)
          have c0 := cell_below hbe (by have := H1.out.2.2.2.2.2.2.1; omega) cx
          have hpn := HH.out.1.below hbe
          have z0 := hpn.pb.get 3 (.slice (some ⟨bc, 0, none⟩) n n) rfl
          have z3 := hpn.pb.get 4 (.slice (some ⟨bw, 0, none⟩) n n) rfl
          obtain ⟨xc, hxc⟩ : ∃ z, z = C x := ⟨_, rfl⟩
          have z1 := hpn.cb.get x (I xc) (by rw [arrF_get _ hxn, hxc])
          obtain ⟨xw, hxw⟩ : ∃ z, z = Wh x := ⟨_, rfl⟩
          have z4 := hpn.wb.get x (I xw) (by rw [arrF_get _ hxn, hxw])
          have d1 : decide (i < L2) = true := by simpa using hlt
          have d2 : (0 : Int) ≤ (i : Int) := by omega
          have d3 : (i : Int) < (L2 : Int) := by omega
          have d5 : (0 : Int) ≤ (x : Int) := by omega
          have d6 : (x : Int) < (n : Int) := by omega
          have hwb := HH.out.2.1.w x hxn
          have hk16 := HH.out.2.1.hk
          rw [← hxw] at hwb
          by_cases hw : xw = -1
          · subst hw
            have HN := Lib.hid (show Su3 w (fun c => slS C T k (lk v) c) C Wh (nr v) (I ((i : Int) + 1)) wr from ⟨i + 1, hil, rfl, hs.turn (fun c _ => by
              rw [take_nat hil, wnS_app, ← hx, if_neg (by rw [← hxw]; omega)]; omega)⟩)
            have HT := Lib.hid hlt
            clear hs hbe hlt hg cx hi hpn hxc hwb hx hxw
            go_wp2_with fail
            exact ⟨HN.out, by have := HT.out; simp [intOf]; omega⟩
          · obtain ⟨m, hm⟩ : ∃ m : Nat, xw = (m : Int) := ⟨xw.toNat, by omega⟩
            subst hm
            have g1 : ((m : Int) != -1) = true := by
              rw [bne_iff_ne]; omega
            by_cases hc1 : xc = -1
            · subst hc1
              obtain ⟨sj, hsj⟩ : ∃ z, z = slS C T k (lk v) m - wnS C Wh ((nr v).take i) m := ⟨_, rfl⟩
              have hm16 : m < 16 := by omega
              have z2 := hs.r5.get m (I sj) (by rw [arrF_get _ hm16, hsj])
              have f2 := hs.r5.free m
              have b1 : (-60000 : Int) ≤ sj := by
                have h7 := (slS_le C T k (lk v) m).1
                have h8 := (wnS_le C Wh ((nr v).take i) m).2
                have h9 : ((nr v).take i).length ≤ 60000 := by rw [List.length_take]; have := (HH.out.2.1.nl v HH.out.2.2).1; omega
                omega
              have b2 : sj ≤ 240000 := by
                have h7 := (slS_le C T k (lk v) m).2
                have h8 := (wnS_le C Wh ((nr v).take i) m).1
                have h9 := (HH.out.2.1.ll v HH.out.2.2).1
                omega
              have b3 : (0 : Int) ≤ (m : Int) := by omega
              have b4 : (m : Int) < 16 := by omega
              have HN := Lib.hid (show Su3 w (fun c => slS C T k (lk v) c) C Wh (nr v) (I ((i : Int) + 1)) (wr.setCell ⟨w.heap.size + 1, m, none⟩ (I (sj + -1))) from ⟨i + 1, hil, rfl, hs.put m (sj + -1) (by
                show slS C T k (lk v) m - wnS C Wh ((nr v).take (i + 1)) m = sj + -1
                rw [take_nat hil, wnS_app, ← hx, if_pos ⟨hxw.symm, hxc.symm⟩, hsj]; omega) (fun c _ hne => by
                rw [take_nat hil, wnS_app, ← hx, if_neg (by rw [← hxw]; omega)]; omega)⟩)
              have HT := Lib.hid hlt
              clear hs hbe hlt hg cx hi hpn hxc hwb hx hxw hsj
              go_wp2_with fail
              exact ⟨HN.out, by have := HT.out; simp [intOf]; omega⟩
            · have g2 : (xc == (-1 : Int)) = false := by simpa using hc1
              have HN := Lib.hid (show Su3 w (fun c => slS C T k (lk v) c) C Wh (nr v) (I ((i : Int) + 1)) wr from ⟨i + 1, hil, rfl, hs.turn (fun c _ => by
                rw [take_nat hil, wnS_app, ← hx, if_neg (by rw [← hxc]; exact fun e => hc1 e.2)]; omega)⟩)
              have HT := Lib.hid hlt
              clear hs hbe hlt hg cx hi hpn hxc hwb hx hxw
              go_wp2_with fail
              exact ⟨HN.out, by have := HT.out; simp [intOf]; omega⟩
        · have d1 : decide (i < L2) = false := by simpa using hlt
          obtain ⟨S, hS⟩ : ∃ S : Nat → Int, S = fun c => slS C T k (lk v) c - wnS C Wh (nr v) c := ⟨_, rfl⟩
          have hs2 : SuV w S wr := hs.turn (fun c _ => by rw [hS, show i = (nr v).length by have := H1.out.2.2.2.1; omega, List.take_length])
          have hz : ∀ c, c < 16 → wr.cell? ⟨w.heap.size + 1, c, none⟩ = some (I (S c)) := fun c hc => hs2.r5.get c _ (by rw [arrF_get _ hc])
          have q0 := hz 0 (by decide)
          have q1 := hz 1 (by decide)
          have q2 := hz 2 (by decide)
          have q3 := hz 3 (by decide)
          have q4 := hz 4 (by decide)
          have q5 := hz 5 (by decide)
          have q6 := hz 6 (by decide)
          have q7 := hz 7 (by decide)
          have q8 := hz 8 (by decide)
          have q9 := hz 9 (by decide)
          have q10 := hz 10 (by decide)
          have q11 := hz 11 (by decide)
          have q12 := hz 12 (by decide)
          have q13 := hz 13 (by decide)
          have q14 := hz 14 (by decide)
          have q15 := hz 15 (by decide)
          have hy : ∀ c, c < 16 → wr.cell? ⟨w.heap.size, c, none⟩ = some (I 0) ∧ wr.frozen? ⟨w.heap.size, c, none⟩ = false := fun c hc => ⟨hs2.r4.get c _ (by rw [arrF_get _ hc]), hs2.r4.free c⟩
          have HB := Lib.hid hbe
          have HBK := Lib.hid hs2.r4
          have HS2 := Lib.hid hS
          clear hs hbe hlt hi hz hS hs2
          go_upto_region 21 with (fail)
          go_wp2_with fail
          have hbk := blk16 HBK.out (I (S 0)) (I (S 1)) (I (S 2)) (I (S 3)) (I (S 4)) (I (S 5)) (I (S 6)) (I (S 7)) (I (S 8)) (I (S 9)) (I (S 10)) (I (S 11)) (I (S 12)) (I (S 13)) (I (S 14)) (I (S 15))
          have hbe := below16 (b := w.heap.size) HB.out (Nat.le_refl _) (I (S 0)) (I (S 1)) (I (S 2)) (I (S 3)) (I (S 4)) (I (S 5)) (I (S 6)) (I (S 7)) (I (S 8)) (I (S 9)) (I (S 10)) (I (S 11)) (I (S 12)) (I (S 13)) (I (S 14)) (I (S 15))
          refine bodyPost_ret (results_cell_row rfl _ _ w.heap.size 56 #[I (S 0), I (S 1), I (S 2), I (S 3), I (S 4), I (S 5), I (S 6), I (S 7), I (S 8), I (S 9), I (S 10), I (S 11), I (S 12), I (S 13), I (S 14), I (S 15)] (0, 0) _ rfl hbk Try.underlying56 rfl info16) rfl ?_
          exact ⟨by rw [← HS2.out]; rfl, hbe⟩
end Go.Proofs.Ytgblpfahgpneoaa
