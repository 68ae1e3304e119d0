/-
  A node is painted.
-/
import Derived.Test.YtgblpfahgpneoaaPtB
import Derived.BigQuiet
namespace Go.Proofs.Ytgblpfahgpneoaa
open Go Go.RowKit

/-- The quiet walk in one world is a still one. -/
theorem still_of_quiet {P : Program} {ops : Array Oper} {W : World} {Q : Act → Prop} : ∀ {l : List Oper} {a : Act}, wpQuiet P ops (fun w' => w' = W) Q l a → wpStill P ops W Q l a
  | [], _, h => h
  | o :: rest, a, h => by
    unfold wpQuiet at h
    unfold wpStill
    split
    · rename_i hw
      rw [if_pos hw] at h
      obtain ⟨v, h1, h2⟩ := h
      have h3 := h1 W rfl
      unfold Oper.quietAt at h3
      unfold Oper.still
      generalize (execOp a.eval o).run P W = r at h3 ⊢
      unfold Oper.quietUpon at h3
      unfold Oper.stillUpon
      split at h3
      · exact ⟨h3.1, by rw [h3.2]; exact still_of_quiet h2⟩
      · exact ⟨h3.1, by rw [h3.2] at h2; exact still_of_quiet h2⟩
      · exact ⟨h3.1, v, h3.2, still_of_quiet h2⟩
      · exact h3.elim
    · rename_i hw
      rw [if_neg hw] at h
      exact still_of_quiet h
theorem wp_region_quiet_tail {P : Program} {id : Nat} {Q : Exit → Act → World → Prop} {a : Act} {w : World} {l : List Oper} (n : Nat) (hm : P.follows .mixedOrders = true) (hB : Region.lexTailB .any l.toArray n = true)
    (h : wpQuiet P l.toArray (fun w' => w' = w.drewN 1) (fun a' => wpList P l.toArray Q (l.drop n) a' (w.drewN 1)) (l.take n) a) : (Code.region id l.toArray true).wp P Q a w :=
  wp_region_still_tail n hm hB (still_of_quiet h)


def orT (T : Nat → Nat) (l : List Nat) (b : Nat) (x : Nat) : Nat := if x ∈ l then T x ||| 2 ^ b else T x
def whT (Wh : Nat → Int) (l : List Nat) (b : Int) (x : Nat) : Int := if x ∈ l ∧ Wh x = -1 then b else Wh x
theorem orT_bit (T : Nat → Nat) (l : List Nat) (b x c : Nat) : tk (orT T l b) x c = (tk T x c || (decide (x ∈ l) && decide (b = c))) := by
  unfold tk orT
  by_cases h : x ∈ l
  · rw [if_pos h, Nat.testBit_or, Nat.testBit_two_pow]
    simp [h]
  · rw [if_neg h]
    simp [h]
theorem orT_lt {T : Nat → Nat} {l : List Nat} {b x : Nat} (h : T x < 65536) (hb : b < 16) : orT T l b x < 65536 := by
  unfold orT
  split
  · exact Nat.or_lt_two_pow (n := 16) h (Nat.pow_lt_pow_of_lt (by decide) hb)
  · exact h
theorem orT_app (T : Nat → Nat) (l : List Nat) (b y : Nat) : ∀ x, orT T (l ++ [y]) b x = up (orT T l b) y (orT T l b y ||| 2 ^ b) x := fun x => by
  unfold up orT
  by_cases e : x = y
  · subst e
    rw [if_pos (by simp), if_pos rfl]
    split
    · rw [Nat.or_assoc, Nat.or_self]
    · rfl
  · rw [if_neg e]
    by_cases h : x ∈ l
    · rw [if_pos (by simp [h]), if_pos h]
    · rw [if_neg (by simp [h, e]), if_neg h]
theorem whT_had {Wh : Nat → Int} {l : List Nat} {b : Int} {y : Nat} (h : whT Wh l b y ≠ -1) : ∀ x, whT Wh (l ++ [y]) b x = whT Wh l b x := fun x => by
  unfold whT at h ⊢
  by_cases e : x = y
  · subst e
    by_cases h1 : Wh x = -1
    · by_cases h2 : x ∈ l
      · rw [if_pos (by simp [h1]), if_pos ⟨h2, h1⟩]
      · rw [if_neg (fun e => h2 e.1)] at h; exact absurd h1 h
    · rw [if_neg (fun e => h1 e.2), if_neg (fun e => h1 e.2)]
  · have : (x ∈ l ++ [y] ∧ Wh x = -1) ↔ (x ∈ l ∧ Wh x = -1) := by simp [e]
    by_cases h9 : x ∈ l ∧ Wh x = -1
    · rw [if_pos (this.2 h9), if_pos h9]
    · rw [if_neg (fun e => h9 (this.1 e)), if_neg h9]
theorem whT_new {Wh : Nat → Int} {l : List Nat} {b : Int} {y : Nat} (hb : b ≠ -1) (h : whT Wh l b y = -1) : ∀ x, whT Wh (l ++ [y]) b x = up (whT Wh l b) y b x := fun x => by
  unfold up
  unfold whT at h ⊢
  by_cases e : x = y
  · subst e
    rw [if_pos rfl]
    by_cases h2 : x ∈ l ∧ Wh x = -1
    · rw [if_pos h2] at h; exact absurd h hb
    · rw [if_neg h2] at h
      rw [if_pos ⟨by simp, h⟩]
  · rw [if_neg e]
    have : (x ∈ l ++ [y] ∧ Wh x = -1) ↔ (x ∈ l ∧ Wh x = -1) := by simp [e]
    by_cases h9 : x ∈ l ∧ Wh x = -1
    · rw [if_pos (this.2 h9), if_pos h9]
    · rw [if_neg (fun e => h9 (this.1 e)), if_neg h9]
theorem Pain.turn {n : Nat} {nr lk : Nat → List Nat} {k base bp bc bw bt : Nat} {nv lv : Value} {C C' Wh Wh' : Nat → Int} {T T' : Nat → Nat} {W : World} (h : Pain n nr lk k base bp bc bw bt nv lv C Wh T W) (h1 : ∀ x, C' x = C x) (h2 : ∀ x, Wh' x = Wh x) (h3 : ∀ x, T' x = T x) : Pain n nr lk k base bp bc bw bt nv lv C' Wh' T' W := by
  obtain rfl : C' = C := funext h1
  obtain rfl : Wh' = Wh := funext h2
  obtain rfl : T' = T := funext h3
  exact h

structure PaF (w : World) (base bc bw bt : Nat) (W : World) : Prop where
  b : Below base w W
  f : ∀ j, j < w.heap.size → j ≠ bc → j ≠ bw → j ≠ bt → W.heap[j]? = w.heap[j]?
theorem PaF.set {w W : World} {base bc bw bt : Nat} (h : PaF w base bc bw bt W) {x : Nat} (j : Nat) (v : Value) (hx : x = bc ∨ x = bw ∨ x = bt) (h1 : base ≤ x) : PaF w base bc bw bt (W.setCell ⟨x, j, none⟩ v) :=
  ⟨h.b.setCell h1 _, fun q hq e1 e2 e3 => (Below.heap_setCell _ _ _ _ (show q ≠ x by rcases hx with e | e | e <;> rw [e] <;> assumption)).trans (h.f q hq e1 e2 e3)⟩
theorem PaF.drewN {w W : World} {base bc bw bt : Nat} (h : PaF w base bc bw bt W) (q : Nat) : PaF w base bc bw bt (W.drewN q) := ⟨below_drewN h.b q, h.f⟩
def PaT (n : Nat) (nr lk : Nat → List Nat) (k base bp bc bw bt : Nat) (nv lv : Value) (C Wh : Nat → Int) (T : Nat → Nat) (v : Nat) (w W : World) (e : Ending) : Prop :=
  ∃ b, e = .returned (.tuple #[]) ∧ BestP (fun c => !tk T v c) (fun c => slS C T k (lk v) c - wnS C Wh (nr v) c) k b ∧ PaF w base bc bw bt W ∧
    Pain n nr lk k base bp bc bw bt nv lv (if b = -1 then C else up C v b) (if b = -1 then Wh else whT Wh (lk v) b) (if b = -1 then T else orT T (nr v) b.toNat) W
def Pa1 (n : Nat) (nr lk : Nat → List Nat) (k base bp bc bw bt : Nat) (nv lv : Value) (C Wh : Nat → Int) (T : Nat → Nat) (l : List Nat) (b : Nat) (w : World) (iv : Value) (W : World) : Prop :=
  ∃ i : Nat, i ≤ l.length ∧ iv = I (i : Int) ∧ PaF w base bc bw bt W ∧ Pain n nr lk k base bp bc bw bt nv lv C Wh (orT T (l.take i) b) W
def Pa2 (n : Nat) (nr lk : Nat → List Nat) (k base bp bc bw bt : Nat) (nv lv : Value) (C Wh : Nat → Int) (T : Nat → Nat) (l : List Nat) (b : Nat) (w : World) (iv : Value) (W : World) : Prop :=
  ∃ i : Nat, i ≤ l.length ∧ iv = I (i : Int) ∧ PaF w base bc bw bt W ∧ Pain n nr lk k base bp bc bw bt nv lv C (whT Wh (l.take i) (b : Int)) T W

set_option maxRecDepth 100000 in
set_option maxHeartbeats 1600000 in
theorem paint_any {n : Nat} {nr lk : Nat → List Nat} {k base bp bc bw bt : Nat} {nv lv : Value} {C Wh : Nat → Int} {T : Nat → Nat} (v : Nat) (hv : v < n) (hok : PtOK n nr lk k C Wh T) (w : World) (h : Pain n nr lk k base bp bc bw bt nv lv C Wh T w) :
    Calls Try.prog 16 #[.pointer (some ⟨bp, 0, none⟩), I (v : Int)] w fun e w' => PaT n nr lk k base bp bc bw bt nv lv C Wh T v w w' e := by
  have HBE := Lib.hid (best_any v hv hok w h)
  obtain ⟨bl, hlv, hbl, hlr⟩ := h.lg
  obtain ⟨u, cu, a, d, rfl, hrow⟩ := hlr v hv
  obtain ⟨bn, hnv, hbn, hnr⟩ := h.ng
  obtain ⟨u2, cu2, a2, d2, rfl, hrow2⟩ := hnr v hv
  subst hlv hnv
  obtain ⟨L, hL⟩ : ∃ L, L = (lk v).length := ⟨_, rfl⟩
  obtain ⟨L2, hL2⟩ : ∃ L, L = (nr v).length := ⟨_, rfl⟩
  rw [← hL] at cu
  rw [← hL2] at cu2
  have lt1 : base ≤ w.heap.size := by have := h.pb.lt; have := h.lt.1; omega
  have e0 : (0 : Int) ≤ (v : Int) := by omega
  have e1 : (v : Int) < (n : Int) := by omega
  have e2 : (L : Int) ≤ 60000 := by have := (hok.ll v hv).1; omega
  have e3 : (L2 : Int) ≤ 60000 := by have := (hok.nl v hv).1; omega
  have HH := Lib.hid (And.intro h (And.intro hok hv))
  have H1 := Lib.hid (And.intro hrow (And.intro hrow2 (And.intro hL (And.intro hL2 (And.intro hbl (And.intro hbn (And.intro lt1 (And.intro cu cu2))))))))
  clear hrow hrow2 hL hL2 hlr hnr hbl hbn lt1 h hok hv cu cu2
  go_enter Try.func16, Try.ntmps16
  go_upto_region 1 with (go_at_call 21; refine (HBE.out).mono ?_; rintro e w2 ⟨b, rfl, hbp, hb2⟩)
  have hpn := HH.out.1.below hb2
  have hF : PaF w base bc bw bt w2 := ⟨hb2.mono H1.out.2.2.2.2.2.2.1, fun j hj _ _ _ => hb2.block j hj⟩
  by_cases hbm : b = -1
  · subst hbm
    have FIN := Lib.hid (show PaT n nr lk k base bp bc bw bt (.slice (some ⟨bn, 0, none⟩) n n) (.slice (some ⟨bl, 0, none⟩) n n) C Wh T v w w2 (.returned (.tuple #[])) from ⟨-1, rfl, hbp, hF, hpn⟩)
    clear hpn hF hbp hb2
    go_wp2_with fail
    refine bodyPost_ret (results_none rfl _ _ _) rfl ?_
    exact FIN.out
  · obtain ⟨m, hm⟩ : ∃ m : Nat, b = (m : Int) := ⟨b.toNat, by have := hbp.lo; omega⟩
    subst hm
    have g1 : ((m : Int) == -1) = false := by simp
    have hm16 : m < 16 := by have := hbp.hi; have := HH.out.2.1.hk; omega
    have hmk : m < k := by have := hbp.hi; omega
    have x3 := hpn.pb.get 3 (.slice (some ⟨bc, 0, none⟩) n n) rfl
    have x5 := hpn.pb.get 5 (.slice (some ⟨bt, 0, none⟩) n n) rfl
    have c3 := hpn.cb.get v (I (C v)) (by rw [arrF_get _ HH.out.2.2])
    have f3 := hpn.cb.free v
    have HQ := Lib.hid (And.intro hbp (And.intro hm16 (And.intro hmk (And.intro hb2 hbm))))
    have hp2 := hpn.setC v (m : Int)
    have hF2 := hF.set (x := bc) v (I (m : Int)) (Or.inl rfl) HH.out.1.lt.2.1
    have HS := Lib.hid (show Pa1 n nr lk k base bp bc bw bt (.slice (some ⟨bn, 0, none⟩) n n) (.slice (some ⟨bl, 0, none⟩) n n) (up C v (m : Int)) Wh T (nr v) m w (I 0) (w2.setCell ⟨bc, v, none⟩ (I (m : Int))) from ⟨0, Nat.zero_le _, rfl, hF2, hp2.turn (fun _ => rfl) (fun _ => rfl) (fun x => by unfold orT; simp)⟩)
    obtain ⟨W, hW⟩ : ∃ W, W = w2.setCell ⟨bc, v, none⟩ (I (m : Int)) := ⟨_, rfl⟩
    rw [← hW] at HS hp2 hF2
    have HW := Lib.hid hW
    have y0 := hp2.pb.get 0 (.slice (some ⟨bn, 0, none⟩) n n) rfl
    have y1 : W.cell? ⟨bn, v, none⟩ = some (.slice a2 L2 d2) := by
      have h1 := hF2.b.block bn H1.out.2.2.2.2.2.1
      unfold World.cell?
      rw [h1]
      exact H1.out.2.2.2.2.2.2.2.2
    clear hpn hF hp2 hF2 hbp hb2 hm16 hmk hbm hW x5
    go_upto_region 3 with (fail)
    change Code.wp _ _ _ _ (w2.setCell ⟨bc, v, none⟩ (I (m : Int)))
    rw [← HW.out]
    clear HW x3 c3 f3
    go_wp2_with fail
    go_loopw [29] (fun iv wr => Pa1 n nr lk k base bp bc bw bt (.slice (some ⟨bn, 0, none⟩) n n) (.slice (some ⟨bl, 0, none⟩) n n) (up C v (m : Int)) Wh T (nr v) m w iv wr) (fun iv _ => L2 - (intOf iv).toNat)
    case atStart => exact HS.out
    case round =>
      obtain ⟨i, hi, rfl, hF, hpn⟩ := hrel
      by_cases hlt : i < L2
      · have hil : i < (nr v).length := by rw [← H1.out.2.2.2.1]; exact hlt
        obtain ⟨g, rfl, hg, cx⟩ := H1.out.2.1 i hil
        obtain ⟨x, hx⟩ : ∃ x, x = (nr v)[i] := ⟨_, rfl⟩
        rw [← hx] at cx
        have hxn : x < n := by rw [hx]; exact (HH.out.2.1.nl v HH.out.2.2).2 _ (List.getElem_mem _)
        have c0 : wr.cell? ⟨g, i, none⟩ = some (I (x : Int)) := by
          have h1 := hF.b.block g hg
          unfold World.cell? at cx ⊢
          rw [h1]
          exact cx
        obtain ⟨t, ht⟩ : ∃ t, t = orT T ((nr v).take i) m x := ⟨_, rfl⟩
        have z5 := hpn.pb.get 5 (.slice (some ⟨bt, 0, none⟩) n n) rfl
        have z1 := hpn.tb.get x (.int .u32 (t : Int)) (by rw [arrF_get _ hxn, ht])
        have f1 := hpn.tb.free x
        have htl : t < 65536 := by rw [ht]; exact orT_lt (HH.out.2.1.t x hxn) HQ.out.2.1
        have d1 : decide (i < L2) = true := by simpa using hlt
        have d2 : (0 : Int) ≤ (i : Int) := by omega
        have d3 : (i : Int) < (L2 : Int) := by omega
        have d5 : (0 : Int) ≤ (x : Int) := by omega
        have d6 : (x : Int) < (n : Int) := by omega
        have d7 : (0 : Int) ≤ (m : Int) := by omega
        have d8 : (m : Int) ≤ 32 := by have := HQ.out.2.1; omega
        have hbits : bits BinOp.or IntKind.u32 (t : Int) (2 ^ m % 4294967296) = ((t ||| 2 ^ m : Nat) : Int) := by
          rw [powU HQ.out.2.1]
          exact u32_or_nat t (2 ^ m) (by omega) (by have := pow_lt16 HQ.out.2.1; omega)
        have HN := Lib.hid (show Pa1 n nr lk k base bp bc bw bt (.slice (some ⟨bn, 0, none⟩) n n) (.slice (some ⟨bl, 0, none⟩) n n) (up C v (m : Int)) Wh T (nr v) m w (I ((i : Int) + 1)) ((wr.drewN 1).setCell ⟨bt, x, none⟩ (.int .u32 (bits BinOp.or IntKind.u32 (t : Int) (2 ^ m % 4294967296)))) from ⟨i + 1, hil, rfl, by
            exact (hF.drewN 1).set (x := bt) x _ (Or.inr (Or.inr rfl)) HH.out.1.lt.2.2.2, by
            rw [hbits]
            exact ((hpn.drewN 1).setT x (t ||| 2 ^ m)).turn (fun _ => rfl) (fun _ => rfl) (fun y => by rw [take_nat hil, orT_app, ← hx, ← ht])⟩)
        have HT := Lib.hid hlt
        clear hi hF hpn hlt hx cx hg ht hbits hxn
        go_wp2_with fail
        refine wp_region_quiet_tail 11 (by kernel_rfl) (by kernel_rfl) ?_
        simp only [List.take_succ_cons, List.take_zero, List.drop_succ_cons, List.drop_zero]
        repeat (go_big_quiet_step (fail))
        refine wpQuiet_nil ?_
        go_wp2_with fail
        exact ⟨HN.out, by have := HT.out; simp [intOf]; omega⟩
      · have d1 : decide (i < L2) = false := by simpa using hlt
        have hil : i = (nr v).length := by have := H1.out.2.2.2.1; omega
        have hp3 : Pain n nr lk k base bp bc bw bt (.slice (some ⟨bn, 0, none⟩) n n) (.slice (some ⟨bl, 0, none⟩) n n) (up C v (m : Int)) (whT Wh ((lk v).take 0) (m : Int)) (orT T (nr v) m) wr := hpn.turn (fun _ => rfl) (fun x => by unfold whT; simp) (fun x => by rw [hil, List.take_length])
        have HS2 := Lib.hid (show Pa2 n nr lk k base bp bc bw bt (.slice (some ⟨bn, 0, none⟩) n n) (.slice (some ⟨bl, 0, none⟩) n n) (up C v (m : Int)) Wh (orT T (nr v) m) (lk v) m w (I 0) wr from ⟨0, Nat.zero_le _, rfl, hF, hp3⟩)
        have z0 := hpn.pb.get 1 (.slice (some ⟨bl, 0, none⟩) n n) rfl
        have z1 : wr.cell? ⟨bl, v, none⟩ = some (.slice a L d) := by
          have h1 := hF.b.block bl H1.out.2.2.2.2.1
          unfold World.cell?
          rw [h1]
          exact H1.out.2.2.2.2.2.2.2.1
        clear hi hF hpn hlt hil hp3
        go_wp2_with fail
        go_loopw [53] (fun iv wr => Pa2 n nr lk k base bp bc bw bt (.slice (some ⟨bn, 0, none⟩) n n) (.slice (some ⟨bl, 0, none⟩) n n) (up C v (m : Int)) Wh (orT T (nr v) m) (lk v) m w iv wr) (fun iv _ => L - (intOf iv).toNat)
        case atStart => exact HS2.out
        case round =>
          obtain ⟨i, hi, rfl, hF, hpn⟩ := hrel
          by_cases hlt : i < L
          · have hil : i < (lk v).length := by rw [← H1.out.2.2.1]; exact hlt
            obtain ⟨g, rfl, hg, cx⟩ := H1.out.1 i hil
            obtain ⟨x, hx⟩ : ∃ x, x = (lk v)[i] := ⟨_, rfl⟩
            rw [← hx] at cx
            have hxn : x < n := by rw [hx]; exact (HH.out.2.1.ll v HH.out.2.2).2 _ (List.getElem_mem _)
            have c0 : wr.cell? ⟨g, i, none⟩ = some (I (x : Int)) := by
              have h1 := hF.b.block g hg
              unfold World.cell? at cx ⊢
              rw [h1]
              exact cx
            obtain ⟨t, ht⟩ : ∃ t, t = whT Wh ((lk v).take i) (m : Int) x := ⟨_, rfl⟩
            have z5 := hpn.pb.get 4 (.slice (some ⟨bw, 0, none⟩) n n) rfl
            have z6 := hpn.wb.get x (I t) (by rw [arrF_get _ hxn, ht])
            have f1 := hpn.wb.free x
            have d1 : decide (i < L) = true := by simpa using hlt
            have d2 : (0 : Int) ≤ (i : Int) := by omega
            have d3 : (i : Int) < (L : Int) := by omega
            have d5 : (0 : Int) ≤ (x : Int) := by omega
            have d6 : (x : Int) < (n : Int) := by omega
            have HT := Lib.hid hlt
            by_cases h1 : t = -1
            · subst h1
              have HN := Lib.hid (show Pa2 n nr lk k base bp bc bw bt (.slice (some ⟨bn, 0, none⟩) n n) (.slice (some ⟨bl, 0, none⟩) n n) (up C v (m : Int)) Wh (orT T (nr v) m) (lk v) m w (I ((i : Int) + 1)) (wr.setCell ⟨bw, x, none⟩ (I (m : Int))) from ⟨i + 1, hil, rfl, hF.set (x := bw) x _ (Or.inr (Or.inl rfl)) HH.out.1.lt.2.2.1,
                (hpn.setW x (m : Int)).turn (fun _ => rfl) (fun y => by rw [take_nat hil, ← hx]; exact whT_new (by omega) ht.symm y) (fun _ => rfl)⟩)
              clear hi hF hpn hlt hx cx hg ht hxn
              go_wp2_with fail
              exact ⟨HN.out, by have := HT.out; simp [intOf]; omega⟩
            · have g2 : (t == (-1 : Int)) = false := by simpa using h1
              have HN := Lib.hid (show Pa2 n nr lk k base bp bc bw bt (.slice (some ⟨bn, 0, none⟩) n n) (.slice (some ⟨bl, 0, none⟩) n n) (up C v (m : Int)) Wh (orT T (nr v) m) (lk v) m w (I ((i : Int) + 1)) wr from ⟨i + 1, hil, rfl, hF,
                hpn.turn (fun _ => rfl) (fun y => by rw [take_nat hil, ← hx]; exact whT_had (by rw [← ht]; exact h1) y) (fun _ => rfl)⟩)
              clear hi hF hpn hlt hx cx hg ht hxn h1
              go_wp2_with fail
              exact ⟨HN.out, by have := HT.out; simp [intOf]; omega⟩
          · have d1 : decide (i < L) = false := by simpa using hlt
            have hil : i = (lk v).length := by have := H1.out.2.2.1; omega
            have FIN := Lib.hid (show PaT n nr lk k base bp bc bw bt (.slice (some ⟨bn, 0, none⟩) n n) (.slice (some ⟨bl, 0, none⟩) n n) C Wh T v w wr (.returned (.tuple #[])) from ⟨(m : Int), rfl, HQ.out.1, hF, by
              rw [if_neg (by omega), if_neg (by omega), if_neg (by omega), Int.toNat_natCast]
              rw [hil, List.take_length] at hpn
              exact hpn⟩)
            clear hi hF hpn hlt hil
            go_wp2_with fail
            go_end0
            exact FIN.out
end Go.Proofs.Ytgblpfahgpneoaa
