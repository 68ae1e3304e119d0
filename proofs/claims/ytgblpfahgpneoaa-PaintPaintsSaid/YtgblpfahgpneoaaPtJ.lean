/-
  How many colours a node's neighbours have: walked.
-/
import Derived.Test.YtgblpfahgpneoaaPtU
namespace Go.Proofs.Ytgblpfahgpneoaa
open Go Go.RowKit

/-- How many of the first n. -/
def ctf (f : Nat → Bool) : Nat → Nat
  | 0 => 0
  | n + 1 => ctf f n + if f n = true then 1 else 0
theorem ctf_le (f : Nat → Bool) : ∀ n, ctf f n ≤ n
  | 0 => Nat.le_refl _
  | n + 1 => by have := ctf_le f n; unfold ctf; split <;> omega
theorem ctf_other {f g : Nat → Bool} : ∀ n, (∀ i, i < n → f i = g i) → ctf f n = ctf g n
  | 0, _ => rfl
  | n + 1, h => by unfold ctf; rw [ctf_other n (fun i hi => h i (by omega)), h n (by omega)]
theorem ctf_up {f : Nat → Bool} {j : Nat} (hj : f j = false) : ∀ n, j < n → ctf (up f j true) n = ctf f n + 1
  | 0, h => absurd h (by omega)
  | n + 1, h => by
    unfold ctf
    by_cases e : j = n
    · subst e
      rw [ctf_other (g := f) j (fun i hi => by unfold up; rw [if_neg (by omega)]), hj]
      unfold up
      simp
    · rw [ctf_up hj n (by omega)]
      have : up f j true n = f n := by unfold up; rw [if_neg (fun e2 => e e2.symm)]
      rw [this]
      omega
theorem ctf_all {f : Nat → Bool} {k : Nat} (h : ∀ c, c < k → f c = true) : ∀ n, k ≤ n → k ≤ ctf f n
  | 0, hk => by omega
  | n + 1, hk => by
    unfold ctf
    by_cases e : k ≤ n
    · have := ctf_all h n e; omega
    · obtain rfl : k = n + 1 := by omega
      have h1 := ctf_all (k := n) (fun c hc => h c (by omega)) n (Nat.le_refl _)
      rw [if_pos (h n (by omega))]
      omega
theorem infoB : (Try.prog.info? 4).map (fun i => (i.zero, i.size, i.bytes)) = some (some (.bool false), 1, 1) := by kernel_rfl
theorem mkBs (n : Nat) (hn : n ≤ 4000000) (u : World) : (Instr.makeSlice 54 (I (n : Int)) (I (n : Int))).run Try.prog u = .ok (.slice (some ⟨u.heap.size, 0, none⟩) n n) (u.alloc (.cells (Array.replicate n (.bool false)) 4)) := by
  obtain ⟨i0, hi, hz0, hz1, hz2⟩ := info_parts infoB
  have h := run_makeSlice (P := Try.prog) (w := u) 54 4 i0 _ Try.underlying54 hi hz0 .i64 .i64 (n : Int) (n : Int) (by omega) (Int.le_refl _) (by rw [hz1]; simp; omega) (by rw [hz2]; simp; omega) (by omega)
  rw [hz1, show (Value.bool false).cells = #[.bool false] from rfl, madeOne] at h
  simpa using h
/-- The painting as it is read: each node's colour, none above 15. -/
structure ColZ (n bc : Nat) (C : Nat → Int) (base : Nat) (w : World) : Prop where
  b : Blk bc (arrF n fun i => I (C i)) 3 w
  l : ∀ v, v < n → -1 ≤ C v ∧ C v < 16
  h : bc < base
structure SeenV (n bc bs base : Nat) (C : Nat → Int) (w : World) (f : Nat → Bool) (W : World) : Prop where
  c : ColZ n bc C base W
  s : Blk bs (arrF 17 fun c => .bool (f c)) 4 W
  ne : base ≤ bs ∧ w.heap.size ≤ bs
  b : Below w.heap.size w W
theorem SeenV.alloc {n bc bs base : Nat} {C : Nat → Int} {w W : World} {f : Nat → Bool} (h : SeenV n bc bs base C w f W) (o : Obj) : SeenV n bc bs base C w f (W.alloc o) := ⟨⟨h.c.b.alloc _, h.c.l, h.c.h⟩, h.s.alloc _, h.ne, h.b.alloc h.b.size _⟩
theorem SeenV.set {n bc bs base : Nat} {C : Nat → Int} {w W : World} {f : Nat → Bool} (h : SeenV n bc bs base C w f W) (j : Nat) : SeenV n bc bs base C w (up f j true) (W.setCell ⟨bs, j, none⟩ (.bool true)) := by
  refine ⟨⟨h.c.b.setOther (by have := h.c.h; have := h.ne; omega) _ _, h.c.l, h.c.h⟩, ?_, h.ne, h.b.setCell (p := ⟨bs, j, none⟩) h.ne.2 _⟩
  have h9 := h.s.set j (.bool true)
  rw [arrF_set] at h9
  have e : (up (fun c => Value.bool (f c)) j (.bool true)) = fun c => Value.bool (up f j true c) := by
    funext c
    unfold up
    split <;> rfl
  rw [e] at h9
  exact h9
def nbr (p : P2) (v x : Nat) : Prop := p.1 ≠ p.2 ∧ (p.1 = (v : Int) ∧ p.2 = (x : Int) ∨ p.2 = (v : Int) ∧ p.1 = (x : Int))
/-- All neighbours by a pair are seen. -/
def SeenP (C : Nat → Int) (f : Nat → Bool) (v : Nat) (p : P2) : Prop := ∀ x, nbr p v x → 0 ≤ C x → f (C x).toNat = true
theorem SeenP.up {C : Nat → Int} {f : Nat → Bool} {v : Nat} {p : P2} (h : SeenP C f v p) (j : Nat) : SeenP C (up f j true) v p := fun x hx hc => by
  have := h x hx hc
  unfold Go.Proofs.Ytgblpfahgpneoaa.up
  split
  · rfl
  · exact this
/-- One way round: the node is the one number, the neighbour is the other one. -/
def SeenH (C : Nat → Int) (f : Nat → Bool) (v : Nat) (a b : Int) : Prop := ∀ x : Nat, a = (v : Int) → b = (x : Int) → a ≠ b → 0 ≤ C x → f (C x).toNat = true
theorem seenP_of {C : Nat → Int} {f : Nat → Bool} {v : Nat} {a b : Int} (h1 : SeenH C f v a b) (h2 : SeenH C f v b a) : SeenP C f v (a, b) := fun x hx hc => by
  obtain ⟨h0, h3 | h3⟩ := hx
  · exact h1 x h3.1 h3.2 h0 hc
  · exact h2 x h3.1 h3.2 (fun e => h0 e.symm) hc
theorem SeenH.up {C : Nat → Int} {f : Nat → Bool} {v : Nat} {a b : Int} (h : SeenH C f v a b) (j : Nat) : SeenH C (up f j true) v a b := fun x h1 h2 h3 h4 => by
  have := h x h1 h2 h3 h4
  unfold Go.Proofs.Ytgblpfahgpneoaa.up
  split
  · rfl
  · exact this
def Ne1 (n bc bs : Nat) (C : Nat → Int) (v : Nat) (l : List P2) (w : World) (mv iv : Value) (W : World) : Prop := ∃ (i : Nat) (f : Nat → Bool), i ≤ l.length ∧ iv = I (i : Int) ∧ mv = I (ctf f 17 : Int) ∧ (∀ q, q < i → SeenP C f v (pr l q)) ∧ SeenV n bc bs w.heap.size C w f W
def Ne2 (n bc bs bx : Nat) (C : Nat → Int) (v : Nat) (l : List P2) (i : Nat) (a b : Int) (w : World) (mv kv : Value) (W : World) : Prop := ∃ (k : Nat) (f : Nat → Bool), k ≤ 2 ∧ kv = I (k : Int) ∧ mv = I (ctf f 17 : Int) ∧ (∀ q, q < i → SeenP C f v (pr l q)) ∧ SeenV n bc bs w.heap.size C w f W ∧
  (0 < k → SeenH C f v a b) ∧ (1 < k → SeenH C f v b a) ∧ Blk bx #[I a, I b] 29 W ∧ bx ≠ bs
def NearT (_ : Nat) (C : Nat → Int) (v : Nat) (l : List P2) (w W : World) (e : Ending) : Prop := ∃ m : Nat, e = .returned (I (m : Int)) ∧ m ≤ 17 ∧ (∀ k : Nat, k ≤ 16 → (∀ c : Nat, c < k → ∃ x, Nei l v x ∧ C x = (c : Int)) → k ≤ m) ∧ Below w.heap.size w W

set_option maxRecDepth 100000 in
set_option maxHeartbeats 3200000 in
theorem near_any (n bc v : Nat) (C : Nat → Int) (hv : v < n) (a : Option Addr) (m c : Nat) (l : List P2) (hm : m = l.length) (hl : m ≤ 4000) (hc : m ≤ c) (hA : AreN n l) (w : World) (h : PairZ w (.slice a m c) l) (hC : ColZ n bc C w.heap.size w) :
    Calls Try.prog 17 #[.slice a m c, .slice (some ⟨bc, 0, none⟩) n n, I (v : Int)] w fun e w' => NearT n C v l w w' e := by
  have hmb : (m : Int) ≤ 4000 := by omega
  have hmc : (m : Int) ≤ (c : Int) := by omega
  have hvn : (v : Int) < (n : Int) := by omega
  have hv0 : (0 : Int) ≤ (v : Int) := by omega
  have hmk : ∀ u : World, (Instr.makeSlice 54 (I 17) (I 17)).run Try.prog u = .ok (.slice (some ⟨u.heap.size, 0, none⟩) 17 17) (u.alloc (.cells (Array.replicate 17 (.bool false)) 4)) := mkBs 17 (by omega)
  have HH := Lib.hid (And.intro h (And.intro hm (And.intro hl (And.intro hA (And.intro hv hC)))))
  clear h hm hl hc hA hv hC
  go_enter Try.func17, Try.ntmps17
  go_upto_region 2 with (fail)
  obtain ⟨W, hW⟩ : ∃ W, W = w.alloc (.cells (Array.replicate 17 (.bool false)) 4) := ⟨_, rfl⟩
  obtain ⟨bs, hbs⟩ : ∃ b, b = w.heap.size := ⟨_, rfl⟩
  have HS := Lib.hid (show Ne1 n bc bs C v l w (I 0) (I 0) W from ⟨0, fun _ => false, Nat.zero_le _, rfl, rfl, fun q hq => absurd hq (by omega), ⟨⟨by rw [hW]; exact HH.out.2.2.2.2.2.b.alloc _, HH.out.2.2.2.2.2.l, HH.out.2.2.2.2.2.h⟩, by rw [hW, hbs, ← arrF_repl]; exact Blk.new _ _ _, ⟨by omega, by omega⟩, by rw [hW]; exact (Below.refl _ _).alloc (Nat.le_refl _) _⟩⟩)
  have HW := Lib.hid (And.intro hW hbs)
  change Code.wp _ _ _ _ (w.alloc (.cells (Array.replicate 17 (.bool false)) 4))
  rw [← HW.out.1]
  rw [← HW.out.2]
  clear hW hbs hmk
  go_wp2_with fail
  go_loopw [8, 16] (fun mv iv W => Ne1 n bc bs C v l w mv iv W) (fun _ iv _ => m - (intOf iv).toNat)
  case atStart => exact HS.out
  case round =>
    obtain ⟨i, f, hi, rfl, rfl, hno, hV⟩ := hrel
    by_cases hin : i < m
    · have hil : i < l.length := by rw [← HH.out.2.1]; exact hin
      obtain ⟨b, _, rfl, hbl, c0, e0⟩ := (HH.out.1.keep pairV_stays (S' := LtW wr) hV.b.block (fun k hk => Nat.lt_of_lt_of_le hk hV.b.size)).at i hil
      obtain rfl := e0
      have hnd : NodeP n (pr l i) := by rw [← getD_pr hil]; exact HH.out.2.2.2.1 _ (List.getElem_mem hil)
      rw [getD_pr hil] at c0
      obtain ⟨p, q, hx⟩ : ∃ a b, pr l i = (a, b) := ⟨_, _, rfl⟩
      rw [hx] at c0 hnd
      obtain ⟨q1, q2, q3, q4⟩ : 0 ≤ p ∧ p < (n : Int) ∧ 0 ≤ q ∧ q < (n : Int) := hnd
      obtain ⟨xa, rfl⟩ : ∃ a : Nat, p = (a : Int) := ⟨p.toNat, by omega⟩
      obtain ⟨xb, rfl⟩ : ∃ a : Nat, q = (a : Int) := ⟨q.toNat, by omega⟩
      have x0 : wr.cell? (b.add (i * 2)) = some (I (xa : Int)) := c0.f0
      have x1 : wr.cell? ⟨(b.add (i * 2)).block, (b.add (i * 2)).off + 1, none⟩ = some (I (xb : Int)) := c0.f1
      have d0 : decide (i < m) = true := by simpa using hin
      have d1 : (0 : Int) ≤ (i : Int) := by omega
      have d2 : (i : Int) < (m : Int) := by omega
      have d3 : (i : Int) ≤ (c : Int) := by omega
      obtain ⟨W1, hW1⟩ : ∃ W, W = wr.alloc (.cells #[I (xa : Int), I (xb : Int)] 29) := ⟨_, rfl⟩
      obtain ⟨bx, hbx⟩ : ∃ b, b = wr.heap.size := ⟨_, rfl⟩
      have HS2 := Lib.hid (show Ne2 n bc bs bx C v l i (xa : Int) (xb : Int) w (I (ctf f 17 : Int)) (I 0) W1 from ⟨0, f, by omega, rfl, rfl, hno, by rw [hW1]; exact hV.alloc _, fun h => absurd h (by omega), fun h => absurd h (by omega), by rw [hW1, hbx]; exact Blk.new _ _ _, by have := hV.s.lt; omega⟩)
      have H1 := Lib.hid (And.intro hx (And.intro hil hin))
      have HW1 := Lib.hid (And.intro hW1 hbx)
      clear hW1 hbx hV hno c0 hx hi hil hin hbl
      go_upto_region 6 with (fail)
      change Code.wp _ _ _ _ (wr.alloc (.cells #[I (xa : Int), I (xb : Int)] 29))
      rw [← HW1.out.1, ← HW1.out.2]
      clear x0 x1
      go_wp2_with fail
      go_loopw [8, 20] (fun mv kv W => Ne2 n bc bs bx C v l i (xa : Int) (xb : Int) w mv kv W) (fun _ kv _ => 2 - (intOf kv).toNat)
      case atStart => exact HS2.out
      case round =>
        obtain ⟨k, f, hk, rfl, rfl, hno, hV, h1, h2, kx, hnx⟩ := hrel
        have y0 := kx.get 0 _ rfl
        have y1 := kx.get 1 _ rfl
        have HB := Lib.hid (And.intro hno (And.intro hV (And.intro h1 (And.intro h2 (And.intro kx hnx)))))
        have e : k = 0 ∨ k = 1 ∨ k = 2 := by omega
        clear hno hV h1 h2 kx hnx hk
        rcases e with rfl | rfl | rfl
        · have z0 := HB.out.2.1.c.b.get xb (I (C xb)) (arrF_get _ (by omega))
          have hrel : ∀ f' W', (∀ q, q < i → SeenP C f' v (pr l q)) → SeenV n bc bs w.heap.size C w f' W' → SeenH C f' v (xa : Int) (xb : Int) → Blk bx #[I (xa : Int), I (xb : Int)] 29 W' → Ne2 n bc bs bx C v l i (xa : Int) (xb : Int) w (I (ctf f' 17 : Int)) (I 1) W' := fun f' W' g1 g2 g3 g4 => ⟨1, f', by omega, rfl, rfl, g1, g2, fun _ => g3, fun h => absurd h (by omega), g4, HB.out.2.2.2.2.2⟩
          have HR := Lib.hid hrel
          clear hrel
          have HP := Lib.hid (show SeenH C f v (xa : Int) (xb : Int) → Ne2 n bc bs bx C v l i (xa : Int) (xb : Int) w (I (ctf f 17 : Int)) (I 1) wr from fun g => HR.out f wr HB.out.1 HB.out.2.1 g HB.out.2.2.2.2.1)
          by_cases g1 : xa = v
          · have t1 : ((xa : Int) == (v : Int)) = true := by rw [beq_iff_eq]; omega
            by_cases g2 : xb = v
            · have t2 : ((xb : Int) != (v : Int)) = false := by rw [bne_eq_false_iff_eq]; omega
              have HG := Lib.hid (show SeenH C f v (xa : Int) (xb : Int) from fun x e1 e2 e3 e4 => absurd (show (xa : Int) = (xb : Int) by omega) e3)
              clear g1 g2
              go_wp2_with fail
              exact ⟨HP.out HG.out, by simp [intOf]⟩
            · have t2 : ((xb : Int) != (v : Int)) = true := by rw [bne_iff_ne]; omega
              have hcb := HB.out.2.1.c.l xb (by omega)
              by_cases g3 : 0 ≤ C xb
              · obtain ⟨u, hu⟩ : ∃ u : Nat, C xb = (u : Int) := ⟨(C xb).toNat, by omega⟩
                have hu16 : u < 17 := by omega
                rw [hu] at z0
                have z1 := HB.out.2.1.s.get u (.bool (f u)) (arrF_get _ hu16)
                have f1 := HB.out.2.1.s.free u
                have t4 : (u : Int) < 17 := by omega
                have HU := Lib.hid (And.intro hu hu16)
                clear g1 g2 g3 hcb hu
                by_cases g4 : f u = true
                · rw [g4] at z1
                  have HG := Lib.hid (show SeenH C f v (xa : Int) (xb : Int) from fun x e1 e2 e3 e4 => by
                    obtain rfl : xb = x := by omega
                    rw [HU.out.1, Int.toNat_natCast]; exact g4)
                  clear g4
                  go_wp2_with fail
                  exact ⟨HP.out HG.out, by simp [intOf]⟩
                · have g5 : f u = false := by simpa using g4
                  rw [g5] at z1
                  have HG := Lib.hid (show SeenH C (up f u true) v (xa : Int) (xb : Int) from fun x e1 e2 e3 e4 => by
                    obtain rfl : xb = x := by omega
                    rw [HU.out.1, Int.toNat_natCast]
                    unfold up
                    rw [if_pos rfl])
                  have hct := ctf_up g5 17 HU.out.2
                  have hHN := HR.out (up f u true) (wr.setCell ⟨bs, u, none⟩ (.bool true)) (fun q hq => (HB.out.1 q hq).up u) (HB.out.2.1.set u) HG.out (HB.out.2.2.2.2.1.setOther HB.out.2.2.2.2.2 _ _)
                  rw [hct, show ((ctf f 17 + 1 : Nat) : Int) = (ctf f 17 : Int) + 1 by omega] at hHN
                  have hcl : (ctf f 17 : Int) ≤ 17 := by have := ctf_le f 17; omega
                  have hcl0 : (0 : Int) ≤ (ctf f 17 : Int) := by omega
                  have HN := Lib.hid hHN
                  clear g4 g5 hct hHN
                  generalize (ctf f 17 : Int) = M at *
                  go_wp2_with fail
                  exact ⟨HN.out, by simp [intOf]⟩
              · have HG := Lib.hid (show SeenH C f v (xa : Int) (xb : Int) from fun x e1 e2 e3 e4 => by
                  obtain rfl : xb = x := by omega
                  exact absurd e4 g3)
                have t3 : decide (0 ≤ C xb) = false := by simpa using g3
                have t5 : decide (C xb ≥ 0) = false := t3
                have hcm : C xb = -1 := by omega
                rw [hcm] at z0
                clear g1 g2 g3 hcb t3 t5 hcm
                go_wp2_with fail
                exact ⟨HP.out HG.out, by simp [intOf]⟩
          · have t1 : ((xa : Int) == (v : Int)) = false := by rw [beq_eq_false_iff_ne]; omega
            have HG := Lib.hid (show SeenH C f v (xa : Int) (xb : Int) from fun x e1 e2 e3 e4 => absurd (show xa = v by omega) g1)
            clear g1
            go_wp2_with fail
            exact ⟨HP.out HG.out, by simp [intOf]⟩
        · have z0 := HB.out.2.1.c.b.get xa (I (C xa)) (arrF_get _ (by omega))
          have hrel : ∀ f' W', (∀ q, q < i → SeenP C f' v (pr l q)) → SeenV n bc bs w.heap.size C w f' W' → SeenH C f' v (xb : Int) (xa : Int) → SeenH C f' v (xa : Int) (xb : Int) → Blk bx #[I (xa : Int), I (xb : Int)] 29 W' → Ne2 n bc bs bx C v l i (xa : Int) (xb : Int) w (I (ctf f' 17 : Int)) (I 2) W' := fun f' W' g1 g2 g3 g5 g4 => ⟨2, f', by omega, rfl, rfl, g1, g2, fun _ => g5, fun h => g3, g4, HB.out.2.2.2.2.2⟩
          have HR := Lib.hid hrel
          clear hrel
          have HP := Lib.hid (show SeenH C f v (xb : Int) (xa : Int) → Ne2 n bc bs bx C v l i (xa : Int) (xb : Int) w (I (ctf f 17 : Int)) (I 2) wr from fun g => HR.out f wr HB.out.1 HB.out.2.1 g (HB.out.2.2.1 (by omega)) HB.out.2.2.2.2.1)
          by_cases g1 : xb = v
          · have t1 : ((xb : Int) == (v : Int)) = true := by rw [beq_iff_eq]; omega
            by_cases g2 : xa = v
            · have t2 : ((xa : Int) != (v : Int)) = false := by rw [bne_eq_false_iff_eq]; omega
              have HG := Lib.hid (show SeenH C f v (xb : Int) (xa : Int) from fun x e1 e2 e3 e4 => absurd (show (xb : Int) = (xa : Int) by omega) e3)
              clear g1 g2
              go_wp2_with fail
              exact ⟨HP.out HG.out, by simp [intOf]⟩
            · have t2 : ((xa : Int) != (v : Int)) = true := by rw [bne_iff_ne]; omega
              have hcb := HB.out.2.1.c.l xa (by omega)
              by_cases g3 : 0 ≤ C xa
              · obtain ⟨u, hu⟩ : ∃ u : Nat, C xa = (u : Int) := ⟨(C xa).toNat, by omega⟩
                have hu16 : u < 17 := by omega
                rw [hu] at z0
                have z1 := HB.out.2.1.s.get u (.bool (f u)) (arrF_get _ hu16)
                have f1 := HB.out.2.1.s.free u
                have t4 : (u : Int) < 17 := by omega
                have HU := Lib.hid (And.intro hu hu16)
                clear g1 g2 g3 hcb hu
                by_cases g4 : f u = true
                · rw [g4] at z1
                  have HG := Lib.hid (show SeenH C f v (xb : Int) (xa : Int) from fun x e1 e2 e3 e4 => by
                    obtain rfl : xa = x := by omega
                    rw [HU.out.1, Int.toNat_natCast]; exact g4)
                  clear g4
                  go_wp2_with fail
                  exact ⟨HP.out HG.out, by simp [intOf]⟩
                · have g5 : f u = false := by simpa using g4
                  rw [g5] at z1
                  have HG := Lib.hid (show SeenH C (up f u true) v (xb : Int) (xa : Int) from fun x e1 e2 e3 e4 => by
                    obtain rfl : xa = x := by omega
                    rw [HU.out.1, Int.toNat_natCast]
                    unfold up
                    rw [if_pos rfl])
                  have hct := ctf_up g5 17 HU.out.2
                  have hHN := HR.out (up f u true) (wr.setCell ⟨bs, u, none⟩ (.bool true)) (fun q hq => (HB.out.1 q hq).up u) (HB.out.2.1.set u) HG.out ((HB.out.2.2.1 (by omega)).up u) (HB.out.2.2.2.2.1.setOther HB.out.2.2.2.2.2 _ _)
                  rw [hct, show ((ctf f 17 + 1 : Nat) : Int) = (ctf f 17 : Int) + 1 by omega] at hHN
                  have hcl : (ctf f 17 : Int) ≤ 17 := by have := ctf_le f 17; omega
                  have hcl0 : (0 : Int) ≤ (ctf f 17 : Int) := by omega
                  have HN := Lib.hid hHN
                  clear g4 g5 hct hHN
                  generalize (ctf f 17 : Int) = M at *
                  go_wp2_with fail
                  exact ⟨HN.out, by simp [intOf]⟩
              · have HG := Lib.hid (show SeenH C f v (xb : Int) (xa : Int) from fun x e1 e2 e3 e4 => by
                  obtain rfl : xa = x := by omega
                  exact absurd e4 g3)
                have t3 : decide (0 ≤ C xa) = false := by simpa using g3
                have t5 : decide (C xa ≥ 0) = false := t3
                have hcm : C xa = -1 := by omega
                rw [hcm] at z0
                clear g1 g2 g3 hcb t3 t5 hcm
                go_wp2_with fail
                exact ⟨HP.out HG.out, by simp [intOf]⟩
          · have t1 : ((xb : Int) == (v : Int)) = false := by rw [beq_eq_false_iff_ne]; omega
            have HG := Lib.hid (show SeenH C f v (xb : Int) (xa : Int) from fun x e1 e2 e3 e4 => absurd (show xb = v by omega) g1)
            clear g1
            go_wp2_with fail
            exact ⟨HP.out HG.out, by simp [intOf]⟩
        · have HN := Lib.hid (show Ne1 n bc bs C v l w (I (ctf f 17 : Int)) (I ((i : Int) + 1)) wr from ⟨i + 1, f, H1.out.2.1, rfl, rfl, fun q hq => by
            by_cases e : q = i
            · rw [e, H1.out.1]; exact seenP_of (HB.out.2.2.1 (by omega)) (HB.out.2.2.2.1 (by omega))
            · exact HB.out.1 q (by omega), HB.out.2.1⟩)
          go_wp2_with fail
          exact ⟨HN.out, by have := H1.out.2.2; simp [intOf]; omega⟩
    · have d0 : decide (i < m) = false := by simpa using hin
      have hil : i = l.length := by have := HH.out.2.1; omega
      have FIN := Lib.hid (show NearT n C v l w wr (.returned (I (ctf f 17 : Int))) from ⟨ctf f 17, rfl, ctf_le _ _, fun k hk hall => by
        have h17 : k ≤ 17 := Nat.le_trans hk (by decide)
        refine ctf_all (k := k) (fun c hc => ?_) 17 h17
        obtain ⟨x, ⟨p, hp, hn⟩, hx⟩ := hall c hc
        obtain ⟨j, hj, rfl⟩ := List.getElem_of_mem hp
        rw [getD_pr hj] at hn
        have h9 := hno j (by rw [hil]; exact hj) x hn (by rw [hx]; omega)
        rw [hx, Int.toNat_natCast] at h9
        exact h9, hV.b⟩)
      clear hno hV hin hi hil
      go_wp2_with fail
      go_ret
      exact FIN.out
end Go.Proofs.Ytgblpfahgpneoaa
