/-
  An instruction is read: its Op, its registers, its number.
-/
import Derived.Test.YtlblmnneikdpgaaDoorIbU
import Derived.Test.YtlblmnneikdpgaaDoorIbN
import Derived.Test.YtlblmnneikdpgaaDoorDrawn
import Derived.Deep.RegionWith
namespace Go.Proofs.YtlblmnneikdpgaaDoor
open Go Go.RowKit Ib

/-- A reader's walk. -/
abbrev rkC (br : Nat) : Array Value := #[.func (.func 62) #[.pointer (some ⟨br, 0, none⟩)] #[], .func (.func 63) #[.pointer (some ⟨br, 0, none⟩)] #[], .func (.func 64) #[.pointer (some ⟨br, 0, none⟩)] #[]]
abbrev rkW (br : Nat) : Value := .agg (rkC br)
theorem infoWk : (Tryd.prog.info? 74).map (·.size) = some 3 := by kernel_rfl
theorem stFn (a : Addr) (f : Fn) (x y : Array Value) (w : World) : (store a (.func f x y)).run Tryd.prog w = stored Tryd.prog w a (.func f x y) .plain := run_store Tryd.prog w a _ .plain rfl
set_option maxRecDepth 100000 in
set_option maxHeartbeats 1600000 in
theorem walk_q (br : Nat) (w : World) : Calls Tryd.prog 43 #[.pointer (some ⟨br, 0, none⟩)] w fun e w' => e = .returned (rkW br) ∧ Below w.heap.size w w' := by
  have hmf : ∀ (fn : Fn) (first cap : Array Value) (w : World), (Instr.makeFunc fn first cap).run Tryd.prog w = .ok (.func fn first cap) w := fun _ _ _ _ => rfl
  have hst := stFn
  go_enter Tryd.func43, Tryd.ntmps43
  go_wp2_with fail
  refine bodyPost_ret (results_cell_row rfl _ _ w.heap.size 74 (rkC br) (0, 0) _ rfl (heap_alloc_new _ _) Tryd.underlying74 rfl infoWk) rfl ?_
  exact ⟨rfl, (Below.refl _ _).alloc (Nat.le_refl _) _⟩

/-- What stays while a reader reads. -/
structure Fq (br bx : Nat) (W W' : World) : Prop where
  os : W'.os = W.os
  tape : W'.tape = W.tape
  output : W'.output = W.output
  size : W.heap.size ≤ W'.heap.size
  block : ∀ k, k < W.heap.size → k ≠ br → k ≠ bx → W'.heap[k]? = W.heap[k]?
theorem Fq.refl (br bx : Nat) (W : World) : Fq br bx W W := ⟨rfl, rfl, rfl, Nat.le_refl _, fun _ _ _ _ => rfl⟩
theorem Fq.trans {br bx : Nat} {a b c : World} (h : Fq br bx a b) (h' : Fq br bx b c) : Fq br bx a c :=
  ⟨h'.os.trans h.os, h'.tape.trans h.tape, h'.output.trans h.output, Nat.le_trans h.size h'.size, fun k hk h1 h2 => (h'.block k (Nat.lt_of_lt_of_le hk h.size) h1 h2).trans (h.block k hk h1 h2)⟩
theorem Fq.of_below (br bx : Nat) {W W' : World} (h : Below W.heap.size W W') : Fq br bx W W' := ⟨h.os, h.tape, h.output, h.size, fun k hk _ _ => h.block k hk⟩
theorem Fq.of_grown {br : Nat} (bx : Nat) {W W' : World} (h : W.grownBy W' (some br)) : Fq br bx W W' := ⟨h.os, h.tape, h.output, h.size, fun k hk h1 _ => h.block k hk (fun e => h1 (by injection e))⟩
theorem Fq.set {br bx : Nat} {W W' : World} (h : Fq br bx W W') (j : Nat) (v : Value) : Fq br bx W (W'.setCell ⟨bx, j, none⟩ v) :=
  ⟨h.os, h.tape, h.output, by have := h.size; simp [World.setCell]; exact this, fun k hk h1 h2 => (Below.heap_setCell _ _ _ _ h2).trans (h.block k hk h1 h2)⟩
theorem Fq.blk {br bx b : Nat} {W W' : World} {cs : Array Value} {T : TypeId} (h : Fq br bx W W') (hb : Blk b cs T W) (h1 : b ≠ br) (h2 : b ≠ bx) : Blk b cs T W' := (h.block b hb.lt h1 h2).trans hb
theorem Fq.sen {br bx : Nat} {aM aW : Addr} {W W' : World} (h : Fq br bx W W') (hs : Sen aM aW W) (h1 : SenL aM aW br) (h2 : SenL aM aW bx) : Sen aM aW W' :=
  hs.keep fun k hk => h.block k (hs.lts k hk) (by have := h1 k hk; omega) (by have := h2 k hk; omega)
theorem RdV.set {S : Nat → Prop} {br bx : Nat} {q : List Nat} {W : World} (h : RdV S br q W) (h1 : bx ≠ br) (h2 : ¬ S bx) (j : Nat) (v : Value) : RdV S br q (W.setCell ⟨bx, j, none⟩ v) :=
  h.keep fun k hk => Below.heap_setCell _ _ _ _ (by rcases hk with hk | hk; exact fun e => h2 (by have e' : k = bx := e; rw [← e']; exact hk); exact fun e => h1 (by have e' : k = bx := e; omega))
theorem RdV.below {S : Nat → Prop} {br : Nat} {q : List Nat} {W W' : World} (h : RdV S br q W) (hS : ∀ k, S k → k < W.heap.size) (hb : Below W.heap.size W W') : RdV S br q W' :=
  h.keep fun k hk => hb.block k (by rcases hk with hk | hk; exact hS k hk; have := h.lt; omega)
/-- What a reader and its instruction are at. -/
structure Rq (S : Nat → Prop) (br bx : Nat) (q : List Nat) (cs : Array Value) (W : World) : Prop where
  rd : RdV S br q W
  tg : Blk bx cs 23 W
theorem Rq.below {S : Nat → Prop} {br bx : Nat} {q : List Nat} {cs : Array Value} {W W' : World} (h : Rq S br bx q cs W) (hS : ∀ k, S k → k < W.heap.size) (hb : Below W.heap.size W W') : Rq S br bx q cs W' := ⟨h.rd.below hS hb, h.tg.below hb h.tg.lt⟩

theorem one_cons {S : Nat → Prop} {aM aW : Addr} {br bx j x : Nat} {q : List Nat} {cs : Array Value} {old : Value} (w : World) (h : Rq S br bx (x :: q) cs w) (hs : Sen aM aW w) (hj : cs[j]? = some old) (hne : bx ≠ br) (hS : ¬ S bx) :
    Calls Tryd.prog 62 #[.pointer (some ⟨br, 0, none⟩), .pointer (some ⟨bx, j, none⟩)] w fun e w' => e = .returned .nilIface ∧ Rq S br bx q (cs.setIfInBounds j (B8 x)) w' ∧ Fq br bx w w' :=
  (one_r S aM aW br ⟨bx, j, none⟩ old (x :: q) w h.rd hs (h.tg.get j old hj) (h.tg.free j) hne).mono fun e w' h1 => by
    rcases h1 with ⟨y, q', W2, e1, e2, hg, hrd, e3⟩ | ⟨e1, _⟩
    · cases e1
      subst e3
      exact ⟨e2, ⟨hrd.set hne hS j _, (h.tg.other hg (fun e => hne (by injection e))).set j _⟩, (Fq.of_grown bx hg).set j _⟩
    · cases e1
theorem one_nil {S : Nat → Prop} {aM aW : Addr} {br bx j : Nat} {cs : Array Value} {old : Value} (w : World) (h : Rq S br bx [] cs w) (hs : Sen aM aW w) (hj : cs[j]? = some old) (hne : bx ≠ br) :
    Calls Tryd.prog 62 #[.pointer (some ⟨br, 0, none⟩), .pointer (some ⟨bx, j, none⟩)] w fun e w' => e = .returned (eV aW) ∧ Fq br bx w w' :=
  (one_r S aM aW br ⟨bx, j, none⟩ old [] w h.rd hs (h.tg.get j old hj) (h.tg.free j) hne).mono fun e w' h1 => by
    rcases h1 with ⟨y, q', W2, e1, _⟩ | ⟨_, e2, hg, _⟩
    · cases e1
    · exact ⟨e2, Fq.of_grown bx hg⟩

/-- What reading a number leaves. -/
def ImT (S : Nat → Prop) (aW : Addr) (im : Bool) (op br bx : Nat) (q : List Nat) (cs : Array Value) (W W' : World) (r : Value) : Prop := Fq br bx W W' ∧
  ((im = false ∧ r = .nilIface ∧ Rq S br bx q cs W') ∨
   (im = true ∧ ∃ l q', SplN q l q' ∧ Rq S br bx q' (cs.setIfInBounds 4 (I (Ib.wrap64 (numD (op == 30) l)))) W' ∧ r = unlE aW (decide (nmK (op == 30) (Ib.wrap64 (numD (op == 30) l)) = l.length))) ∨
   (im = true ∧ (¬ ∃ l q', SplN q l q') ∧ r = eV aW))
theorem imT_of {S : Nat → Prop} {aW : Addr} {op br bx : Nat} {q : List Nat} {cs : Array Value} {W W1 W' : World} {e : Ending} {sign : Bool} (hsg : sign = (op == 30)) (hf : Fq br bx W W1) (h : Rq S br bx q cs W1) (hne : bx ≠ br) (hS : ¬ S bx)
    (ht : SgT S aW sign br ⟨bx, 4, none⟩ q W1 W' e) : ∃ r, e = .returned r ∧ ImT S aW true op br bx q cs W W' r := by
  subst hsg
  rcases ht with ⟨l, q', W2, hs, hg, hrd, e1, e2⟩ | ⟨hno, e2, hg, _⟩
  · subst e1
    exact ⟨_, e2, (hf.trans (Fq.of_grown bx hg)).set 4 _, Or.inr (Or.inl ⟨rfl, l, q', hs, ⟨hrd.set hne hS 4 _, (h.tg.other hg (fun e => hne (by injection e))).set 4 _⟩, rfl⟩)⟩
  · exact ⟨_, e2, hf.trans (Fq.of_grown bx hg), Or.inr (Or.inr ⟨rfl, hno, rfl⟩)⟩
set_option maxRecDepth 100000 in
set_option maxHeartbeats 1600000 in
theorem imm_q (S : Nat → Prop) (aM aW : Addr) (op n br bx : Nat) (im : Bool) (hnm : names op = some (n, im)) (q : List Nat) (hq : Byt q) (c0 c1 c2 c3 : Value) (w : World) (h : Rq S br bx q #[c0, c1, c2, c3, I 0] w) (hSl : ∀ k, S k → k < w.heap.size) (hs : Sen aM aW w) (hs1 : SenL aM aW br) (hs2 : SenL aM aW bx) (hne : bx ≠ br) (hS : ¬ S bx) (nr : Int) :
    Calls Tryd.prog 59 #[rkW br, .agg #[I nr, I (least op), I (most op)], .pointer (some ⟨bx, 4, none⟩)] w fun e w' => ∃ r, e = .returned r ∧ ImT S aW im op br bx q #[c0, c1, c2, c3, I 0] w w' r := by
  obtain ⟨W1, hW1⟩ : ∃ W, W = (w.alloc (.cells (rkC br) 74)).alloc (.cells #[I nr, I (least op), I (most op)] 80) := ⟨_, rfl⟩
  have hB1 : Below w.heap.size w W1 := by rw [hW1]; exact ((Below.refl _ _).alloc (Nat.le_refl _) _).alloc (by simp) _
  have h1 := h.below hSl hB1
  have hS1 : ∀ k, S k → k < W1.heap.size := fun k hk => Nat.lt_of_lt_of_le (hSl k hk) hB1.size
  have hsn1 : Sen aM aW W1 := hs.below hB1 (fun k hk => hs.lts k hk)
  have hf1 := Fq.of_below br bx hB1
  have HS := Lib.hid (fun (hsg : true = (op == 30)) => (signed_q S aM aW br ⟨bx, 4, none⟩ (I 0) q hq W1 h1.rd hS1 hsn1 hs1 (h1.tg.get 4 _ rfl) (h1.tg.free 4) hne hS (fun k hk => Nat.ne_of_lt (hs2 k hk))).mono fun e w' ht => imT_of hsg hf1 h1 hne hS ht)
  have HU := Lib.hid (fun (hsg : false = (op == 30)) => (unsigned_q S aM aW br ⟨bx, 4, none⟩ (I 0) q hq W1 h1.rd hS1 hsn1 hs1 (h1.tg.get 4 _ rfl) (h1.tg.free 4) hne hS (fun k hk => Nat.ne_of_lt (hs2 k hk))).mono fun e w' ht => imT_of hsg hf1 h1 hne hS ht)
  have HP := Lib.hid (And.intro h1 hf1)
  have HW1 := Lib.hid hW1
  have hb0 := fun hi : im = false => (names_nat op (by have := names_le hnm; omega) n im hnm).1 hi
  have hb1 : im = true → (op = 30 ∧ least op < 0) ∨ (op ≠ 30 ∧ ¬ least op < 0 ∧ 0 < most op) := fun hi => by
    subst hi
    have h9 := bounds_true hnm
    by_cases e : op = 30
    · have := h9.1 e; left; omega
    · right
      rcases names_true hnm with h8 | h8 | h8 | h8 | h8 | h8 | h8 | h8 | h8 <;> omega
  obtain ⟨lo, hlo⟩ : ∃ z, z = least op := ⟨_, rfl⟩
  obtain ⟨hi, hhi⟩ : ∃ z, z = most op := ⟨_, rfl⟩
  rw [← hlo] at hb0 hb1 HW1 ⊢
  rw [← hhi] at hb0 hb1 HW1 ⊢
  clear hq h hSl hs hs1 hs2 hne hS hB1 h1 hS1 hsn1 hf1 hW1 hnm hlo hhi
  go_enter Tryd.func59, Tryd.ntmps59
  cases im with
  | false =>
    obtain ⟨rfl, rfl⟩ := hb0 rfl
    clear hb0 hb1
    go_wp2_with fail
    rw [← HW1.out]
    go_ret
    exact ⟨_, rfl, HP.out.2, Or.inl ⟨rfl, rfl, HP.out.1⟩⟩
  | true =>
    have hb := hb1 rfl
    clear hb0 hb1
    rcases hb with ⟨h30, hl⟩ | ⟨h30, hl, hh⟩
    · have HC := Lib.hid (HS.out (by simp [h30]))
      have g0 : decide (lo < 0) = true := decide_eq_true hl
      clear h30 hl HS HU
      go_wp2_with fail
      rw [← HW1.out]
      refine HC.out.mono ?_
      rintro e w2 ⟨r, rfl, hr⟩
      have FIN := Lib.hid hr
      clear hr
      go_wp2_with fail
      go_ret
      exact ⟨_, rfl, FIN.out⟩
    · have HC := Lib.hid (HU.out (by simp [h30]))
      have g0 : decide (lo < 0) = false := decide_eq_false hl
      have g1 : decide (0 < hi) = true := decide_eq_true hh
      clear h30 hl hh HS HU
      go_wp2_with fail
      rw [← HW1.out]
      refine HC.out.mono ?_
      rintro e w2 ⟨r, rfl, hr⟩
      have FIN := Lib.hid hr
      clear hr
      go_wp2_with fail
      go_ret
      exact ⟨_, rfl, FIN.out⟩
end Go.Proofs.YtlblmnneikdpgaaDoor
