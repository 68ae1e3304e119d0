/-
  The writer of instructions: a byte, a number, behind what there is.
-/
import Derived.Test.YtlblmnneikdpgaaDoorIbE
import Derived.Test.YtlblmnneikdpgaaDoorDrawn
import Derived.Deep.AppendLies
import Derived.Deep.AppendSrc
namespace Go.Proofs.YtlblmnneikdpgaaDoor
open Go Go.RowKit Ib


/-- A writer in block bt, whose bytes are l. -/
structure Wt (bt base : Nat) (v : Value) (l : List Nat) (W : World) : Prop where
  blk : Blk bt #[v] 68 W
  own : W.ownsRow base 5 1 v l.length (bys l)
  ne : some bt ≠ v.ownBlock
  lo : base ≤ bt
/-- What stays while a writer writes. -/
structure Fw (bt : Nat) (v v' : Value) (W W' : World) : Prop where
  os : W'.os = W.os
  tape : W'.tape = W.tape
  output : W'.output = W.output
  size : W.heap.size ≤ W'.heap.size
  block : ∀ k, k < W.heap.size → k ≠ bt → some k ≠ v.ownBlock → W'.heap[k]? = W.heap[k]?
  own : v'.ownBlock = v.ownBlock ∨ ∃ g, v'.ownBlock = some g ∧ W.heap.size ≤ g
section
variable {bt base : Nat} {v v' v'' : Value} {l : List Nat} {W W' W'' : World}
theorem Fw.refl (bt : Nat) (v : Value) (W : World) : Fw bt v v W W := ⟨rfl, rfl, rfl, Nat.le_refl _, fun _ _ _ _ => rfl, Or.inl rfl⟩
theorem Fw.trans (h : Fw bt v v' W W') (h' : Fw bt v' v'' W' W'') : Fw bt v v'' W W'' := by
  refine ⟨h'.os.trans h.os, h'.tape.trans h.tape, h'.output.trans h.output, Nat.le_trans h.size h'.size, fun k hk h1 h2 => ?_, ?_⟩
  · refine (h'.block k (Nat.lt_of_lt_of_le hk h.size) h1 ?_).trans (h.block k hk h1 h2)
    rcases h.own with e | ⟨g, e, hg⟩
    · rw [e]; exact h2
    · rw [e]; intro e2; injection e2 with e2; omega
  · rcases h'.own with e | ⟨g, e, hg⟩
    · rw [e]; exact h.own
    · exact Or.inr ⟨g, e, Nat.le_trans h.size hg⟩
theorem Fw.of_below (bt : Nat) (v : Value) (h : Below W.heap.size W W') : Fw bt v v W W' := ⟨h.os, h.tape, h.output, h.size, fun k hk _ _ => h.block k hk, Or.inl rfl⟩
theorem Fw.drew (h : Fw bt v v' W W') : Fw bt v v' W W'.drew := ⟨h.os, h.tape, h.output, h.size, h.block, h.own⟩
theorem Wt.lt (h : Wt bt base v l W) (k : Nat) (hk : k = bt ∨ some k = v.ownBlock) : k < W.heap.size := by
  rcases hk with rfl | hk
  · exact h.blk.lt
  · exact (h.own.lt k hk.symm).2
theorem Wt.below (h : Wt bt base v l W) (hb : Below W.heap.size W W') : Wt bt base v l W' := ⟨h.blk.below hb h.blk.lt, own_below h.own hb, h.ne, h.lo⟩
/-- A writer's work leaves alone what lies below its base. -/
theorem Fw.below (h : Fw bt v v' W W') (hw : Wt bt base v l W) : Below base W W' := by
  refine ⟨h.os, h.tape, h.output, h.size, fun k hk => ?_⟩
  have h1 := hw.lo
  have h2 := hw.blk.lt
  exact h.block k (by omega) (by omega) fun e => by have := (hw.own.lt k e.symm).1; omega
theorem Wt.sl (h : Wt bt base v l W) : ∃ a m k, v = .slice a m k := by
  rcases own_slice h.own with ⟨e, _⟩ | ⟨g, c, e⟩
  · exact ⟨_, _, _, e⟩
  · exact ⟨_, _, _, e⟩
theorem Wt.app {o : Obj} {w9 : World} {g cg b : Nat} (h : Wt bt base v l W) (hgr : (W.alloc o).grownBy w9 v.ownBlock)
    (hown : w9.ownsRow base 5 1 (.slice (some ⟨g, 0, none⟩) (l.length + 1) cg) (l.length + 1) (bys l ++ [B8 b])) (hat : v.ownBlock = some g ∨ g = (W.alloc o).heap.size) :
    Wt bt base (.slice (some ⟨g, 0, none⟩) (l.length + 1) cg) (l ++ [b]) (w9.setCell ⟨bt, 0, none⟩ (.slice (some ⟨g, 0, none⟩) (l.length + 1) cg)) ∧
    Fw bt v (.slice (some ⟨g, 0, none⟩) (l.length + 1) cg) W (w9.setCell ⟨bt, 0, none⟩ (.slice (some ⟨g, 0, none⟩) (l.length + 1) cg)) := by
  have hlt := h.blk.lt
  have hne : bt ≠ g := by
    rcases hat with e | e
    · intro e2; exact h.ne (by rw [e, e2])
    · rw [e]; simp; omega
  have hne' : some bt ≠ (Value.slice (some ⟨g, 0, none⟩) (l.length + 1) cg).ownBlock := by simp [Value.ownBlock]; exact hne
  refine ⟨⟨?_, ?_, hne', h.lo⟩, ?_⟩
  · have h1 := ((h.blk.alloc o).other hgr h.ne).set 0 (.slice (some ⟨g, 0, none⟩) (l.length + 1) cg)
    exact h1
  · have h1 := own_set (a := ⟨bt, 0, none⟩) (u := .slice (some ⟨g, 0, none⟩) (l.length + 1) cg) hown hne'
    rw [List.length_append, show bys (l ++ [b]) = bys l ++ [B8 b] by simp]
    exact h1
  · have hs := hgr.size
    simp at hs
    refine ⟨hgr.os, hgr.tape, hgr.output, by simp [World.setCell]; omega, fun k hk h1 h2 => ?_, ?_⟩
    · rw [Below.heap_setCell _ _ _ _ h1, hgr.block k (by simp; omega) h2]
      exact heap_alloc_old W o hk
    · rcases hat with e | e
      · exact Or.inl e.symm
      · refine Or.inr ⟨g, rfl, ?_⟩
        rw [e]; simp
end
theorem infoB : (Tryd.prog.info? 5).map (fun i => (i.zero, i.size, i.bytes)) = some (some (B8 0), 1, 1) := by kernel_rfl
theorem wrapB (m : Nat) : IntKind.u8.wrap (m : Int) = ((m % 256 : Nat) : Int) := by
  show (m : Int) % _ = _
  simp [IntKind.bits]

def NumR (bt base : Nat) (v : Value) (l : List Nat) (n size : Nat) (W0 : World) (nv iv : Value) (W : World) : Prop := ∃ (k : Nat) (v' : Value), k ≤ size ∧ nv = .int .u64 ((n / 256 ^ k : Nat) : Int) ∧ iv = I (k : Int) ∧ Wt bt base v' (l ++ size :: leB n k) W ∧ Fw bt v v' W0 W
def NumT (bt base : Nat) (v : Value) (l m : List Nat) (W0 : World) (W : World) (r : Value) (e : Ending) : Prop := e = .returned r ∧ ∃ v', Wt bt base v' (l ++ m) W ∧ Fw bt v v' W0 W

set_option maxRecDepth 100000 in
set_option maxHeartbeats 1600000 in
theorem number_w (bt base : Nat) (v : Value) (l : List Nat) (n size : Nat) (hn : n < 18446744073709551616) (hs : size ≤ 8) (hl : l.length ≤ 1000000000) (w : World) (h : Wt bt base v l w) :
    Calls Tryd.prog 83 #[.pointer (some ⟨bt, 0, none⟩), .int .u64 (n : Int), I (size : Int)] w fun e w' => NumT bt base v l (size :: leB n size) w w' (.tuple #[]) e := by
  obtain ⟨i1, p1, p2, p3, p4⟩ := info_parts infoB
  have HM := Lib.hid (And.intro p1 (And.intro p2 (And.intro p3 p4)))
  clear p1 p2 p3 p4
  obtain ⟨va, vm, vk, rfl⟩ := h.sl
  have c0 := h.blk.get 0 (.slice va vm vk) rfl
  have f0 := h.blk.free 0
  have hwb : IntKind.u8.wrap (size : Int) = (size : Int) := by rw [wrapB, Nat.mod_eq_of_lt (by omega)]
  have hsb : (size : Int) ≤ 8 := by omega
  have HH := Lib.hid (And.intro h (And.intro hl (And.intro hs hn)))
  clear h hl hs hn
  go_enter Tryd.func83, Tryd.ntmps83
  go_wp2_with (at_builtin; refine Hid.out ?_)
  unfold Hid
  refine wpList_append_lies _ rfl (.tmp 10) (.tmp 13) 24 rfl base 5 i1 (B8 0) 1 1 Tryd.underlying24 HM.out.1 HM.out.2.1 HM.out.2.2.1 HM.out.2.2.2 rfl (by decide) (.slice va vm vk) l.length (bys l) rfl (HH.out.1.own.alloc _) ⟨w.heap.size, 0, none⟩ 1 1 [B8 size] rfl rfl (World.news_of_block (heap_alloc_new w _)) (by simp [Value.oneCell']) (by decide) (by have := HH.out.2.1; unfold maxLen; omega) (by have := HH.out.2.1; omega) (by have := HH.out.1.lo; have := HH.out.1.blk.lt; simp; omega) _ rfl ?_
  intro g cg w9 hown hgr hat hlt
  have hA := HH.out.1.app hgr hown hat
  have hk9 := (HH.out.1.blk.alloc (.cells #[B8 size] 5)).other hgr HH.out.1.ne
  have c9 := hk9.get 0 (.slice va vm vk) rfl
  have f9 := hk9.free 0
  obtain ⟨w10, hw10⟩ : ∃ W, W = w9.setCell ⟨bt, 0, none⟩ (.slice (some ⟨g, 0, none⟩) (l.length + 1) cg) := ⟨_, rfl⟩
  rw [← hw10] at hA
  have HST := Lib.hid (show NumR bt base (.slice va vm vk) l n size w (.int .u64 (n : Int)) (I 0) w10 from ⟨0, _, Nat.zero_le _, by simp, rfl, hA.1, hA.2⟩)
  have HW10 := Lib.hid hw10
  clear hown hgr hat hlt hA hk9 c0 f0 hw10 hwb
  go_upto_region 1 with (fail)
  rw [← HW10.out]
  clear c9 f9 HW10
  go_wp2_with fail
  go_loopw [1, 18] (fun nv iv W => NumR bt base (.slice va vm vk) l n size w nv iv W) (fun _ iv _ => size - (intOf iv).toNat)
  case atStart => exact HST.out
  case round =>
    obtain ⟨k, v', hk, rfl, rfl, hW, hF⟩ := hrel
    clear HST
    by_cases hks : k < size
    · obtain ⟨ua, um, uk, rfl⟩ := hW.sl
      obtain ⟨m, hm⟩ : ∃ m, m = n / 256 ^ k := ⟨_, rfl⟩
      have hms : n / 256 ^ (k + 1) = m / 256 := by rw [hm, Nat.pow_succ, Nat.div_div_eq_div_mul]
      have hmb : m < 18446744073709551616 := by rw [hm]; exact Nat.lt_of_le_of_lt (Nat.div_le_self _ _) HH.out.2.2.2
      rw [← hm]
      have hwb := wrapB m
      obtain ⟨q, hq⟩ : ∃ q, q = m % 256 := ⟨_, rfl⟩
      rw [← hq] at hwb
      have d0 : decide (k < size) = true := by simpa using hks
      have c0 := hW.blk.get 0 (.slice ua um uk) rfl
      have f0 := hW.blk.free 0
      have hlen : (l ++ size :: leB n k).length ≤ 1000000100 := by
        have h1 := HH.out.2.1
        have h2 := HH.out.2.2.1
        rw [List.length_append, List.length_cons, leB_len]
        omega
      have hle : leB n (k + 1) = leB n k ++ [q] := by rw [leB_succ, ← hm, hq]
      have H1 := Lib.hid (And.intro hW (And.intro hF (And.intro hlen (And.intro hle (And.intro hms hks)))))
      clear hW hF hlen hle hms hks hk hm hq hmb
      go_wp2_with (at_builtin; refine Hid.out ?_)
      unfold Hid
      refine wpList_append_lies _ rfl (.tmp 24) (.tmp 27) 24 rfl base 5 i1 (B8 0) 1 1 Tryd.underlying24 HM.out.1 HM.out.2.1 HM.out.2.2.1 HM.out.2.2.2 rfl (by decide) (.slice ua um uk) (l ++ size :: leB n k).length (bys (l ++ size :: leB n k)) rfl (H1.out.1.own.alloc _) ⟨wr.heap.size, 0, none⟩ 1 1 [B8 q] rfl rfl (World.news_of_block (heap_alloc_new wr _)) (by simp [Value.oneCell']) (by decide) (by have := H1.out.2.2.1; unfold maxLen; omega) (by have := H1.out.2.2.1; omega) (by have := H1.out.1.lo; have := H1.out.1.blk.lt; simp; omega) _ rfl ?_
      intro g2 cg2 w11 hown hgr hat hlt
      have hA := H1.out.1.app hgr hown hat
      have hk9 := (H1.out.1.blk.alloc (.cells #[B8 q] 5)).other hgr H1.out.1.ne
      have c9 := hk9.get 0 (.slice ua um uk) rfl
      have f9 := hk9.free 0
      have HN := Lib.hid (show NumR bt base (.slice va vm vk) l n size w (.int .u64 ((m : Int) / 256)) (I ((k : Int) + 1)) _ from ⟨k + 1, _, H1.out.2.2.2.2.2, by rw [H1.out.2.2.2.2.1]; rfl, rfl, by rw [H1.out.2.2.2.1, ← List.cons_append, ← List.append_assoc]; exact hA.1, H1.out.2.1.trans hA.2⟩)
      have HT := Lib.hid H1.out.2.2.2.2.2
      obtain ⟨L, hL⟩ : ∃ L, L = (l ++ size :: leB n k).length := ⟨_, rfl⟩
      rw [← hL] at HN ⊢
      have hkb : (k : Int) ≤ 8 := by have := H1.out.2.2.2.2.2; omega
      have hk0 : (0 : Int) ≤ (k : Int) := by omega
      clear hown hgr hat hlt hA hk9 c0 f0 hwb hL
      go_wp2_with fail
      exact ⟨HN.out, by have := HT.out; simp [intOf]; omega⟩
    · have d0 : decide (k < size) = false := by simpa using hks
      obtain rfl : k = size := by omega
      have FIN := Lib.hid (show NumT bt base (.slice va vm vk) l (k :: leB n k) w wr (.tuple #[]) (.returned (.tuple #[])) from ⟨rfl, _, hW, hF⟩)
      clear hW hF hks hk
      go_wp2_with fail
      go_end0
      exact FIN.out
end Go.Proofs.YtlblmnneikdpgaaDoor
