/-
  How moves lie in memory; copies of their lists.
-/
import Derived.Test.YtnbkcdhblmfopaaMvQ
import Derived.Test.YtnbkcdhblmfopaaCdM
import Derived.Deep.AppendLies
import Derived.Deep.CutRange
import Derived.WalkSmall
namespace Go.Proofs.Ytnbkcdhblmfopaa
open Go Go.RowKit Mv

def encM (m : M) : List Value := [I m.1, I m.2]
abbrev MovV := FlatV encM
abbrev MovZ (W : World) := SlS (LtW W) 2 MovV W
def cellsM (l : List M) : List Value := (l.map encM).flatten
/-- A row of one's own. -/
def MovO (W : World) (base : Nat) (E : TypeId) (v : Value) (l : List M) : Prop := W.ownsRow base E 2 v l.length (cellsM l)
theorem movV_stays : StaysV MovV := fun _ _ _ _ _ _ h _ _ => h
theorem encM_len (x : M) : (encM x).length = 2 := rfl
theorem cellsM_app (l : List M) (m : M) : cellsM (l ++ [m]) = cellsM l ++ [I m.1, I m.2] := by simp [cellsM, encM]
theorem cellsM_len (l : List M) : (cellsM l).length = l.length * 2 := flat_len encM_len l
theorem oneM (x : M) : ∀ u ∈ encM x, u.oneCell' = true := by
  intro u hu
  simp only [encM, List.mem_cons, List.not_mem_nil, or_false] at hu
  rcases hu with rfl | rfl <;> rfl
section
variable {W W' : World} {base : Nat} {E : TypeId} {v : Value} {l : List M}
theorem MovO.own (h : MovO W base E v l) : OwnS base E 2 MovV W v l := ⟨l.map encM, by simp, (fun c hc => by obtain ⟨x, _, rfl⟩ := List.mem_map.1 hc; rfl), h, fun i hi hi' => by show (l.map encM)[i] = encM l[i]; simp⟩
theorem MovO.z (h : MovO W base E v l) : MovZ W v l := h.own.z movV_stays
theorem MovO.row (h : MovO W base E v l) : ∃ a c, v = .slice a l.length c := h.own.row
theorem MovO.below (h : MovO W base E v l) (hb : Below W.heap.size W W') : MovO W' base E v l := own_below h hb
theorem MovO.app {x : M} (h : W.ownsRow base E 2 v (l.length + 1) (cellsM l ++ [I x.1, I x.2])) : MovO W base E v (l ++ [x]) := by
  unfold MovO
  rw [List.length_append, List.length_singleton, cellsM_app]
  exact h
theorem MovO.grown {base0 : Nat} {w : World} (h : MovO W base E v l) (hb : Below base0 w W) (hg : W.grownBy W' v.ownBlock) (h0 : base0 ≤ base) (hs : base0 ≤ W.heap.size) : Below base0 w W' :=
  hb.grown hg hs (fun k hk => Nat.le_trans h0 (World.ownsRow.lt h k hk).1)
theorem MovO.start : MovO W base E (.slice none 0 0) [] := World.ownsRow_nil _ _ _ _
end
theorem getD_mv {l : List M} {i : Nat} (h : i < l.length) : l[i] = mv l i := by
  unfold mv
  rw [List.getD_eq_getElem?_getD, List.getElem?_eq_getElem h]
  rfl
theorem take_mv {l : List M} {i : Nat} (h : i < l.length) : l.take (i + 1) = l.take i ++ [mv l i] := by
  rw [List.take_succ_eq_append_getElem h, getD_mv h]

theorem infoI : (Try.prog.info? 3).map (fun i => (i.zero, i.size, i.bytes)) = some (some (I 0), 1, 8) := by kernel_rfl
theorem infoMm : (Try.prog.info? 32).map (fun i => (i.zero, i.size, i.bytes)) = some (some (.agg #[I 0, I 0]), 2, 16) := by kernel_rfl
theorem infoMr : (Try.prog.info? 31).map (fun i => (i.zero, i.size, i.bytes)) = some (some (.agg #[I 0, I 0]), 2, 16) := by kernel_rfl

def CpR (w : World) (E : TypeId) (l : List M) (ov iv : Value) (W : World) : Prop := ∃ i : Nat, i ≤ l.length ∧ iv = I (i : Int) ∧ MovO W w.heap.size E ov (l.take i) ∧ Below w.heap.size w W
def BackT (w : World) (l : List M) (W : World) (e : Ending) : Prop := ∃ u, e = .returned u ∧ MovO W w.heap.size 31 u l ∧ Below w.heap.size w W

set_option maxRecDepth 100000 in
set_option maxHeartbeats 1600000 in
theorem back_any2 (v : Value) (l : List M) (hl : l.length ≤ 2000) (w : World) (h : MovZ w v l) :
    Calls Try.prog 10 #[v] w fun e w' => BackT w l w' e := by
  obtain ⟨i0, p1, p2, p3, p4⟩ := info_parts infoMr
  have HI := Lib.hid (And.intro p1 (And.intro p2 (And.intro p3 p4)))
  clear p1 p2 p3 p4
  obtain ⟨a, c, rfl⟩ := h.size
  obtain ⟨n, hn⟩ : ∃ n, n = l.length := ⟨_, rfl⟩
  rw [← hn] at h ⊢
  have hnb : (n : Int) ≤ 2000 := by omega
  have HH := Lib.hid (And.intro h (And.intro hn hl))
  clear h hn hl
  go_enter Try.func10, Try.ntmps10
  go_wp2_with fail
  go_loopw [3, 8] (fun ov iv W => CpR w 31 l ov iv W) (fun _ iv _ => n - (intOf iv).toNat)
  case atStart => exact ⟨0, Nat.zero_le _, rfl, MovO.start, Below.refl _ _⟩
  case round =>
    obtain ⟨i, hi, rfl, hown, hbe⟩ := hrel
    by_cases hin : i < n
    · have hil : i < l.length := by rw [← HH.out.2.1]; exact hin
      obtain ⟨b, _, rfl, hbl, c0, e0⟩ := (HH.out.1.below movV_stays hbe).at i hil
      obtain rfl := e0
      rw [getD_mv hil] at c0
      obtain ⟨x, hx⟩ : ∃ z, z = mv l i := ⟨_, rfl⟩
      rw [← hx] at c0
      have x0 := c0.f0
      have x1 := c0.f1
      have htk : l.take (i + 1) = l.take i ++ [x] := by rw [take_mv hil, ← hx]
      obtain ⟨s3, m3, k3, hu3⟩ : ∃ a m k, u3 = .slice a m k := by
        obtain ⟨a, k, e⟩ := hown.row
        exact ⟨_, _, _, e⟩
      have hli : (l.take i).length = i := by rw [List.length_take]; omega
      have hown' : wr.ownsRow w.heap.size 31 2 u3 i (cellsM (l.take i)) := by rw [← hli]; rw [hli]; have h9 := hown; unfold MovO at h9; rw [hli] at h9; exact h9
      have H1 := Lib.hid (And.intro hown' (And.intro hbe (And.intro htk (And.intro hin (And.intro hli (show i ≤ 2000 by omega))))))
      have d0 : decide (i < n) = true := by simpa using hin
      have d1 : (0 : Int) ≤ (i : Int) := by omega
      have d2 : (i : Int) < (n : Int) := by omega
      subst hu3
      clear hown hown' hbe htk c0 hx hil hin hbl hi hli
      go_wp2_with (first | (at_builtin; refine Hid.out ?_) | go_in)
      unfold Hid
      obtain ⟨W1, hW1⟩ : ∃ W, W = (wr.alloc (.cells #[I x.1, I x.2] 32)) := ⟨_, rfl⟩
      have HW1 := Lib.hid hW1
      change wpList _ _ _ _ _ ((wr.alloc (.cells #[I x.1, I x.2] 32)).alloc (.cells #[I x.1, I x.2] 31))
      refine wpList_append_lies _ rfl (.tmp 12) (.tmp 14) 22 rfl w.heap.size 31 i0 (.agg #[I 0, I 0]) 2 16 Try.underlying22 HI.out.1 HI.out.2.1 HI.out.2.2.1 HI.out.2.2.2 rfl (by decide) (.slice s3 m3 k3) i (cellsM (l.take i)) rfl ((H1.out.1.alloc _).alloc _) ⟨wr.heap.size + 1, 0, none⟩ 1 1 [I x.1, I x.2] rfl rfl (by rw [← hW1]; exact (by rw [show wr.heap.size + 1 = W1.heap.size by rw [hW1]; simp]; exact World.news_of_block (heap_alloc_new W1 _))) (by simp [Value.oneCell']) (by decide) (by have := H1.out.2.2.2.2.2; unfold maxLen; omega) (by have := H1.out.2.2.2.2.2; omega) (by have h1 := H1.out.2.1.size; simp; omega) _ rfl ?_
      intro gg cg w9 hown9 hgr9 hat9 hlt9
      have hB2 : Below w.heap.size w ((wr.alloc (.cells #[I x.1, I x.2] 32)).alloc (.cells #[I x.1, I x.2] 31)) := (H1.out.2.1.alloc H1.out.2.1.size _).alloc (by have := H1.out.2.1.size; simp; omega) _
      have HN := Lib.hid (show CpR w 31 l (.slice (some ⟨gg, 0, none⟩) (i + 1) cg) (I ((i : Int) + 1)) w9 from
        ⟨i + 1, by have := HH.out.2.1; have := H1.out.2.2.2.1; omega, rfl, by rw [H1.out.2.2.1]; exact MovO.app (by rw [H1.out.2.2.2.2.1]; exact hown9), hB2.grown hgr9 (by have := H1.out.2.1.size; simp; omega) (fun k hk => (World.ownsRow.lt H1.out.1 k hk).1)⟩)
      have HT := Lib.hid H1.out.2.2.2.1
      clear hown9 hgr9 hat9 hlt9 hB2 hW1
      go_wp2_with fail
      exact ⟨HN.out, by have := HT.out; simp [intOf]; omega⟩
    · have d0 : decide (i < n) = false := by simpa using hin
      obtain rfl : i = n := by have := HH.out.2.1; omega
      have FIN := Lib.hid (show BackT w l wr (.returned u3) from ⟨_, rfl, by rw [HH.out.2.1, List.take_length] at hown; exact hown, hbe⟩)
      clear hown hbe hin hi
      go_wp2_with fail
      go_ret
      exact FIN.out
theorem back_any (v : Value) (l : List M) (hl : l.length ≤ 1000) (w : World) (h : MovZ w v l) : Calls Try.prog 10 #[v] w fun e w' => BackT w l w' e := back_any2 v l (by omega) w h
/-- A copy with marked room behind. -/
def ListT (w : World) (l : List M) (W : World) (e : Ending) : Prop := ∃ g c, e = .returned (.slice (some ⟨g, 0, none⟩) l.length c) ∧ l.length + 1 ≤ c ∧ W.ownsRow w.heap.size 32 2 (.slice (some ⟨g, 0, none⟩) (l.length + 1) c) (l.length + 1) (cellsM (l ++ [(77, 77)])) ∧ Below w.heap.size w W
set_option maxRecDepth 100000 in
set_option maxHeartbeats 1600000 in
theorem list_any (v : Value) (l : List M) (hl : l.length ≤ 1000) (w : World) (h : MovZ w v l) :
    Calls Try.prog 8 #[v] w fun e w' => ListT w l w' e := by
  obtain ⟨i0, p1, p2, p3, p4⟩ := info_parts infoMm
  have HI := Lib.hid (And.intro p1 (And.intro p2 (And.intro p3 p4)))
  clear p1 p2 p3 p4
  obtain ⟨a, c, rfl⟩ := h.size
  obtain ⟨n, hn⟩ : ∃ n, n = l.length := ⟨_, rfl⟩
  rw [← hn] at h ⊢
  have hnb : (n : Int) ≤ 1000 := by omega
  have HH := Lib.hid (And.intro h (And.intro hn hl))
  clear h hn hl
  go_enter Try.func8, Try.ntmps8
  go_wp2_with fail
  go_loopw [3, 8] (fun ov iv W => CpR w 32 l ov iv W) (fun _ iv _ => n - (intOf iv).toNat)
  case atStart => exact ⟨0, Nat.zero_le _, rfl, MovO.start, Below.refl _ _⟩
  case round =>
    obtain ⟨i, hi, rfl, hown, hbe⟩ := hrel
    by_cases hin : i < n
    · have hil : i < l.length := by rw [← HH.out.2.1]; exact hin
      obtain ⟨b, _, rfl, hbl, c0, e0⟩ := (HH.out.1.below movV_stays hbe).at i hil
      obtain rfl := e0
      rw [getD_mv hil] at c0
      obtain ⟨x, hx⟩ : ∃ z, z = mv l i := ⟨_, rfl⟩
      rw [← hx] at c0
      have x0 := c0.f0
      have x1 := c0.f1
      have htk : l.take (i + 1) = l.take i ++ [x] := by rw [take_mv hil, ← hx]
      obtain ⟨s3, m3, k3, hu3⟩ : ∃ a m k, u3 = .slice a m k := by
        obtain ⟨a, k, e⟩ := hown.row
        exact ⟨_, _, _, e⟩
      have hli : (l.take i).length = i := by rw [List.length_take]; omega
      have hown' : wr.ownsRow w.heap.size 32 2 u3 i (cellsM (l.take i)) := by rw [← hli]; rw [hli]; have h9 := hown; unfold MovO at h9; rw [hli] at h9; exact h9
      have H1 := Lib.hid (And.intro hown' (And.intro hbe (And.intro htk (And.intro hin (And.intro hli (show i ≤ 1000 by omega))))))
      have d0 : decide (i < n) = true := by simpa using hin
      have d1 : (0 : Int) ≤ (i : Int) := by omega
      have d2 : (i : Int) < (n : Int) := by omega
      subst hu3
      clear hown hown' hbe htk c0 hx hil hin hbl hi hli
      go_wp2_with (first | (at_builtin; refine Hid.out ?_) | go_in)
      unfold Hid
      obtain ⟨W1, hW1⟩ : ∃ W, W = (wr.alloc (.cells #[I x.1, I x.2] 31)) := ⟨_, rfl⟩
      have HW1 := Lib.hid hW1
      change wpList _ _ _ _ _ ((wr.alloc (.cells #[I x.1, I x.2] 31)).alloc (.cells #[I x.1, I x.2] 32))
      refine wpList_append_lies _ rfl (.tmp 12) (.tmp 14) 24 rfl w.heap.size 32 i0 (.agg #[I 0, I 0]) 2 16 Try.underlying24 HI.out.1 HI.out.2.1 HI.out.2.2.1 HI.out.2.2.2 rfl (by decide) (.slice s3 m3 k3) i (cellsM (l.take i)) rfl ((H1.out.1.alloc _).alloc _) ⟨wr.heap.size + 1, 0, none⟩ 1 1 [I x.1, I x.2] rfl rfl (by rw [← hW1]; exact (by rw [show wr.heap.size + 1 = W1.heap.size by rw [hW1]; simp]; exact World.news_of_block (heap_alloc_new W1 _))) (by simp [Value.oneCell']) (by decide) (by have := H1.out.2.2.2.2.2; unfold maxLen; omega) (by have := H1.out.2.2.2.2.2; omega) (by have h1 := H1.out.2.1.size; simp; omega) _ rfl ?_
      intro gg cg w9 hown9 hgr9 hat9 hlt9
      have hB2 : Below w.heap.size w ((wr.alloc (.cells #[I x.1, I x.2] 31)).alloc (.cells #[I x.1, I x.2] 32)) := (H1.out.2.1.alloc H1.out.2.1.size _).alloc (by have := H1.out.2.1.size; simp; omega) _
      have HN := Lib.hid (show CpR w 32 l (.slice (some ⟨gg, 0, none⟩) (i + 1) cg) (I ((i : Int) + 1)) w9 from
        ⟨i + 1, by have := HH.out.2.1; have := H1.out.2.2.2.1; omega, rfl, by rw [H1.out.2.2.1]; exact MovO.app (by rw [H1.out.2.2.2.2.1]; exact hown9), hB2.grown hgr9 (by have := H1.out.2.1.size; simp; omega) (fun k hk => (World.ownsRow.lt H1.out.1 k hk).1)⟩)
      have HT := Lib.hid H1.out.2.2.2.1
      clear hown9 hgr9 hat9 hlt9 hB2 hW1
      go_wp2_with fail
      exact ⟨HN.out, by have := HT.out; simp [intOf]; omega⟩
    · have d0 : decide (i < n) = false := by simpa using hin
      obtain rfl : i = n := by have := HH.out.2.1; omega
      have hli : (l.take i).length = i := by rw [List.length_take]; have := HH.out.2.1; omega
      have hl0 : l.take i = l := by rw [HH.out.2.1, List.take_length]
      have hown' : wr.ownsRow w.heap.size 32 2 u3 i (cellsM l) := by have h9 := hown; unfold MovO at h9; rw [hli, hl0] at h9; exact h9
      obtain ⟨s3, m3, k3, hu3⟩ : ∃ a m k, u3 = .slice a m k := by
        obtain ⟨a, k, e⟩ := hown.row
        exact ⟨_, _, _, e⟩
      have H1 := Lib.hid (And.intro hown' hbe)
      subst hu3
      clear hown hown' hbe hin hi hli hl0
      go_wp2_with (first | (at_builtin; refine Hid.out ?_) | go_in)
      unfold Hid
      change wpList _ _ _ _ _ (wr.alloc (.cells #[I 77, I 77] 32))
      refine wpList_append_lies _ rfl (.tmp 17) (.tmp 19) 24 rfl w.heap.size 32 i0 (.agg #[I 0, I 0]) 2 16 Try.underlying24 HI.out.1 HI.out.2.1 HI.out.2.2.1 HI.out.2.2.2 rfl (by decide) (.slice s3 m3 k3) i (cellsM l) rfl (H1.out.1.alloc _) ⟨wr.heap.size, 0, none⟩ 1 1 [I 77, I 77] rfl rfl (World.news_of_block (heap_alloc_new wr _)) (by simp [Value.oneCell']) (by decide) (by have := HH.out.2; unfold maxLen; omega) (by have := HH.out.2; omega) (by have h1 := H1.out.2.size; simp; omega) _ rfl ?_
      intro gg cg w9 hown9 hgr9 hat9 hlt9
      have hcap : i + 1 ≤ cg := by
        rcases hown9.2 with ⟨h, _⟩ | ⟨g', cap', cur, hv, _, _, h1, _⟩
        · cases h
        · cases hv; exact h1
      have FIN := Lib.hid (show ListT w l w9 (.returned (.slice (some ⟨gg, 0, none⟩) i cg)) from ⟨gg, cg, by rw [HH.out.2.1], by rw [← HH.out.2.1]; exact hcap, by rw [← HH.out.2.1]; rw [cellsM_app]; exact hown9, (H1.out.2.alloc H1.out.2.size _).grown hgr9 (by have := H1.out.2.size; simp; omega) (fun k hk => (World.ownsRow.lt H1.out.1 k hk).1)⟩)
      have e1 : (i : Int) ≤ (cg : Int) := by omega
      have e2 : (0 : Int) ≤ (i : Int) := by omega
      clear hown9 hgr9 hat9 hlt9 hcap
      go_wp2_with fail
      go_ret
      exact FIN.out
end Go.Proofs.Ytnbkcdhblmfopaa
