/-
  A new painter.
-/
import Derived.Test.YtgblpfahgpneoaaPtW
import Derived.Test.YtgblpfahgpneoaaDrawn
namespace Go.Proofs.Ytgblpfahgpneoaa
open Go Go.RowKit

theorem four_get (w : World) (o1 o2 o3 o4 : Obj) (i : Nat) (o : Obj) (hi : [o1, o2, o3, o4][i]? = some o) : (((((w.alloc o1).alloc o2).alloc o3).alloc o4).drew).heap[w.heap.size + i]? = some o := by
  show ((((w.alloc o1).alloc o2).alloc o3).alloc o4).heap[w.heap.size + i]? = some o
  match i, hi with
  | 0, hi =>
    obtain rfl : o1 = o := by simpa using hi
    rw [heap_alloc_old _ _ (by simp <;> omega), heap_alloc_old _ _ (by simp <;> omega), heap_alloc_old _ _ (by simp)]
    exact heap_alloc_new w _
  | 1, hi =>
    obtain rfl : o2 = o := by simpa using hi
    rw [heap_alloc_old _ _ (by simp <;> omega), heap_alloc_old _ _ (by simp)]
    have := heap_alloc_new (w.alloc o1) o2
    simpa using this
  | 2, hi =>
    obtain rfl : o3 = o := by simpa using hi
    rw [heap_alloc_old _ _ (by simp)]
    have := heap_alloc_new ((w.alloc o1).alloc o2) o3
    simpa using this
  | 3, hi =>
    obtain rfl : o4 = o := by simpa using hi
    have := heap_alloc_new (((w.alloc o1).alloc o2).alloc o3) o4
    simpa using this
  | n + 4, hi => simp at hi
def NpT (w : World) (n : Nat) (nr lk : Nat → List Nat) (k : Nat) (nv lv : Value) (C Wh : Nat → Int) (p : Value) (W : World) : Prop := ∃ bp bc bw bt, p = .pointer (some ⟨bp, 0, none⟩) ∧ Pain n nr lk k w.heap.size bp bc bw bt nv lv C Wh (fun _ => 0) W ∧ Below w.heap.size w W
theorem new_pt (w : World) (n : Nat) (nr lk : Nat → List Nat) (k : Nat) (nv lv : Value) (hn : Gz w.heap.size nv n nr w) (hl : Gz w.heap.size lv n lk w) (o1 o2 o3 : Obj) (i j q : Nat) (bc bw bt bp : Nat) (hi : bc = w.heap.size + i) (hj : bw = w.heap.size + j) (hq : bt = w.heap.size + q) (hp : bp = w.heap.size + 3)
    (h1 : [o1, o2, o3][i]? = some (.cells (Array.replicate n (I 0)) 3)) (h2 : [o1, o2, o3][j]? = some (.cells (Array.replicate n (I 0)) 3)) (h3 : [o1, o2, o3][q]? = some (.cells (Array.replicate n (.int .u32 0)) 53)) (hne : i ≠ j ∧ i ≠ q ∧ j ≠ q ∧ i < 3 ∧ j < 3 ∧ q < 3) :
    NpT w n nr lk k nv lv (fun _ => 0) (fun _ => 0) (.pointer (some ⟨bp, 0, none⟩)) (((((w.alloc o1).alloc o2).alloc o3).alloc (.cells #[nv, lv, I (k : Int), .slice (some ⟨bc, 0, none⟩) n n, .slice (some ⟨bw, 0, none⟩) n n, .slice (some ⟨bt, 0, none⟩) n n] 45)).drew) := by
  have hb : Below w.heap.size w (((((w.alloc o1).alloc o2).alloc o3).alloc (.cells #[nv, lv, I (k : Int), .slice (some ⟨bc, 0, none⟩) n n, .slice (some ⟨bw, 0, none⟩) n n, .slice (some ⟨bt, 0, none⟩) n n] 45)).drew) := (((((Below.refl _ _).alloc (Nat.le_refl _) _).alloc (by simp) _).alloc (by simp; omega) _).alloc (by simp; omega) _).drew
  have g4 : ∀ i o, i < 3 → [o1, o2, o3][i]? = some o → [o1, o2, o3, Obj.cells #[nv, lv, I (k : Int), .slice (some ⟨bc, 0, none⟩) n n, .slice (some ⟨bw, 0, none⟩) n n, .slice (some ⟨bt, 0, none⟩) n n] 45][i]? = some o := fun i o hi h => by
    match i, hi with
    | 0, _ => simpa using h
    | 1, _ => simpa using h
    | 2, _ => simpa using h
  have e1 := four_get w o1 o2 o3 (.cells #[nv, lv, I (k : Int), .slice (some ⟨bc, 0, none⟩) n n, .slice (some ⟨bw, 0, none⟩) n n, .slice (some ⟨bt, 0, none⟩) n n] 45) i _ (g4 i _ hne.2.2.2.1 h1)
  have e2 := four_get w o1 o2 o3 (.cells #[nv, lv, I (k : Int), .slice (some ⟨bc, 0, none⟩) n n, .slice (some ⟨bw, 0, none⟩) n n, .slice (some ⟨bt, 0, none⟩) n n] 45) j _ (g4 j _ hne.2.2.2.2.1 h2)
  have e3 := four_get w o1 o2 o3 (.cells #[nv, lv, I (k : Int), .slice (some ⟨bc, 0, none⟩) n n, .slice (some ⟨bw, 0, none⟩) n n, .slice (some ⟨bt, 0, none⟩) n n] 45) q _ (g4 q _ hne.2.2.2.2.2 h3)
  have e4 := four_get w o1 o2 o3 (.cells #[nv, lv, I (k : Int), .slice (some ⟨bc, 0, none⟩) n n, .slice (some ⟨bw, 0, none⟩) n n, .slice (some ⟨bt, 0, none⟩) n n] 45) 3 _ rfl
  rw [← hi] at e1
  rw [← hj] at e2
  rw [← hq] at e3
  rw [← hp] at e4
  rw [arrF_repl] at e1 e2 e3
  exact ⟨bp, bc, bw, bt, rfl, ⟨e4, e1, e2, e3, hn.keep hb.block, hl.keep hb.block, ⟨by omega, by omega, by omega, by omega⟩, ⟨by omega, by omega, by omega, by omega, by omega, by omega⟩⟩, hb⟩

theorem cell_setOther {W : World} {b a : Nat} (h : b ≠ a) (i j : Nat) (u : Value) : (W.setCell ⟨a, j, none⟩ u).cell? ⟨b, i, none⟩ = W.cell? ⟨b, i, none⟩ := by
  unfold World.cell?
  rw [Below.heap_setCell _ _ _ _ h]
def lessM (i : Nat) : Nat → Int := fun x => if x < i then -1 else 0
theorem lessM_succ (i : Nat) : ∀ x, lessM (i + 1) x = up (lessM i) i (-1) x := fun x => by
  unfold lessM up
  by_cases e : x = i
  · subst e; rw [if_pos (by omega), if_pos rfl]
  · rw [if_neg e]
    show _ = if x < i then (-1 : Int) else 0
    by_cases h : x < i
    · rw [if_pos (by omega), if_pos h]
    · rw [if_neg (by omega), if_neg h]
def Np1 (w : World) (n : Nat) (nr lk : Nat → List Nat) (k bp bc bw bt : Nat) (nv lv : Value) (iv : Value) (W : World) : Prop := ∃ i : Nat, i ≤ n ∧ iv = I (i : Int) ∧ Pain n nr lk k w.heap.size bp bc bw bt nv lv (lessM i) (lessM i) (fun _ => 0) W ∧ Below w.heap.size w W
def NpE (w : World) (n : Nat) (nr lk : Nat → List Nat) (k : Nat) (nv lv : Value) (W : World) (e : Ending) : Prop := ∃ p, e = .returned p ∧ NpT w n nr lk k nv lv (lessM n) (lessM n) p W

set_option maxRecDepth 100000 in
set_option maxHeartbeats 1600000 in
theorem newPainter_any {n : Nat} {nr lk : Nat → List Nat} {k : Nat} {nv lv : Value} (hn : n ≤ 60000) (w : World) (h1 : Gz w.heap.size nv n nr w) (h2 : Gz w.heap.size lv n lk w) :
    Calls Try.prog 13 #[nv, lv, I (k : Int)] w fun e w' => NpE w n nr lk k nv lv w' e := by
  have HF := Lib.hid (new_pt w n nr lk k nv lv h1 h2)
  obtain ⟨bl, hlv, hbl, hlr⟩ := h2
  obtain ⟨bn, hnv, hbn, hnr⟩ := h1
  subst hlv hnv
  have hnb : (n : Int) ≤ 60000 := by omega
  have hmi := mkIs n (by omega)
  have hmu := mkUs n (by omega)
  clear hlr hnr hbl hbn
  go_enter Try.func13, Try.ntmps13
  go_upto_region 2 with (fail)
  go_cut [8] (fun p W => NpT w n nr lk k (.slice (some ⟨bn, 0, none⟩) n n) (.slice (some ⟨bl, 0, none⟩) n n) (fun _ => 0) (fun _ => 0) p W)
  case first =>
    go_region
    all_goals (go_wp2_with fail; go_meet; case rel => first
      | exact HF.out _ _ _ 0 1 2 _ _ _ _ rfl rfl rfl rfl rfl rfl rfl (by decide)
      | exact HF.out _ _ _ 0 2 1 _ _ _ _ rfl rfl rfl rfl rfl rfl rfl (by decide)
      | exact HF.out _ _ _ 1 0 2 _ _ _ _ rfl rfl rfl rfl rfl rfl rfl (by decide)
      | exact HF.out _ _ _ 1 2 0 _ _ _ _ rfl rfl rfl rfl rfl rfl rfl (by decide)
      | exact HF.out _ _ _ 2 0 1 _ _ _ _ rfl rfl rfl rfl rfl rfl rfl (by decide)
      | exact HF.out _ _ _ 2 1 0 _ _ _ _ rfl rfl rfl rfl rfl rfl rfl (by decide))
  case rest =>
    obtain ⟨bp, bc, bw, bt, rfl, hpn, hb1⟩ := hcut
    have HS1 := Lib.hid (show Np1 w n nr lk k bp bc bw bt (.slice (some ⟨bn, 0, none⟩) n n) (.slice (some ⟨bl, 0, none⟩) n n) (I 0) wc from ⟨0, Nat.zero_le _, rfl, hpn.turn (fun x => by unfold lessM; simp) (fun x => by unfold lessM; simp) (fun _ => rfl), hb1⟩)
    have HLT := Lib.hid (And.intro hpn.lt hpn.ne)
    clear hmi hmu HF hpn hb1
    go_wp2_with fail
    go_loopw [24] (fun iv W => Np1 w n nr lk k bp bc bw bt (.slice (some ⟨bn, 0, none⟩) n n) (.slice (some ⟨bl, 0, none⟩) n n) iv W) (fun iv _ => n - (intOf iv).toNat)
    case atStart => exact HS1.out
    case round =>
    obtain ⟨i, hi, rfl, hpn, hbe⟩ := hrel
    by_cases hlt : i < n
    · have d0 : decide (i < n) = true := by simpa using hlt
      have d1 : (0 : Int) ≤ (i : Int) := by omega
      have d2 : (i : Int) < (n : Int) := by omega
      have z3 := hpn.pb.get 3 (.slice (some ⟨bc, 0, none⟩) n n) rfl
      have z4 := hpn.pb.get 4 (.slice (some ⟨bw, 0, none⟩) n n) rfl
      have z5 := hpn.cb.get i (I (lessM i i)) (arrF_get _ hlt)
      have z6 := hpn.wb.get i (I (lessM i i)) (arrF_get _ hlt)
      have f5 := hpn.cb.free i
      have f6 := hpn.wb.free i
      have HN := Lib.hid (show Np1 w n nr lk k bp bc bw bt (.slice (some ⟨bn, 0, none⟩) n n) (.slice (some ⟨bl, 0, none⟩) n n) (I ((i : Int) + 1)) ((wr.drew.setCell ⟨bc, i, none⟩ (I (-1))).setCell ⟨bw, i, none⟩ (I (-1))) from ⟨i + 1, hlt, rfl, ((hpn.drew.setC i (-1)).setW i (-1)).turn (lessM_succ i) (lessM_succ i) (fun _ => rfl), (hbe.drew.setCell (p := ⟨bc, i, none⟩) HLT.out.1.2.1 _).setCell (p := ⟨bw, i, none⟩) HLT.out.1.2.2.1 _⟩)
      have HT := Lib.hid hlt
      have hne : bw ≠ bc := fun e => HLT.out.2.2.2.2.1 e.symm
      clear hpn hbe hi hlt
      go_upto_region 6 with (fail)
      have hS : (fun w' : World => w'.cell? ⟨bp, 3, none⟩ = some (.slice (some ⟨bc, 0, none⟩) n n) ∧ w'.cell? ⟨bp, 4, none⟩ = some (.slice (some ⟨bw, 0, none⟩) n n)) wr.drew := ⟨z3, z4⟩
      have SSS11 := Lib.hid (show (fun w' : World => w'.cell? ⟨bp, 3, none⟩ = some (.slice (some ⟨bc, 0, none⟩) n n) ∧ w'.cell? ⟨bp, 4, none⟩ = some (.slice (some ⟨bw, 0, none⟩) n n)) (wr.drew.setCell ⟨bc, i, none⟩ (I (-1))) from ⟨(cell_setOther HLT.out.2.1 _ _ _).trans z3, (cell_setOther HLT.out.2.1 _ _ _).trans z4⟩)
      have SSS12 := SSS11
      have SSS13 := Lib.hid (show (fun w' : World => w'.cell? ⟨bp, 3, none⟩ = some (.slice (some ⟨bc, 0, none⟩) n n) ∧ w'.cell? ⟨bp, 4, none⟩ = some (.slice (some ⟨bw, 0, none⟩) n n)) ((wr.drew.setCell ⟨bc, i, none⟩ (I (-1))).setCell ⟨bw, i, none⟩ (I (-1))) from ⟨(cell_setOther HLT.out.2.2.1 _ _ _).trans SSS11.out.1, (cell_setOther HLT.out.2.2.1 _ _ _).trans SSS11.out.2⟩)
      refine wp_region_dep (S := fun w' : World => w'.cell? ⟨bp, 3, none⟩ = some (.slice (some ⟨bc, 0, none⟩) n n) ∧ w'.cell? ⟨bp, 4, none⟩ = some (.slice (some ⟨bw, 0, none⟩) n n)) (dep := []) (by kernel_rfl) ?_
      change wpAnyD _ _ _ _ _ _ _ _ _ (World.drew _)
      refine wpAnyD_take (i := 0) (v := ?_) rfl (by kernel_rfl) (by kernel_rfl) (by kernel_rfl) (by kernel_rfl) (by kernel_rfl) (fun _ _ _ h => h) hS (Or.inl ⟨by rfl, ?_⟩) ?_
      rotate_left
      · intro w hSw; obtain ⟨hSw, hSw2⟩ := hSw; go_simp
        try with_reducible rfl
      try simp only [Act.put, List.setIfInBounds_toArray]
      refine wpAnyD_take (i := 1) (v := ?_) rfl (by kernel_rfl) (by kernel_rfl) (by kernel_rfl) (by kernel_rfl) (by kernel_rfl) (fun _ _ _ h => h) hS (Or.inl ⟨by rfl, ?_⟩) ?_
      rotate_left
      · intro w hSw; obtain ⟨hSw, hSw2⟩ := hSw; go_simp
        try with_reducible rfl
      try simp only [Act.put]
      refine wpAnyD_take (i := 2) (v := ?_) rfl (by kernel_rfl) (by kernel_rfl) (by kernel_rfl) (by kernel_rfl) (by kernel_rfl) (fun _ _ _ h => h) hS (Or.inl ⟨by rfl, ?_⟩) ?_
      rotate_left
      · intro w hSw; obtain ⟨hSw, hSw2⟩ := hSw; go_simp
        try with_reducible rfl
      try simp only [Act.put]
      refine wpAnyD_take (i := 3) (v := ?_) rfl (by kernel_rfl) (by kernel_rfl) (by kernel_rfl) (by kernel_rfl) (by kernel_rfl) (fun _ _ _ h => h) hS (Or.inl ⟨by rfl, ?_⟩) ?_
      rotate_left
      · intro w hSw; obtain ⟨hSw, hSw2⟩ := hSw; go_simp
        try with_reducible rfl
      try simp only [Act.put]
      refine wpAnyD_take (i := 4) (v := ?_) rfl (by kernel_rfl) (by kernel_rfl) (by kernel_rfl) (by kernel_rfl) (by kernel_rfl) (fun _ _ _ h => h) hS (Or.inl ⟨by rfl, ?_⟩) ?_
      rotate_left
      · intro w hSw; obtain ⟨hSw, hSw2⟩ := hSw; go_simp
        try with_reducible rfl
      try simp only [Act.put]
      refine wpAnyD_take (i := 5) (v := ?_) rfl (by kernel_rfl) (by kernel_rfl) (by kernel_rfl) (by kernel_rfl) (by kernel_rfl) (fun _ _ _ h => h) hS (Or.inl ⟨by rfl, ?_⟩) ?_
      rotate_left
      · intro w hSw; obtain ⟨hSw, hSw2⟩ := hSw; go_simp
        try with_reducible rfl
      try simp only [Act.put]
      refine wpAnyD_take (i := 6) (v := ?_) rfl (by kernel_rfl) (by kernel_rfl) (by kernel_rfl) (by kernel_rfl) (by kernel_rfl) (fun _ _ _ h => h) hS (Or.inl ⟨by rfl, ?_⟩) ?_
      rotate_left
      · intro w hSw; obtain ⟨hSw, hSw2⟩ := hSw; go_simp
        try with_reducible rfl
      try simp only [Act.put]
      refine wpAnyD_take (i := 7) (v := ?_) rfl (by kernel_rfl) (by kernel_rfl) (by kernel_rfl) (by kernel_rfl) (by kernel_rfl) (fun _ _ _ h => h) hS (Or.inl ⟨by rfl, ?_⟩) ?_
      rotate_left
      · intro w hSw; obtain ⟨hSw, hSw2⟩ := hSw; go_simp
        try with_reducible rfl
      try simp only [Act.put]
      refine wpAnyD_take (i := 8) (v := ?_) rfl (by kernel_rfl) (by kernel_rfl) (by kernel_rfl) (by kernel_rfl) (by kernel_rfl) (fun _ _ _ h => h) hS (Or.inl ⟨by rfl, ?_⟩) ?_
      rotate_left
      · intro w hSw; obtain ⟨hSw, hSw2⟩ := hSw; go_simp
        try with_reducible rfl
      try simp only [Act.put]
      refine wpAnyD_take (i := 9) (v := ?_) rfl (by kernel_rfl) (by kernel_rfl) (by kernel_rfl) (by kernel_rfl) (by kernel_rfl) (fun _ _ _ h => h) hS (Or.inl ⟨by rfl, ?_⟩) ?_
      rotate_left
      · intro w hSw; obtain ⟨hSw, hSw2⟩ := hSw; go_simp
        try with_reducible rfl
      try simp only [Act.put]
      refine wpAnyD_take (i := 10) (v := ?_) rfl (by kernel_rfl) (by kernel_rfl) (by kernel_rfl) (by kernel_rfl) (by kernel_rfl) (fun _ _ _ h => h) hS (Or.inl ⟨by rfl, ?_⟩) ?_
      rotate_left
      · intro w hSw; obtain ⟨hSw, hSw2⟩ := hSw; go_simp
        try with_reducible rfl
      try simp only [Act.put]
      refine wpAnyD_one (i := 11) rfl (by kernel_rfl) rfl (fun K hK => ?_)
      go_simp
      refine hK _ _ (Or.inr SSS11.out) ?_
      clear hK K
      try simp only [Act.put, List.setIfInBounds_toArray, List.set_cons_zero, List.set_cons_succ]
      refine wpAnyD_one (i := 12) rfl (by kernel_rfl) rfl (fun K hK => ?_)
      go_simp
      refine hK _ _ (Or.inr SSS12.out) ?_
      clear hK K
      try simp only [Act.put, List.setIfInBounds_toArray, List.set_cons_zero, List.set_cons_succ]
      refine wpAnyD_one (i := 13) rfl (by kernel_rfl) rfl (fun K hK => ?_)
      go_simp
      refine hK _ _ (Or.inr SSS13.out) ?_
      clear hK K
      try simp only [Act.put, List.setIfInBounds_toArray, List.set_cons_zero, List.set_cons_succ]
      refine wpAnyD_done (by kernel_rfl) ?_ _
      go_wp2_with fail
      exact ⟨HN.out, by have := HT.out; simp [intOf]; omega⟩
    · have d0 : decide (i < n) = false := by simpa using hlt
      obtain rfl : i = n := by omega
      have FIN := Lib.hid (show NpE w i nr lk k (.slice (some ⟨bn, 0, none⟩) i i) (.slice (some ⟨bl, 0, none⟩) i i) wr (.returned (.pointer (some ⟨bp, 0, none⟩))) from ⟨_, rfl, bp, bc, bw, bt, rfl, hpn, hbe⟩)
      clear hpn hbe hi hlt
      go_wp2_with fail
      go_ret
      exact FIN.out
end Go.Proofs.Ytgblpfahgpneoaa
