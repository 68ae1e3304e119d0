/-
  Bytes of one's own with marked room behind, and that they are as they were: of any length that there can be.
-/
import Derived.Test.YtlblmnneikdpgaaDoorIbS2
namespace Go.Proofs.YtlblmnneikdpgaaDoor
open Go Go.RowKit Ib

/-- Bytes, wherever they lie, behind bytes of one's own. -/
theorem wp_append_bw {w : World} {o : Oper} {a : Act} {K : Act → World → Prop} {Q : Exit → Act → World → Prop} (s x : Operand) (ho : o.op = .call { callee := .builtin .append, args := #[s, x], argTypes := #[24, 24] })
    (base : Nat) (v u : Value) (n : Nat) (xs : List Value) (hs : a.eval s = v) (hown : w.ownsRow base 5 1 v n xs) (hx : a.eval x = u) (l : List Nat) (S : Nat → Prop) (hl : SlS S 1 ByteV w u l)
    (hnz : v.ownBlock ≠ none ∨ 0 < l.length) (hb : n + l.length ≤ 140737488355328) (hbase : base ≤ w.heap.size)
    (h : ∀ v' w', w'.ownsRow base 5 1 v' (n + l.length) (xs ++ bys l) → w.grownBy w' v.ownBlock → (v'.ownBlock = v.ownBlock ∨ v'.ownBlock = some w.heap.size) → K (a.put o.dst v') w') : o.wp Tryd.prog a w K Q := by
  obtain ⟨i1, p1, p2, p3, p4⟩ := info_parts infoB'
  obtain ⟨ad, c, e, hcc, hat⟩ := hl
  cases ad with
  | none =>
    have hl0 : l = [] := by
      cases l with
      | nil => rfl
      | cons y l' => obtain ⟨b, vs, e1, _⟩ := hat 0 (by simp); cases e1
    subst hl0
    rcases hown.2 with ⟨e0, _⟩ | ⟨g, cap, cur, e0, q1, q2, q3, q4, q5, q6⟩
    · rcases hnz with hz | hz
      · rw [e0] at hz; exact absurd rfl hz
      · exact absurd hz (by simp)
    · subst e0
      have hr := run_append_room_src (P := Tryd.prog) w 24 24 o.type 5 i1 Tryd.underlying24 p1 g 0 n cap (.slice none 0 c) 0 [] (Src.ofNil w Tryd.underlying24 c) (by omega) (by simp) (by simp)
      have e1 : w.setCells g (0 + n * i1.size) [] = w := rfl
      rw [e1] at hr
      unfold Oper.wp execOp
      simp only [ho, resolve, invoke, builtin, Sem.run_bind, Sem.run_pure, Result.andThen_ok, List.map_toArray, List.map_cons, List.map_nil, hs, hx, e, List.length_nil]
      rw [hr]
      exact h _ _ (by simpa using hown) ⟨rfl, rfl, rfl, Nat.le_refl _, fun _ _ _ => rfl⟩ (Or.inl rfl)
  | some b =>
    obtain ⟨v', w', hr, h2, h3, _, h5⟩ := run_append_own_at (P := Tryd.prog) w base 24 o.type 5 i1 (B8 0) 1 1 Tryd.underlying24 p1 p2 p3 p4 rfl (by decide) v n xs hown b l.length c (bys l) (by simp)
      (fun j u hj => by
        rw [List.getElem?_map] at hj
        by_cases hjl : j < l.length
        · rw [List.getElem?_eq_getElem hjl] at hj
          simp at hj
          subst hj
          obtain ⟨b', e1, _, h4⟩ := ByteZ.cell (S := S) ⟨_, c, rfl, hcc, hat⟩ j hjl
          cases e1
          exact h4
        · rw [List.getElem?_eq_none (by omega)] at hj
          simp at hj) (fun u hu => by
        obtain ⟨y, _, rfl⟩ := List.mem_map.1 hu
        rfl) (by unfold maxLen; omega) (by omega) hbase
    unfold Oper.wp execOp
    simp only [ho, resolve, invoke, builtin, Sem.run_bind, Sem.run_pure, Result.andThen_ok, List.map_toArray, List.map_cons, List.map_nil, hs, hx, e, hr]
    exact h _ _ h2 h3 h5
theorem wpList_append_bw {w : World} {ops : Array Oper} {rest : List Oper} {o : Oper} {a : Act} {Q : Exit → Act → World → Prop} (hgd : o.guard = none) (s x : Operand) (ho : o.op = .call { callee := .builtin .append, args := #[s, x], argTypes := #[24, 24] })
    (base : Nat) (v u : Value) (n : Nat) (xs : List Value) (hs : a.eval s = v) (hown : w.ownsRow base 5 1 v n xs) (hx : a.eval x = u) (l : List Nat) (S : Nat → Prop) (hl : SlS S 1 ByteV w u l)
    (hnz : v.ownBlock ≠ none ∨ 0 < l.length) (hb : n + l.length ≤ 140737488355328) (hbase : base ≤ w.heap.size)
    (h : ∀ v' w', w'.ownsRow base 5 1 v' (n + l.length) (xs ++ bys l) → w.grownBy w' v.ownBlock → (v'.ownBlock = v.ownBlock ∨ v'.ownBlock = some w.heap.size) → wpList Tryd.prog ops Q rest (a.put o.dst v') w') : wpList Tryd.prog ops Q (o :: rest) a w :=
  wpList_plain hgd fun _ hK => wp_append_bw s x ho base v u n xs hs hown hx l S hl hnz hb hbase fun v' w' h2 h3 h4 => hK _ _ (h v' w' h2 h3 h4)
set_option maxRecDepth 100000 in
set_option maxHeartbeats 1600000 in
theorem spare_w (a : Option Addr) (n c : Nat) (m : List Nat) (w : World) (hp : ByteZ w (.slice a n c) m) (hm : m.length ≤ 140737488355327) :
    Calls Tryd.prog 20 #[.slice a n c] w fun e w' => ∃ g cap, m.length + 1 ≤ cap ∧ e = .returned (.slice (some ⟨g, 0, none⟩) m.length cap) ∧
      w'.ownsRow w.heap.size 5 1 (.slice (some ⟨g, 0, none⟩) (m.length + 1) cap) (m.length + 1) (bys (m ++ [165])) ∧ Below w.heap.size w w' := by
  obtain rfl := ByteZ.len hp
  obtain ⟨L, hL⟩ : ∃ L, L = m.length := ⟨_, rfl⟩
  rw [← hL] at hp hm ⊢
  have H0 := Lib.hid (And.intro hp (And.intro hm hL))
  clear hp hm hL
  go_enter Tryd.func20, Tryd.ntmps20
  go_wp2_with (at_builtin; refine Hid.out ?_)
  unfold Hid
  have hb0 : Below w.heap.size w (w.alloc (.cells #[] 5)) := (Below.refl _ _).alloc (Nat.le_refl _) _
  refine wpList_append_bw rfl (.tmp 3) (.tmp 4) rfl w.heap.size (.slice (some ⟨w.heap.size, 0, none⟩) 0 0) (.slice a L c) 0 [] rfl ((Blk.new w #[] 5).owns (Nat.le_refl _) (by decide) (by simp)) rfl m _ (H0.out.1.below byteV_stays hb0) (Or.inl (by simp [Value.ownBlock])) (by have := H0.out.2.1; have := H0.out.2.2; omega) hb0.size ?_
  intro v1 w1 hown1 hgr1 hat1
  have hb1 : Below w.heap.size w w1 := hb0.grown hgr1 hb0.size (fun k hk => by cases hk; exact Nat.le_refl _)
  have H1 := Lib.hid (And.intro hown1 hb1)
  clear hown1 hgr1 hat1 hb0 hb1
  go_wp2_with (at_builtin; refine Hid.out ?_)
  unfold Hid
  have hb1 : Below w.heap.size w (w1.alloc (.cells #[B8 165] 5)) := H1.out.2.alloc H1.out.2.size _
  refine wpList_append_bw rfl (.tmp 5) (.tmp 6) rfl w.heap.size v1 (.slice (some ⟨w1.heap.size, 0, none⟩) 1 1) (0 + m.length) ([] ++ bys m) rfl (H1.out.1.alloc _) rfl [165] _ (own_bytes (base := w.heap.size) (n := 1) ((Blk.new w1 #[B8 165] 5).owns H1.out.2.size (by decide) (by simp))) (Or.inr (by simp)) (by have := H0.out.2.1; have := H0.out.2.2; simp; omega) hb1.size ?_
  intro v2 w2 hown2 hgr2 hat2
  have hb2 : Below w.heap.size w w2 := hb1.grown hgr2 hb1.size (fun k hk => (H1.out.1.lt k hk).1)
  have hown3 : w2.ownsRow w.heap.size 5 1 v2 (L + 1) (bys (m ++ [165])) := by
    rw [show bys (m ++ [165]) = [] ++ bys m ++ bys [165] from by simp, show L + 1 = 0 + m.length + [165].length from by rw [← H0.out.2.2]; simp]
    exact hown2
  have hz := own_bytes hown3
  obtain ⟨g, cap, rfl⟩ : ∃ g cap, v2 = .slice (some ⟨g, 0, none⟩) (L + 1) cap := by
    rcases own_slice hown3 with ⟨_, e2⟩ | h
    · omega
    · exact h
  have hcap := hz.cap
  have FIN := Lib.hid (And.intro hcap (And.intro hown3 hb2))
  have l0 : (0 : Int) ≤ (L : Int) := by omega
  have l1 : (L : Int) ≤ (cap : Int) := by omega
  clear hown2 hgr2 hat2 hb1 hb2 hown3 hz hcap
  go_wp2_with fail
  go_ret
  exact ⟨g, cap, FIN.out.1, rfl, FIN.out.2.1, FIN.out.2.2⟩

set_option maxRecDepth 100000 in
set_option maxHeartbeats 1600000 in
theorem kept_w (g cap : Nat) (a : Option Addr) (c : Nat) (m : List Nat) (hm : Byt m) (w : World) (h1 : ByteZ w (.slice (some ⟨g, 0, none⟩) m.length cap) m) (h2 : ByteZ w (.slice a m.length c) m) (hcap : m.length + 1 ≤ cap)
    (hcell : w.cell? ⟨g, m.length, none⟩ = some (B8 165)) (hb : m.length ≤ 140737488355327) :
    Calls Tryd.prog 22 #[.slice (some ⟨g, 0, none⟩) m.length cap, .slice a m.length c] w fun e w' => e = .returned (.bool true) ∧ w = w' := by
  have hS := sameB_any hm hm w h1 h2
  rw [decide_eq_true rfl] at hS
  obtain ⟨L, hL⟩ : ∃ L, L = m.length := ⟨_, rfl⟩
  rw [← hL] at hcap hcell hb hS ⊢
  have HS := Lib.hid hS
  have l0 : (0 : Int) ≤ (L : Int) := by omega
  have l1 : (L : Int) + 1 ≤ (cap : Int) := by omega
  have l2 : (L : Int) ≤ 140737488355327 := by omega
  clear hS h1 h2 hL hcap hb hm
  go_enter Tryd.func22, Tryd.ntmps22
  go_wp2_with fail
  refine HS.out.mono ?_
  rintro e w1 ⟨rfl, rfl⟩
  go_wp2_with fail
  go_ret
  exact ⟨rfl, rfl⟩

end Go.Proofs.YtlblmnneikdpgaaDoor
