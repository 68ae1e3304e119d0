/-
  Lists of bytes: wherever they lie; and one is put behind another.
-/
import Derived.Test.YtlblmnneikdpgaaDoorIbE
import Derived.Test.YtlblmnneikdpgaaDoorCdM
import Derived.Deep.AppendLies
import Derived.Deep.AppendSrc
namespace Go.Proofs.YtlblmnneikdpgaaDoor
open Go Go.RowKit Ib

def encB (x : Nat) : List Value := [B8 x]
abbrev ByteV := FlatV encB
abbrev ByteZ (W : World) := SlS (LtW W) 1 ByteV W
theorem byteV_stays : StaysV ByteV := fun _ _ _ _ _ _ h _ _ => h
theorem ByteZ.cell {S : Nat → Prop} {W : World} {a : Option Addr} {n c : Nat} {l : List Nat} (h : SlS S 1 ByteV W (.slice a n c) l) (i : Nat) (hi : i < l.length) : ∃ b, a = some b ∧ S b.block ∧ W.cell? (b.add i) = some (B8 l[i]) := by
  obtain ⟨b, vs, e, h1, h2, h3⟩ := h.at i hi
  obtain rfl := h3
  have h4 := h2.f0
  rw [Nat.mul_one] at h4
  exact ⟨b, e, h1, h4⟩
theorem ByteZ.len {S : Nat → Prop} {W : World} {a : Option Addr} {n c : Nat} {l : List Nat} (h : SlS S 1 ByteV W (.slice a n c) l) : n = l.length := by
  obtain ⟨a', c', e, _⟩ := h
  injection e
/-- One's own list can be read. -/
theorem own_bytes {W : World} {base : Nat} {v : Value} {l : List Nat} {n : Nat} (h : W.ownsRow base 5 1 v n (bys l)) : ByteZ W v l := by
  have hn : n = l.length := by have := h.1; simp at this; omega
  subst hn
  rcases h.2 with ⟨e, e2⟩ | ⟨g, cap, cur, e, hb, hg, hc, hm, hs, ht⟩
  · subst e
    have : l = [] := List.length_eq_zero_iff.1 e2
    subst this
    exact SlS.nil none 0
  · subst e
    refine ⟨_, _, rfl, hc, fun i hi => ⟨⟨g, 0, none⟩, [B8 l[i]], rfl, lt_of_blk hg, ?_, rfl⟩⟩
    intro k u hk
    have hk0 : k = 0 := by
      rcases k with _ | k
      · rfl
      · simp at hk
    subst hk0
    simp at hk
    subst hk
    have h1 := h.cellAt i (by omega)
    rw [List.getElem?_map, List.getElem?_eq_getElem hi] at h1
    have e : ((⟨g, 0, none⟩ : Addr).add (i * 1)).add 0 = ⟨g, i, none⟩ := by simp [Addr.add]; try omega
    rw [e]
    exact h1
theorem infoB' : (Tryd.prog.info? 5).map (fun i => (i.zero, i.size, i.bytes)) = some (some (B8 0), 1, 1) := by kernel_rfl
/-- Bytes, wherever they lie, behind bytes of one's own. -/
theorem wp_append_b {w : World} {o : Oper} {a : Act} {K : Act → World → Prop} {Q : Exit → Act → World → Prop} (s x : Operand) (ho : o.op = .call { callee := .builtin .append, args := #[s, x], argTypes := #[24, 24] })
    (base : Nat) (v u : Value) (n : Nat) (xs : List Value) (hs : a.eval s = v) (hown : w.ownsRow base 5 1 v n xs) (hx : a.eval x = u) (l : List Nat) (S : Nat → Prop) (hl : SlS S 1 ByteV w u l)
    (hnz : v.ownBlock ≠ none ∨ 0 < l.length) (hb : n + l.length ≤ 70000000000000) (hbase : base ≤ w.heap.size)
    (h : ∀ v' w', w'.ownsRow base 5 1 v' (n + l.length) (xs ++ bys l) → w.grownBy w' v.ownBlock → (v'.ownBlock = v.ownBlock ∨ v'.ownBlock = some w.heap.size) → K (a.put o.dst v') w') : o.wp Tryd.prog a w K Q := by
  obtain ⟨i1, p1, p2, p3, p4⟩ := info_parts infoB'
  obtain ⟨ad, c, e, hcc, hat⟩ := hl
  cases ad with
  | none =>
    have hl0 : l = [] := by
      cases l with
      | nil => rfl
      | cons y l' => obtain ⟨b, vs, e1, _⟩ := hat 0 (by simp); cases e1
    subst hl0
    rcases hown.2 with ⟨e0, _⟩ | ⟨g, cap, cur, e0, q1, q2, q3, q4, q5, q6⟩
    · rcases hnz with hz | hz
      · rw [e0] at hz; exact absurd rfl hz
      · exact absurd hz (by simp)
    · subst e0
      have hr := run_append_room_src (P := Tryd.prog) w 24 24 o.type 5 i1 Tryd.underlying24 p1 g 0 n cap (.slice none 0 c) 0 [] (Src.ofNil w Tryd.underlying24 c) (by omega) (by simp) (by simp)
      have e1 : w.setCells g (0 + n * i1.size) [] = w := rfl
      rw [e1] at hr
      unfold Oper.wp execOp
      simp only [ho, resolve, invoke, builtin, Sem.run_bind, Sem.run_pure, Result.andThen_ok, List.map_toArray, List.map_cons, List.map_nil, hs, hx, e, List.length_nil]
      rw [hr]
      exact h _ _ (by simpa using hown) ⟨rfl, rfl, rfl, Nat.le_refl _, fun _ _ _ => rfl⟩ (Or.inl rfl)
  | some b =>
    obtain ⟨v', w', hr, h2, h3, _, h5⟩ := run_append_own_at (P := Tryd.prog) w base 24 o.type 5 i1 (B8 0) 1 1 Tryd.underlying24 p1 p2 p3 p4 rfl (by decide) v n xs hown b l.length c (bys l) (by simp)
      (fun j u hj => by
        rw [List.getElem?_map] at hj
        by_cases hjl : j < l.length
        · rw [List.getElem?_eq_getElem hjl] at hj
          simp at hj
          subst hj
          obtain ⟨b', e1, _, h4⟩ := ByteZ.cell (S := S) ⟨_, c, rfl, hcc, hat⟩ j hjl
          cases e1
          exact h4
        · rw [List.getElem?_eq_none (by omega)] at hj
          simp at hj) (fun u hu => by
        obtain ⟨y, _, rfl⟩ := List.mem_map.1 hu
        rfl) (by unfold maxLen; omega) (by omega) hbase
    unfold Oper.wp execOp
    simp only [ho, resolve, invoke, builtin, Sem.run_bind, Sem.run_pure, Result.andThen_ok, List.map_toArray, List.map_cons, List.map_nil, hs, hx, e, hr]
    exact h _ _ h2 h3 h5
theorem wpList_append_b {w : World} {ops : Array Oper} {rest : List Oper} {o : Oper} {a : Act} {Q : Exit → Act → World → Prop} (hgd : o.guard = none) (s x : Operand) (ho : o.op = .call { callee := .builtin .append, args := #[s, x], argTypes := #[24, 24] })
    (base : Nat) (v u : Value) (n : Nat) (xs : List Value) (hs : a.eval s = v) (hown : w.ownsRow base 5 1 v n xs) (hx : a.eval x = u) (l : List Nat) (S : Nat → Prop) (hl : SlS S 1 ByteV w u l)
    (hnz : v.ownBlock ≠ none ∨ 0 < l.length) (hb : n + l.length ≤ 70000000000000) (hbase : base ≤ w.heap.size)
    (h : ∀ v' w', w'.ownsRow base 5 1 v' (n + l.length) (xs ++ bys l) → w.grownBy w' v.ownBlock → (v'.ownBlock = v.ownBlock ∨ v'.ownBlock = some w.heap.size) → wpList Tryd.prog ops Q rest (a.put o.dst v') w') : wpList Tryd.prog ops Q (o :: rest) a w :=
  wpList_plain hgd fun _ hK => wp_append_b s x ho base v u n xs hs hown hx l S hl hnz hb hbase fun v' w' h2 h3 h4 => hK _ _ (h v' w' h2 h3 h4)
end Go.Proofs.YtlblmnneikdpgaaDoor
