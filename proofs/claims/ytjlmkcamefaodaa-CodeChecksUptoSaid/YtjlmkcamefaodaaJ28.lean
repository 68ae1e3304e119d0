/-
  Joined: FFace.
-/
import Derived.Test.YtjlmkcamefaodaaJ24
import Derived.Test.YtjlmkcamefaodaaJ22
/-! FFace: Joined: FFaceP, FFaceO, FFaceL (but its loops, which stand in FFaceL). -/

namespace Go.Proofs.Ytjlmkcamefaodaa
open Go Go.RowKit Fl

namespace Fl
def fuelG (G : List (List Nat)) : Nat := rest G (start G) + 1
def wlk (G : List (List Nat)) : Ws := (walkF G (fuelG G)).getD (start G)
theorem wlk_inv {G : List (List Nat)} (hG : GOk G) (hn : 0 < G.length) : walkF G (fuelG G) = some (wlk G) ∧ (∃ P, InvP G (wlk G) P) ∧ WsOk G (wlk G) ∧ (wlk G).cur = -1 := by
  obtain ⟨s, P, h1, h2, h3, h4⟩ := walk_inv hG hn (k := fuelG G) (Nat.lt_succ_self _)
  have e : wlk G = s := by unfold wlk; rw [h1]; rfl
  rw [e]
  exact ⟨h1, ⟨P, h2⟩, h3, h4⟩
theorem sum_le' (f : Nat → Nat) (R : Nat) (h : ∀ i, f i ≤ R) : ∀ n, ((List.range n).map f).sum ≤ n * R
  | 0 => by simp
  | n + 1 => by
    rw [List.range_succ, List.map_append, List.sum_append, Nat.succ_mul]
    have := sum_le' f R h n
    have := h n
    simp
    omega
theorem fuel_small {G : List (List Nat)} (hn : G.length ≤ 150) (hr : ∀ i, (row G i).length ≤ 1000) : fuelG G ≤ 5000000 := by
  unfold fuelG rest restE
  have h1 := sum_le' (fun i => (row G i).length - (start G).nxt.getD i 0) 1000 (fun i => Nat.le_trans (Nat.sub_le _ _) (hr i)) G.length
  have h2 : G.length * 1000 ≤ 150 * 1000 := Nat.mul_le_mul_right _ hn
  omega
theorem left_ne {G : List (List Nat)} {s : Ws} {P : List Nat} (h : InvP G s P) (hc : s.cur = -1) : s.left ≠ [] := by
  rcases h.cr with ⟨_, h1⟩ | ⟨c, _, h1, _⟩
  · intro e
    have := h1 0 h.ne
    rw [e] at this
    simp at this
  · omega
theorem left_le {G : List (List Nat)} {s : Ws} {P : List Nat} (h : InvP G s P) : s.left.length ≤ G.length := nodup_lt h.ld (fun x hx => h.lo x (h.ls x hx).1)
/-- The order of a graph; who is next above; its loops. -/
def orderL (G : List (List Nat)) : List Nat := if G.length = 0 then [] else (wlk G).left.reverse
def abvL (G : List (List Nat)) : List Int := if G.length = 0 then [] else aboveL (wlk G).ent (nearL G (wlk G)) G.length (wlk G).ent.length
theorem natG_len (Z : List (List Int)) : (natG Z).length = Z.length := by simp [natG]
theorem natG_row (Z : List (List Int)) {i : Nat} (h : i < Z.length) : row (natG Z) i = Z[i].map Int.toNat := by
  unfold row natG
  rw [List.getD_eq_getElem?_getD, List.getElem?_map, List.getElem?_eq_getElem h]
  rfl
theorem row_out (G : List (List Nat)) {i : Nat} (h : G.length ≤ i) : row G i = [] := by
  unfold row
  rw [List.getD_eq_getElem?_getD, List.getElem?_eq_none h]
  rfl
theorem errF_in {Z : List (List Int)} (he : errF Z = 0) {i : Nat} (hi : i < Z.length) {j : Nat} (hj : j < Z[i].length) : 0 ≤ Z[i][j] ∧ Z[i][j] < (Z.length : Int) := by
  unfold errF at he
  split at he
  · exact absurd he (by decide)
  · split at he
    · rename_i h
      have h1 := List.all_eq_true.1 (List.all_eq_true.1 h _ (List.getElem_mem hi)) _ (List.getElem_mem hj)
      unfold inB at h1
      simpa using h1
    · exact absurd he (by decide)
theorem errF_or (Z : List (List Int)) : errF Z = 0 ∨ errF Z = 2 ∨ errF Z = 3 := by
  unfold errF
  split
  · exact Or.inr (Or.inl rfl)
  · split
    · exact Or.inl rfl
    · exact Or.inr (Or.inr rfl)
theorem natG_ok {Z : List (List Int)} (he : errF Z = 0) : GOk (natG Z) := by
  intro i x hx
  rw [natG_len]
  by_cases hi : i < Z.length
  · rw [natG_row Z hi] at hx
    obtain ⟨y, hy, rfl⟩ := List.mem_map.1 hx
    obtain ⟨j, hj, rfl⟩ := List.getElem_of_mem hy
    have := errF_in he hi hj
    omega
  · rw [row_out _ (by rw [natG_len]; omega)] at hx
    simp at hx
end Fl

/-- Few nodes, few ways. -/
def TameZ (Z : List (List Int)) : Prop := Z.length ≤ 150 ∧ ∀ i (h : i < Z.length), Z[i].length ≤ 1000
theorem TameZ.row {Z : List (List Int)} (h : TameZ Z) (i : Nat) : (row (natG Z) i).length ≤ 1000 := by
  by_cases hi : i < Z.length
  · rw [natG_row Z hi, List.length_map]
    exact h.2 i hi
  · rw [row_out _ (by rw [natG_len]; omega)]
    simp
theorem gr_nat {w : World} {bg : Nat} {Z : List (List Int)} (h : GrZ w bg Z) (he : errF Z = 0) : Gr w bg (natG Z) := by
  refine ⟨h.lt, fun i hi => ?_⟩
  rw [natG_len] at hi
  obtain ⟨v, h1, a, c, e, h2⟩ := h.row i hi
  refine ⟨v, h1, a, c, by rw [natG_row Z hi, List.length_map, e], fun j hj => ?_⟩
  have hj' : j < Z[i].length := by rw [natG_row Z hi, List.length_map] at hj; exact hj
  obtain ⟨g, q1, q2, q3⟩ := h2 j hj'
  refine ⟨g, q1, q2, ?_⟩
  have e2 : ((row (natG Z) i)[j] : Int) = Z[i][j] := by
    have e3 : (row (natG Z) i)[j]? = (Z[i].map Int.toNat)[j]? := by rw [natG_row Z hi]
    rw [List.getElem?_eq_getElem hj, List.getElem?_map, List.getElem?_eq_getElem hj'] at e3
    have e4 : (row (natG Z) i)[j] = Z[i][j].toNat := by simpa using e3
    have := errF_in he hi hj'
    rw [e4]
    omega
  rw [q3, e2]
theorem GrZ.below {w w' : World} {bg : Nat} {Z : List (List Int)} (h : GrZ w bg Z) (hb : Below w.heap.size w w') : GrZ w' bg Z :=
  ⟨Nat.lt_of_lt_of_le h.lt hb.size, fun i hi => by
    obtain ⟨v, h1, a, c, e, h2⟩ := h.row i hi
    exact ⟨v, cell_below hb h.lt h1, a, c, e, fun j hj => by
      obtain ⟨g, q1, q2, q3⟩ := h2 j hj
      exact ⟨g, q1, Nat.lt_of_lt_of_le q2 hb.size, cell_below hb q2 q3⟩⟩⟩
end Go.Proofs.Ytjlmkcamefaodaa

/-! Order and Into of any graph of few nodes: the walks. -/

namespace Go.Proofs.Ytjlmkcamefaodaa
open Go Go.RowKit Fl

theorem natG_ne {Z : List (List Int)} (h : Z ≠ []) : 0 < (natG Z).length := by rw [natG_len]; exact List.length_pos_iff.2 h
/-- What an order is answered as. -/
def OrderF (w : World) (Z : List (List Int)) (W : World) (e : Ending) : Prop :=
  ∃ v, e = .returned (.tuple #[v, I (errF Z)]) ∧ Nums W w.heap.size v (if errF Z = 0 then orderL (natG Z) else []) ∧ Below w.heap.size w W
def IntoF (w : World) (Z : List (List Int)) (W : World) (e : Ending) : Prop :=
  ∃ v, e = .returned (.tuple #[v, I (errF Z)]) ∧ (errF Z = 0 → ∃ bl, v = .slice (some ⟨bl, 0, none⟩) Z.length Z.length ∧ IntoW w.heap.size bl Z.length (fun t => Fl.rowSt (natG Z) Z.length 0 t) W) ∧ (errF Z ≠ 0 → v = .slice none 0 0) ∧ Below w.heap.size w W

set_option maxRecDepth 100000 in
set_option maxHeartbeats 800000 in
theorem Into_any (bg cap : Nat) (Z : List (List Int)) (ht : TameZ Z) (w : World) (h : GrZ w bg Z) :
    Calls Try.prog 45 #[.slice (some ⟨bg, 0, none⟩) Z.length cap] w fun e w' => IntoF w Z w' e := by
  have HFA := Lib.hid (fault_any bg cap Z (by have := ht.1; omega) (fun i hi => by have := ht.2 i hi; omega) w h)
  have HH := Lib.hid (And.intro ht h)
  obtain ⟨er, her⟩ : ∃ er, er = errF Z := ⟨_, rfl⟩
  obtain ⟨n, hn⟩ : ∃ n, n = Z.length := ⟨_, rfl⟩
  rw [← her] at HFA
  rw [← hn] at HFA ⊢
  have HE := Lib.hid (And.intro her hn)
  by_cases he : er = 0
  · have hz : errF Z = 0 := by rw [← her]; exact he
    have HI := Lib.hid (into_any bg cap (natG Z) (by rw [natG_len]; have := ht.1; omega) (natG_ok hz) (fun i => by have := ht.row i; omega) w (gr_nat h hz))
    rw [natG_len, ← hn] at HI
    have HZ := Lib.hid hz
    clear ht h her hn hz
    subst he
    go_enter Try.func45, Try.ntmps45
    go_wp2_with fail
    refine HFA.out.mono ?_
    rintro e w' ⟨rfl, rfl⟩
    go_wp2_with fail
    refine HI.out.mono ?_
    rintro e w1 ⟨bl, rfl, hi, hb⟩
    have FIN := Lib.hid (show IntoF w Z w1 (.returned (.tuple #[.slice (some ⟨bl, 0, none⟩) n n, I 0])) from
      ⟨_, by rw [HZ.out], fun _ => ⟨bl, by rw [HE.out.2], by rw [natG_len] at hi; exact hi⟩, fun e => absurd HZ.out e, hb⟩)
    clear hi hb
    rw [natG_len, ← HE.out.2]
    go_wp2_with fail
    go_ret2
    exact FIN.out
  · have g0 : (er != 0) = true := by simp; exact he
    have HZ := Lib.hid (show errF Z ≠ 0 by rw [← her]; exact he)
    have FIN := Lib.hid (show IntoF w Z w (.returned (.tuple #[.slice none 0 0, I er])) from ⟨_, by rw [her], fun e => absurd e HZ.out, fun _ => rfl, Below.refl _ _⟩)
    clear ht h her hn he
    go_enter Try.func45, Try.ntmps45
    go_wp2_with fail
    refine HFA.out.mono ?_
    rintro e w' ⟨rfl, rfl⟩
    go_wp2_with fail
    go_ret2
    exact FIN.out

/-- A walk, as it stands in memory. -/
def WlkT (w : World) (G : List (List Nat)) (W : World) (e : Ending) : Prop := ∃ bw bf br bn v0 v1, e = .returned (.pointer (some ⟨bw, 0, none⟩)) ∧ WalkS w.heap.size bw bf br bn G (wlk G) v0 v1 W ∧ Below w.heap.size w W
theorem wlk_any (bg cap : Nat) (G : List (List Nat)) (hn0 : 0 < G.length) (hn : G.length ≤ 150) (hG : GOk G) (hrow : ∀ i, (row G i).length ≤ 1000) (w : World) (h : Gr w bg G) :
    Calls Try.prog 53 #[.slice (some ⟨bg, 0, none⟩) G.length cap] w fun e w' => WlkT w G w' e := by
  have hw := wlk_inv hG hn0
  refine (newWalk_any bg cap (fuelG G) G hn0 (by omega) hG (fuel_small hn hrow) (by rw [hw.1]; simp) (fun i => by have := hrow i; omega) w h).mono ?_
  rintro e w' ⟨bw, bf, br, bn, s, v0, v1, h1, h2, _, h4, h5⟩
  rw [hw.1] at h2
  cases h2
  exact ⟨bw, bf, br, bn, v0, v1, h1, h4, h5⟩

set_option maxRecDepth 100000 in
set_option maxHeartbeats 800000 in
theorem Order_any (bg cap : Nat) (Z : List (List Int)) (ht : TameZ Z) (hz0 : Z ≠ []) (w : World) (h : GrZ w bg Z) :
    Calls Try.prog 43 #[.slice (some ⟨bg, 0, none⟩) Z.length cap] w fun e w' => OrderF w Z w' e := by
  have HFA := Lib.hid (fault_any bg cap Z (by have := ht.1; omega) (fun i hi => by have := ht.2 i hi; omega) w h)
  obtain ⟨er, her⟩ : ∃ er, er = errF Z := ⟨_, rfl⟩
  obtain ⟨n, hn⟩ : ∃ n, n = Z.length := ⟨_, rfl⟩
  rw [← her] at HFA
  rw [← hn] at HFA ⊢
  have HE := Lib.hid (And.intro her hn)
  by_cases he : er = 0
  · have hz : errF Z = 0 := by rw [← her]; exact he
    have HI := Lib.hid (wlk_any bg cap (natG Z) (natG_ne hz0) (by rw [natG_len]; exact ht.1) (natG_ok hz) ht.row w (gr_nat h hz))
    rw [natG_len, ← hn] at HI
    obtain ⟨_, ⟨P, hP⟩, _, hc⟩ := wlk_inv (natG_ok hz) (natG_ne hz0)
    have HZ := Lib.hid (And.intro hz (And.intro (left_ne hP hc) (And.intro (show (wlk (natG Z)).left.length ≤ 150 by have := left_le hP; rw [natG_len] at this; have := ht.1; omega) (show (natG Z).length ≠ 0 by have := natG_ne hz0; omega))))
    clear ht h her hn hz hz0 hP hc
    subst he
    go_enter Try.func43, Try.ntmps43
    go_wp2_with fail
    refine HFA.out.mono ?_
    rintro e w' ⟨rfl, rfl⟩
    go_wp2_with fail
    refine HI.out.mono ?_
    rintro e w1 ⟨bw, bf, br, bn, v0, v1, rfl, hS, hb⟩
    obtain ⟨g, cp, hv1⟩ : ∃ g c, v1 = .slice (some ⟨g, 0, none⟩) (wlk (natG Z)).left.length c := by
      rcases own_slice hS.le with ⟨_, h⟩ | ⟨g, c, h⟩
      · exact absurd (List.length_eq_zero_iff.1 h) HZ.out.2.1
      · exact ⟨g, c, h⟩
    subst hv1
    have HO := Lib.hid (order_any bw v0 (.slice (some ⟨bf, 0, none⟩) (natG Z).length (natG Z).length) (.slice (some ⟨br, 0, none⟩) (natG Z).length (natG Z).length) w.heap.size g cp (wlk (natG Z)).left (by have := HZ.out.2.2.1; omega) HZ.out.2.1 w1 hS.wk.blk hS.le)
    have HB := Lib.hid hb
    clear hS hb
    go_wp2_with fail
    refine HO.out.mono ?_
    rintro e w2 ⟨v, rfl, ho, hb2⟩
    have FIN := Lib.hid (show OrderF w Z w2 (.returned (.tuple #[v, I 0])) from
      ⟨v, by rw [HZ.out.1], by rw [if_pos HZ.out.1]; unfold orderL; rw [if_neg HZ.out.2.2.2]; exact own_lower HB.out.size ho, below_of HB.out hb2⟩)
    clear ho hb2
    go_wp2_with fail
    go_ret2
    exact FIN.out
  · have g0 : (er != 0) = true := by simp; exact he
    have HZ := Lib.hid (show errF Z ≠ 0 by rw [← her]; exact he)
    have FIN := Lib.hid (show OrderF w Z w (.returned (.tuple #[.slice none 0 0, I er])) from ⟨_, by rw [her], by rw [if_neg HZ.out]; exact World.ownsRow_nil _ _ _ _, Below.refl _ _⟩)
    clear ht h her hn he
    go_enter Try.func43, Try.ntmps43
    go_wp2_with fail
    refine HFA.out.mono ?_
    rintro e w' ⟨rfl, rfl⟩
    go_wp2_with fail
    go_ret2
    exact FIN.out
end Go.Proofs.Ytjlmkcamefaodaa

/-! Above and Loops of any graph of few nodes: the walks. -/

namespace Go.Proofs.Ytjlmkcamefaodaa
open Go Go.RowKit Fl

namespace Fl
theorem layF_bound {M B : Nat} {ab : Nat → Int} {sz : List Nat} (hs : ∀ x, sz.getD x 0 ≤ M) : ∀ (l : List Nat) (k : Nat) (pl : List Int) (fr : List Nat) (roots : Nat), RoomOk M k fr roots → (∀ x, -1 ≤ pl.getD x 0 ∧ pl.getD x 0 ≤ (B : Int)) → (k + l.length) * (M + 1) ≤ B → ∀ x, -1 ≤ (layF ab sz l pl fr roots).getD x 0 ∧ (layF ab sz l pl fr roots).getD x 0 ≤ (B : Int)
  | [], _, _, _, _, _, h, _ => h
  | n :: r, k, pl, fr, roots, hR, h, hB => by
    have hst : ∀ (v : Nat), v ≤ B → ∀ x, -1 ≤ (pl.set n (v : Int)).getD x 0 ∧ (pl.set n (v : Int)).getD x 0 ≤ (B : Int) := fun v hv x => by
      rw [List.getD_eq_getElem?_getD, List.getElem?_set]
      by_cases e : n = x
      · rw [if_pos e]
        split
        · simp; omega
        · simp
      · rw [if_neg e, ← List.getD_eq_getElem?_getD]
        exact h x
    have hk : k * (M + 1) ≤ B := Nat.le_trans (Nat.mul_le_mul_right _ (by simp)) hB
    have hB' : (k + 1 + r.length) * (M + 1) ≤ B := by rw [show k + 1 + r.length = k + (n :: r).length by simp; omega]; exact hB
    show ∀ x, -1 ≤ (if 0 ≤ ab n then _ else _ : List Int).getD x 0 ∧ (if 0 ≤ ab n then _ else _ : List Int).getD x 0 ≤ (B : Int)
    split
    · exact layF_bound hs r (k + 1) _ _ _ (hR.below (hs n)) (hst _ (Nat.le_trans (hR.f _) hk)) hB'
    · exact layF_bound hs r (k + 1) _ _ _ (hR.root (hs n)) (hst _ (Nat.le_trans hR.r hk)) hB'
theorem sizeF_len (ab : Nat → Int) : ∀ (l sz : List Nat), (sizeF ab l sz).length = sz.length
  | [], _ => rfl
  | n :: r, sz => by
    rw [sizeF_cons, sizeF_len ab r]
    unfold sizeS
    split
    · rw [List.length_set, List.length_set]
    · rw [List.length_set]
theorem sizeF_ok {n : Nat} {ab : Nat → Int} {o : List Nat} (ho : OrdOk n ab o) : ∀ (k : Nat) (sz : List Nat), k ≤ o.length → sz.length = n → SzOk o k sz → SzOk o 0 (sizeF ab (o.take k).reverse sz)
  | 0, _, _, _, h => h
  | q + 1, sz, hk, hl, h => by
    rw [take_rev (by omega), sizeF_cons]
    refine sizeF_ok ho q _ (by omega) ?_ (h.step ho (by omega) rfl hl)
    unfold sizeS
    split
    · rw [List.length_set, List.length_set]; exact hl
    · rw [List.length_set]; exact hl
theorem forS_bound {ab : Nat → Int} {n : Nat} {o : List Nat} (ho : OrdOk n ab o) (hn : n ≤ 60000) (x : Nat) : (forS ab n o).getD x 0 ≤ 60000 := by
  have h := sizeF_ok ho o.length _ (Nat.le_refl _) (by simp) (sz_start o n)
  rw [List.take_length] at h
  have h2 := h.1 x
  have h3 := nodup_lt ho.nd ho.lt
  unfold forS
  omega
theorem forP_bound {ab : Nat → Int} {n : Nat} {o : List Nat} (ho : OrdOk n ab o) (hn : n ≤ 60000) (x : Nat) : -1 ≤ (forP ab n o).getD x 0 ∧ (forP ab n o).getD x 0 ≤ 1000000000000 := by
  have h3 := nodup_lt ho.nd ho.lt
  have h := layF_bound (M := 60000) (B := 1000000000000) (ab := ab) (sz := forS ab n o) (forS_bound ho hn) o 0 (List.replicate n (-1)) (List.replicate n 0) 0 (room_start _ _) (fun x => by
    rw [List.getD_eq_getElem?_getD, List.getElem?_replicate]
    split <;> simp) (Nat.le_trans (Nat.mul_le_mul_right _ (by omega)) (sz_mul (mo := o.length) (by omega))) x
  exact h
end Fl

theorem abvR_at {base base' bw bf br bn bl g cap : Nat} {G : List (List Nat)} {s : Ws} {v1 : Value} {W1 W : World} (h : WalkS base bw bf br bn G s (.slice (some ⟨g, 0, none⟩) s.ent.length cap) v1 W1) (hb : Below W1.heap.size W1 W) (hi : IntoW base' bl G.length (fun t => Fl.rowSt G G.length 0 t) W) :
    AbvR W bw g s.ent.length cap bf br G.length bl G s :=
  ⟨cell_below hb h.wk.blk.lt (h.wk.blk.get 0 _ rfl), cell_below hb h.wk.blk.lt (h.wk.blk.get 2 _ rfl), cell_below hb h.wk.blk.lt (h.wk.blk.get 3 _ rfl), fun i hi => cell_below hb (h.en.lt g rfl).2 (nums_get h.en rfl i hi),
    fun a ha => cell_below hb h.wk.frm.lt (h.wk.frm.get a _ (arrZ_getD _ _ _ (by rw [h.wk.fl]; exact ha))), fun a ha => cell_below hb h.wk.rch.lt (h.wk.rch.get a _ (arrB_getD _ _ _ (by rw [h.wk.rl]; exact ha))),
    into_gr hi, Nat.lt_of_lt_of_le h.wk.blk.lt hb.size, Nat.lt_of_lt_of_le h.wk.frm.lt hb.size, Nat.lt_of_lt_of_le h.wk.rch.lt hb.size, Nat.lt_of_lt_of_le (h.en.lt g rfl).2 hb.size, rfl, rfl⟩
theorem intoF_row (G : List (List Nat)) {i : Nat} (h : i < G.length) : row (intoF G) i = rowSt G G.length 0 i := by
  simp [row, intoF, List.getD_eq_getElem?_getD, h]
theorem grB_of {base bl : Nat} {G : List (List Nat)} {W : World} (h : IntoW base bl G.length (fun t => Fl.rowSt G G.length 0 t) W) : GrB W.heap.size W bl (intoF G) := by
  obtain ⟨_, vs, h1, h2, h3, _, _⟩ := h
  refine ⟨h2.lt, Nat.le_refl _, fun i hi => ?_⟩
  have hi1 : i < G.length := by simpa [intoF] using hi
  have hi' : i < vs.length := by omega
  refine ⟨vs[i], h2.get i _ (by simp [hi']), ?_⟩
  rw [intoF_row G hi1]
  have hn := h3 i hi'
  rcases own_slice hn with ⟨e, e2⟩ | ⟨g, c, e⟩
  · exact Or.inl ⟨e, List.length_eq_zero_iff.1 e2⟩
  · right
    have hn' : W.ownsRow base 3 1 (.slice (some ⟨g, 0, none⟩) (rowSt G G.length 0 i).length c) (rowSt G G.length 0 i).length (ints (rowSt G G.length 0 i)) := by rw [← e]; exact hn
    refine ⟨g, c, e, (hn'.lt g rfl).2, fun j hj => ?_⟩
    rw [nums_get hn' rfl j hj, getD_of _ _ _ hj]
theorem ent_slice {base bw bf br bn : Nat} {G : List (List Nat)} {s : Ws} {v0 v1 : Value} {W : World} {P : List Nat} (h : WalkS base bw bf br bn G s v0 v1 W) (hP : InvP G s P) : ∃ g c, v0 = .slice (some ⟨g, 0, none⟩) s.ent.length c := by
  rcases own_slice h.en with ⟨_, h1⟩ | ⟨g, c, h1⟩
  · have := hP.ne; omega
  · exact ⟨g, c, h1⟩

def AboveF (w : World) (Z : List (List Int)) (W : World) (e : Ending) : Prop :=
  ∃ v, e = .returned (.tuple #[v, I (errF Z)]) ∧ (errF Z = 0 → ∃ b, v = .slice (some ⟨b, 0, none⟩) Z.length Z.length ∧ Blk b (arrZ (abvL (natG Z))) 3 W ∧ (abvL (natG Z)).length = Z.length ∧ w.heap.size ≤ b) ∧ (errF Z ≠ 0 → v = .slice none 0 0) ∧ Below w.heap.size w W
set_option maxRecDepth 100000 in
set_option maxHeartbeats 800000 in
theorem Above_any (bg cap : Nat) (Z : List (List Int)) (ht : TameZ Z) (hz0 : Z ≠ []) (w : World) (h : GrZ w bg Z) :
    Calls Try.prog 44 #[.slice (some ⟨bg, 0, none⟩) Z.length cap] w fun e w' => AboveF w Z w' e := by
  have HFA := Lib.hid (fault_any bg cap Z (by have := ht.1; omega) (fun i hi => by have := ht.2 i hi; omega) w h)
  obtain ⟨er, her⟩ : ∃ er, er = errF Z := ⟨_, rfl⟩
  obtain ⟨n, hn⟩ : ∃ n, n = Z.length := ⟨_, rfl⟩
  rw [← her] at HFA
  rw [← hn] at HFA ⊢
  have HE := Lib.hid (And.intro her hn)
  by_cases he : er = 0
  · have hz : errF Z = 0 := by rw [← her]; exact he
    have HI := Lib.hid (wlk_any bg cap (natG Z) (natG_ne hz0) (by rw [natG_len]; exact ht.1) (natG_ok hz) ht.row w (gr_nat h hz))
    have HIn : Hid (∀ w1, Below w.heap.size w w1 → Calls Try.prog 56 #[.slice (some ⟨bg, 0, none⟩) (natG Z).length cap] w1 fun e w' => IntoT w1 (natG Z) w' e) :=
      fun w1 hb => into_any bg cap (natG Z) (by rw [natG_len]; have := ht.1; omega) (natG_ok hz) (fun i => by have := ht.row i; omega) w1 (gr_nat (h.below hb) hz)
    rw [natG_len, ← hn] at HI HIn
    obtain ⟨_, ⟨P, hP⟩, hok, hc⟩ := wlk_inv (natG_ok hz) (natG_ne hz0)
    have HZ := Lib.hid (And.intro hz (And.intro hP (And.intro hok (And.intro hc (And.intro (show (natG Z).length ≠ 0 by have := natG_ne hz0; omega) (show (natG Z).length ≤ 60000 by rw [natG_len]; have := ht.1; omega))))))
    clear ht h her hn hz hz0 hP hc hok
    subst he
    go_enter Try.func44, Try.ntmps44
    go_wp2_with fail
    refine HFA.out.mono ?_
    rintro e w' ⟨rfl, rfl⟩
    go_wp2_with fail
    refine HI.out.mono ?_
    rintro e w1 ⟨bw, bf, br, bn, v0, v1, rfl, hS, hb⟩
    obtain ⟨g, cp, hv0⟩ := ent_slice hS HZ.out.2.1
    subst hv0
    have HI2 := Lib.hid (HIn.out w1 hb)
    have H1 := Lib.hid (And.intro hS hb)
    clear hS hb
    go_wp2_with fail
    refine HI2.out.mono ?_
    rintro e w2 ⟨bl, rfl, hi, hb⟩
    have HA := Lib.hid (above_any bw g (wlk (natG Z)).ent.length cp bf br (natG Z).length bl (natG Z) (wlk (natG Z)) P HZ.out.2.2.2.2.2 HZ.out.2.1 HZ.out.2.2.1 HZ.out.2.2.2.1 w2 (abvR_at H1.out.1 hb hi))
    have H2 := Lib.hid hb
    clear hi hb
    go_wp2_with fail
    refine HA.out.mono ?_
    rintro e w3 ⟨b, rfl, hk, hl, hlo, hb⟩
    have FIN := Lib.hid (show AboveF w Z w3 (.returned (.tuple #[.slice (some ⟨b, 0, none⟩) (natG Z).length (natG Z).length, I 0])) from
      ⟨_, by rw [HZ.out.1], fun _ => ⟨b, by rw [natG_len], by unfold abvL; rw [if_neg HZ.out.2.2.2.2.1]; exact hk, by unfold abvL; rw [if_neg HZ.out.2.2.2.2.1, hl, natG_len], Nat.le_trans H1.out.2.size (Nat.le_trans H2.out.size hlo)⟩, fun e => absurd HZ.out.1 e, below_of H1.out.2 (below_of H2.out hb)⟩)
    clear hk hl hlo hb
    go_wp2_with fail
    go_ret2
    exact FIN.out
  · have g0 : (er != 0) = true := by simp; exact he
    have HZ := Lib.hid (show errF Z ≠ 0 by rw [← her]; exact he)
    have FIN := Lib.hid (show AboveF w Z w (.returned (.tuple #[.slice none 0 0, I er])) from ⟨_, by rw [her], fun e => absurd e HZ.out, fun _ => rfl, Below.refl _ _⟩)
    clear ht h her hn he
    go_enter Try.func44, Try.ntmps44
    go_wp2_with fail
    refine HFA.out.mono ?_
    rintro e w' ⟨rfl, rfl⟩
    go_wp2_with fail
    go_ret2
    exact FIN.out

theorem abv_up {G : List (List Nat)} {s : Ws} {P : List Nat} {L : List Int} (h : InvP G s P) (hc : s.cur = -1) (hL : AboveOk G L) {x : Nat} (hx : x < G.length) (h0 : 0 ≤ abF L x) : (abF L x).toNat < G.length ∧ (abF L x).toNat ≠ x := by
  rw [abF_eq (by rw [hL.1]; exact hx)] at h0 ⊢
  rcases hL.2 x hx with ⟨e, _⟩ | ⟨a, e, h1, _⟩
  · omega
  · rw [e]
    exact ⟨rch_lt h hc h1.1.1, h1.2⟩

namespace Fl
theorem order_mem {G : List (List Nat)} (hG : GOk G) (h0 : G.length ≠ 0) : (orderL G).Nodup ∧ (∀ x, x ∈ orderL G ↔ Rch G x) ∧ (∀ x ∈ orderL G, x < G.length) := by
  obtain ⟨_, ⟨P, hP⟩, hok, hc⟩ := wlk_inv hG (Nat.pos_of_ne_zero h0)
  have hor : orderL G = (wlk G).left.reverse := by unfold orderL; rw [if_neg h0]
  rw [hor]
  exact ⟨List.nodup_reverse' hP.ld, fun x => by rw [List.mem_reverse]; exact left_all hP hc x, fun x hx => hP.lo x (hP.ls x (List.mem_reverse.1 hx)).1⟩
theorem abv_facts {G : List (List Nat)} (hG : GOk G) (h0 : G.length ≠ 0) : AboveOk G (abvL G) ∧ OrdOk G.length (abF (abvL G)) (orderL G) ∧ ∀ b, Rch G b → ∀ a, Up (abF (abvL G)) a b ↔ DomG G a b := by
  obtain ⟨_, ⟨P, hP⟩, hok, hc⟩ := wlk_inv hG (Nat.pos_of_ne_zero h0)
  have hab : AboveOk G (abvL G) := by unfold abvL; rw [if_neg h0]; exact hP.above hok hc
  have hor : orderL G = (wlk G).left.reverse := by unfold orderL; rw [if_neg h0]
  exact ⟨hab, by rw [hor]; exact ord_ok hP hok hc hab, fun b hb a => up_dom hP hok hc hab b hb a⟩
/-- Who stands over whom tells who dominates whom. -/
theorem over_dom {G : List (List Nat)} (hG : GOk G) (h0 : G.length ≠ 0) {a b : Nat} (ha : a < G.length) (hb : Rch G b) (hb' : b < G.length) :
    overB (forP (abF (abvL G)) G.length (orderL G)) (forS (abF (abvL G)) G.length (orderL G)) a b = true ↔ DomG G a b := by
  obtain ⟨hab, hord, hup⟩ := abv_facts hG h0
  obtain ⟨hnd, hmem, hlt⟩ := order_mem hG h0
  obtain ⟨h1, h2, h3⟩ := forest_over hord
  rw [← hup b hb a]
  have e : ∀ x, x < G.length → (forP (abF (abvL G)) G.length (orderL G)).getD x 0 = (forP (abF (abvL G)) G.length (orderL G)).getD x (-1) := fun x hx => by
    rw [List.getD_eq_getElem?_getD, List.getD_eq_getElem?_getD, List.getElem?_eq_getElem (by rw [h1]; exact hx)]
    rfl
  unfold overB
  rw [decide_eq_true_eq, e a ha, e b hb', h3 a b ha hb']
  constructor
  · rintro ⟨_, _, h⟩; exact h
  · intro h
    have := ((hup b hb a).1 h).1
    exact ⟨(hmem a).2 this, (hmem b).2 hb, h⟩
end Fl
end Go.Proofs.Ytjlmkcamefaodaa
