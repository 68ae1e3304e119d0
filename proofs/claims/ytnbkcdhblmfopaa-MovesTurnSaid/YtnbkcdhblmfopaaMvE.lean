/-
  A ring is opened; moves one by one, and how many rings there are: walked.
-/
import Derived.Test.YtnbkcdhblmfopaaMvI
import Derived.Test.YtnbkcdhblmfopaaMvS
namespace Go.Proofs.Ytnbkcdhblmfopaa
open Go Go.RowKit Go.Maps Mv

/-- A cell of one's own row is set. -/
theorem own_setAt {W : World} {base E k g n c : Nat} {xs : List Value} (h : W.ownsRow base E k (.slice (some ⟨g, 0, none⟩) n c) n xs) (j : Nat) (u : Value) (hj : j < n * k) : (W.setCell ⟨g, j, none⟩ u).ownsRow base E k (.slice (some ⟨g, 0, none⟩) n c) n (xs.set j u) := by
  obtain ⟨h1, h2⟩ := h
  rcases h2 with ⟨e, _⟩ | ⟨g', cap, cur, e, hb, hg, hn, hc, hs, ht⟩
  · cases e
  · cases e
    refine ⟨by rw [List.length_set]; exact h1, .inr ⟨g, _, cur.setIfInBounds j u, rfl, hb, Blk.set hg j u, hn, hc, by simp [hs], ?_⟩⟩
    rw [Array.toList_setIfInBounds, List.take_set, ht]
theorem cellsM_cons (m : M) (l : List M) : cellsM (m :: l) = I m.1 :: I m.2 :: cellsM l := by simp [cellsM, encM]
theorem cellsM_app2 (a b : List M) : cellsM (a ++ b) = cellsM a ++ cellsM b := by simp [cellsM]
theorem bod_set (spare : Int) : ∀ (m : M) (r : List M), (cellsM (m :: r)).set (r.length * 2 + 1) (I spare) = cellsM (bodM spare (m :: r))
  | m, [] => by rw [cellsM_cons]; rfl
  | m, m' :: r => by
    have h := bod_set spare m' r
    show _ = cellsM (m :: bodM spare (m' :: r))
    rw [cellsM_cons m, cellsM_cons m, ← h, List.length_cons, show (r.length + 1) * 2 + 1 = (r.length * 2 + 1) + 1 + 1 by omega]
    rfl
theorem op_set (spare h : Int) (m : M) (r : List M) : (cellsM ((spare, h) :: m :: r)).set ((r.length + 1) * 2 + 1) (I spare) = cellsM ((spare, h) :: bodM spare (m :: r)) := by
  rw [cellsM_cons (spare, h), cellsM_cons (spare, h), ← bod_set, show (r.length + 1) * 2 + 1 = (r.length * 2 + 1) + 1 + 1 by omega]
  rfl
theorem opM_len (spare : Int) (cm : List M) : (opM spare cm).length = cm.length + 1 := by
  unfold opM
  rw [List.length_cons, bodM_len]

def OpnT (w : World) (spare : Int) (cm : List M) (W : World) (e : Ending) : Prop := ∃ g c, e = .returned (.slice (some ⟨g, 0, none⟩) (cm.length + 1) c) ∧ MovO W w.heap.size 32 (.slice (some ⟨g, 0, none⟩) (cm.length + 1) c) (opM spare cm) ∧ Below w.heap.size w W

set_option maxRecDepth 100000 in
set_option maxHeartbeats 1600000 in
theorem opened_any (v : Value) (cm : List M) (hne : cm ≠ []) (hl : cm.length ≤ 1000) (spare : Int) (w : World) (h : MovZ w v cm) :
    Calls Try.prog 18 #[v, I spare] w fun e w' => OpnT w spare cm w' e := by
  obtain ⟨i1, p1, p2, p3, p4⟩ := info_parts infoMm
  have HM := Lib.hid (And.intro p1 (And.intro p2 (And.intro p3 p4)))
  clear p1 p2 p3 p4
  obtain ⟨a, c, rfl⟩ := h.size
  obtain ⟨n, hn⟩ : ∃ n, n = cm.length := ⟨_, rfl⟩
  obtain ⟨xt, xf, r, hcm⟩ : ∃ xt xf r, cm = (xt, xf) :: r := by
    cases cm with
    | nil => exact absurd rfl hne
    | cons m r => exact ⟨m.1, m.2, r, rfl⟩
  rw [← hn] at h
  obtain ⟨b, _, rfl, hbl, c0, e0⟩ := h.at 0 (by rw [hcm]; simp)
  obtain rfl := e0
  have e1 : cm[0]'(by rw [hcm]; simp) = (xt, xf) := by simp [hcm]
  rw [e1, Nat.zero_mul] at c0
  have x0 : w.cell? b = some (I xt) := by
    have h9 : w.cell? (b.add 0) = some (I xt) := c0.f0
    rw [show b.add 0 = b by unfold Addr.add; simp] at h9
    exact h9
  have hn0 : (0 : Int) < (n : Int) := by rw [hn, hcm]; simp
  have hnb : (n : Int) ≤ 1000 := by omega
  have HH := Lib.hid (And.intro h (And.intro hn (And.intro hl (And.intro hcm hne))))
  clear h hn hl hcm hne hbl c0 e1
  go_enter Try.func18, Try.ntmps18
  rw [← HH.out.2.1]
  go_wp2_with (first | (at_builtin; refine Hid.out ?_) | go_in)
  unfold Hid
  obtain ⟨W1, hW1⟩ : ∃ W, W = w.alloc (.cells #[I spare, I xt] 32) := ⟨_, rfl⟩
  obtain ⟨b1, hb1⟩ : ∃ g, g = w.heap.size := ⟨_, rfl⟩
  have k1 : Blk b1 #[I spare, I xt] 32 W1 := by rw [hb1, hW1]; exact Blk.new _ _ _
  have hB1 : Below w.heap.size w W1 := by rw [hW1]; exact (Below.refl _ _).alloc (Nat.le_refl _) _
  have ho1 : W1.ownsRow b1 32 2 (.slice (some ⟨b1, 0, none⟩) 1 1) 1 [I spare, I xt] := k1.owns (Nat.le_refl _) (by decide) rfl
  have hz1 : b1 < W1.heap.size := k1.lt
  have hl1 := HH.out.1.below movV_stays hB1
  have H1 := Lib.hid (And.intro hB1 (And.intro ho1 (And.intro hl1 (And.intro hz1 hb1))))
  change wpList _ _ _ _ _ (w.alloc (.cells #[I spare, I xt] 32))
  rw [← hW1, ← hb1]
  clear hW1 hb1 k1 hB1 ho1 hz1 hl1
  refine wpList_append_lies _ rfl (.tmp 12) (.tmp 13) 24 rfl b1 32 i1 (.agg #[I 0, I 0]) 2 16 Try.underlying24 HM.out.1 HM.out.2.1 HM.out.2.2.1 HM.out.2.2.2 rfl (by decide) (.slice (some ⟨b1, 0, none⟩) 1 1) 1 [I spare, I xt] rfl H1.out.2.1 b n c (cellsM cm) rfl (by rw [cellsM_len, HH.out.2.1]) (flat_cells (by decide) encM_len H1.out.2.2.1) (fun u hu => by
    obtain ⟨y, hy, hu⟩ := List.mem_flatten.1 hu
    obtain ⟨x, _, rfl⟩ := List.mem_map.1 hy
    exact oneM x u hu) (by omega) (by unfold maxLen; omega) (by omega) (by have := H1.out.2.2.2.1; omega) _ rfl ?_
  intro g2 c2 w2 ho2 hg2 hat2 hlt2
  have hB2 : Below w.heap.size w w2 := H1.out.1.grown hg2 H1.out.1.size (fun k hk => by
    have e : b1 = k := by simpa [Value.ownBlock] using hk
    rw [← e, H1.out.2.2.2.2]
    exact Nat.le_refl _)
  have hgl : w.heap.size ≤ g2 := by
    have := (ho2.lt g2 rfl).1
    rw [H1.out.2.2.2.2] at this
    exact this
  have hc2 : 1 + n ≤ c2 := by
    rcases ho2.2 with ⟨h, _⟩ | ⟨g', cap', cur, hv, _, _, h1, _⟩
    · cases h
    · cases hv; exact h1
  have hxs : [I spare, I xt] ++ cellsM cm = cellsM ((spare, xt) :: cm) := by rw [cellsM_cons]; rfl
  rw [hxs] at ho2
  have hset := own_setAt ho2 (n * 2 + 1) (I spare) (by omega)
  have hopm : (cellsM ((spare, xt) :: cm)).set (n * 2 + 1) (I spare) = cellsM (opM spare cm) := by
    rw [HH.out.2.1, HH.out.2.2.2.1]
    exact op_set spare xt (xt, xf) r
  rw [hopm] at hset
  have z0 := ho2.cellAt (n * 2 + 1) (by omega)
  obtain ⟨old, hold⟩ : ∃ u, (cellsM ((spare, xt) :: cm))[n * 2 + 1]? = some u := by
    have : n * 2 + 1 < (cellsM ((spare, xt) :: cm)).length := by rw [cellsM_len, List.length_cons, ← HH.out.2.1]; omega
    exact ⟨_, List.getElem?_eq_getElem this⟩
  rw [hold] at z0
  have f0 : w2.frozen? ⟨g2, n * 2 + 1, none⟩ = false := FreeB.thaw (a := ⟨g2, n * 2 + 1, none⟩) (own_free ho2)
  have FIN := Lib.hid (show OpnT w spare cm (w2.setCell ⟨g2, n * 2 + 1, none⟩ (I spare)) (.returned (.slice (some ⟨g2, 0, none⟩) (n + 1) c2)) from ⟨g2, c2, by rw [HH.out.2.1], by
    unfold MovO
    rw [opM_len, ← HH.out.2.1]
    have h9 := own_lower (base' := w.heap.size) (by rw [H1.out.2.2.2.2]; exact Nat.le_refl _) hset
    rw [Nat.add_comm 1 n] at h9
    exact h9, hB2.setCell hgl _⟩)
  rw [Nat.add_comm 1 n]
  clear ho2 hg2 hat2 hlt2 hB2 hgl hxs hset hopm hold hc2
  go_wp2_with fail
  go_ret
  exact FIN.out

/-- How many rings, by the program. -/
def PciT (w : World) (l : List M) (W : World) (e : Ending) : Prop := ∃ c : Nat, e = .returned (I (c : Int)) ∧ (Dis l → ∃ css, CSet l css ∧ c = css.length) ∧ (¬ Dis l → c = 0) ∧ Below w.heap.size w W
set_option maxRecDepth 100000 in
set_option maxHeartbeats 1600000 in
theorem progCircles_any (lv : Value) (l : List M) (hl : l.length ≤ 1000) (hwf : WfL l) (w : World) (h : MovZ w lv l) :
    Calls Try.prog 13 #[lv] w fun e w' => PciT w l w' e := by
  have HN := Lib.hid (newTangle_any lv l hl hwf w h)
  have HH := Lib.hid (And.intro h (And.intro hl hwf))
  clear h hl hwf
  go_enter Try.func13, Try.ntmps13
  go_wp2_with fail
  refine HN.out.mono ?_
  rintro e w1 ⟨hb1, ⟨hnd, rfl⟩ | ⟨hd, bt, bm, ba, bd, rfl, htg⟩⟩
  · have FIN := Lib.hid (show PciT w l w1 (.returned (I 0)) from ⟨0, rfl, fun h => absurd h hnd, fun _ => rfl, hb1⟩)
    clear hb1 hnd
    go_wp2_with fail
    go_ret
    exact FIN.out
  · have HR := Lib.hid (rows_any w.heap.size bt bm ba bd lv l HH.out.2.1 HH.out.2.2 hd w1 htg)
    have H1 := Lib.hid (And.intro hb1 hd)
    clear hb1 hd htg
    go_wp2_with fail
    refine HR.out.mono ?_
    rintro e w2 ⟨v, out, dn, rfl, hmo, hg, ht, hb2⟩
    have HC := Lib.hid (circles_any w.heap.size bt bm ba bd lv l HH.out.2.1 HH.out.2.2 H1.out.2 (cnt l dn) dn (good_perm H1.out.2 hg) w2 ht)
    have H2 := Lib.hid (And.intro hg (H1.out.1.trans hb2))
    clear hmo hg ht hb2
    go_wp2_with fail
    refine HC.out.mono ?_
    rintro e w3 ⟨v3, css, rfl, ho3, hu3, hb3, ha3⟩
    obtain ⟨sa, sc, hsv⟩ := ho3.row
    rw [show (mvs l css).length = css.length by simp [mvs]] at hsv
    have FIN := Lib.hid (show PciT w l w3 (.returned (I (css.length : Int))) from ⟨css.length, rfl, fun _ => ⟨css, cset_of H2.out.1 hu3, rfl⟩, fun h => absurd H1.out.2 h, H2.out.2.trans hb3⟩)
    obtain ⟨k, hk⟩ : ∃ k, k = css.length := ⟨_, rfl⟩
    rw [← hk] at FIN hsv
    subst hsv
    clear ho3 hu3 hb3 ha3 hk
    go_wp2_with fail
    go_ret
    exact FIN.out

theorem own_apart {W W' : World} {base E size n : Nat} {v : Value} {xs : List Value} (h : W.ownsRow base E size v n xs) (he : ∀ k, v.ownBlock = some k → W'.heap[k]? = W.heap[k]?) : W'.ownsRow base E size v n xs := by
  refine ⟨h.1, ?_⟩
  rcases h.2 with h5 | ⟨g, cap, cur, e, hb, hg, h6⟩
  · exact Or.inl h5
  · exact Or.inr ⟨g, cap, cur, e, hb, (he g (by rw [e]; rfl)).trans hg, h6⟩
def OrdT (w : World) (l : List M) (spare : Int) (W : World) (e : Ending) : Prop :=
  ∃ (v : Value) (c : Int), e = .returned (.tuple #[v, I c]) ∧ (Bad l spare true ∧ c = 3 ∧ v = .slice none 0 0 ∨ ¬ Bad l spare true ∧ c = 0 ∧ ∃ out, out.length ≤ 2000 ∧ MovO W w.heap.size 32 v out ∧ OrdOK l spare out) ∧ Below w.heap.size w W
def Or1 (w : World) (l : List M) (spare : Int) (iv : Value) (W : World) : Prop := ∃ i : Nat, i ≤ l.length ∧ iv = I (i : Int) ∧ (∀ j, j < i → ¬ BadS l spare true j) ∧ Below w.heap.size w W
/-- Openings of rings, the first of them. -/
def opnL (l : List M) (spare : Int) (css : List (List Nat)) : List M := (css.map fun c => opM spare (c.map (mv l))).flatten
theorem opnL_app (l : List M) (spare : Int) (a b : List (List Nat)) : opnL l spare (a ++ b) = opnL l spare a ++ opnL l spare b := by simp [opnL]
structure Or2 (w W2 W3 : World) (l : List M) (spare : Int) (out0 : List M) (css : List (List Nat)) (i : Nat) (ov : Value) (W : World) : Prop where
  o : MovO W w.heap.size 32 ov (out0 ++ opnL l spare (css.take i))
  b : Below w.heap.size w W
  a : ∀ k, W2.heap.size ≤ k → k < W3.heap.size → W.heap[k]? = W3.heap[k]?
  z : W3.heap.size ≤ W.heap.size
  s : ∀ k, ov.ownBlock = some k → k < W2.heap.size ∨ W3.heap.size ≤ k
def Or2R (w W2 W3 : World) (l : List M) (spare : Int) (out0 : List M) (css : List (List Nat)) (ov iv : Value) (W : World) : Prop := ∃ i : Nat, i ≤ css.length ∧ iv = I (i : Int) ∧ Or2 w W2 W3 l spare out0 css i ov W
theorem take_flat (css : List (List Nat)) (i : Nat) : (css.take i).flatten.length ≤ css.flatten.length := by
  have h : css.flatten = (css.take i).flatten ++ (css.drop i).flatten := by rw [← List.flatten_append, List.take_append_drop]
  rw [h, List.length_append]
  omega

set_option maxRecDepth 100000 in
set_option maxHeartbeats 3200000 in
theorem order_any (lv : Value) (l : List M) (hl : l.length ≤ 500) (hwf : WfL l) (spare : Int) (w : World) (h : MovZ w lv l) :
    Calls Try.prog 9 #[lv, I spare] w fun e w' => OrdT w l spare w' e := by
  obtain ⟨i1, p1, p2, p3, p4⟩ := info_parts infoMm
  have HM := Lib.hid (And.intro p1 (And.intro p2 (And.intro p3 p4)))
  clear p1 p2 p3 p4
  have HNT := Lib.hid (fun W (hb : Below w.heap.size w W) => newTangle_any lv l (by omega) hwf W (h.below movV_stays hb))
  obtain ⟨a, c, rfl⟩ := h.size
  obtain ⟨n, hn⟩ : ∃ n, n = l.length := ⟨_, rfl⟩
  rw [← hn] at h HNT ⊢
  have hnb : (n : Int) ≤ 500 := by omega
  have HH := Lib.hid (And.intro h (And.intro hn (And.intro hl hwf)))
  clear h hn hl hwf
  go_enter Try.func9, Try.ntmps9
  go_wp2_with fail
  go_loopw [15] (fun iv W => Or1 w l spare iv W) (fun iv _ => n - (intOf iv).toNat)
  case atStart => exact ⟨0, Nat.zero_le _, rfl, fun j hj => absurd hj (by omega), Below.refl _ _⟩
  case round =>
    obtain ⟨i, hi, rfl, hno, hbe⟩ := hrel
    by_cases hin : i < n
    · have hil : i < l.length := by rw [← HH.out.2.1]; exact hin
      obtain ⟨b, _, rfl, hbl, c0, e0⟩ := (HH.out.1.below movV_stays hbe).at i hil
      obtain rfl := e0
      rw [getD_mv hil] at c0
      obtain ⟨xt, xf, hx⟩ : ∃ a b, mv l i = (a, b) := ⟨_, _, rfl⟩
      rw [hx] at c0
      have x0 : wr.cell? (b.add (i * 2)) = some (I xt) := c0.f0
      have x1 : wr.cell? ⟨(b.add (i * 2)).block, (b.add (i * 2)).off + 1, none⟩ = some (I xf) := c0.f1
      have hbs : BadS l spare true i ↔ (xt = spare ∨ xf = spare) := by unfold BadS tO fR; rw [hx]; simp
      have d0 : decide (i < n) = true := by simpa using hin
      have d1 : (0 : Int) ≤ (i : Int) := by omega
      have d2 : (i : Int) < (n : Int) := by omega
      have hB1 : Below w.heap.size w (wr.alloc (.cells #[I xt, I xf] 32)) := hbe.alloc hbe.size _
      have FIN := Lib.hid (fun hb : (xt = spare ∨ xf = spare) => (show OrdT w l spare (wr.alloc (.cells #[I xt, I xf] 32)) (.returned (.tuple #[.slice none 0 0, I 3])) from ⟨_, _, rfl, Or.inl ⟨Or.inl ⟨i, hil, hbs.2 hb⟩, rfl, rfl⟩, hB1⟩))
      have HN := Lib.hid (fun hb : ¬ (xt = spare ∨ xf = spare) => (show Or1 w l spare (I ((i : Int) + 1)) (wr.alloc (.cells #[I xt, I xf] 32)) from ⟨i + 1, hil, rfl, fun j hj => by
        by_cases e : j = i
        · rw [e, hbs]; exact hb
        · exact hno j (by omega), hB1⟩))
      have HT := Lib.hid hin
      clear hno hbe hil hbl c0 hx hbs hB1 hin hi
      by_cases h1 : xt = spare
      · have HF := Lib.hid (FIN.out (Or.inl h1))
        subst h1
        clear FIN HN
        go_wp2_with fail
        go_ret2
        exact HF.out
      · have g1 : (xt == spare) = false := by simpa using h1
        by_cases h2 : xf = spare
        · have HF := Lib.hid (FIN.out (Or.inr h2))
          subst h2
          clear FIN HN h1
          go_wp2_with fail
          go_ret2
          exact HF.out
        · have g2 : (xf == spare) = false := by simpa using h2
          have HN2 := Lib.hid (HN.out (by rintro (h | h); exact h1 h; exact h2 h))
          clear FIN HN h1 h2
          go_wp2_with fail
          exact ⟨HN2.out, by have := HT.out; simp [intOf]; omega⟩
    · have d0 : decide (i < n) = false := by simpa using hin
      have hns : ∀ j, j < l.length → ¬ BadS l spare true j := fun j hj => hno j (by have := HH.out.2.1; omega)
      have HNS := Lib.hid hns
      have HB := Lib.hid hbe
      have HN := Lib.hid (HNT.out wr hbe)
      clear hno hbe hin hi hns
      go_wp2_with fail
      refine HN.out.mono ?_
      rintro e w1 ⟨hb1, ⟨hnd, rfl⟩ | ⟨hd, bt, bm, ba, bd, rfl, htg⟩⟩
      · have FIN := Lib.hid (show OrdT w l spare w1 (.returned (.tuple #[.slice none 0 0, I 3])) from ⟨_, _, rfl, Or.inl ⟨Or.inr hnd, rfl, rfl⟩, below_tr HB.out hb1⟩)
        clear hb1 hnd
        go_wp2_with fail
        go_ret2
        exact FIN.out
      · have HR := Lib.hid (rows_any wr.heap.size bt bm ba bd (.slice a n c) l (by have := HH.out.2.2.1; omega) HH.out.2.2.2 hd w1 htg)
        have H1 := Lib.hid (And.intro (below_tr HB.out hb1) (And.intro hd (And.intro htg.tb.lt htg.db.lt)))
        have hlw := htg.lt.1
        have HLW := Lib.hid (And.intro hlw (show w.heap.size ≤ wr.heap.size from HB.out.size))
        clear hb1 hd htg hlw
        go_wp2_with fail
        refine HR.out.mono ?_
        rintro e w2 ⟨v, out0, dn, rfl, hmo, hg, ht, hb2⟩
        have HC := Lib.hid (circles_any wr.heap.size bt bm ba bd (.slice a n c) l (by have := HH.out.2.2.1; omega) HH.out.2.2.2 H1.out.2.1 (cnt l dn) dn (good_perm H1.out.2.1 hg) w2 ht)
        have hb2' : Below w.heap.size w w2 := H1.out.1.trans (hb2.mono HLW.out.2)
        have H2 := Lib.hid (And.intro hg (And.intro hb2' (And.intro hmo (show w.heap.size ≤ w1.heap.size by have := H1.out.2.2.1; have := HLW.out; omega))))
        obtain ⟨V, hV⟩ : ∃ u, u = v := ⟨_, rfl⟩
        clear hmo hg ht hb2 hb2'
        go_wp2_with fail
        refine HC.out.mono ?_
        rintro e w3 ⟨v3, css, rfl, ho3, hu3, hb3, ha3⟩
        have h2o := H2.out.2.2.1
        have hlo : ∀ k, v.ownBlock = some k → w1.heap.size ≤ k ∧ k < w2.heap.size := fun k hk => World.ownsRow.lt h2o k hk
        have hmo3 : MovO w3 w.heap.size 32 v out0 := own_lower H2.out.2.2.2 (own_apart h2o (fun k hk => ha3 k (hlo k hk).2 (by have := (hlo k hk).1; have := H1.out.2.2.2; omega)))
        have hb3' : Below w.heap.size w w3 := H2.out.2.1.trans (hb3.mono HLW.out.2)
        have hcl : css.flatten.length ≤ l.length := by
          have h1 := hu3.nd.length_le_of_subset (l₂ := List.range l.length) (fun x hx => List.mem_range.2 (hu3.lt x hx).1)
          rwa [List.length_range] at h1
        have hcn : css.length ≤ css.flatten.length := by
          have : ∀ cs : List (List Nat), (∀ c ∈ cs, c ≠ []) → cs.length ≤ cs.flatten.length := fun cs => by
            induction cs with
            | nil => intro _; simp
            | cons c cs ih =>
              intro h
              have h1 := ih (fun c hc => h c (List.mem_cons_of_mem _ hc))
              have h2 := List.length_pos_iff.2 (h c (by simp))
              rw [List.flatten_cons, List.length_append, List.length_cons]
              omega
          exact this css (fun c hc => (hu3.rings c hc).1)
        have hol : out0.length ≤ l.length := by
          have h1 := H2.out.1.ln
          have h2 := ct_le (f := fun i => decide (tO l i ≠ fR l i)) (n := l.length)
          omega
        have hok := ord_ok H1.out.2.1 (fun i hi e => HNS.out i hi ⟨rfl, Or.inl e⟩) H2.out.1 hu3
        obtain ⟨sa, sc, hsv⟩ := ho3.row
        rw [show (mvs l css).length = css.length by simp [mvs]] at hsv
        obtain ⟨k, hk⟩ : ∃ k, k = css.length := ⟨_, rfl⟩
        rw [← hk] at hsv
        have hkb : (k : Int) ≤ 500 := by have := HH.out.2.2.1; omega
        have HS3 := Lib.hid (show Or2R w w2 w3 l spare out0 css v (I 0) w3 from ⟨0, Nat.zero_le _, rfl, by rw [List.take_zero]; simpa [opnL] using hmo3, hb3', fun _ _ _ => rfl, Nat.le_refl _, fun k hk => Or.inl (hlo k hk).2⟩)
        have H3 := Lib.hid (And.intro (ho3.sl cirV_stays) (And.intro hk (And.intro hcl (And.intro hcn (And.intro hol (And.intro hok (And.intro hu3.rings hu3.lt)))))))
        have HSV := Lib.hid hsv
        subst hsv
        clear ho3 hu3 hb3 ha3 h2o hlo hmo3 hb3' hcl hcn hol hok hk
        go_wp2_with fail
        go_loopw [10, 42] (fun ov iv W => Or2R w w2 w3 l spare out0 css ov iv W) (fun _ iv _ => k - (intOf iv).toNat)
        case atStart => exact HS3.out
        case round =>
          obtain ⟨i, hi, rfl, hv⟩ := hrel
          by_cases hin : i < k
          · have hil : i < (mvs l css).length := by simp [mvs]; have := H3.out.2.1; omega
            have hilc : i < css.length := by have := H3.out.2.1; omega
            have hv3 := hv
            obtain ⟨b, vs, rfl, hbb, c0, sv, rfl, hcm⟩ := H3.out.1.at i hil
            have hcell : ∀ kk, GeW w2.heap.size w3 kk → wr.heap[kk]? = w3.heap[kk]? := fun kk hk => hv.a kk hk.1.1 hk.1.2
            have c1 := c0.keep (hcell _ hbb)
            have x0 : wr.cell? (b.add (i * 1)) = some sv := c1.f0
            rw [Nat.mul_one] at x0
            have hcm2 : MovZ wr sv (mvs l css)[i] := hcm.keep movV_stays hcell (fun kk hk => Nat.lt_of_lt_of_le hk.1.2 hv.z)
            have hci : (mvs l css)[i] = (css[i]).map (mv l) := by simp [mvs]
            rw [hci] at hcm2
            have hring := H3.out.2.2.2.2.2.2.1 css[i] (List.getElem_mem hilc)
            have hcl : (css[i]).length ≤ l.length := by
              have h1 := hring.2.1.length_le_of_subset (l₂ := List.range l.length) (fun x hx => List.mem_range.2 (H3.out.2.2.2.2.2.2.2 x (List.mem_flatten.2 ⟨_, List.getElem_mem hilc, hx⟩)).1)
              rwa [List.length_range] at h1
            have htk : css.take (i + 1) = css.take i ++ [css[i]] := List.take_succ_eq_append_getElem hilc
            obtain ⟨c, hc⟩ : ∃ c, c = css[i] := ⟨_, rfl⟩
            rw [← hc] at hcm2 hring hcl htk
            have HOP := Lib.hid (opened_any sv (c.map (mv l)) (by simpa using hring.1) (by rw [List.length_map]; have := HH.out.2.2.1; omega) spare wr hcm2)
            have hlen : (out0 ++ opnL l spare (css.take i)).length ≤ 1500 := by
              have h1 := take_flat css i
              have h2 := len_rings spare l (css.take i)
              have h3 : (css.take i).length ≤ css.length := by rw [List.length_take]; omega
              have h4 := H3.out.2.2.1
              have h5 := H3.out.2.2.2.1
              have h6 := H3.out.2.2.2.2.1
              have h7 := HH.out.2.2.1
              unfold opnL
              rw [List.length_append]
              omega
            obtain ⟨oa, oc, hov⟩ := hv.o.row
            obtain ⟨m, hm⟩ : ∃ m, m = (out0 ++ opnL l spare (css.take i)).length := ⟨_, rfl⟩
            rw [← hm] at hov hlen
            have ho' : wr.ownsRow w.heap.size 32 2 u10 m (cellsM (out0 ++ opnL l spare (css.take i))) := by rw [hm]; exact hv.o
            have e0 : decide (i < k) = true := by simpa using hin
            have e1 : (0 : Int) ≤ (i : Int) := by omega
            have e2 : (i : Int) < (k : Int) := by omega
            have H4 := Lib.hid (And.intro hv (And.intro ho' (And.intro hm (And.intro htk (And.intro hcl (And.intro hilc hin))))))
            have HOV := Lib.hid hov
            subst hov
            clear hv hv3 hil hilc hbb c0 hcm hcell c1 hcm2 hci hring hcl htk hc hm ho' hin hi
            go_wp2_with fail
            refine HOP.out.mono ?_
            rintro e w5 ⟨g5, c5, rfl, ho5, hb5⟩
            rw [List.length_map] at ho5 ⊢
            obtain ⟨q, hq⟩ : ∃ q, q = c.length := ⟨_, rfl⟩
            rw [← hq] at ho5 ⊢
            have hoW := own_below H4.out.2.1 hb5
            have hqb : q ≤ 500 := by rw [hq]; have := H4.out.2.2.2.2.1; have := HH.out.2.2.1; omega
            have hsz5 := hb5.size
            have hwz := H4.out.1.b.size
            have H5 := Lib.hid (And.intro hoW (And.intro ho5 (And.intro hb5 hq)))
            clear hoW ho5 hb5 hq x0
            go_wp2_with (first | (at_builtin; refine Hid.out ?_) | go_in)
            unfold Hid
            refine wpList_append_lies _ rfl (.tmp 46) (.tmp 49) 24 rfl w.heap.size 32 i1 (.agg #[I 0, I 0]) 2 16 Try.underlying24 HM.out.1 HM.out.2.1 HM.out.2.2.1 HM.out.2.2.2 rfl (by decide) (.slice oa m oc) m (cellsM (out0 ++ opnL l spare (css.take i))) rfl H5.out.1 ⟨g5, 0, none⟩ (q + 1) c5 (cellsM (opM spare (c.map (mv l)))) rfl (by rw [cellsM_len, opM_len, List.length_map, H5.out.2.2.2]) (flat_cells (by decide) encM_len H5.out.2.1.z) (fun u hu => by
              obtain ⟨y, hy, hu⟩ := List.mem_flatten.1 hu
              obtain ⟨x, _, rfl⟩ := List.mem_map.1 hy
              exact oneM x u hu) (by omega) (by unfold maxLen; omega) (by omega) (by omega) _ rfl ?_
            intro g7 c7 w7 ho7 hg7 hat7 hlt7
            have hnew : css.take (i + 1) = css.take i ++ [c] := H4.out.2.2.2.1
            have HN := Lib.hid (show Or2R w w2 w3 l spare out0 css (.slice (some ⟨g7, 0, none⟩) (m + (q + 1)) c7) (I ((i : Int) + 1)) w7 from ⟨i + 1, H4.out.2.2.2.2.2.1, rfl, by
                have e : out0 ++ opnL l spare (css.take (i + 1)) = (out0 ++ opnL l spare (css.take i)) ++ opM spare (c.map (mv l)) := by
                  rw [hnew, opnL_app, List.append_assoc]
                  simp [opnL]
                unfold MovO
                rw [e, List.length_append, ← H4.out.2.2.1, opM_len, List.length_map, ← H5.out.2.2.2, cellsM_app2]
                exact ho7, (below_tr H4.out.1.b H5.out.2.2.1).grown hg7 (by omega) (fun kk hk => (H4.out.2.1.lt kk hk).1), fun kk h1 h2 => by
                have h3 := H4.out.1.z
                rw [hg7.block kk (by omega) (fun e => by rcases H4.out.1.s kk e.symm with h | h <;> omega), H5.out.2.2.1.block kk (by omega)]
                exact H4.out.1.a kk h1 h2, by have := H4.out.1.z; have := hg7.size; omega, fun kk hk => by
                have e : g7 = kk := by simpa [Value.ownBlock] using hk
                subst e
                rcases hat7 with e | e
                · exact H4.out.1.s g7 e
                · have := H4.out.1.z; omega⟩)
            have HT := Lib.hid H4.out.2.2.2.2.2.2
            clear ho7 hg7 hat7 hlt7 hnew
            go_wp2_with fail
            exact ⟨HN.out, by have := HT.out; simp [intOf]; omega⟩
          · have d0 : decide (i < k) = false := by simpa using hin
            have hik : i = css.length := by have := H3.out.2.1; omega
            have FIN := Lib.hid (show OrdT w l spare wr (.returned (.tuple #[u10, I 0])) from ⟨_, _, rfl, Or.inr ⟨fun hb => by
              rcases hb with ⟨j, h1, h2⟩ | h
              · exact HNS.out j h1 h2
              · exact h H1.out.2.1, rfl, _, by
                have h2 := len_rings spare l css
                have h4 := H3.out.2.2.1
                have h5 := H3.out.2.2.2.1
                have h6 := H3.out.2.2.2.2.1
                have h7 := HH.out.2.2.1
                rw [List.length_append]
                omega, by
                have h9 := hv.o
                rw [hik, List.take_length] at h9
                exact h9, H3.out.2.2.2.2.2.1⟩, hv.b⟩)
            clear hv hin hi hik
            go_wp2_with fail
            go_ret2
            exact FIN.out
end Go.Proofs.Ytnbkcdhblmfopaa
