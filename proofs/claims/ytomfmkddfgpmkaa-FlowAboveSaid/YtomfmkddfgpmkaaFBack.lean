/-
  The nodes of a loop: the walk.
-/
import Derived.Test.YtomfmkddfgpmkaaFBk
import Derived.Test.YtomfmkddfgpmkaaFOrd
import Derived.Test.YtomfmkddfgpmkaaFSort
import Derived.Maps.AppendAt
import Derived.Laws.AppendOwnNone
namespace Go.Proofs.Ytomfmkddfgpmkaa
open Go Go.RowKit Go.Maps Fl

/-- A graph that lies below. -/
def RowB (base : Nat) (w : World) (v : Value) (l : List Nat) : Prop := (v = .slice none 0 0 ∧ l = []) ∨ ∃ g c, v = .slice (some ⟨g, 0, none⟩) l.length c ∧ g < base ∧ ∀ j (h : j < l.length), w.cell? ⟨g, j, none⟩ = some (I (l[j] : Int))
structure GrB (base : Nat) (w : World) (bl : Nat) (F : List (List Nat)) : Prop where
  lt : bl < base
  le : base ≤ w.heap.size
  row : ∀ i, i < F.length → ∃ v, w.cell? ⟨bl, i, none⟩ = some v ∧ RowB base w v (row F i)
theorem cell_belowB {B : Nat} {w w' : World} (h : Below B w w') {g i : Nat} (hg : g < B) {v : Value} (hc : w.cell? ⟨g, i, none⟩ = some v) : w'.cell? ⟨g, i, none⟩ = some v := by
  unfold World.cell? at hc ⊢
  rw [h.block g hg]
  exact hc
theorem RowB.below {base : Nat} {w w' : World} {v : Value} {l : List Nat} (h : RowB base w v l) (hb : Below base w w') : RowB base w' v l := by
  rcases h with h | ⟨g, c, e, hg, h⟩
  · exact Or.inl h
  · exact Or.inr ⟨g, c, e, hg, fun j hj => cell_belowB hb hg (h j hj)⟩
theorem GrB.below {base : Nat} {w w' : World} {bl : Nat} {F : List (List Nat)} (h : GrB base w bl F) (hb : Below base w w') : GrB base w' bl F :=
  ⟨h.lt, Nat.le_trans h.le hb.size, fun i hi => by
    obtain ⟨v, h1, h2⟩ := h.row i hi
    exact ⟨v, cell_belowB hb h.lt h1, h2.below hb⟩⟩

theorem key_int : Keyed Try.prog 3 := int_keyed Try.underlying3
theorem unit_zero (w : World) : (zeroValue 74).run Try.prog w = .ok (.agg #[]) w := by kernel_rfl

theorem int_wf {n : Nat} (h : n ≤ 1000000) : (Lit.int .i64 (n : Int)).wf = true := by
  have h1 : IntKind.i64.min = -9223372036854775808 := rfl
  have h2 : IntKind.i64.max = 9223372036854775807 := rfl
  simp [Lit.wf, h1, h2]
  omega
theorem nil_or_app {α : Type} (l : List α) : l = [] ∨ ∃ r n, l = r ++ [n] := by
  rcases List.eq_nil_or_concat l with h | ⟨r, n, h⟩
  · exact Or.inl h
  · exact Or.inr ⟨r, n, by rw [h, List.concat_eq_append]⟩
/-- An entry of a literal of a map. -/
theorem wpList_insert_own {H : Type} {P : Program} (w : World) {ops : Array Oper} {rest : List Oper} {o : Oper} {a : Act} {Q : Exit → Act → World → Prop} (hg : o.guard = none) (m x v : Operand) (t : TypeId) (hop : o.op = Op.insert t m x v)
    (k e : TypeId) (K : Keyed P k) (ht : P.underlying t = some (.map k e)) (R : Value → Option (DataW H × List MemPlace)) (b n : Nat) (D : DataW H)
    (hm : a.eval m = .map (some b)) (hown : w.ownsMap P k R b n D) (hn : n < maxLen) (key val : Value) (kl : Lit) (hx : a.eval x = key) (hv : a.eval v = val) (hkey : keyOf P k key = some kl)
    (d : DataW H) (ps : List MemPlace) (hval : R val = some (d, ps))
    (hK : ∀ w', w'.ownsMap P k R b (n + 1) (D.put kl d) → w.mapTurned w' b → wpList P ops Q rest (a.put o.dst undef) w') :
    wpList P ops Q (o :: rest) a w := by
  refine wpList_plain hg fun K' hK' => ?_
  obtain ⟨w', hrun, r1, r2⟩ := hown.store K ht hn hkey hval
  unfold Oper.wp
  simp [execOp, hop, hm, hx, hv, hrun, Result.andThen]
  exact hK' _ _ (hK w' r1 r2)

/-- A set of numbers in memory. -/
def SetW (bm : Nat) (sn : List Nat) (W : World) : Prop := ∃ D, W.ownsMap Try.prog 3 unitElem bm sn.length D ∧ SetIs D sn
theorem SetW.kept {bm : Nat} {sn : List Nat} {W W' : World} {row : Option Nat} (h : SetW bm sn W) (hg : W.grownBy W' row) (hne : some bm ≠ row) : SetW bm sn W' := by
  obtain ⟨D, h1, h2⟩ := h
  exact ⟨D, h1.kept hg hne, h2⟩

structure BackS (w : World) (base bm N M0 : Nat) (ev sv : Value) (st sn : List Nat) (W : World) : Prop where
  ns : Nums W base sv st
  ms : SetW bm sn W
  nd : sn.Nodup
  nb : ∀ x ∈ sn, x < N
  sb : ∀ x ∈ st, x < N
  mu : muB N N st sn ≤ M0
  gr : w.grownBy W ev.ownBlock
  at' : sv.ownBlock = ev.ownBlock ∨ ∃ g, sv.ownBlock = some g ∧ w.heap.size ≤ g ∧ g ≠ bm
  lm : w.heap.size ≤ bm
  ne : sn ≠ []
  evlt : ∀ k, ev.ownBlock = some k → base ≤ k ∧ k < w.heap.size
/-- A node comes off the stack. -/
theorem BackS.pop {w W W1 : World} {base bm N M0 : Nat} {ev : Value} {g c M n : Nat} {r sn : List Nat} (h : BackS w base bm N M0 ev (.slice (some ⟨g, 0, none⟩) (M + 1) c) (r ++ [n]) sn W) (hM : M = r.length) (hp : W.ownsRow base 3 1 (.slice (some ⟨g, 0, none⟩) M c) M (ints r)) (hg : W.grownBy W1 none) :
    BackS w base bm N M0 ev (.slice (some ⟨g, 0, none⟩) M c) r sn W1 := by
  subst hM
  exact ⟨hp.kept hg (Or.inr (by simp [Value.ownBlock])), h.ms.kept hg (by simp), h.nd, h.nb, fun x hx => h.sb x (by simp [hx]), Nat.le_trans (Nat.le_of_lt mu_old) h.mu, h.gr.andThen hg (fun j hj => by cases hj), h.at', h.lm, h.ne, h.evlt⟩
/-- .. and those that go on to it come on it. -/
theorem BackS.push {w W W1 W2 W3 : World} {base bm N M0 : Nat} {ev u : Value} {g c M n : Nat} {r sn rw' : List Nat} {D : DataW Unit} (h : BackS w base bm N M0 ev (.slice (some ⟨g, 0, none⟩) (M + 1) c) (r ++ [n]) sn W) (hM : M = r.length) (hg1 : W.grownBy W1 none) (hg2 : W1.grownBy W2 (some bm)) (hg3 : W2.grownBy W3 (some g))
    (hown : W2.ownsMap Try.prog 3 unitElem bm (sn.length + 1) (D.put (.int .i64 (n : Int)) (.agg []))) (hD : SetIs D sn) (hn : n ∉ sn) (hnN : n < N) (hr : ∀ x ∈ rw', x < N) (hl : rw'.length ≤ N)
    (ho : W3.ownsRow base 3 1 u (M + rw'.length) (ints r ++ ints rw')) (hat : u.ownBlock = some g ∨ u.ownBlock = some W2.heap.size) :
    BackS w base bm N M0 ev u (r ++ rw') (n :: sn) W3 := by
  have hbg : some bm ≠ some g := by
    rcases h.at' with e | ⟨g', e, _, h2⟩
    · intro e1
      cases e1
      have h1 := h.lm
      have h2 := (h.evlt bm (by rw [← e]; rfl)).2
      omega
    · cases e
      intro e1
      cases e1
      exact h2 rfl
  have hnd : (n :: sn).Nodup := List.nodup_cons.2 ⟨hn, h.nd⟩
  have hnb : ∀ x ∈ n :: sn, x < N := fun x hx => by
    rcases List.mem_cons.1 hx with e | e
    · rw [e]; exact hnN
    · exact h.nb x e
  subst hM
  refine ⟨?_, ⟨_, hown.kept hg3 hbg, hD.put n⟩, hnd, hnb, fun x hx => ?_, Nat.le_trans (Nat.le_of_lt (mu_new hnd hnb hl)) h.mu, ?_, ?_, h.lm, by simp, h.evlt⟩
  · show World.ownsRow _ _ _ _ _ _ _
    rw [List.length_append, show ints (r ++ rw') = ints r ++ ints rw' by simp]
    exact ho
  · rcases List.mem_append.1 hx with e | e
    · exact h.sb x (by simp [e])
    · exact hr x e
  · refine ((h.gr.andThen hg1 (fun j hj => by cases hj)).andThen hg2 (fun j hj => by cases hj; exact Or.inl h.lm)).andThen hg3 (fun j hj => ?_)
    cases hj
    rcases h.at' with e | ⟨g', e, h1, _⟩
    · exact Or.inr (by rw [← e]; rfl)
    · cases e; exact Or.inl h1
  · rcases hat with e | e
    · rcases h.at' with e1 | ⟨g', e1, h1, h2⟩
      · exact Or.inl (by rw [e, ← e1]; rfl)
      · cases e1; exact Or.inr ⟨_, e, h1, h2⟩
    · refine Or.inr ⟨_, e, Nat.le_trans h.gr.size (Nat.le_trans hg1.size hg2.size), ?_⟩
      have := hown.lt
      omega
theorem GrB.grown {base : Nat} {w w' : World} {bl : Nat} {F : List (List Nat)} {row : Option Nat} (h : GrB base w bl F) (hg : w.grownBy w' row) (hr : ∀ k, row = some k → base ≤ k) : GrB base w' bl F :=
  h.below ⟨hg.os, hg.tape, hg.output, hg.size, fun k hk => hg.block k (Nat.lt_of_lt_of_le hk h.le) (fun e => by have := hr k e.symm; omega)⟩
def BRel (w : World) (base bm N M0 : Nat) (F : List (List Nat)) (Z : Option (List Nat)) (ev : Value) (gk : Nat) (sv : Value) (W : World) : Prop :=
  ∃ st sn, BackS w base bm N M0 ev sv st sn W ∧ bkF F gk st sn = Z ∧ muB N N st sn < gk
def RRel (w : World) (rb bm r n : Nat) (D : DataW Unit) (ev v : Value) (W : World) : Prop :=
  ∃ (left : Lit → Bool) (cnt : Nat) (ks : List Nat), W.ranges Try.prog 3 unitElem bm r n D left cnt ∧ Nums W rb v ks ∧ CollN D left ks ∧ ks.length + cnt ≤ Maps.size D ∧ w.grownBy W ev.ownBlock ∧ rb ≤ W.heap.size
theorem ints_map (l : List Nat) : ints l = (l.map fun n : Nat => (n : Int)).map (Value.int .i64) := by simp [List.map_map]
theorem unit_invK (key : Value) (kl : Lit) (h : keyOf Try.prog 3 key = some kl) : ∃ x, key = Value.int .i64 x := by obtain ⟨x, rfl, _⟩ := Maps.keyOf_int_inv Try.underlying3 h; exact ⟨x, rfl⟩
theorem unit_invV (v : Value) (y : DataW Unit × List MemPlace) (h : unitElem v = some y) : ∃ _ : Unit, v = .agg #[] := by obtain ⟨rfl, _⟩ := unitElem_inv h; exact ⟨(), rfl⟩
def BackT (w : World) (N : Nat) (F : List (List Nat)) (K head : Nat) (ends : List Nat) (ev : Value) (W : World) (e : Ending) : Prop :=
  ∃ v sn, e = .returned v ∧ bkF F K ends [head] = some sn ∧ sn.Nodup ∧ (∀ x ∈ sn, x < N) ∧ Nums W w.heap.size v (sortN sn) ∧ w.grownBy W ev.ownBlock

set_option maxRecDepth 100000 in
set_option maxHeartbeats 1600000 in
theorem back_any (base head N bl cap M0 : Nat) (F : List (List Nat)) (ends : List Nat) (ev : Value) (hN : N ≤ 1000) (hF : F.length = N) (hrow : ∀ i, (row F i).length ≤ N) (hlt : ∀ i, ∀ x ∈ row F i, x < N) (hh : head < N) (he : ∀ x ∈ ends, x < N) (hM : muB N N ends [head] = M0) (hM0 : M0 ≤ 100000000)
    (w : World) (h : GrB base w bl F) (hn : Nums w base ev ends) :
    Calls Try.prog 45 #[I (head : Int), ev, .slice (some ⟨bl, 0, none⟩) N cap] w fun e w' => BackT w N F (M0 + 1) head ends ev w' e := by
  obtain ⟨i0, hi, hz0, hz1, hz2⟩ := info_parts info_int'
  have HI := Lib.hid (And.intro hi (And.intro hz0 (And.intro hz1 hz2)))
  have HH := Lib.hid (And.intro h (And.intro hn (And.intro hF (And.intro hrow (And.intro hlt (And.intro hh (And.intro he (And.intro hM hM0))))))))
  have hkey : keyOf Try.prog 3 (I (head : Int)) = some (.int .i64 (head : Int)) := keyOf_int_mk Try.underlying3 (int_wf (by omega))
  have HK := Lib.hid hkey
  have hmm := @run_makeMap Try.prog
  clear h hn hF hrow hlt hh he hM hM0 hi hz0 hz1 hz2 hkey
  go_enter Try.func45, Try.ntmps45
  go_wp2_with (refine wpList_insert_own (H := Unit) _ rfl _ _ _ 75 rfl 3 74 key_int Try.underlying75 unitElem w.heap.size 0 (.map []) rfl (World.ownsMap_made w Try.prog 3 unitElem) (by decide) _ _ _ rfl rfl HK.out (.agg []) [] unitElem_mk ?_)
  intro w1 hown hturn
  obtain ⟨bm, hbm⟩ : ∃ b, b = w.heap.size := ⟨_, rfl⟩
  have HREL := Lib.hid (show BRel w base bm N M0 F (bkF F (M0 + 1) ends [head]) ev (M0 + 1) ev w1 by
    rw [hbm]
    exact ⟨ends, [head], ⟨(HH.out.2.1.alloc _).kept hturn.grown (by
        cases hv : ev.ownBlock with
        | none => exact Or.inl rfl
        | some g => exact Or.inr (fun e => by cases e; have := HH.out.2.1.lt _ hv; omega)),
      ⟨_, hown, SetIs.none.put head⟩, by simp, fun x hx => by rw [List.mem_singleton.1 hx]; exact HH.out.2.2.2.2.2.1, HH.out.2.2.2.2.2.2.1, Nat.le_of_eq HH.out.2.2.2.2.2.2.2.1,
      (World.grownBy_alloc w _ _).andThen hturn.grown (fun j hj => by cases hj; exact Or.inl (Nat.le_refl _)), Or.inl rfl, Nat.le_refl _, by simp, HH.out.2.1.lt⟩, rfl, by rw [HH.out.2.2.2.2.2.2.2.1]; omega⟩)
  have HBM := Lib.hid hbm
  rw [← hbm]
  clear hbm hown hturn hmm
  go_wp2_with fail
  go_loopg [1] (M0 + 1) (fun gk sv W => BRel w base bm N M0 F (bkF F (M0 + 1) ends [head]) ev gk sv W)
  case atStart => exact HREL.out
  case round =>
    obtain ⟨st, sn, hS, hbk, hmu⟩ := hrel
    obtain ⟨k, rfl⟩ : ∃ k, gk = k + 1 := ⟨gk - 1, by omega⟩
    rcases nil_or_app st with rfl | ⟨r, n, rfl⟩
    · rw [bk_end] at hbk
      obtain ⟨sa, sc, hsv⟩ : ∃ a c, u1 = .slice a 0 c := by
        rcases own_slice hS.ns with ⟨h, _⟩ | ⟨g, cap, h⟩
        · exact ⟨_, _, h⟩
        · exact ⟨_, _, h⟩
      have HS := Lib.hid (And.intro hS (And.intro hbk hmu))
      subst hsv
      obtain ⟨D, hown, hD⟩ := hS.ms
      have hsz := hown.size_le
      have HD := Lib.hid (And.intro hD hsz)
      have hsn : sn.length ≤ N := nodup_lt hS.nd hS.nb
      obtain ⟨rb, hrb⟩ : ∃ x, x = wr.heap.size := ⟨_, rfl⟩
      have hbr : bm < rb := by rw [hrb]; exact hown.lt
      have HB := Lib.hid (And.intro hrb (And.intro hsn (show w.heap.size ≤ rb by rw [hrb]; exact hS.gr.size)))
      clear hS hbk hmu hD hsz hsn hrb
      go_wp2_with (first | (at_range; refine wpList_range_own _ rfl _ 75 rfl 3 74 key_int Try.underlying75 _ bm sn.length D rfl hown ?_; intro w0 hrg0 hg0 hs0) | go_in)
      go_frame
      rw [← HB.out.1] at hrg0 hs0
      have HR0 := Lib.hid (show RRel w rb bm rb sn.length D ev (.slice none 0 0) w0 from ⟨_, _, [], hrg0, World.ownsRow_nil _ _ _ _, CollN.start D, by simp, HS.out.1.gr.andThen hg0 (fun j hj => by cases hj), by omega⟩)
      clear hrg0 hg0 hs0 hown
      rw [← HB.out.1]
      go_loopw [11] (fun v W => RRel w rb bm rb sn.length D ev v W) (fun _ W => W.rangeLeft bm rb)
      case atStart => exact HR0.out
      case round =>
        obtain ⟨left, cnt, ks, hrg, hrow, hco, hlen, hgr, hsz⟩ := hrel
        have HC := Lib.hid (And.intro hrg (And.intro hrow (And.intro hco (And.intro hlen (And.intro hgr hsz)))))
        clear hrow hco hlen hgr hsz
        go_wp2_with (first | (at_next; refine wpList_next_ranges _ rfl _ rfl 3 key_int unitElem (Value.int .i64) (fun _ : Unit => .agg #[]) unit_invK unit_invV bm rb sn.length D left cnt rfl hrg ?_ ?_) | go_in)
        · intro hc0 hl0
          have hperm := HC.out.2.2.1.perm HD.out.1 HS.out.1.nd hl0
          have hlk : ks.length = sn.length := hperm.length_eq
          rcases HC.out.2.1.2 with ⟨hnil, hk0⟩ | ⟨g, cap', cur, hv, hbase, hb, h1, h2, h3, h4⟩
          · exact absurd (List.length_eq_zero_iff.1 (by omega)) HS.out.1.ne
          · have hH : Sort.Holds (Value.int .i64) wr g 0 (ks.map fun n : Nat => (n : Int)).toArray := holds_of_blockI hb (by rw [List.length_map, ← ints_map]; simpa using h4)
            have hgl : g < wr.heap.size := (Array.getElem?_eq_some_iff.1 hb).1
            have hsort := Try.sort_ints g 0 cap' (ks.map fun n : Nat => (n : Int)) wr hH hgl (by rw [List.length_map]; have := HB.out.2.1; omega)
            rw [List.length_map, sort_is hperm] at hsort
            have FIN := Lib.hid (show ∀ nn os, BackT w N F (M0 + 1) head ends ev (Sort.grow (Sort.putRow (Value.int .i64) (Sort.ahead wr nn) g 0 ((sortN sn).map fun n : Nat => (n : Int)).toArray) os) (.returned (.slice (some ⟨g, 0, none⟩) ks.length cap')) from fun nn os => by
              refine ⟨_, sn, rfl, HS.out.2.1.symm, HS.out.1.nd, HS.out.1.nb, ?_, ?_⟩
              · have hl2 : (sortN sn).length = ks.length := by rw [hlk]; exact (sortN_perm sn).length_eq
                have hr := ownsRow_sortedI (w := wr) (n := nn) (os := os) (ss := ks.map fun n : Nat => (n : Int)) (ts := (sortN sn).map fun n : Nat => (n : Int)) (by rw [List.length_map, List.length_map, hl2]) hbase hb (by rw [List.length_map]; exact h1) h2 h3
                rw [List.length_map, ← ints_map] at hr
                show World.ownsRow _ _ _ _ _ _ _
                rw [hl2]
                exact own_lower HB.out.2.2 hr
              · exact HC.out.2.2.2.2.1.andThen (grownBy_sortedI _) (fun j hj => by cases hj; exact Or.inl (Nat.le_trans HB.out.2.2 hbase)))
            subst hv
            have HS2 := Lib.hid (hsort.mono (R' := fun e w' => e = .returned (.tuple #[]) ∧ BackT w N F (M0 + 1) head ends ev w' (.returned (.slice (some ⟨g, 0, none⟩) ks.length cap'))) (fun e w' h => ⟨h.1, by obtain ⟨_, nn, os, rfl⟩ := h; exact FIN.out nn os⟩))
            clear hsort hH hrg hb h4 hperm hlk FIN
            go_wp2_with fail
            refine HS2.out.mono ?_
            rintro e w' ⟨rfl, hfin⟩
            have FIN := Lib.hid hfin
            clear hfin
            go_wp2_with fail
            go_ret
            exact FIN.out
        · intro x c kl y w2 cnt2 hkey hlk hv hat hrg2 hlt hg2 hs2 hen
          obtain ⟨x', ex, rfl, hwx⟩ := Maps.keyOf_int_inv Try.underlying3 hkey
          cases ex
          have hhas := Maps.has_true_of_atKey hat
          obtain ⟨n, hnm, rfl⟩ := (HD.out.1.2 x).1 hhas
          have hrow2 : Nums w2 rb u11 ks := HC.out.2.1.kept hg2 (by
            cases hob : u11.ownBlock with
            | none => exact Or.inl rfl
            | some g => exact Or.inr (fun e => row_ne_iter HC.out.2.1 HC.out.1 (by rw [hob]; exact e.symm)))
          have hm0 := HC.out.1.left_eq
          have hcs := HC.out.2.2.1.step hlk hhas
          have hsz2 : rb ≤ w2.heap.size := by rw [hs2]; exact HC.out.2.2.2.2.2
          have hgr2 := HC.out.2.2.2.2.1.andThen hg2 (fun j hj => by cases hj; exact Or.inl HB.out.2.2)
          obtain ⟨s1, m1, k1, hu⟩ : ∃ a m c, u11 = .slice a m c := by
            rcases own_slice hrow2 with ⟨h, _⟩ | ⟨g, cap, h⟩
            · exact ⟨_, _, _, h⟩
            · exact ⟨_, _, _, h⟩
          have hb1 : ks.length + 1 ≤ 2000 := by have := HC.out.2.2.2.1; have := HD.out.2; have := HB.out.2.1; omega
          have H2 := Lib.hid (And.intro hrow2 (And.intro hrg2 (And.intro hcs (And.intro hgr2 (And.intro hsz2 (And.intro hlt (And.intro hm0 hb1)))))))
          rw [hu] at H2
          subst hu
          clear hrow2 hrg2 hcs hgr2 hsz2 hlt hm0 hs2 hg2 hat hlk hkey hhas hnm hwx hrg hv hb1 HR0 HREL
          go_wp2_with (first | (at_builtin; refine Hid.out ?_) | go_in)
          unfold Hid
          refine wpList_append_own_at _ rfl _ _ 25 rfl rb 3 i0 (I 0) 1 8 Try.underlying25 HI.out.1 HI.out.2.1 HI.out.2.2.1 HI.out.2.2.2 rfl (by decide) (.slice s1 m1 k1) ks.length (ints ks) rfl (H2.out.1.alloc _) ⟨w2.heap.size, 0, none⟩ 1 1 [I (n : Int)] rfl rfl (cell_one_new _ _ _) (by simp [Value.oneCell']) (by have := H2.out.2.2.2.2.2.2.2; unfold maxLen; omega) (by have := H2.out.2.2.2.2.2.2.2; omega) (by have := H2.out.2.2.2.2.1; simp; omega) ?_
          intro v' w4 ho hg _ hat'
          have hrg4 := (H2.out.2.1.alloc (.cells #[I (n : Int)] 3)).kept hg (row_ne_low (H2.out.1.alloc (.cells #[I (n : Int)] 3)) hbr) (row_ne_iter (H2.out.1.alloc (.cells #[I (n : Int)] 3)) (H2.out.2.1.alloc (.cells #[I (n : Int)] 3)))
          have HN := Lib.hid (show RRel w rb bm rb sn.length D ev v' w4 from ⟨_, cnt2, ks ++ [n], hrg4, by
              show World.ownsRow _ _ _ _ _ _ _
              rw [List.length_append]
              simpa using ho, H2.out.2.2.1, by rw [List.length_append]; have := HC.out.2.2.2.1; have := H2.out.2.2.2.2.2.1; simp; omega,
            (H2.out.2.2.2.1.andThen (World.grownBy_alloc w2 (.cells #[I (n : Int)] 3) none) (fun j hj => by cases hj)).andThen hg (fun j hj => Or.inl (Nat.le_trans HB.out.2.2 ((H2.out.1.alloc (.cells #[I (n : Int)] 3)).lt j hj).1)), Nat.le_trans H2.out.2.2.2.2.1 (Nat.le_trans (by simp) hg.size)⟩)
          have HM := Lib.hid hrg4.left_eq
          clear ho hg hat' hrg4
          go_wp2_with fail
          go_roundw
          case rel => exact HN.out
          case measure => rw [HM.out, H2.out.2.2.2.2.2.2.1]; exact H2.out.2.2.2.2.2.1
    · have hns := hS.ns
      obtain ⟨M, hM⟩ : ∃ M, M = r.length := ⟨_, rfl⟩
      have hl1 : (r ++ [n]).length = M + 1 := by rw [List.length_append, List.length_singleton, hM]
      obtain ⟨g, sc, hsv⟩ : ∃ g c, u1 = .slice (some ⟨g, 0, none⟩) (M + 1) c := by
        rcases own_slice hns with ⟨_, h⟩ | ⟨g, cap, h⟩
        · omega
        · exact ⟨g, cap, by rw [h, hl1]⟩
      subst hsv
      have ho : wr.ownsRow base 3 1 (.slice (some ⟨g, 0, none⟩) (M + 1) sc) (M + 1) (ints r ++ [I (n : Int)]) := by
        have h1 : wr.ownsRow base 3 1 (.slice (some ⟨g, 0, none⟩) (M + 1) sc) (r ++ [n]).length (ints (r ++ [n])) := hns
        rw [hl1, show ints (r ++ [n]) = ints r ++ [I (n : Int)] by simp] at h1
        exact h1
      have hpop : wr.ownsRow base 3 1 (.slice (some ⟨g, 0, none⟩) M sc) M (ints r) := ownsRow_pop (by rw [List.length_map, hM, Nat.mul_one]) ho
      have c0 : wr.cell? ⟨g, M, none⟩ = some (I (n : Int)) := by
        rw [ho.cellAt M (by omega), List.getElem?_append_right (by rw [List.length_map, hM]; exact Nat.le_refl _)]
        simp [hM]
      have hcap : M + 1 ≤ sc := by
        rcases ho.2 with ⟨h, _⟩ | ⟨g', cap', cur, hv, _, _, h1, _⟩
        · cases h
        · cases hv; exact h1
      have hnN : n < N := hS.sb n (by simp)
      have hMb : M + 1 ≤ 100000000 := by
        have h1 := hS.mu
        unfold muB at h1
        rw [hl1] at h1
        have := HH.out.2.2.2.2.2.2.2.2
        omega
      obtain ⟨D, hown, hD⟩ := hS.ms
      have hkn : keyOf Try.prog 3 (I (n : Int)) = some (.int .i64 (n : Int)) := keyOf_int_mk Try.underlying3 (int_wf (by omega))
      have HS := Lib.hid (And.intro hS (And.intro hbk (And.intro hmu (And.intro hM (And.intro hpop (And.intro hown (And.intro hD (And.intro hkn hnN))))))))
      have e2 : (0 : Int) ≤ (M : Int) := by omega
      have e3 : (M : Int) + 1 ≤ 100000000 := by omega
      have e4 : (M : Int) + 1 ≤ (sc : Int) := by omega
      clear hS hbk hmu hM hl1 hns ho hpop hnN hMb hD hkn hown hcap HREL
      go_wp2_with (first | (at_lookup; refine Hid.out ?_) | go_in)
      unfold Hid
      refine wpList_lookup_own_unit _ rfl _ _ 75 rfl 3 74 key_int Try.underlying75 (unit_zero _) bm sn.length D rfl HS.out.2.2.2.2.2.1 _ _ rfl HS.out.2.2.2.2.2.2.2.1 ?_
      rw [HS.out.2.2.2.2.2.2.1.has n]
      by_cases hin : n ∈ sn
      · have hdec : decide (n ∈ sn) = true := by simpa using hin
        rw [hdec]
        have HIN := Lib.hid hin
        clear hdec hin
        have HN := Lib.hid (show BRel w base bm N M0 F (bkF F (M0 + 1) ends [head]) ev k (.slice (some ⟨g, 0, none⟩) M sc) (wr.alloc (.cells #[] 74)) from
          ⟨r, sn, HS.out.1.pop HS.out.2.2.2.1 HS.out.2.2.2.2.1 (World.grownBy_alloc wr _ none), by rw [← HS.out.2.1, bk_old HIN.out], by have h1 := HS.out.2.2.1; have h2 := mu_old (N := N) (R := N) (r := r) (sn := sn) (n := n); omega⟩)
        go_wp2_with fail
        go_roundg k
        case rel => exact HN.out
        case measure => omega
      · have hdec : decide (n ∈ sn) = false := by simpa using hin
        rw [hdec]
        have HIN := Lib.hid hin
        clear hdec hin
        go_wp2_with (first | (refine wpList_mapUpdate_own (H := Unit) _ rfl _ _ _ 75 rfl 3 74 key_int Try.underlying75 unitElem bm sn.length D rfl (HS.out.2.2.2.2.2.1.alloc _) (by have := nodup_lt HS.out.1.nd HS.out.1.nb; unfold maxLen; omega) _ (.agg #[]) _ rfl rfl HS.out.2.2.2.2.2.2.2.1 (.agg []) [] unitElem_mk ?_) | go_in)
        intro w2 hown2 hgr2
        have hgrow : w.grownBy w2 ev.ownBlock := (HS.out.1.gr.andThen (World.grownBy_alloc wr (.cells #[] 74) none) (fun j hj => by cases hj)).andThen hgr2 (fun j hj => by cases hj; exact Or.inl HS.out.1.lm)
        have hgb := HH.out.1.grown hgrow (fun k hk => (HS.out.1.evlt k hk).1)
        obtain ⟨rv, c1, hrv⟩ := hgb.row n (by rw [HH.out.2.2.1]; exact HS.out.2.2.2.2.2.2.2.2)
        have hp2 : w2.ownsRow base 3 1 (.slice (some ⟨g, 0, none⟩) M sc) M (ints r) := (HS.out.2.2.2.2.1.alloc (.cells #[] 74)).kept hgr2 (Or.inr (fun e => by
          have e1 : g = bm := by simpa [Value.ownBlock] using e
          rcases HS.out.1.at' with e2 | ⟨g', e2, _, h2⟩
          · have h3 := (HS.out.1.evlt g (by rw [← e2]; rfl)).2
            have h4 := HS.out.1.lm
            omega
          · cases e2
            exact h2 e1))
        have f1 : (0 : Int) ≤ (n : Int) := by omega
        have f2 : (n : Int) < (N : Int) := by have := HS.out.2.2.2.2.2.2.2.2; omega
        have hLn : (row F n).length ≤ N := HH.out.2.2.2.1 n
        have hML : M + (row F n).length ≤ 100001000 := by omega
        have H2 := Lib.hid (And.intro hown2 (And.intro hgr2 (And.intro hp2 (And.intro hLn (And.intro hML hgrow)))))
        clear hown2 hgr2 hgrow hgb hp2 hLn hML
        rcases hrv with ⟨rfl, hnil⟩ | ⟨gr, rc, rfl, hgl, hcs⟩
        · have HN := Lib.hid (show BRel w base bm N M0 F (bkF F (M0 + 1) ends [head]) ev k (.slice (some ⟨g, 0, none⟩) M sc) w2 from
            ⟨r ++ row F n, n :: sn, HS.out.1.push HS.out.2.2.2.1 (World.grownBy_alloc wr (.cells #[] 74) none) H2.out.2.1 ⟨rfl, rfl, rfl, Nat.le_refl _, fun _ _ _ => rfl⟩ H2.out.1 HS.out.2.2.2.2.2.2.1 HIN.out HS.out.2.2.2.2.2.2.2.2 (HH.out.2.2.2.2.1 n) H2.out.2.2.2.1 (by rw [hnil]; simpa using H2.out.2.2.1) (Or.inl rfl),
              by rw [← HS.out.2.1, bk_new HIN.out], by
                have h1 := HS.out.2.2.1
                have h2 := mu_new (N := N) (R := N) (r := r) (sn := sn) (n := n) (rw' := row F n) (List.nodup_cons.2 ⟨HIN.out, HS.out.1.nd⟩) (fun x hx => by
                  rcases List.mem_cons.1 hx with e | e
                  · rw [e]; exact HS.out.2.2.2.2.2.2.2.2
                  · exact HS.out.1.nb x e) H2.out.2.2.2.1
                omega⟩)
          clear hnil
          go_wp2_with (first | (at_builtin; refine Hid.out ?_) | go_in)
          unfold Hid
          refine wpList_append_own_none rfl _ _ 25 rfl base 3 i0 1 Try.underlying25 HI.out.1 (.slice (some ⟨g, 0, none⟩) M sc) M (ints r) rfl H2.out.2.2.1 rfl ?_
          go_wp2_with fail
          go_roundg k
          case rel => exact HN.out
          case measure => omega
        · have HC := Lib.hid (And.intro hgl hcs)
          obtain ⟨L, hL⟩ : ∃ L, L = (row F n).length := ⟨_, rfl⟩
          rw [← hL] at c1
          have HL := Lib.hid hL
          clear hgl hcs hL
          go_wp2_with (first | (at_builtin; refine Hid.out ?_) | go_in)
          unfold Hid
          have hsz2 : base ≤ w2.heap.size := Nat.le_trans HH.out.1.le H2.out.2.2.2.2.2.size
          refine wpList_append_own_at _ rfl _ _ 25 rfl base 3 i0 (I 0) 1 8 Try.underlying25 HI.out.1 HI.out.2.1 HI.out.2.2.1 HI.out.2.2.2 rfl (by decide) (.slice (some ⟨g, 0, none⟩) M sc) M (ints r) rfl H2.out.2.2.1 ⟨gr, 0, none⟩ L rc (ints (row F n)) rfl (by rw [List.length_map, HL.out, Nat.mul_one])
            (fun j u hj => by
              have hjl : j < (row F n).length := by have := (List.getElem?_eq_some_iff.1 hj).1; simpa using this
              have h1 := HC.out.2 j hjl
              rw [List.getElem?_map, List.getElem?_eq_getElem hjl] at hj
              have hj' : I ((row F n)[j] : Int) = u := by simpa using hj
              rw [← hj']
              rw [show (⟨gr, 0, none⟩ : Addr).add j = ⟨gr, j, none⟩ by unfold Addr.add; split <;> simp_all]
              exact h1)
            (fun u hu => by obtain ⟨x, _, rfl⟩ := List.mem_map.1 hu; rfl) (by have := H2.out.2.2.2.2.1; rw [← HL.out] at this; unfold maxLen; omega) (by have := H2.out.2.2.2.2.1; rw [← HL.out] at this; omega) hsz2 ?_
          intro v' w4 ho hg _ hat
          have HN := Lib.hid (show BRel w base bm N M0 F (bkF F (M0 + 1) ends [head]) ev k v' w4 from
            ⟨r ++ row F n, n :: sn, HS.out.1.push HS.out.2.2.2.1 (World.grownBy_alloc wr (.cells #[] 74) none) H2.out.2.1 hg H2.out.1 HS.out.2.2.2.2.2.2.1 HIN.out HS.out.2.2.2.2.2.2.2.2 (HH.out.2.2.2.2.1 n) H2.out.2.2.2.1 (by rw [← HL.out]; exact ho) hat,
              by rw [← HS.out.2.1, bk_new HIN.out], by
                have h1 := HS.out.2.2.1
                have h2 := mu_new (N := N) (R := N) (r := r) (sn := sn) (n := n) (rw' := row F n) (List.nodup_cons.2 ⟨HIN.out, HS.out.1.nd⟩) (fun x hx => by
                  rcases List.mem_cons.1 hx with e | e
                  · rw [e]; exact HS.out.2.2.2.2.2.2.2.2
                  · exact HS.out.1.nb x e) H2.out.2.2.2.1
                omega⟩)
          clear ho hg hat hsz2 c1
          go_wp2_with fail
          go_roundg k
          case rel => exact HN.out
          case measure => omega
end Go.Proofs.Ytomfmkddfgpmkaa
