/-
  The document's own Unpack, walked over what its Decode does (a hypothesis here).
-/
import Derived.Test.YtlblmnneikdpgaaDoorIbPk
namespace Go.Proofs.YtlblmnneikdpgaaDoor
open Go Go.RowKit Ib

theorem infoW : (Tryd.prog.info? 23).map (fun i => (i.zero, i.size, i.bytes)) = some (some (.agg zR), 5, 16) := by kernel_rfl
abbrev wds (l : List Wd) : List Value := (l.map encWd).flatten
theorem own_words {W : World} {base : Nat} {v : Value} {l : List Wd} (h : W.ownsRow base 23 5 v l.length (wds l)) : WordZ W v l :=
  OwnS.z wordV_stays ⟨l.map encWd, by simp, by simp [encWd], h, fun i h h' => by simp [FlatV]⟩
/-- What the document's Decode does. -/
def RDecT (q : List Nat) (w W : World) (e : Ending) : Prop := Below w.heap.size w W ∧ ((∃ x, PreW q x ∧ e = .returned (.tuple #[wV x, I ((encW x).length : Int)])) ∨ ((∀ x, ¬ PreW q x) ∧ e = .returned (.tuple #[.agg zR, I 0])))
def UnT (q : List Nat) (w W : World) (e : Ending) : Prop := Below w.heap.size w W ∧ ((∃ l : List Wd, encs l = q ∧ (∀ x ∈ l, FormW x) ∧ ∃ v, e = .returned (.tuple #[v, I 0]) ∧ W.ownsRow w.heap.size 23 5 v l.length (wds l)) ∨ ((¬ ∃ l : List Wd, encs l = q ∧ ∀ x ∈ l, FormW x) ∧ e = .returned (.tuple #[.slice none 0 0, I 3])))
theorem encs_ge (l : List Wd) (h : ∀ x ∈ l, FormW x) : l.length ≤ (encs l).length := by
  induction l with
  | nil => simp
  | cons x r ih =>
    have h1 := ih (fun y hy => h y (List.mem_cons_of_mem _ hy))
    have h2 : (encW x).length ≠ 0 := fun e => encW_ne (h x List.mem_cons_self) (List.length_eq_zero_iff.1 e)
    rw [encs_cons, List.length_append, List.length_cons]
    omega
theorem encs_app (l : List Wd) (x : Wd) : encs (l ++ [x]) = encs l ++ encW x := by unfold encs; rw [List.flatMap_append]; simp

set_option maxRecDepth 100000 in
set_option maxHeartbeats 3200000 in
theorem refUnpack_of (HD : ∀ (a : Option Addr) (n c : Nat) (q : List Nat) (w : World), Byt q → q.length ≤ 3000 → ByteZ w (.slice a n c) q → Calls Tryd.prog 21 #[.slice a n c] w fun e w' => RDecT q w w' e)
    (a : Option Addr) (n c : Nat) (q : List Nat) (hq : Byt q) (hq3 : q.length ≤ 3000) (w : World) (hp : ByteZ w (.slice a n c) q) :
    Calls Tryd.prog 27 #[.slice a n c] w fun e w' => UnT q w w' e := by
  obtain ⟨i1, p1, p2, p3, p4⟩ := info_parts infoW
  have HM := Lib.hid (And.intro p1 (And.intro p2 (And.intro p3 p4)))
  clear p1 p2 p3 p4
  have hcap := hp.cap
  obtain rfl := ByteZ.len hp
  obtain ⟨n, hn⟩ : ∃ n, n = q.length := ⟨_, rfl⟩
  rw [← hn] at hp hq3 hcap ⊢
  have HQ := Lib.hid (And.intro hp (And.intro hn hq))
  have HDD := Lib.hid HD
  clear hp hn hq HD
  have hq3' : (n : Int) ≤ 3000 := by omega
  have hcap' : (n : Int) ≤ (c : Int) := by omega
  go_enter Tryd.func27, Tryd.ntmps27
  go_wp2_with fail
  go_loopw [4, 5] (fun ov av wr => ∃ (l : List Wd) (j : Nat), j ≤ n ∧ av = I (j : Int) ∧ encs l = q.take j ∧ (∀ x ∈ l, FormW x) ∧ wr.ownsRow w.heap.size 23 5 ov l.length (wds l) ∧ Below w.heap.size w wr) (fun _ av _ => n - (intOf av).toNat)
  case atStart => exact ⟨[], 0, Nat.zero_le _, rfl, by simp [encs], by simp, ⟨rfl, Or.inl ⟨rfl, rfl⟩⟩, Below.refl _ _⟩
  case round =>
    obtain ⟨l, j, hj, rfl, he, hf, hown, hb⟩ := hrel
    have hll : l.length ≤ j := by
      have h1 := encs_ge l hf
      rw [he] at h1
      have h2 := HQ.out.2.1
      simp at h1
      omega
    obtain ⟨a0, c0, hv⟩ : ∃ a c, u4 = .slice a l.length c := by
      rcases own_slice hown with ⟨e, e2⟩ | ⟨g, c, e⟩
      · exact ⟨none, 0, by rw [e, e2]⟩
      · exact ⟨_, _, e⟩
    subst hv
    obtain ⟨K, hK⟩ : ∃ K, K = l.length := ⟨_, rfl⟩
    rw [← hK] at hown hll ⊢
    by_cases hlt : j < n
    · have hpw := HQ.out.1.below byteV_stays hb
      cases a with
      | none =>
        have h1 := ByteZ.none HQ.out.1
        have h2 := HQ.out.2.1
        rw [h1] at h2
        simp at h2
        omega
      | some b =>
        have hd := ByteZ.drop hpw j (by have := HQ.out.2.1; omega)
        have hbd : Byt (q.drop j) := fun z hz => HQ.out.2.2 z (List.mem_of_mem_drop hz)
        have hdl : (q.drop j).length ≤ 3000 := by have := HQ.out.2.1; simp; omega
        have HC := Lib.hid (HDD.out _ _ _ (q.drop j) wr hbd hdl hd)
        have HX := Lib.hid (And.intro he (And.intro hf (And.intro hown (And.intro hb (And.intro hK (And.intro hlt hll))))))
        have d0 : decide (j < n) = true := by simpa using hlt
        have d1 : (0 : Int) ≤ (j : Int) := by omega
        have d2 : (j : Int) ≤ (n : Int) := by omega
        have d3 : (j : Int) ≤ (c : Int) := by omega
        have d4 : ¬ c = j := by omega
        clear he hf hown hb hK hpw hd hbd hdl hlt hll
        go_wp2_with fail
        refine HC.out.mono ?_
        rintro e w2 ⟨hb2, hor⟩
        have hown2 := own_below HX.out.2.2.1 hb2
        have hbw := below_tr HX.out.2.2.2.1 hb2
        rcases hor with ⟨x, hpx, rfl⟩ | ⟨hno, rfl⟩
        · have hM1 : (encW x).length ≠ 0 := fun e => encW_ne hpx.1 (List.length_eq_zero_iff.1 e)
          have hM2 := hpx.2.length_le
          have htk : q.take (j + (encW x).length) = q.take j ++ encW x := by
            obtain ⟨t, ht⟩ := hpx.2
            rw [List.take_add, ← ht, List.take_left]
          have hdl : (q.drop j).length = n - j := by rw [List.length_drop, HQ.out.2.1]
          have hfx := hpx.1
          obtain ⟨xo, xa, xb, xc, xi⟩ := x
          obtain ⟨M, hM⟩ : ∃ M, M = (encW ⟨xo, xa, xb, xc, xi⟩).length := ⟨_, rfl⟩
          rw [← hM] at hM1 hM2 htk ⊢
          rw [hdl] at hM2
          have hjm : j + M ≤ n := by have := HX.out.2.2.2.2.2.1; omega
          have H2 := Lib.hid (And.intro hown2 (And.intro hbw (And.intro hfx (And.intro htk (And.intro hjm hM1)))))
          have g1 : ((M : Int) == 0) = false := by simp; omega
          have g2 : decide ((262144 : Int) ≤ (K : Int)) = false := by have := HX.out.2.2.2.2.2.2; simp; omega
          have g2' : ((K : Int) ≤ 3000) := by have := HX.out.2.2.2.2.2.2; omega
          have GG := Lib.hid g2'
          clear g2'
          have g3 : (0 : Int) ≤ (M : Int) := by omega
          have g4 : (j : Int) + (M : Int) ≤ (n : Int) := by omega
          clear hb2 hown2 hbw hpx hM1 hM2 htk hdl hfx hM hjm
          go_upto_region 9 with (fail)
          go_wp2_with (at_builtin; refine Hid.out ?_)
          unfold Hid
          have hb4 : Below w.heap.size w ((w2.alloc (.cells (wB ⟨xo, xa, xb, xc, xi⟩) 23)).alloc (.cells (wB ⟨xo, xa, xb, xc, xi⟩) 23)) := (H2.out.2.1.alloc H2.out.2.1.size _).alloc (by have := H2.out.2.1.size; simp; omega) _
          refine wpList_append_lies _ rfl (.tmp 24) (.tmp 26) 40 rfl w.heap.size 23 i1 (.agg zR) 5 16 Tryd.underlying40 HM.out.1 HM.out.2.1 HM.out.2.2.1 HM.out.2.2.2 rfl (by decide) (.slice a0 K c0) K (wds l) rfl ((H2.out.1.alloc _).alloc _) ⟨w2.heap.size + 1, 0, none⟩ 1 1 (encWd ⟨xo, xa, xb, xc, xi⟩) rfl rfl (World.news_of_block (cs := wB ⟨xo, xa, xb, xc, xi⟩) (t := 23) (fr := (0, 0)) (Blk.new' (b := w2.heap.size + 1) (w2.alloc (.cells (wB ⟨xo, xa, xb, xc, xi⟩) 23)) (wB ⟨xo, xa, xb, xc, xi⟩) 23 (by simp))) (by simp [encWd, Value.oneCell']) (by decide) (by have := GG.out; unfold maxLen; omega) (by have := GG.out; omega) hb4.size _ rfl ?_
          intro g cg w4 hown4 hgr4 hat4 hlt4
          have HN := Lib.hid (show ∃ (l : List Wd) (k : Nat), k ≤ n ∧ I ((j : Int) + (M : Int)) = I (k : Int) ∧ encs l = q.take k ∧ (∀ x ∈ l, FormW x) ∧ w4.ownsRow w.heap.size 23 5 (.slice (some ⟨g, 0, none⟩) (K + 1) cg) l.length (wds l) ∧ Below w.heap.size w w4 from
            ⟨l ++ [⟨xo, xa, xb, xc, xi⟩], j + M, H2.out.2.2.2.2.1, rfl, by rw [encs_app, HX.out.1, H2.out.2.2.2.1], (fun y hy => by
              rcases List.mem_append.1 hy with h | h
              · exact HX.out.2.1 y h
              · rw [List.mem_singleton.1 h]; exact H2.out.2.2.1), by
              rw [show wds (l ++ [⟨xo, xa, xb, xc, xi⟩]) = wds l ++ encWd ⟨xo, xa, xb, xc, xi⟩ from by unfold wds; rw [List.map_append, List.flatten_append]; simp, show (l ++ [(⟨xo, xa, xb, xc, xi⟩ : Wd)]).length = K + 1 from by rw [HX.out.2.2.2.2.1]; simp]
              exact hown4, hb4.grown hgr4 hb4.size (fun k hk => (H2.out.1.lt k hk).1)⟩)
          have HL := Lib.hid (And.intro H2.out.2.2.2.2.1 H2.out.2.2.2.2.2)
          clear hown4 hgr4 hat4 hlt4 hb4
          go_wp2_with fail
          exact ⟨HN.out, by have := HL.out; simp [intOf]; omega⟩
        · have FIN := Lib.hid (show ∀ o, UnT q w (w2.alloc o) (.returned (.tuple #[.slice none 0 0, I 3])) from fun o => ⟨hbw.alloc hbw.size o, Or.inr ⟨(fun ⟨l', h1, h2⟩ => by
            obtain ⟨x, hx⟩ := pre_of_encs l l' (q.drop j) HX.out.2.1 h2 (by rw [h1, HX.out.1, List.take_append_drop]) (fun e => by
              have h3 := congrArg List.length e
              have h4 := HQ.out.2.1
              have h5 := HX.out.2.2.2.2.2.1
              simp at h3
              omega)
            exact hno x hx), rfl⟩⟩)
          clear hb2 hown2 hbw hno
          go_wp2_with fail
          go_ret2
          exact FIN.out _
    · have d0 : decide (j < n) = false := by simpa using hlt
      have FIN := Lib.hid (show UnT q w wr (.returned (.tuple #[.slice a0 K c0, I 0])) from ⟨hb, Or.inl ⟨l, by rw [he]; exact List.take_of_length_le (by have := HQ.out.2.1; omega), hf, _, rfl, by rw [← hK]; exact hown⟩⟩)
      clear hf hown hb hlt he hj hK hll
      go_wp2_with fail
      go_ret2
      exact FIN.out
end Go.Proofs.YtlblmnneikdpgaaDoor
