/-
  inst.Unpack, walked.
-/
import Derived.Test.YtlblmnneikdpgaaDoorIbUn
import Derived.Test.YtlblmnneikdpgaaDoorIbF
namespace Go.Proofs.YtlblmnneikdpgaaDoor
open Go Go.RowKit Ib

/-- What Unpack answers. -/
def UnP (q : List Nat) (w W : World) (e : Ending) : Prop := Below w.heap.size w W ∧ ((∃ l : List Wd, encs l = q ∧ (∀ x ∈ l, FormW x) ∧ l.length ≤ 262144 ∧ ∃ v, e = .returned (.tuple #[v, I 0]) ∧ WordZ W v l) ∨
  ((∀ l : List Wd, encs l = q → (∀ x ∈ l, FormW x) → False) ∧ e = .returned (.tuple #[.slice none 0 0, I 3])) ∨
  ((∃ (l : List Wd) (r : List Nat), encs l ++ r = q ∧ (∀ x ∈ l, FormW x) ∧ l.length = 262144 ∧ r ≠ []) ∧ e = .returned (.tuple #[.slice none 0 0, I 2])))
theorem own_keep {W W' : World} {base : Nat} {t : TypeId} {s : Nat} {v : Value} {n : Nat} {xs : List Value} (h : W.ownsRow base t s v n xs) (hk : ∀ k, v.ownBlock = some k → W'.heap[k]? = W.heap[k]?) : W'.ownsRow base t s v n xs := by
  obtain ⟨h1, h2 | ⟨g, cap, cur, rfl, h3, h4, h5⟩⟩ := h
  · exact ⟨h1, Or.inl h2⟩
  · exact ⟨h1, Or.inr ⟨g, cap, cur, rfl, h3, (hk g rfl).trans h4, h5⟩⟩
/-- Where a reader of instructions stands. -/
structure UpR (w : World) (base br bk : Nat) (q : List Nat) (l : List Wd) (r : List Nat) (ov : Value) (W : World) : Prop where
  en : encs l ++ r = q
  fm : ∀ x ∈ l, FormW x
  sm : l.length ≤ 262144
  own : W.ownsRow base 23 5 ov l.length (wds l)
  rd : RdV (LtW w) br r W
  be : Below w.heap.size w W
  bk : Blk bk (rkC br) 74 W
  sz : base ≤ W.heap.size
def lenU : Value → Nat
  | .slice _ n _ => n
  | _ => 0

set_option maxRecDepth 100000 in
set_option maxHeartbeats 3200000 in
theorem unpack_any (aM aW : Addr) (a : Option Addr) (n c : Nat) (q : List Nat) (hq : Byt q) (w : World) (hp : ByteZ w (.slice a n c) q) (hs : Sen aM aW w) :
    Calls Tryd.prog 26 #[.slice a n c] w fun e w' => UnP q w w' e := by
  obtain ⟨i1, p1, p2, p3, p4⟩ := info_parts infoW
  have HM := Lib.hid (And.intro p1 (And.intro p2 (And.intro p3 p4)))
  clear p1 p2 p3 p4
  obtain ⟨W1, hW1⟩ : ∃ W, W = w.alloc (.cells #[.slice a n c] 88) := ⟨_, rfl⟩
  obtain ⟨br, hbr⟩ : ∃ b, b = w.heap.size := ⟨_, rfl⟩
  have hB1 : Below w.heap.size w W1 := by rw [hW1]; exact (Below.refl _ _).alloc (Nat.le_refl _) _
  have kr : Blk br #[.slice a n c] 88 W1 := by rw [hW1, hbr]; exact Blk.new _ _ _
  have hrd : RdV (LtW w) br q W1 := ⟨_, kr, hp.keep byteV_stays (fun k hk => hB1.block k hk) (fun _ h => h), by unfold LtW; omega⟩
  have HWK := Lib.hid (walk_q br W1)
  have H1 := Lib.hid (And.intro hB1 (And.intro hs (And.intro hrd hq)))
  have HW1 := Lib.hid (And.intro hW1 hbr)
  clear hp hs hq hW1 hbr hB1 kr hrd
  have hst := stFn
  go_enter Tryd.func26, Tryd.ntmps26
  go_upto_region 2 with (fail)
  rw [← HW1.out.2]
  change Code.wp _ _ _ _ (w.alloc (.cells #[.slice a n c] 88))
  rw [← HW1.out.1]
  go_wp2_with fail
  refine HWK.out.mono ?_
  rintro e w2 ⟨rfl, hb2⟩
  obtain ⟨W2, hW2⟩ : ∃ W, W = w2.alloc (.cells (rkC br) 74) := ⟨_, rfl⟩
  obtain ⟨bk, hbk⟩ : ∃ b, b = w2.heap.size := ⟨_, rfl⟩
  have hB2 : Below W1.heap.size W1 W2 := by rw [hW2]; exact hb2.alloc hb2.size _
  have kk : Blk bk (rkC br) 74 W2 := by rw [hW2, hbk]; exact Blk.new _ _ _
  have hb02 := below_tr H1.out.1 hB2
  have H2 := Lib.hid (show UpR w W2.heap.size br bk q [] q (.slice none 0 0) W2 from ⟨rfl, by simp, by simp, ⟨rfl, Or.inl ⟨rfl, rfl⟩⟩, H1.out.2.2.1.below (fun k hk => Nat.lt_of_lt_of_le hk H1.out.1.size) hB2, hb02, kk, Nat.le_refl _⟩)
  have hlt : br < bk ∧ bk < W2.heap.size ∧ w.heap.size ≤ br := ⟨by rw [hbk]; have := H1.out.2.2.1.lt; have := hb2.size; omega, kk.lt, by rw [HW1.out.2]; exact Nat.le_refl _⟩
  have HLT := Lib.hid hlt
  have HW2 := Lib.hid (And.intro hW2 hbk)
  clear hb2 hW2 hbk hB2 kk hb02 hlt HWK
  go_upto_region 3 with (fail)
  rw [← HW2.out.2]
  change Code.wp _ _ _ _ (w2.alloc (.cells (rkC br) 74))
  rw [← HW2.out.1]
  go_wp2_with fail
  go_loopw [6] (fun ov W => ∃ (l : List Wd) (r : List Nat), UpR w W2.heap.size br bk q l r ov W) (fun ov _ => 262145 - lenU ov)
  case atStart => exact ⟨[], q, H2.out⟩
  case round =>
    obtain ⟨l, r, hR⟩ := hrel
    obtain ⟨v, kr, hv, hnS⟩ := hR.rd
    obtain ⟨va, vc, rfl⟩ := hv.size
    have c0 := kr.get 0 (.slice va r.length vc) rfl
    obtain ⟨a0, c0', hov⟩ : ∃ a c, u6 = .slice a l.length c := by
      rcases own_slice hR.own with ⟨e, e2⟩ | ⟨g, c, e⟩
      · exact ⟨none, 0, by rw [e, e2]⟩
      · exact ⟨_, _, e⟩
    subst hov
    have HR := Lib.hid hR
    obtain ⟨K, hK⟩ : ∃ K, K = l.length := ⟨_, rfl⟩
    obtain ⟨R, hRl⟩ : ∃ R, R = r.length := ⟨_, rfl⟩
    rw [← hRl] at c0
    rw [← hK]
    have hK2 : K ≤ 262144 := by rw [hK]; exact HR.out.sm
    have e0 : (0 : Int) ≤ (K : Int) := by omega
    have e1 : (K : Int) ≤ 262144 := by omega
    by_cases hr0 : R = 0
    · have d0 : decide (0 < R) = false := by simp; omega
      have hrn : r = [] := List.length_eq_zero_iff.1 (by omega)
      have FIN := Lib.hid (show UnP q w wr (.returned (.tuple #[.slice a0 K c0', I 0])) from ⟨HR.out.be, Or.inl ⟨l, by have h := HR.out.en; rw [hrn, List.append_nil] at h; exact h, HR.out.fm, HR.out.sm, _, rfl, by rw [hK]; exact own_words HR.out.own⟩⟩)
      clear hR kr hv hnS hK hK2 hr0 hrn hRl
      go_wp2_with fail
      go_ret2
      exact FIN.out
    · have d0 : decide (0 < R) = true := by simp; omega
      have hsr := H1.out.2.1.below HR.out.be (fun k hk => H1.out.2.1.lts k hk)
      obtain ⟨A1, hA1⟩ : ∃ W, W = wr.alloc (.cells #[I ((K : Int) + 1)] 3) := ⟨_, rfl⟩
      obtain ⟨bn, hbn⟩ : ∃ b, b = wr.heap.size := ⟨_, rfl⟩
      have hbA : Below wr.heap.size wr A1 := by rw [hA1]; exact (Below.refl _ _).alloc (Nat.le_refl _) _
      have kn : Blk bn #[I ((K : Int) + 1)] 3 A1 := by rw [hA1, hbn]; exact Blk.new _ _ _
      have hsA := hsr.below hbA (fun k hk => hsr.lts k hk)
      have HF := Lib.hid (fits_any aM aW bn 0 ((K : Int) + 1) A1 hsA (kn.get 0 _ rfl))
      have HA := Lib.hid (And.intro hbA (And.intro hsA (And.intro hr0 (And.intro hK (And.intro hRl hK2)))))
      have HA1 := Lib.hid (And.intro hA1 hbn)
      clear hR kr hv hnS hsr hA1 hbn hbA kn hsA hK hRl hK2 hr0
      go_upto_region 6 with (fail)
      rw [← HA1.out.2]
      change Code.wp _ _ _ _ (wr.alloc (.cells #[I ((K : Int) + 1)] 3))
      rw [← HA1.out.1]
      clear c0
      go_wp2_with fail
      refine HF.out.mono ?_
      rintro e w3 ⟨rfl, rfl⟩
      by_cases hbig : (262144 : Int) < (K : Int) + 1
      · rw [if_pos hbig]
        have HN := Lib.hid (errno_many A1 HA.out.2.1)
        have FIN := Lib.hid (show UnP q w A1 (.returned (.tuple #[.slice none 0 0, I 2])) from ⟨below_tr HR.out.be HA.out.1, Or.inr (Or.inr ⟨⟨l, r, HR.out.en, HR.out.fm, by have := HA.out.2.2.2.1; have := HR.out.sm; omega, fun e => HA.out.2.2.1 (by have h := HA.out.2.2.2.2.1; rw [e] at h; simpa using h)⟩, rfl⟩)⟩)
        clear hbig HF
        go_wp2_with fail
        refine HN.out.mono ?_
        rintro e w4 ⟨rfl, rfl⟩
        go_wp2_with fail
        go_ret2
        exact FIN.out
      · rw [if_neg hbig]
        have HSM := Lib.hid (show K + 1 ≤ 262144 by omega)
        obtain ⟨A2, hA2⟩ : ∃ W, W = A1.alloc (.cells zC 23) := ⟨_, rfl⟩
        obtain ⟨bx, hbx⟩ : ∃ b, b = A1.heap.size := ⟨_, rfl⟩
        have hb2 : Below wr.heap.size wr A2 := by rw [hA2]; exact HA.out.1.alloc HA.out.1.size _
        have kx : Blk bx zC 23 A2 := by rw [hA2, hbx]; exact Blk.new _ _ _
        have hbx1 : wr.heap.size ≤ bx := by rw [hbx]; exact HA.out.1.size
        have hwsz : ∀ k, LtW w k → k < wr.heap.size := fun k hk => Nat.lt_of_lt_of_le hk HR.out.be.size
        have hrd2 := HR.out.rd.below hwsz hb2
        have hs2 : Sen aM aW A2 := H1.out.2.1.below (below_tr HR.out.be hb2) (fun k hk => H1.out.2.1.lts k hk)
        have hqr : Byt r := fun z hz => H1.out.2.2.2 z (by rw [← HR.out.en]; exact List.mem_append_right _ hz)
        have hWsz := HR.out.sz
        have HC := Lib.hid (word_q (LtW w) aM aW br bx r hqr A2 ⟨hrd2, kx⟩ (fun k hk => Nat.lt_of_lt_of_le (hwsz k hk) hb2.size) hs2 (fun k hk => by have := H1.out.2.1.lts k hk; have := HLT.out.2.2; omega) (fun k hk => by have := H1.out.2.1.lts k hk; have := HR.out.be.size; omega) (by have := HLT.out; omega) (by unfold LtW; have := HR.out.be.size; omega))
        have kk2 := HR.out.bk.below hb2 HR.out.bk.lt
        have y0 := kk2.get 0 _ rfl
        have y1 := kk2.get 1 _ rfl
        have y2 := kk2.get 2 _ rfl
        have HX := Lib.hid (And.intro hb2 (And.intro kk2 (And.intro hbx1 hs2)))
        have HA2 := Lib.hid (And.intro hA2 hbx)
        clear hbig HF hA2 hbx hb2 kx hbx1 hwsz hrd2 hs2 hqr hWsz kk2
        go_upto_region 10 with (fail)
        rw [← HA2.out.2]
        change Code.wp _ _ _ _ (A1.alloc (.cells zC 23))
        rw [← HA2.out.1]
        go_wp2_with fail
        refine HC.out.mono ?_
        rintro e w4 ⟨hf4, hor⟩
        have hb4 : Below w.heap.size w w4 := (below_tr HR.out.be HX.out.1).trans ⟨hf4.os, hf4.tape, hf4.output, hf4.size, fun k hk => hf4.block k (by have := HR.out.be.size; have := HX.out.1.size; omega) (by have := HLT.out; omega) (by have := HX.out.2.2.1; have := HR.out.be.size; omega)⟩
        have hs4 : Sen aM aW w4 := H1.out.2.1.below hb4 (fun k hk => H1.out.2.1.lts k hk)
        rcases hor with ⟨x, hpx, rfl, hr4⟩ | ⟨hno, rfl⟩
        · have hfx := hpx.1
          have hrr : r = encW x ++ r.drop (encW x).length := by
            obtain ⟨t, ht⟩ := hpx.2
            rw [← ht, List.drop_left]
          have hkk4 : Blk bk (rkC br) 74 w4 := hf4.blk HX.out.2.1 (by have := HLT.out; omega) (by have := HX.out.2.2.1; have := HR.out.bk.lt; omega)
          have hown4 : w4.ownsRow W2.heap.size 23 5 (.slice a0 l.length c0') l.length (wds l) := own_keep HR.out.own (fun k hk => by
            have h1 := HR.out.own.lt k hk
            have h2 := HLT.out
            have h3 := HX.out.2.2.1
            exact (hf4.block k (by have := HX.out.1.size; omega) (by omega) (by omega)).trans (HX.out.1.block k h1.2))
          rw [← HA.out.2.2.2.1] at hown4
          obtain ⟨r', hr'⟩ : ∃ r', r' = r.drop (encW x).length := ⟨_, rfl⟩
          rw [← hr'] at hrr hr4
          obtain ⟨xo, xa, xb, xc, xi⟩ := x
          obtain ⟨x0, x1, x2, x3, x4⟩ := fv_of hr4.tg
          have H4 := Lib.hid (And.intro hb4 (And.intro hfx (And.intro hrr (And.intro hkk4 (And.intro hown4 (And.intro hr4.rd hs4))))))
          have hsz4 : W2.heap.size ≤ w4.heap.size := by have := HR.out.sz; have := HX.out.1.size; have := hf4.size; omega
          have HSZ := Lib.hid hsz4
          clear hf4 hb4 hs4 hpx hfx hrr hkk4 hown4 hr' hr4 hsz4 y0 y1 y2 HC
          go_wp2_with (at_builtin; refine Hid.out ?_)
          unfold Hid
          refine wpList_append_lies _ rfl (.tmp 32) (.tmp 34) 40 rfl W2.heap.size 23 i1 (.agg zR) 5 16 Tryd.underlying40 HM.out.1 HM.out.2.1 HM.out.2.2.1 HM.out.2.2.2 rfl (by decide) (.slice a0 K c0') K (wds l) rfl (H4.out.2.2.2.2.1.alloc _) ⟨w4.heap.size, 0, none⟩ 1 1 (encWd ⟨xo, xa, xb, xc, xi⟩) rfl rfl (World.news_of_block (cs := wB ⟨xo, xa, xb, xc, xi⟩) (t := 23) (fr := (0, 0)) (Blk.new w4 (wB ⟨xo, xa, xb, xc, xi⟩) 23)) (by simp [encWd, Value.oneCell']) (by decide) (by have := HSM.out; unfold maxLen; omega) (by have := HSM.out; omega) (by simp; have := HSZ.out; omega) _ rfl ?_
          intro g cg w6 hown6 hgr6 hat6 hlt6
          have hfar : ∀ k, k < w4.heap.size → k < W2.heap.size → w6.heap[k]? = w4.heap[k]? := fun k h1 h2 => by
            refine (hgr6.block k (by simp; omega) (fun e => ?_)).trans (heap_alloc_old _ _ h1)
            have h3 := (H4.out.2.2.2.2.1.lt k e.symm).1
            omega
          have HN := Lib.hid (show ∃ (l : List Wd) (r : List Nat), UpR w W2.heap.size br bk q l r (.slice (some ⟨g, 0, none⟩) (K + 1) cg) w6 from
            ⟨l ++ [⟨xo, xa, xb, xc, xi⟩], r', by rw [encs_app, List.append_assoc, ← H4.out.2.2.1]; exact HR.out.en, (fun y hy => by
              rcases List.mem_append.1 hy with h | h
              · exact HR.out.fm y h
              · rw [List.mem_singleton.1 h]; exact H4.out.2.1), by rw [List.length_append, ← HA.out.2.2.2.1]; exact HSM.out, by
              rw [show wds (l ++ [⟨xo, xa, xb, xc, xi⟩]) = wds l ++ encWd ⟨xo, xa, xb, xc, xi⟩ from by unfold wds; rw [List.map_append, List.flatten_append]; simp, show (l ++ [(⟨xo, xa, xb, xc, xi⟩ : Wd)]).length = K + 1 from by rw [HA.out.2.2.2.1]; simp]
              exact hown6, H4.out.2.2.2.2.2.1.keep (fun k hk => hfar k (by rcases hk with hk | rfl; exact Nat.lt_of_lt_of_le hk H4.out.1.size; exact H4.out.2.2.2.2.2.1.lt) (by rcases hk with hk | rfl; (have := HLT.out; unfold LtW at hk; omega); (have := HLT.out; omega))),
              (H4.out.1.alloc H4.out.1.size _).grown hgr6 (H4.out.1.alloc H4.out.1.size _).size (fun k hk => by have := (H4.out.2.2.2.2.1.lt k hk).1; have := HLT.out; omega),
              (hfar bk H4.out.2.2.2.1.lt HLT.out.2.1).trans H4.out.2.2.2.1, by have h8 := hgr6.size; have h9 := HSZ.out; simp at h8; omega⟩)
          have HL := Lib.hid HSM.out
          clear hown6 hgr6 hat6 hlt6 hfar x0 x1 x2 x3 x4
          go_wp2_with fail
          exact ⟨HN.out, by have := HL.out; show 262145 - (K + 1) < 262145 - K; omega⟩
        · have HN := Lib.hid (errno_wrong w4 hs4)
          have FIN := Lib.hid (show UnP q w w4 (.returned (.tuple #[.slice none 0 0, I 3])) from ⟨hb4, Or.inr (Or.inl ⟨(fun l' h1 h2 => by
            obtain ⟨x, hx⟩ := pre_of_encs l l' r HR.out.fm h2 (by rw [h1, HR.out.en]) (fun e => HA.out.2.2.1 (by have h := HA.out.2.2.2.2.1; rw [e] at h; simpa using h))
            exact hno x hx), rfl⟩)⟩)
          clear hf4 hb4 hs4 hno y0 y1 y2 HC
          go_wp2_with fail
          refine HN.out.mono ?_
          rintro e w5 ⟨rfl, rfl⟩
          go_wp2_with fail
          go_ret2
          exact FIN.out
end Go.Proofs.YtlblmnneikdpgaaDoor
