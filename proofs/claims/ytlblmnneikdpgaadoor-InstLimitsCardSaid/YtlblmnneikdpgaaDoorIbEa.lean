/-
  packed.Each over instructions that are written, walked.
-/
import Derived.Test.YtlblmnneikdpgaaDoorIbPk
import Derived.Test.YtlblmnneikdpgaaDoorIbC
namespace Go.Proofs.YtlblmnneikdpgaaDoor
open Go Go.RowKit Ib

/-- An instruction of a list, as a writer meets it. -/
theorem wdc_at {S : Nat → Prop} {W : World} {a : Option Addr} {n c : Nat} {l : List Wd} (h : SlS S 5 WordV W (.slice a n c) l) (i : Nat) (hi : i < l.length) :
    ∃ bb bo, a = some ⟨bb, bo, none⟩ ∧ S bb ∧ WdC bb (bo + i * 5) l[i] W ∧ (⟨bb, bo, none⟩ : Addr).add (i * 5) = ⟨bb, bo + i * 5, none⟩ := by
  obtain ⟨b, vs, ra, gl, r0, e0⟩ := h.at i hi
  obtain ⟨b', vs', ra', gl', r0', e0'⟩ := h.at 0 (by omega)
  obtain ⟨bb, bo, spot⟩ := b
  subst ra
  cases ra'
  subst e0 e0'
  have hspot : spot = none := by
    have h1 := r0'.f0
    rw [Nat.zero_mul, add0] at h1
    simpa using World.cell?_spot h1
  subst hspot
  have hadd : (⟨bb, bo, none⟩ : Addr).add (i * 5) = ⟨bb, bo + i * 5, none⟩ := by simp [Addr.add]; try omega
  refine ⟨bb, bo, rfl, gl, ?_, hadd⟩
  have h0 := r0.f0
  have h1 := r0.f1
  have h2 := r0.f2
  have h3 := r0.f3
  have h4 := r0.f4
  rw [hadd] at h0 h1 h2 h3 h4
  exact ⟨h0, h1, h2, h3, h4⟩

/-- What Each leaves of instructions that are written. -/
def EaT (bt : Nat) (aM aW : Addr) (l : List Wd) (w W : World) (e : Ending) : Prop := Below bt w W ∧ ((262144 < l.length ∧ e = .returned (eV aM)) ∨ (l.length ≤ 262144 ∧ (∀ x ∈ l, FormW x) ∧ e = .returned .nilIface ∧ ∃ v', Wt bt bt v' (encs l) W) ∨ (l.length ≤ 262144 ∧ ¬ (∀ x ∈ l, FormW x) ∧ e = .returned (eV aW)))

set_option maxRecDepth 100000 in
set_option maxHeartbeats 3200000 in
theorem each_w (bt bl : Nat) (aM aW : Addr) (u : Value) (l : List Wd) (hl : l.length ≤ 300000) (hw : ∀ x ∈ l, WfW x) (w : World) (h : Wt bt bt (.slice none 0 0) [] w) (hs : Sen aM aW w) (hsb : SenB aM aW bt) (hb : Blk bl #[u] 40 w) (hbl : bl < bt) (hz : SlS (fun k => k < bt) 5 WordV w u l) :
    Calls Tryd.prog 45 #[.pointer (some ⟨bl, 0, none⟩), .func (.func 46) #[] #[], .func (.func 39) #[wkW bt] #[]] w fun e w' => EaT bt aM aW l w w' e := by
  obtain ⟨a, c, rfl⟩ := hz.size
  have hcap := hz.cap
  obtain ⟨n, hn⟩ : ∃ n, n = l.length := ⟨_, rfl⟩
  rw [← hn] at hl hb hz hcap
  have hbt := h.blk.lt
  have c0 := hb.get 0 (.slice a n c) rfl
  obtain ⟨W1, hW1⟩ : ∃ W, W = w.alloc (.cells #[I (n : Int)] 3) := ⟨_, rfl⟩
  obtain ⟨bn, hbn⟩ : ∃ b, b = w.heap.size := ⟨_, rfl⟩
  have hB1 : Below w.heap.size w W1 := by rw [hW1]; exact (Below.refl _ _).alloc (Nat.le_refl _) _
  have kn : Blk bn #[I (n : Int)] 3 W1 := by rw [hW1, hbn]; exact Blk.new _ _ _
  have hs1 := hs.below hB1 (fun k hk => hs.lts k hk)
  have HF := Lib.hid (fits_any aM aW bn 0 (n : Int) W1 hs1 (kn.get 0 _ rfl))
  have hBt : Below bt w W1 := ⟨hB1.os, hB1.tape, hB1.output, hB1.size, fun k hk => hB1.block k (by omega)⟩
  have H0 := Lib.hid (And.intro (h.below hB1) (And.intro hs (And.intro hsb (And.intro hb (And.intro hbl (And.intro hz (And.intro hn (And.intro hw hcap))))))))
  have H1 := Lib.hid (And.intro hBt kn)
  have HW1 := Lib.hid (And.intro hW1 hbn)
  have hn3 : (n : Int) ≤ 300000 := by omega
  have hnc : (n : Int) ≤ (c : Int) := by omega
  clear h hs hsb hb hbl hz hn hw hW1 hbn hB1 kn hs1 hBt hcap hl hbt
  go_enter Tryd.func45, Tryd.ntmps45
  go_upto_region 2 with (fail)
  rw [← HW1.out.2]
  change Code.wp _ _ _ _ (w.alloc (.cells #[I (n : Int)] 3))
  rw [← HW1.out.1]
  clear c0
  go_wp2_with fail
  refine HF.out.mono ?_
  rintro e w2 ⟨rfl, rfl⟩
  by_cases hbig : (262144 : Int) < (n : Int)
  · rw [if_pos hbig]
    have FIN := Lib.hid (show EaT bt aM aW l w W1 (.returned (eV aM)) from ⟨H1.out.1, Or.inl ⟨by have := H0.out.2.2.2.2.2.2.1; omega, rfl⟩⟩)
    clear hbig HF
    go_wp2_with fail
    go_ret
    exact FIN.out
  · rw [if_neg hbig]
    have hsm : l.length ≤ 262144 := by have := H0.out.2.2.2.2.2.2.1; omega
    have HSM := Lib.hid hsm
    have z0 := H1.out.2.get 0 (I (n : Int)) rfl
    clear hbig hsm HF
    go_wp2_with fail
    go_loopw [22] (fun iv W => ∃ (i : Nat) (v' : Value), i ≤ n ∧ iv = I (i : Int) ∧ (∀ x ∈ l.take i, FormW x) ∧ Wt bt bt v' (encs (l.take i)) W ∧ Below bt w W) (fun iv _ => n - (intOf iv).toNat)
    case atStart => exact ⟨0, .slice none 0 0, Nat.zero_le _, rfl, by simp, H0.out.1, H1.out.1⟩
    case round =>
      obtain ⟨i, v', hi, rfl, hf, hwt, hbw⟩ := hrel
      clear z0
      by_cases hlt : i < n
      · have hil : i < l.length := by have := H0.out.2.2.2.2.2.2.1; omega
        obtain ⟨bb, bo, ea, hbb, hwd, hadd⟩ := wdc_at H0.out.2.2.2.2.2.1 i hil
        subst ea
        obtain ⟨x, hx⟩ : ∃ x, x = l[i] := ⟨_, rfl⟩
        have hx' : l[i]? = some x := by rw [hx]; exact List.getElem?_eq_getElem hil
        have hwx : WfW x := H0.out.2.2.2.2.2.2.2.1 x (by rw [hx]; exact List.getElem_mem hil)
        rw [← hx] at hwd
        have hwr : WdC bb (bo + i * 5) x wr := hwd.keep (hbw.block bb hbb)
        have hsr := H0.out.2.1.below hbw (fun k hk => H0.out.2.2.1 k hk)
        have hlen : (encs (l.take i)).length ≤ 900000000 := by
          have h1 := encs_len (l.take i) (fun y hy => H0.out.2.2.2.2.2.2.2.1 y (List.mem_of_mem_take hy))
          have h2 : (l.take i).length ≤ i := by simp; omega
          omega
        have HC := Lib.hid (word_w bt bt bb (bo + i * 5) aM aW v' (encs (l.take i)) x hwx hlen wr hwt hsr H0.out.2.2.1 hwr (by omega) (fun e => by have := (hwt.own.lt bb e.symm).1; omega))
        have c0 := (H0.out.2.2.2.1.below hbw H0.out.2.2.2.2.1).get 0 (.slice (some ⟨bb, bo, none⟩) n c) rfl
        have HX := Lib.hid (And.intro hx' (And.intro hf (And.intro hwt (And.intro hbw (And.intro hlt hil)))))
        have HAD := Lib.hid hadd
        have d0 : decide (i < n) = true := by simpa using hlt
        have d1 : (0 : Int) ≤ (i : Int) := by omega
        have d2 : (i : Int) < (n : Int) := by omega
        have d3 : ((i : Int) == (n : Int)) = false := by simp; omega
        clear hf hwt hbw hlt hil hwd hadd hx hx' hwx hwr hsr hlen hbb hi
        go_wp2_with fail
        (try rw [HAD.out])
        refine HC.out.mono ?_
        rintro e w2 hor
        rcases hor with ⟨hfx, rfl, v2, hw2, hfw⟩ | ⟨hfx, rfl, v2, l2, hw2, hfw⟩
        · have hb2 : Below bt w w2 := HX.out.2.2.2.1.trans (hfw.below HX.out.2.2.1)
          have HN := Lib.hid (show ∃ (j : Nat) (v' : Value), j ≤ n ∧ I ((i : Int) + 1) = I (j : Int) ∧ (∀ x ∈ l.take j, FormW x) ∧ Wt bt bt v' (encs (l.take j)) w2 ∧ Below bt w w2 from ⟨i + 1, v2, HX.out.2.2.2.2.1, rfl, (fun y hy => by
            rw [List.take_add_one, HX.out.1] at hy
            rcases List.mem_append.1 hy with h | h
            · exact HX.out.2.1 y h
            · simp at h
              rw [h]
              exact hfx), by
            rw [encs_succ l i _ HX.out.1]
            exact hw2, hb2⟩)
          have HL := Lib.hid HX.out.2.2.2.2.1
          clear hfx hw2 hfw hb2 c0
          go_wp2_with fail
          exact ⟨HN.out, by have := HL.out; simp [intOf]; omega⟩
        · have hb2 : Below bt w w2 := HX.out.2.2.2.1.trans (hfw.below HX.out.2.2.1)
          have FIN := Lib.hid (show EaT bt aM aW l w w2 (.returned (eV aW)) from ⟨hb2, Or.inr (Or.inr ⟨HSM.out, (fun h => hfx (h _ (List.mem_of_getElem? HX.out.1))), rfl⟩)⟩)
          clear hfx hw2 hfw hb2 c0
          go_wp2_with fail
          go_ret
          exact FIN.out
      · have d0 : decide (i < n) = false := by simpa using hlt
        have he : l.take i = l := List.take_of_length_le (by have := H0.out.2.2.2.2.2.2.1; omega)
        rw [he] at hf hwt
        have FIN := Lib.hid (show EaT bt aM aW l w wr (.returned .nilIface) from ⟨hbw, Or.inr (Or.inl ⟨HSM.out, hf, rfl, v', hwt⟩)⟩)
        clear hf hwt hbw hlt he hi
        go_wp2_with fail
        go_ret
        exact FIN.out
end Go.Proofs.YtlblmnneikdpgaaDoor
