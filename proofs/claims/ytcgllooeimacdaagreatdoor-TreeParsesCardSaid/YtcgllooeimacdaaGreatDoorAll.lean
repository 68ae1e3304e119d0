/-
  All tokens of a text, or the first fault.
-/
import Derived.Test.YtcgllooeimacdaaGreatDoorToken
import Derived.Maps.AppendAt
namespace Go.Proofs.YtcgllooeimacdaaGreatDoor
open Go Go.RowKit Lx Go.Maps Go.WideMaps Go.WideShapes

def tokCells (t : Tok) : List Value := [.int .u8 (t.kind : Int), .int .i64 (t.pos : Int), .string ⟨t.text.toArray⟩, .int .i64 (t.num : Int)]
def toksCells (ts : List Tok) : List Value := ts.flatMap tokCells
theorem toksCells_snoc (ts : List Tok) (t : Tok) : toksCells (ts ++ [t]) = toksCells ts ++ tokCells t := by simp [toksCells]

theorem Tryz.infoTok : (Tryz.prog.info? 55).map (fun i => (i.zero, i.size, i.bytes)) = some (some (.agg #[.int .u8 0, .int .i64 0, .string ⟨#[]⟩, .int .i64 0]), 4, 40) := by kernel_rfl

theorem RS.grownRow {b k base n : Nat} {s : ByteArray} {w w' : World} {v : Value} {xs : List Value} (h : RS b s k w) (ho : w.ownsRow base 55 4 v n xs) (hb : b < base) (hg : w.grownBy w' v.ownBlock) : RS b s k w' := by
  obtain ⟨v0, v1, v3, h1, h2⟩ := h
  have hne : some b ≠ v.ownBlock := by
    intro e
    have := (ho.lt b e.symm).1
    omega
  refine ⟨v0, v1, v3, h1.other hg hne, ?_⟩
  rcases h2 with h2 | ⟨h3, h4, mb, h5, h6, h7⟩
  · exact Or.inl h2
  · refine Or.inr ⟨h3, h4, mb, h5, h6, h7.kept hg ?_⟩
    intro e
    rcases ho.2 with ⟨rfl, _⟩ | ⟨g, cap, cur, rfl, _, hgg, _⟩
    · simp [Value.ownBlock] at e
    · obtain rfl : mb = g := by simpa [Value.ownBlock] using e
      obtain ⟨es, clock, hb2, _⟩ := h7
      rw [hgg] at hb2
      simp at hb2

theorem tok_new (w : World) (t : Tok) : ∀ j u, (tokCells t)[j]? = some u → (w.alloc (.cells #[.int .u8 (t.kind : Int), .int .i64 (t.pos : Int), .string ⟨t.text.toArray⟩, .int .i64 (t.num : Int)] 55)).cell? ((⟨w.heap.size, 0, none⟩ : Addr).add j) = some u := by
  intro j u hj
  have hadd : (⟨w.heap.size, 0, none⟩ : Addr).add j = ⟨w.heap.size, j, none⟩ := by unfold Addr.add; split <;> simp_all
  rw [hadd, cell_of_row _ _ _ _ _ _ (heap_alloc_new w _)]
  simpa [tokCells] using hj
theorem tok_one (t : Tok) : ∀ u ∈ tokCells t, u.oneCell' = true := by
  intro u hu
  simp only [tokCells, List.mem_cons, List.not_mem_nil, or_false] at hu
  rcases hu with rfl | rfl | rfl | rfl <;> rfl

/-- What a scan comes to, in memory. -/
def AllPost (b : Nat) (w : World) (r : Res) (e : Ending) (w' : World) : Prop :=
  w.grownBy w' (some b) ∧ match r with
    | .error (p, n) => e = .panicked (faultV p n)
    | .ok ts => ∃ v, e = .returned v ∧ w'.ownsRow w.heap.size 55 4 v ts.length (toksCells ts)

theorem grown_row {w w1 w2 : World} {b n : Nat} {v : Value} {xs : List Value} (h : w.grownBy w1 (some b)) (ho : w1.ownsRow w.heap.size 55 4 v n xs) (hg : w1.grownBy w2 v.ownBlock) : w.grownBy w2 (some b) :=
  ⟨hg.os.trans h.os, hg.tape.trans h.tape, hg.output.trans h.output, Nat.le_trans h.size hg.size, fun i hi hne => (hg.block i (Nat.lt_of_lt_of_le hi h.size) (by intro e; have := (ho.lt i e.symm).1; omega)).trans (h.block i hi hne)⟩

theorem scan_step {s : ByteArray} {k : Nat} {ts : List Tok} {t : Tok} (hk : k < s.size) (hsc : scan (Bs s) = pre ts (res k ((Bs s).drop k))) (hh : ∀ c t, (Bs s).drop k = c :: t → blankB c = false ∧ (c == 35) = false) (ht : tokL k ((Bs s).drop k) = .ok t) :
    k + t.text.length ≤ s.size ∧ 0 < t.text.length ∧ scan (Bs s) = pre (ts ++ [t]) (res (k + t.text.length) ((Bs s).drop (k + t.text.length))) := by
  have hl := tokL_len ht
  rw [List.length_drop, bs_length] at hl
  refine ⟨by omega, hl.1, ?_⟩
  have hc := getElem_drop s k hk
  have h1 := hh _ _ hc
  rw [hc] at ht
  rw [hsc, hc, res_tok h1.1 h1.2 ht, ← hc, List.drop_drop, pre_pre]

/-- What holds at the loop's head. -/
def Rel (B b : Nat) (s : ByteArray) (w : World) (gk : Nat) (v : Value) (wr : World) : Prop :=
  ∃ k ts, k ≤ s.size ∧ gk = s.size - k ∧ ts.length ≤ k ∧ RS b s k wr ∧ wr.ownsRow w.heap.size 55 4 v ts.length (toksCells ts) ∧ w.grownBy wr (some b) ∧ Tabs B wr ∧ scan (Bs s) = pre ts (res k ((Bs s).drop k)) ∧
    ∀ c t, (Bs s).drop k = c :: t → blankB c = false ∧ (c == 35) = false

theorem Rel.skipped {B b : Nat} {s : ByteArray} {w wr wr' : World} {k : Nat} {ts : List Tok} {v : Value} (hB : B ≤ b) (hBs : B ≤ w.heap.size) (hb : b < w.heap.size) (hk : k ≤ s.size) (hl : ts.length ≤ k) (ho : wr.ownsRow w.heap.size 55 4 v ts.length (toksCells ts))
    (hg : w.grownBy wr (some b)) (hT : Tabs B wr) (hs : scan (Bs s) = pre ts (res k ((Bs s).drop k))) (hr : RS b s (k + skipF false ((Bs s).drop k)) wr') (hg' : wr.grownBy wr' (some b)) :
    Rel B b s w (s.size - (k + skipF false ((Bs s).drop k))) v wr' := by
  obtain ⟨h1, h2⟩ := res_skip ((Bs s).drop k).length ((Bs s).drop k) k (Nat.le_refl _)
  rw [List.drop_drop] at h1 h2
  have hne : v.ownBlock ≠ some b := by
    intro e
    have := (ho.lt b e).1
    omega
  exact ⟨k + skipF false ((Bs s).drop k), ts, skip_le s k hk, rfl, by omega, hr, ho.kept hg' (Or.inr hne), grown_trans hg hg', hT.grown hB (Nat.le_trans hBs hg.size) hg', by rw [hs, h1], h2⟩

set_option maxRecDepth 100000 in
set_option maxHeartbeats 1000000 in
theorem all_any (B b : Nat) (s : ByteArray) (hs : s.size ≤ 9223372036854775806) (w : World) (hB : B ≤ b) (hBs : B ≤ w.heap.size) (hT : Tabs B w) (hw : RS b s 0 w) :
    Calls Tryz.prog 32 #[.pointer (some ⟨b, 0, none⟩)] w (AllPost b w (scan (Bs s))) := by
  have c4 := hw.cellText
  have hlt := hw.lt
  by_cases hlen : 20000 < s.size
  · have HW := Lib.hid hw
    clear hw hT
    go_enter Tryz.func32, Tryz.ntmps32
    go_wp2_with (go_at_call 45; refine (giveUp_any _ _ _).mono ?_; rintro e w4 ⟨rfl, rfl⟩)
    refine ⟨rfl, World.grownBy.refl _ _, ?_⟩
    unfold scan
    rw [bs_length, if_pos hlen]
    rfl
  · have hS := Lib.hid (skip_S b s hs 0 (Nat.zero_le _) w hw)
    obtain ⟨i0, hi, hz0, hz1, hz2⟩ := info_parts Tryz.infoTok
    have HT := Lib.hid hT
    clear hw hT
    go_enter Tryz.func32, Tryz.ntmps32
    go_wp2_with (go_at_call 46; refine hS.out.mono ?_; rintro e w2 ⟨rfl, hr2, hg2⟩)
    have HREL : Hid (Rel B b s w (s.size - (0 + skipF false ((Bs s).drop 0))) (.slice none 0 0) w2) := by
      refine Rel.skipped (ts := []) hB hBs hlt (Nat.zero_le _) (Nat.le_refl _) (World.ownsRow_nil _ _ _ _) (World.grownBy.refl _ _) HT.out ?_ hr2 hg2
      show scan (Bs s) = _
      unfold scan
      rw [bs_length, if_neg hlen, List.drop_zero, pre_nil]
    clear hr2 hg2 c4
    go_loopg [3] (s.size - (0 + skipF false ((Bs s).drop 0))) (fun gk v wr => Rel B b s w gk v wr)
    case atStart => exact HREL.out
    case round =>
      obtain ⟨k, ts, hk, rfl, hl, hr, ho, hg, hTr, hsc, hhd⟩ := hrel
      have c5 := hr.cellAt
      have c4 := hr.cellText
      have HR := Lib.hid (And.intro hr (And.intro ho (And.intro hg (And.intro hTr (And.intro hsc hhd)))))
      clear hr ho hg hTr hsc hhd
      by_cases hkk : k < s.size
      · have hd : decide (k < s.size) = true := by simpa using hkk
        go_wp2
        go_quiet (fail)
        go_wp2_with fail
        have hg1 : w.grownBy (wr.drewN nq) (some b) := grown_trans HR.out.2.2.1 (grown_drawN nq)
        refine (token_any B b s (by omega) k hkk (wr.drewN nq) hB (Nat.le_trans hBs hg1.size) (HR.out.2.2.2.1.drew nq) (HR.out.1.drawN nq)).mono ?_
        rintro e w3 ⟨hg3, hp⟩
        have HG3 := Lib.hid (grown_trans hg1 hg3)
        have HG := Lib.hid hg3
        clear hg1 hg3 c5 c4
        cases htk : tokL k ((Bs s).drop k) with
        | error n =>
          rw [htk] at hp
          obtain rfl := hp
          have HE := Lib.hid htk
          clear htk
          go_wp2
          refine ⟨rfl, HG3.out, ?_⟩
          rw [HR.out.2.2.2.2.1]
          have hc := getElem_drop s k hkk
          have hh := HR.out.2.2.2.2.2 _ _ hc
          have he := HE.out
          rw [hc] at he ⊢
          rw [res_error hh.1 hh.2 he]
          rfl
        | ok t =>
          rw [htk] at hp
          obtain ⟨rfl, hr3⟩ := hp
          have HE := Lib.hid htk
          have HR3 := Lib.hid hr3
          clear htk hr3
          have hne : ∀ g, u3.ownBlock = some g → g ≠ b := fun g e => by have := (HR.out.2.1.lt g e).1; omega
          have HO3 : Hid (w3.ownsRow w.heap.size 55 4 u3 ts.length (toksCells ts)) := HR.out.2.1.kept (grown_trans (grown_drawN nq) HG.out) (by cases hu : u3.ownBlock with | none => exact Or.inl rfl | some g => exact Or.inr (by have := hne g hu; simpa using this))
          have hsz3 : w.heap.size ≤ w3.heap.size := HG3.out.size
          clear hne
          unfold tokV
          go_wp2_with (first
            | (at_builtin; refine wpList_append_own _ rfl _ _ 51 rfl w.heap.size 55 i0 _ 4 40 Tryz.underlying51 hi hz0 hz1 hz2 rfl (by decide) _ _ _ rfl (HO3.out.alloc _) ⟨w3.heap.size, 0, none⟩ 1 1 (tokCells t) rfl rfl (tok_new w3 t) (tok_one t) (by unfold maxLen; omega) (by omega) (by simp; omega) ?_; intro v' w4 ho4 hg4 _)
            | fail)
          obtain ⟨hk', hl0, hsc'⟩ := scan_step hkk HR.out.2.2.2.2.1 HR.out.2.2.2.2.2 HE.out
          have hr4 := (HR3.out.below ((Below.refl _ _).alloc (Nat.le_refl _) _)).grownRow (HO3.out.alloc _) hlt hg4
          have hgw4 : w.grownBy w4 (some b) := grown_row (grown_trans HG3.out (World.grownBy_alloc _ _ _)) (HO3.out.alloc _) hg4
          have ho4' : w4.ownsRow w.heap.size 55 4 v' (ts ++ [t]).length (toksCells (ts ++ [t])) := by
            rw [toksCells_snoc, List.length_append]
            exact ho4
          have HS4 := Lib.hid (skip_S b s hs (k + t.text.length) hk' w4 hr4)
          have HX := Lib.hid (And.intro hsc' (And.intro hgw4 ho4'))
          clear hsc' hr4 hgw4 ho4' ho4 hg4
          refine HS4.out.mono ?_
          rintro e w5 ⟨rfl, hr5, hg5⟩
          have HREL5 := Lib.hid (Rel.skipped hB hBs hlt hk' (by rw [List.length_append]; show ts.length + 1 ≤ _; omega) HX.out.2.2 HX.out.2.1 (HT.out.grown hB hBs HX.out.2.1) HX.out.1 hr5 hg5)
          clear hr5 hg5
          go_wp2
          go_roundg (s.size - (k + t.text.length + skipF false ((Bs s).drop (k + t.text.length))))
          case measure => omega
          case rel => exact HREL5.out
      · have hd : decide (k < s.size) = false := by simpa using hkk
        have hke : k = s.size := by omega
        go_wp2
        go_quiet (fail)
        have hsz3 : w.heap.size ≤ wr.heap.size := HR.out.2.2.1.size
        have HO3 : Hid ((wr.drewN nq).ownsRow w.heap.size 55 4 u3 ts.length (toksCells ts)) := HR.out.2.1
        have HK := Lib.hid hke
        clear hke
        have hTN := tok_new (wr.drewN nq) ⟨0, k, [], 0⟩
        have HTN : Hid (∀ j u, (tokCells ⟨0, k, [], 0⟩)[j]? = some u → ((wr.drewN nq).alloc (.cells #[.int .u8 0, .int .i64 (k : Int), .string ⟨#[]⟩, .int .i64 0] 55)).cell? ((⟨wr.heap.size, 0, none⟩ : Addr).add j) = some u) := hTN
        clear hTN
        go_wp2_with (first
          | (at_builtin; refine wpList_append_own _ rfl _ _ 51 rfl w.heap.size 55 i0 _ 4 40 Tryz.underlying51 hi hz0 hz1 hz2 rfl (by decide) _ _ _ rfl (HO3.out.alloc _) ⟨wr.heap.size, 0, none⟩ 1 1 (tokCells ⟨0, k, [], 0⟩) rfl rfl HTN.out (tok_one _) (by unfold maxLen; omega) (by omega) (by simp; omega) ?_; intro v' w4 ho4 hg4 _)
          | fail)
        go_ret
        refine ⟨grown_row (grown_trans (grown_trans HR.out.2.2.1 (grown_drawN nq)) (World.grownBy_alloc _ _ _)) (HO3.out.alloc _) hg4, ?_⟩
        rw [HR.out.2.2.2.2.1, HK.out, List.drop_of_length_le (by rw [bs_length]; exact Nat.le_refl _), res_nil]
        refine ⟨_, rfl, ?_⟩
        show w4.ownsRow _ _ _ _ (ts ++ [(⟨0, s.size, [], 0⟩ : Tok)]).length (toksCells (ts ++ [(⟨0, s.size, [], 0⟩ : Tok)]))
        rw [toksCells_snoc, List.length_append, ← HK.out]
        exact ho4
end Go.Proofs.YtcgllooeimacdaaGreatDoor
