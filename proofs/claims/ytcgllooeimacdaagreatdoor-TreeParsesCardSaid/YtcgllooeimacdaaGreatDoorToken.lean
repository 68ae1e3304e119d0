/-
  The reader's token: by its first byte.
-/
import Derived.Test.YtcgllooeimacdaaGreatDoorSign2
namespace Go.Proofs.YtcgllooeimacdaaGreatDoor
open Go Go.RowKit Lx Go.Maps Go.WideMaps Go.WideShapes

theorem tok_name (k : Nat) (c : UInt8) (t : List UInt8) (h : smallB c = true) : tokL k (c :: t) = nameR k ((c :: t).takeWhile nameB) := by
  rw [tokL, if_pos h]; rfl
theorem tok_num (k : Nat) (c : UInt8) (t : List UInt8) (h : smallB c = false) (hd : digitB c = true) : tokL k (c :: t) = numR k ((c :: t).takeWhile digitB) ((c :: t).dropWhile digitB) := by
  have e : ((c :: t).takeWhile digitB).head? = some c := by rw [List.takeWhile_cons, if_pos hd]; rfl
  rw [tokL, if_neg (by simp [h]), if_pos hd]
  unfold numR
  rw [e]
  rfl
theorem tok_sign (k : Nat) (c : UInt8) (t : List UInt8) (h : smallB c = false) (hd : digitB c = false) : tokL k (c :: t) = signR k (c :: t) := by
  rw [tokL, if_neg (by simp [h]), if_neg (by simp [hd])]; rfl

theorem small_is (c : UInt8) (t : Bool) (h : smallB c = t) (w : World) : Calls Tryz.prog 63 #[B8 c] w fun e w' => e = .returned (.bool t) ∧ w = w' := by subst h; exact small_any c w
theorem digit_is (c : UInt8) (t : Bool) (h : digitB c = t) (w : World) : Calls Tryz.prog 65 #[B8 c] w fun e w' => e = .returned (.bool t) ∧ w = w' := by subst h; exact digit_any c w

abbrev Z4 : Obj := .cells #[.int .u8 0, .int .i64 0, .string ⟨#[]⟩, .int .i64 0] 55

set_option maxRecDepth 100000 in
set_option maxHeartbeats 400000 in
theorem token_any (B b : Nat) (s : ByteArray) (hs : s.size ≤ 20000) (k : Nat) (hk : k < s.size) (w : World) (hB : B ≤ b) (hBs : B ≤ w.heap.size) (hT : Tabs B w) (hw : RS b s k w) :
    Calls Tryz.prog 47 #[.pointer (some ⟨b, 0, none⟩)] w (TokPost b s k w (tokL k ((Bs s).drop k))) := by
  have hb1 : Below w.heap.size w (w.alloc (.cells #[.int .u8 0, .int .i64 0, .string ⟨#[]⟩, .int .i64 0] 55)) := (Below.refl _ _).alloc (Nat.le_refl _) _
  have c5 := (hw.below hb1).cellAt
  have c4 := (hw.below hb1).cellText
  have hz : T4 w.heap.size (.int .u8 0) (.int .i64 0) (.string ⟨#[]⟩) (.int .i64 0) (w.alloc (.cells #[.int .u8 0, .int .i64 0, .string ⟨#[]⟩, .int .i64 0] 55)) := heap_alloc_new w _
  have HW := Lib.hid (And.intro hw (And.intro hT (And.intro hb1 hz)))
  have hlt := hw.lt
  clear hw hT hb1 hz
  go_enter Tryz.func47, Tryz.ntmps47
  go_wp2_with fail
  go_quiet (fail)
  obtain ⟨W1, hW1⟩ : ∃ W1, W1 = (w.alloc (.cells #[.int .u8 0, .int .i64 0, .string ⟨#[]⟩, .int .i64 0] 55)).drewN nq := ⟨_, rfl⟩
  have H1 : Hid (RS b s k W1 ∧ Tabs B W1 ∧ Below w.heap.size w W1 ∧ T4 w.heap.size (.int .u8 0) (.int .i64 0) (.string ⟨#[]⟩) (.int .i64 0) W1 ∧ B ≤ W1.heap.size) := by
    obtain ⟨h1, h2, h3, h4⟩ := HW.out
    have hd : Below w.heap.size w W1 := by rw [hW1]; exact ⟨h3.os, h3.tape, h3.output, h3.size, h3.block⟩
    refine ⟨h1.below hd, h2.below (hd.mono hBs), hd, by rw [hW1]; exact h4, Nat.le_trans hBs hd.size⟩
  rw [← hW1]
  clear hW1 c5 c4 HW
  by_cases h1 : smallB s[k] = true
  · have HR := Lib.hid (tok_name k s[k] ((Bs s).drop (k + 1)) h1)
    rw [← getElem_drop s k hk] at HR
    have HS := Lib.hid (small_is s[k] true h1)
    clear h1
    go_wp2_with (go_at_call 63; refine (HS.out _).mono ?_; rintro e w' ⟨rfl, rfl⟩)
    refine (name_any B b s hs k (by omega) W1 hB H1.out.2.2.2.2 H1.out.2.1 H1.out.1).mono ?_
    rintro e w2 ⟨hg2, hp⟩
    cases hr : nameR k (((Bs s).drop k).takeWhile nameB) with
    | error n =>
      rw [hr] at hp
      obtain rfl := hp
      have HG := Lib.hid hg2
      have HE := Lib.hid hr
      clear hg2 hr
      go_wp2
      refine ⟨rfl, grown_trans (grown_below (World.grownBy.refl _ _) H1.out.2.2.1) HG.out, ?_⟩
      rw [HR.out, HE.out]
    | ok t =>
      rw [hr] at hp
      obtain ⟨rfl, hr2⟩ := hp
      have HE := Lib.hid hr
      clear hr
      have hz2 := H1.out.2.2.2.1.other hg2 (by simp; omega)
      obtain ⟨z9, g9⟩ := hz2.copy (.int .u8 (t.kind : Int)) (.int .i64 (t.pos : Int)) (.string ⟨t.text.toArray⟩) (.int .i64 (t.num : Int))
      have r9 := hr2.grownT hz2 (by omega) g9
      have gg := grown_new (grown_trans (grown_below (World.grownBy.refl _ _) H1.out.2.2.1) hg2) (Nat.le_refl _) g9
      have zc0 := hz2.g0
      have zc1 := hz2.g1
      have zc2 := hz2.g2
      have zc3 := hz2.g3
      have zf0 := hz2.free 0
      have zf1 := hz2.free 1
      have zf2 := hz2.free 2
      have zf3 := hz2.free 3
      have y0 := z9.g0
      have y1 := z9.g1
      have y2 := z9.g2
      have y3 := z9.g3
      have FIN := Lib.hid (And.intro gg r9)
      clear hz2 z9 g9 r9 gg hr2 hg2
      unfold tokV
      go_wp2
      refine bodyPost_ret (v := tokV t) (by simp [results, Tryz.results47, go_sem, y0, y1, y2, y3, tokV]) rfl ⟨FIN.out.1, by rw [HR.out, HE.out]; exact ⟨rfl, FIN.out.2⟩⟩
  · have h1' : smallB s[k] = false := by simpa using h1
    have HS := Lib.hid (small_is s[k] false h1')
    by_cases h2 : digitB s[k] = true
    · have HR := Lib.hid (tok_num k s[k] ((Bs s).drop (k + 1)) h1' h2)
      rw [← getElem_drop s k hk] at HR
      have HD := Lib.hid (digit_is s[k] true h2)
      have H2 := Lib.hid h2
      clear h1 h1' h2
      go_wp2_with (first | (go_at_call 63; refine (HS.out _).mono ?_; rintro e w' ⟨rfl, rfl⟩) | (go_at_call 65; refine (HD.out _).mono ?_; rintro e w' ⟨rfl, rfl⟩))
      refine (number_any B b s hs k hk H2.out W1 hB H1.out.2.2.2.2 H1.out.2.1 H1.out.1).mono ?_
      rintro e w2 ⟨hg2, hp⟩
      cases hr : numR k (((Bs s).drop k).takeWhile digitB) (((Bs s).drop k).dropWhile digitB) with
      | error n =>
        rw [hr] at hp
        obtain rfl := hp
        have HG := Lib.hid hg2
        have HE := Lib.hid hr
        clear hg2 hr
        go_wp2
        refine ⟨rfl, grown_trans (grown_below (World.grownBy.refl _ _) H1.out.2.2.1) HG.out, ?_⟩
        rw [HR.out, HE.out]
      | ok t =>
        rw [hr] at hp
        obtain ⟨rfl, hr2⟩ := hp
        have HE := Lib.hid hr
        clear hr
        have hz2 := H1.out.2.2.2.1.other hg2 (by simp; omega)
        obtain ⟨z9, g9⟩ := hz2.copy (.int .u8 (t.kind : Int)) (.int .i64 (t.pos : Int)) (.string ⟨t.text.toArray⟩) (.int .i64 (t.num : Int))
        have r9 := hr2.grownT hz2 (by omega) g9
        have gg := grown_new (grown_trans (grown_below (World.grownBy.refl _ _) H1.out.2.2.1) hg2) (Nat.le_refl _) g9
        have zc0 := hz2.g0
        have zc1 := hz2.g1
        have zc2 := hz2.g2
        have zc3 := hz2.g3
        have zf0 := hz2.free 0
        have zf1 := hz2.free 1
        have zf2 := hz2.free 2
        have zf3 := hz2.free 3
        have y0 := z9.g0
        have y1 := z9.g1
        have y2 := z9.g2
        have y3 := z9.g3
        have FIN := Lib.hid (And.intro gg r9)
        clear hz2 z9 g9 r9 gg hr2 hg2
        unfold tokV
        go_wp2
        refine bodyPost_ret (v := tokV t) (by simp [results, Tryz.results47, go_sem, y0, y1, y2, y3, tokV]) rfl ⟨FIN.out.1, by rw [HR.out, HE.out]; exact ⟨rfl, FIN.out.2⟩⟩
    · have h2' : digitB s[k] = false := by simpa using h2
      have HR := Lib.hid (tok_sign k s[k] ((Bs s).drop (k + 1)) h1' h2')
      rw [← getElem_drop s k hk] at HR
      have HD := Lib.hid (digit_is s[k] false h2')
      clear h1 h1' h2 h2'
      go_wp2_with (first | (go_at_call 63; refine (HS.out _).mono ?_; rintro e w' ⟨rfl, rfl⟩) | (go_at_call 65; refine (HD.out _).mono ?_; rintro e w' ⟨rfl, rfl⟩))
      refine (sign_any B b s hs k hk W1 hB H1.out.2.2.2.2 H1.out.2.1 H1.out.1).mono ?_
      rintro e w2 ⟨hg2, hp⟩
      cases hr : signR k ((Bs s).drop k) with
      | error n =>
        rw [hr] at hp
        obtain rfl := hp
        have HG := Lib.hid hg2
        have HE := Lib.hid hr
        clear hg2 hr
        go_wp2
        refine ⟨rfl, grown_trans (grown_below (World.grownBy.refl _ _) H1.out.2.2.1) HG.out, ?_⟩
        rw [HR.out, HE.out]
      | ok t =>
        rw [hr] at hp
        obtain ⟨rfl, hr2⟩ := hp
        have HE := Lib.hid hr
        clear hr
        have hz2 := H1.out.2.2.2.1.other hg2 (by simp; omega)
        obtain ⟨z9, g9⟩ := hz2.copy (.int .u8 (t.kind : Int)) (.int .i64 (t.pos : Int)) (.string ⟨t.text.toArray⟩) (.int .i64 (t.num : Int))
        have r9 := hr2.grownT hz2 (by omega) g9
        have gg := grown_new (grown_trans (grown_below (World.grownBy.refl _ _) H1.out.2.2.1) hg2) (Nat.le_refl _) g9
        have zc0 := hz2.g0
        have zc1 := hz2.g1
        have zc2 := hz2.g2
        have zc3 := hz2.g3
        have zf0 := hz2.free 0
        have zf1 := hz2.free 1
        have zf2 := hz2.free 2
        have zf3 := hz2.free 3
        have y0 := z9.g0
        have y1 := z9.g1
        have y2 := z9.g2
        have y3 := z9.g3
        have FIN := Lib.hid (And.intro gg r9)
        clear hz2 z9 g9 r9 gg hr2 hg2
        unfold tokV
        go_wp2
        refine bodyPost_ret (v := tokV t) (by simp [results, Tryz.results47, go_sem, y0, y1, y2, y3, tokV]) rfl ⟨FIN.out.1, by rw [HR.out, HE.out]; exact ⟨rfl, FIN.out.2⟩⟩
end Go.Proofs.YtcgllooeimacdaaGreatDoor
