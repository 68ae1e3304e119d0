/-
  The reader's number: its size first, then the nought in front, then what stands behind it.
-/
import Derived.Test.YtcgllooeimacdaaGreatDoorNum
namespace Go.Proofs.YtcgllooeimacdaaGreatDoor
open Go Go.RowKit Lx Go.Maps Go.WideMaps Go.WideShapes

def numR (k : Nat) (x rest : List UInt8) : Except Nat Tok :=
  if 9223372036854775807 < valueF 0 x then .error 2
  else if x.head? == some 48 && decide (1 < x.length) then .error 4
  else if rest.head?.any letterB then .error 4
  else .ok ⟨3, k, x, valueF 0 x⟩

/-- The two blocks of a token that is being read: what is handed back, and the one that is filled. -/
theorem two_blocks (w : World) (kind k : Int) :
    Below w.heap.size w ((w.alloc (.cells #[.int .u8 0, .int .i64 0, .string ⟨#[]⟩, .int .i64 0] 55)).alloc (.cells #[.int .u8 kind, .int .i64 k, .string ⟨#[]⟩, .int .i64 0] 55)) ∧
    T4 w.heap.size (.int .u8 0) (.int .i64 0) (.string ⟨#[]⟩) (.int .i64 0) ((w.alloc (.cells #[.int .u8 0, .int .i64 0, .string ⟨#[]⟩, .int .i64 0] 55)).alloc (.cells #[.int .u8 kind, .int .i64 k, .string ⟨#[]⟩, .int .i64 0] 55)) ∧
    T4 (w.heap.size + 1) (.int .u8 kind) (.int .i64 k) (.string ⟨#[]⟩) (.int .i64 0) ((w.alloc (.cells #[.int .u8 0, .int .i64 0, .string ⟨#[]⟩, .int .i64 0] 55)).alloc (.cells #[.int .u8 kind, .int .i64 k, .string ⟨#[]⟩, .int .i64 0] 55)) := by
  refine ⟨((Below.refl _ _).alloc (Nat.le_refl _) _).alloc (by simp) _, ?_, ?_⟩
  · unfold T4; rw [Below.heap_alloc _ _ _ (by simp)]; exact heap_alloc_new w _
  · have := heap_alloc_new (w.alloc (.cells #[.int .u8 0, .int .i64 0, .string ⟨#[]⟩, .int .i64 0] 55)) (.cells #[.int .u8 kind, .int .i64 k, .string ⟨#[]⟩, .int .i64 0] 55)
    simpa [T4] using this

/-- What holds behind the taking of a token's text: the reader's place, both blocks, what has turned. -/
def Mid (B b : Nat) (s : ByteArray) (k1 : Nat) (w : World) (kind k : Int) (X : ByteArray) (W : World) : Prop :=
  RS b s k1 W ∧ T4 (w.heap.size + 1) (.int .u8 kind) (.int .i64 k) (.string X) (.int .i64 0) W ∧ T4 w.heap.size (.int .u8 0) (.int .i64 0) (.string ⟨#[]⟩) (.int .i64 0) W ∧ Tabs B W ∧ w.grownBy W (some b) ∧ B ≤ W.heap.size

theorem Mid.mk {B b : Nat} {s : ByteArray} {k1 : Nat} {w w2 : World} {kind k : Int} (X : ByteArray) (hlt : b < w.heap.size) (hB : B ≤ b) (hBs : B ≤ w.heap.size) (hT : Tabs B w)
    (hr2 : RS b s k1 w2) (hg2 : ((w.alloc (.cells #[.int .u8 0, .int .i64 0, .string ⟨#[]⟩, .int .i64 0] 55)).alloc (.cells #[.int .u8 kind, .int .i64 k, .string ⟨#[]⟩, .int .i64 0] 55)).grownBy w2 (some b)) :
    Mid B b s k1 w kind k X (w2.setCell ⟨w.heap.size + 1, 2, none⟩ (.string X)) ∧ w2.frozen? ⟨w.heap.size + 1, 2, none⟩ = false ∧ w2.cell? ⟨w.heap.size + 1, 2, none⟩ = some (.string ⟨#[]⟩) := by
  obtain ⟨hb1, hz1, ht1⟩ := two_blocks w kind k
  have ht2 := ht1.other hg2 (by simp; omega)
  have hz2 := hz1.other hg2 (by simp; omega)
  have hg02 : w.grownBy w2 (some b) := grown_trans (grown_below (World.grownBy.refl _ _) hb1) hg2
  have htb2 : Tabs B w2 := hT.grown hB hBs hg02
  have hg3 : w2.grownBy (w2.setCell ⟨w.heap.size + 1, 2, none⟩ (.string X)) (some (w.heap.size + 1)) := Lib.grownBy_setCell _ _ _ _
  have hg03 : w.grownBy (w2.setCell ⟨w.heap.size + 1, 2, none⟩ (.string X)) (some b) := grown_new hg02 (by omega) hg3
  exact ⟨⟨hr2.grownT ht2 (by omega) hg3, ht2.set2 (.string X), hz2.other hg3 (by simp), htb2.grown (by omega) (Nat.le_trans hBs hg02.size) hg3, hg03, Nat.le_trans hBs hg03.size⟩, ht2.free 2, ht2.g2⟩

theorem Mid.below {B b : Nat} {s : ByteArray} {k1 : Nat} {w W W' : World} {kind k : Int} {X : ByteArray} (h : Mid B b s k1 w kind k X W) (hlt : b < w.heap.size) (hb : Below W.heap.size W W') : Mid B b s k1 w kind k X W' := by
  obtain ⟨h1, h2, h3, h4, h5, h6⟩ := h
  have hg := grown_below (World.grownBy.refl W (some b)) hb
  exact ⟨h1.below hb, h2.other hg (by simp; omega), h3.other hg (by simp; omega), h4.below (hb.mono h6), grown_below h5 hb, Nat.le_trans h6 hb.size⟩

theorem Mid.drawN {B b : Nat} {s : ByteArray} {k1 : Nat} {w W : World} {kind k : Int} {X : ByteArray} (h : Mid B b s k1 w kind k X W) (n : Nat) : Mid B b s k1 w kind k X (W.drewN n) := by
  obtain ⟨h1, h2, h3, h4, h5, h6⟩ := h
  exact ⟨h1.drawN n, h2, h3, h4.drew n, grown_trans h5 (grown_drawN n), h6⟩

theorem letter_quiet (c : UInt8) (w : World) : Calls Tryz.prog 82 #[B8 c] w fun e w' => e = .returned (.bool (letterB c)) ∧ w' = w :=
  (letter_any c w).mono fun _ _ ⟨h1, h2⟩ => ⟨h1, h2.symm⟩

theorem letter_is (c : UInt8) (t : Bool) (h : letterB c = t) (w : World) : Calls Tryz.prog 82 #[B8 c] w fun e w' => e = .returned (.bool t) ∧ w' = w := by
  subst h; exact letter_quiet c w

theorem head_drop (s : ByteArray) (k : Nat) (h : k < s.size) : ((Bs s).drop k).head? = some s[k] := by rw [getElem_drop s k h]; rfl
theorem head_drop_none (s : ByteArray) (k : Nat) (h : ¬ k < s.size) : ((Bs s).drop k).head? = none := by rw [List.drop_of_length_le (by rw [bs_length]; omega)]; rfl
theorem head_bs (X : ByteArray) (h : 0 < X.size) : (Bs X).head? = some X[0] := by have := head_drop X 0 h; simpa using this

/-- The end of the number's walk: the token is filled, and copied into what is handed back. -/
theorem Mid.fill {B b : Nat} {s : ByteArray} {k1 : Nat} {w W : World} {kind k : Int} {X : ByteArray} (h : Mid B b s k1 w kind k X W) (hlt : b < w.heap.size) (V : Value) :
    T4 (w.heap.size + 1) (.int .u8 kind) (.int .i64 k) (.string X) V (W.setCell ⟨w.heap.size + 1, 3, none⟩ V) ∧ T4 w.heap.size (.int .u8 0) (.int .i64 0) (.string ⟨#[]⟩) (.int .i64 0) (W.setCell ⟨w.heap.size + 1, 3, none⟩ V) ∧
    T4 w.heap.size (.int .u8 kind) (.int .i64 k) (.string X) V (((((W.setCell ⟨w.heap.size + 1, 3, none⟩ V).setCell ⟨w.heap.size, 0, none⟩ (.int .u8 kind)).setCell ⟨w.heap.size, 1, none⟩ (.int .i64 k)).setCell ⟨w.heap.size, 2, none⟩ (.string X)).setCell ⟨w.heap.size, 3, none⟩ V) ∧
    RS b s k1 (((((W.setCell ⟨w.heap.size + 1, 3, none⟩ V).setCell ⟨w.heap.size, 0, none⟩ (.int .u8 kind)).setCell ⟨w.heap.size, 1, none⟩ (.int .i64 k)).setCell ⟨w.heap.size, 2, none⟩ (.string X)).setCell ⟨w.heap.size, 3, none⟩ V) ∧
    w.grownBy (((((W.setCell ⟨w.heap.size + 1, 3, none⟩ V).setCell ⟨w.heap.size, 0, none⟩ (.int .u8 kind)).setCell ⟨w.heap.size, 1, none⟩ (.int .i64 k)).setCell ⟨w.heap.size, 2, none⟩ (.string X)).setCell ⟨w.heap.size, 3, none⟩ V) (some b) := by
  obtain ⟨h1, h2, h3, h4, h5, h6⟩ := h
  have g1 : W.grownBy (W.setCell ⟨w.heap.size + 1, 3, none⟩ V) (some (w.heap.size + 1)) := Lib.grownBy_setCell _ _ _ _
  have r1 := h1.grownT h2 (by omega) g1
  have z1 := h3.other g1 (by simp)
  obtain ⟨z9, g9⟩ := z1.copy (.int .u8 kind) (.int .i64 k) (.string X) V
  exact ⟨h2.set3 V, z1, z9, r1.grownT z1 (by omega) g9, grown_new (grown_new h5 (by omega) g1) (Nat.le_refl _) g9⟩

set_option maxRecDepth 100000 in
set_option maxHeartbeats 400000 in
theorem number_any (B b : Nat) (s : ByteArray) (hs : s.size ≤ 20000) (k : Nat) (hk : k < s.size) (hd : digitB s[k] = true) (w : World) (hB : B ≤ b) (hBs : B ≤ w.heap.size) (hT : Tabs B w) (hw : RS b s k w) :
    Calls Tryz.prog 66 #[.pointer (some ⟨b, 0, none⟩)] w (TokPost b s k w (numR k (((Bs s).drop k).takeWhile digitB) (((Bs s).drop k).dropWhile digitB))) := by
  have hmf : ∀ (fn : Fn) (first cap : Array Value) (w : World), (Instr.makeFunc fn first cap).run Tryz.prog w = .ok (.func fn first cap) w := fun _ _ _ _ => rfl
  have hb1 := (two_blocks w 3 k).1
  have c5 := (hw.below ((Below.refl _ _).alloc (Nat.le_refl _) (.cells #[.int .u8 0, .int .i64 0, .string ⟨#[]⟩, .int .i64 0] 55))).cellAt
  have HT := Lib.hid (take_S b s (by omega) 65 digitB digit_any (fun args w => by simp [go_sem]) k (by omega) _ (hw.below hb1))
  have hxl := take_le s digitB k (by omega)
  have hdr : ((Bs s).drop k).dropWhile digitB = (Bs s).drop (k + (((Bs s).drop k).takeWhile digitB).length) := by rw [← drop_takeWhile, List.drop_drop]
  have hx0 : ((Bs s).drop k).takeWhile digitB ≠ [] := by rw [getElem_drop s k hk, List.takeWhile_cons, if_pos hd]; simp
  have hxd : ∀ c ∈ ((Bs s).drop k).takeWhile digitB, digitB c = true := fun c hc => List.all_eq_true.1 (List.all_takeWhile (p := digitB)) c hc
  rw [hdr]
  obtain ⟨X, hX⟩ : ∃ X : ByteArray, X = ⟨(((Bs s).drop k).takeWhile digitB).toArray⟩ := ⟨_, rfl⟩
  have hBX : ((Bs s).drop k).takeWhile digitB = Bs X := by rw [hX]
  rw [← hX] at HT
  rw [hBX] at HT hxl hx0 hxd ⊢
  clear hX hBX hdr
  have hlt := hw.lt
  have Hk := Lib.hid hd
  have HTb := Lib.hid hT
  have HX := Lib.hid (And.intro hx0 hxd)
  have hXs : X.size ≤ 20000 := by have := bs_length X; omega
  rw [bs_length] at HT hxl ⊢
  obtain ⟨k1, hk1⟩ : ∃ k1, k1 = k + X.size := ⟨_, rfl⟩
  rw [← hk1] at HT hxl ⊢
  have HK := Lib.hid hk1
  clear hk1
  clear hw hb1 hT hd hx0 hxd
  go_enter Tryz.func66, Tryz.ntmps66
  go_wp2_with fail
  refine HT.out.mono ?_
  rintro e w2 ⟨rfl, hr2, hg2⟩
  obtain ⟨hM, f2, q2⟩ := Mid.mk X hlt hB hBs HTb.out hr2 hg2
  have p2 := hM.2.1.g2
  have HM := Lib.hid hM
  clear hM hr2 hg2 HT HTb c5
  by_cases hv : 9223372036854775807 < valueF 0 (Bs X)
  · have HV := Lib.hid hv
    clear hv
    go_wp2_with fail
    refine (parse_range B X hXs HX.out.2 HV.out _ HM.out.2.2.2.1).mono ?_
    rintro e w3 ⟨⟨n, a, rfl⟩, hb3⟩
    have hM3 := HM.out.below hlt hb3
    have p3 := hM3.2.1.g1
    have HM3 := Lib.hid hM3
    clear hM3 hb3
    go_wp2_with (go_at_call 45; refine (giveUp_any _ _ _).mono ?_; rintro e w4 ⟨rfl, rfl⟩)
    refine ⟨rfl, HM3.out.2.2.2.2.1, ?_⟩
    unfold numR
    rw [if_pos HV.out]
    rfl
  · have hv' : valueF 0 (Bs X) ≤ 9223372036854775807 := by omega
    obtain ⟨V, hV⟩ : ∃ V, V = valueF 0 (Bs X) := ⟨_, rfl⟩
    have HP := Lib.hid (parse_ok X hXs HX.out.1 HX.out.2 hv')
    rw [← hV] at HP
    have HV := Lib.hid (And.intro hV hv)
    clear hv hv' hV
    go_wp2_with fail
    refine (HP.out _).mono ?_
    rintro e w3 ⟨rfl, hb3⟩
    have hM3 := HM.out.below hlt hb3
    have p1 := hM3.2.1.g1
    have p3 := hM3.2.1.g2
    have HM3 := Lib.hid hM3
    clear hM3 hb3 p2 q2 f2
    by_cases hz : 1 < X.size ∧ ∃ h : 0 < X.size, ((X[0].toNat : Int) == 48) = true
    · obtain ⟨h1, h0, h48⟩ := hz
      have e48 := u8_beq X[0] 48 (by decide)
      have h48' : (X[0] == 48) = true := by
        have : UInt8.ofNat 48 = 48 := rfl
        rw [← this, ← e48]; exact h48
      have HE := Lib.hid h48'
      clear e48 h48'
      go_wp2_with (go_at_call 45; refine (giveUp_any _ _ _).mono ?_; rintro e w4 ⟨rfl, rfl⟩)
      refine ⟨rfl, HM3.out.2.2.2.2.1, ?_⟩
      unfold numR
      rw [if_neg HV.out.2, head_bs X h0, eq_of_beq HE.out, if_pos (by simp [h1])]
      rfl
    · have HN : Hid (((Bs X).head? == some 48 && decide (1 < (Bs X).length)) = false) := by
        show _ = false
        rw [bs_length]
        by_cases h1 : 1 < X.size
        · have h0 : 0 < X.size := by omega
          rw [head_bs X h0]
          have e48 := u8_beq X[0] 48 (by decide)
          have h8 : UInt8.ofNat 48 = 48 := rfl
          rw [h8] at e48
          have h3 : ((X[0].toNat : Int) == 48) = false := by
            cases h4 : ((X[0].toNat : Int) == 48)
            · rfl
            · exact absurd ⟨h1, h0, h4⟩ hz
          have h5 : (X[0] == 48) = false := by rw [← e48]; exact h3
          simp only [Option.some_beq_some, h5, Bool.false_and]
        · rw [decide_eq_false h1, Bool.and_false]
      have c5 := HM3.out.1.cellAt
      have c4 := HM3.out.1.cellText
      have hz1 : 1 < X.size → ∀ h : 0 < X.size, ((X[0].toNat : Int) == 48) = false := by
        intro h1 h0
        cases h4 : ((X[0].toNat : Int) == 48)
        · rfl
        · exact absurd ⟨h1, h0, h4⟩ hz
      have HZ := Lib.hid hz1
      clear hz hz1
      rcases Nat.lt_or_ge 1 X.size with h1 | h1
      all_goals
        try (have h0 : 0 < X.size := by omega
             have h48 := HZ.out h1 h0)
        go_wp2_with fail
        by_cases hk1 : k1 < s.size
        · have hdk : decide (k1 < s.size) = true := by simpa using hk1
          by_cases hl : letterB s[k1] = true
          · have HL := Lib.hid hl
            clear hl
            go_quiet ((go_at_call 82; exact Calls.quiet_of_same (letter_is _ true HL.out _)))
            have hMq := HM3.out.drawN nq
            have q1 := hMq.2.1.g1
            have HQ := Lib.hid hMq
            clear hMq
            go_wp2_with (go_at_call 45; refine (giveUp_any _ _ _).mono ?_; rintro e w4 ⟨rfl, rfl⟩)
            refine ⟨rfl, HQ.out.2.2.2.2.1, ?_⟩
            unfold numR
            rw [if_neg HV.out.2, HN.out, if_neg (by decide), head_drop s k1 hk1, if_pos (by simpa using HL.out)]
            rfl
          · have HH : Hid (((Bs s).drop k1).head?.any letterB = false) := by show _ = false; rw [head_drop s k1 hk1]; simpa using hl
            have HL := Lib.hid (show letterB s[k1] = false by simpa using hl)
            clear hl
            go_quiet ((go_at_call 82; exact Calls.quiet_of_same (letter_is _ false HL.out _)))
            have hMq := HM3.out.drawN nq
            obtain ⟨t5, z5, t9, r9, g9⟩ := hMq.fill hlt (.int .i64 (V : Int))
            have f3 := hMq.2.1.free 3
            have a3 := hMq.2.1.g3
            have b0 := t5.g0
            have b1 := t5.g1
            have b2 := t5.g2
            have b3 := t5.g3
            have zc0 := hMq.2.2.1.g0
            have zc1 := hMq.2.2.1.g1
            have zc2 := hMq.2.2.1.g2
            have zc3 := hMq.2.2.1.g3
            have zf0 := hMq.2.2.1.free 0
            have zf1 := hMq.2.2.1.free 1
            have zf2 := hMq.2.2.1.free 2
            have zf3 := hMq.2.2.1.free 3
            have H9 := Lib.hid (And.intro t9 (And.intro r9 g9))
            clear hMq t5 z5 t9 r9 g9 c5 c4
            go_wp2
            obtain ⟨t9, r9, g9⟩ := H9.out
            have y0 := t9.g0
            have y1 := t9.g1
            have y2 := t9.g2
            have y3 := t9.g3
            have FIN := Lib.hid (And.intro g9 r9)
            clear t9 r9 g9 H9 a3 b0 b1 b2 b3 zc0 zc1 zc2 zc3 zf0 zf1 zf2 zf3 f3 p1 p3
            refine bodyPost_ret (v := .agg #[.int .u8 3, .int .i64 (k : Int), .string X, .int .i64 (V : Int)]) (by simp [results, Tryz.results66, go_sem, y0, y1, y2, y3]) rfl ⟨FIN.out.1, ?_⟩
            unfold numR
            rw [if_neg HV.out.2, HN.out, if_neg (by decide), HH.out, if_neg (by decide), ← HV.out.1]
            exact ⟨rfl, by show RS b s (k + (Bs X).length) _; rw [bs_length, ← HK.out]; exact FIN.out.2⟩
        · have hdk : decide (k1 < s.size) = false := by simpa using hk1
          have HH : Hid (((Bs s).drop k1).head?.any letterB = false) := by show _ = false; rw [head_drop_none s k1 hk1]; rfl
          go_quiet (fail)
          have hMq := HM3.out.drawN nq
          obtain ⟨t5, z5, t9, r9, g9⟩ := hMq.fill hlt (.int .i64 (V : Int))
          have f3 := hMq.2.1.free 3
          have a3 := hMq.2.1.g3
          have b0 := t5.g0
          have b1 := t5.g1
          have b2 := t5.g2
          have b3 := t5.g3
          have zc0 := hMq.2.2.1.g0
          have zc1 := hMq.2.2.1.g1
          have zc2 := hMq.2.2.1.g2
          have zc3 := hMq.2.2.1.g3
          have zf0 := hMq.2.2.1.free 0
          have zf1 := hMq.2.2.1.free 1
          have zf2 := hMq.2.2.1.free 2
          have zf3 := hMq.2.2.1.free 3
          have H9 := Lib.hid (And.intro t9 (And.intro r9 g9))
          clear hMq t5 z5 t9 r9 g9 c5 c4
          go_wp2
          obtain ⟨t9, r9, g9⟩ := H9.out
          have y0 := t9.g0
          have y1 := t9.g1
          have y2 := t9.g2
          have y3 := t9.g3
          have FIN := Lib.hid (And.intro g9 r9)
          clear t9 r9 g9 H9 a3 b0 b1 b2 b3 zc0 zc1 zc2 zc3 zf0 zf1 zf2 zf3 f3 p1 p3
          refine bodyPost_ret (v := .agg #[.int .u8 3, .int .i64 (k : Int), .string X, .int .i64 (V : Int)]) (by simp [results, Tryz.results66, go_sem, y0, y1, y2, y3]) rfl ⟨FIN.out.1, ?_⟩
          unfold numR
          rw [if_neg HV.out.2, HN.out, if_neg (by decide), HH.out, if_neg (by decide), ← HV.out.1]
          exact ⟨rfl, by show RS b s (k + (Bs X).length) _; rw [bs_length, ← HK.out]; exact FIN.out.2⟩
end Go.Proofs.YtcgllooeimacdaaGreatDoor
