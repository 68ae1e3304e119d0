/-
  The reader's tokens: a name, a number, a sign: what each reads, or gives up with.
-/
import Derived.Test.YtcgllooeimacdaaGreatDoorScan1
import Derived.Test.YtcgllooeimacdaaGreatDoorOnce2
namespace Go.Proofs.YtcgllooeimacdaaGreatDoor
open Go Go.RowKit Lx Go.Maps Go.WideMaps Go.WideShapes

/-- The words of a reader: not yet asked, or ready. -/
def WordsOk (b : Nat) (v0 v1 v3 : Value) (w : World) : Prop := (v0 = .int .u32 0 ∧ v1 = .int .i32 0 ∧ v3 = .map none) ∨
  (v0 = .int .u32 1 ∧ v1 = .int .i32 0 ∧ ∃ mb, mb ≠ b ∧ v3 = .map (some mb) ∧ w.ownsMap Tryz.prog 9 unitElem mb 14 (wordsD 14))
theorem WordsOk.grown {b : Nat} {v0 v1 v3 : Value} {w w' : World} (h : WordsOk b v0 v1 v3 w) (hg : w.grownBy w' (some b)) : WordsOk b v0 v1 v3 w' := by
  rcases h with h | ⟨h0, h1, mb, h2, h3, h4⟩
  · exact Or.inl h
  · exact Or.inr ⟨h0, h1, mb, h2, h3, h4.kept hg (by simpa using h2)⟩
/-- The reader stands at place k of s. -/
def RS (b : Nat) (s : ByteArray) (k : Nat) (w : World) : Prop := ∃ v0 v1 v3, Rd b v0 v1 (.int .u32 0) v3 s k w ∧ WordsOk b v0 v1 v3 w
section
variable {b k : Nat} {s : ByteArray} {w w' : World}
theorem RS.cellAt (h : RS b s k w) : w.cell? ⟨b, 5, none⟩ = some (.int .i64 (k : Int)) := by obtain ⟨_, _, _, h, _⟩ := h; exact h.cellAt
theorem RS.cellText (h : RS b s k w) : w.cell? ⟨b, 4, none⟩ = some (.string s) := by obtain ⟨_, _, _, h, _⟩ := h; exact h.cellText
theorem RS.lt (h : RS b s k w) : b < w.heap.size := by obtain ⟨_, _, _, h, _⟩ := h; exact h.lt
theorem RS.below (h : RS b s k w) (hb : Below w.heap.size w w') : RS b s k w' := by
  have hlt := h.lt
  obtain ⟨v0, v1, v3, h, h2⟩ := h
  exact ⟨v0, v1, v3, h.below hb, h2.grown (grown_below (World.grownBy.refl _ _) hb)⟩
theorem RS.drawN (h : RS b s k w) (n : Nat) : RS b s k (w.drewN n) := by
  obtain ⟨v0, v1, v3, h, h2⟩ := h
  exact ⟨v0, v1, v3, h, h2.grown (grown_drawN n)⟩
theorem RS.asked (h : RS b s k w) : Asked b 100 #[.string s, .int .i64 (k : Int)] (.int .u32 0) w := by
  obtain ⟨v0, v1, v3, h, h2⟩ := h
  rcases h2 with ⟨rfl, rfl, rfl⟩ | ⟨rfl, rfl, mb, h3, rfl, h4⟩
  · exact Or.inl h
  · exact Or.inr ⟨mb, h3, h, h4⟩
theorem RS.of_ready (h : Ready b 100 #[.string s, .int .i64 (k : Int)] (.int .u32 0) w) : RS b s k w := by
  obtain ⟨mb, h1, h2, h3⟩ := h
  exact ⟨_, _, _, h2, Or.inr ⟨rfl, rfl, mb, h1, rfl, h3⟩⟩
end

theorem skip_S (b : Nat) (s : ByteArray) (hs : s.size ≤ 9223372036854775806) (k : Nat) (hk : k ≤ s.size) (w : World) (hw : RS b s k w) :
    Calls Tryz.prog 46 #[.pointer (some ⟨b, 0, none⟩)] w fun e w' => e = .returned (.tuple #[]) ∧ RS b s (k + skipF false ((Bs s).drop k)) w' ∧ w.grownBy w' (some b) := by
  obtain ⟨v0, v1, v3, h, h2⟩ := hw
  refine (skip_any b v0 v1 _ v3 s hs k hk w h).mono ?_
  rintro e w' ⟨rfl, h3, h4⟩
  exact ⟨rfl, ⟨v0, v1, v3, h3, h2.grown h4⟩, h4⟩

theorem take_S (b : Nat) (s : ByteArray) (hs : s.size ≤ 281474976710656) (N : Nat) (p : UInt8 → Bool)
    (hN : ∀ (c : UInt8) (w : World), Calls Tryz.prog N #[B8 c] w fun e w' => e = .returned (.bool (p c)) ∧ w = w')
    (hent : ∀ (args : Array Value) (w : World), (callFunc N args).run Tryz.prog w = .ok (.enter N args) w)
    (k : Nat) (hk : k ≤ s.size) (w : World) (hw : RS b s k w) :
    Calls Tryz.prog 78 #[.pointer (some ⟨b, 0, none⟩), .func (.func N) #[] #[]] w fun e w' => e = .returned (.string ⟨(((Bs s).drop k).takeWhile p).toArray⟩) ∧
      RS b s (k + (((Bs s).drop k).takeWhile p).length) w' ∧ w.grownBy w' (some b) := by
  obtain ⟨v0, v1, v3, h, h2⟩ := hw
  refine (take_plain b v0 v1 _ v3 s hs N p hN hent k hk w h).mono ?_
  rintro e w' ⟨rfl, h3, h4⟩
  exact ⟨rfl, ⟨v0, v1, v3, h3, h2.grown h4⟩, h4⟩

theorem has_S (B b : Nat) (s : ByteArray) (k : Nat) (text : ByteArray) (ht : text.size ≤ maxLen) (w : World) (hB : B ≤ b) (hBs : B ≤ w.heap.size) (hT : Tabs B w) (hw : RS b s k w) :
    Calls Tryz.prog 80 #[.pointer (some ⟨b, 0, none⟩), .string text] w fun e w' => e = .returned (.bool (wordB (Bs text))) ∧ RS b s k w' ∧ w.grownBy w' (some b) := by
  refine (has_any B b _ _ _ text ht w hB hBs hT hw.asked).mono ?_
  rintro e w' ⟨rfl, h3, h4⟩
  exact ⟨rfl, RS.of_ready h3, h4⟩

/-- A token's block. -/
def T4 (b : Nat) (c0 c1 c2 c3 : Value) (w : World) : Prop := w.heap[b]? = some (.cells #[c0, c1, c2, c3] 55 (0, 0))
section
variable {b : Nat} {c0 c1 c2 c3 : Value} {w w' : World}
theorem T4.g0 (h : T4 b c0 c1 c2 c3 w) : w.cell? ⟨b, 0, none⟩ = some c0 := by unfold T4 at h; simp [World.cell?, h]
theorem T4.g1 (h : T4 b c0 c1 c2 c3 w) : w.cell? ⟨b, 1, none⟩ = some c1 := by unfold T4 at h; simp [World.cell?, h]
theorem T4.g2 (h : T4 b c0 c1 c2 c3 w) : w.cell? ⟨b, 2, none⟩ = some c2 := by unfold T4 at h; simp [World.cell?, h]
theorem T4.g3 (h : T4 b c0 c1 c2 c3 w) : w.cell? ⟨b, 3, none⟩ = some c3 := by unfold T4 at h; simp [World.cell?, h]
theorem T4.free (h : T4 b c0 c1 c2 c3 w) (j : Nat) : w.frozen? ⟨b, j, none⟩ = false := by unfold T4 at h; simp [World.frozen?, h]
theorem T4.lt (h : T4 b c0 c1 c2 c3 w) : b < w.heap.size := lt_of_block h
theorem T4.other {row : Option Nat} (h : T4 b c0 c1 c2 c3 w) (hg : w.grownBy w' row) (hne : some b ≠ row) : T4 b c0 c1 c2 c3 w' := (hg.block b h.lt hne).trans h
theorem T4.set0 (h : T4 b c0 c1 c2 c3 w) (u : Value) : T4 b u c1 c2 c3 (w.setCell ⟨b, 0, none⟩ u) := by unfold T4 at *; rw [set_block h]; rfl
theorem T4.set2 (h : T4 b c0 c1 c2 c3 w) (u : Value) : T4 b c0 c1 u c3 (w.setCell ⟨b, 2, none⟩ u) := by unfold T4 at *; rw [set_block h]; rfl
theorem T4.set3 (h : T4 b c0 c1 c2 c3 w) (u : Value) : T4 b c0 c1 c2 u (w.setCell ⟨b, 3, none⟩ u) := by unfold T4 at *; rw [set_block h]; rfl
theorem T4.set1 (h : T4 b c0 c1 c2 c3 w) (u : Value) : T4 b c0 u c2 c3 (w.setCell ⟨b, 1, none⟩ u) := by unfold T4 at *; rw [set_block h]; rfl
theorem T4.copy (h : T4 b c0 c1 c2 c3 w) (u0 u1 u2 u3 : Value) :
    T4 b u0 u1 u2 u3 ((((w.setCell ⟨b, 0, none⟩ u0).setCell ⟨b, 1, none⟩ u1).setCell ⟨b, 2, none⟩ u2).setCell ⟨b, 3, none⟩ u3) ∧ w.grownBy ((((w.setCell ⟨b, 0, none⟩ u0).setCell ⟨b, 1, none⟩ u1).setCell ⟨b, 2, none⟩ u2).setCell ⟨b, 3, none⟩ u3) (some b) :=
  ⟨(((h.set0 u0).set1 u1).set2 u2).set3 u3, grown_trans (grown_trans (grown_trans (Lib.grownBy_setCell _ _ _ _) (Lib.grownBy_setCell _ _ _ _)) (Lib.grownBy_setCell _ _ _ _)) (Lib.grownBy_setCell _ _ _ _)⟩
theorem RS.grownT {k tb : Nat} {s : ByteArray} (h : RS b s k w) (ht : T4 tb c0 c1 c2 c3 w) (hne : tb ≠ b) (hg : w.grownBy w' (some tb)) : RS b s k w' := by
  obtain ⟨v0, v1, v3, h1, h2⟩ := h
  refine ⟨v0, v1, v3, h1.other hg (by simpa using hne.symm), ?_⟩
  rcases h2 with h2 | ⟨h3, h4, mb, h5, h6, h7⟩
  · exact Or.inl h2
  · refine Or.inr ⟨h3, h4, mb, h5, h6, h7.kept hg ?_⟩
    intro e
    obtain rfl : mb = tb := by simpa using e
    obtain ⟨es, clock, hb, _⟩ := h7
    rw [T4] at ht
    rw [ht] at hb
    simp at hb
end

def tokV (t : Tok) : Value := .agg #[.int .u8 (t.kind : Int), .int .i64 (t.pos : Int), .string ⟨t.text.toArray⟩, .int .i64 (t.num : Int)]
def faultV (k n : Nat) : List PanicEntry := [{ v := .iface 83 (.agg #[.int .i64 (k : Int), .int .i64 (n : Int)]), recovered := false }]
/-- What a reading of a token comes to. -/
def TokPost (b : Nat) (s : ByteArray) (k : Nat) (w : World) (r : Except Nat Tok) (e : Ending) (w' : World) : Prop :=
  w.grownBy w' (some b) ∧ match r with
    | .error n => e = .panicked (faultV k n)
    | .ok t => e = .returned (tokV t) ∧ RS b s (k + t.text.length) w'

def nameR (k : Nat) (x : List UInt8) : Except Nat Tok := if 12 < x.length then .error 2 else .ok ⟨if wordB x then 2 else 1, k, x, 0⟩

set_option maxRecDepth 100000 in
theorem name_any (B b : Nat) (s : ByteArray) (hs : s.size ≤ 20000) (k : Nat) (hk : k ≤ s.size) (w : World) (hB : B ≤ b) (hBs : B ≤ w.heap.size) (hT : Tabs B w) (hw : RS b s k w) :
    Calls Tryz.prog 64 #[.pointer (some ⟨b, 0, none⟩)] w (TokPost b s k w (nameR k (((Bs s).drop k).takeWhile nameB))) := by
  have hmf : ∀ (fn : Fn) (first cap : Array Value) (w : World), (Instr.makeFunc fn first cap).run Tryz.prog w = .ok (.func fn first cap) w := fun _ _ _ _ => rfl
  have hb0 : Below w.heap.size w (w.alloc (.cells #[.int .u8 0, .int .i64 0, .string ⟨#[]⟩, .int .i64 0] 55)) := (Below.refl _ _).alloc (Nat.le_refl _) _
  have hb1 : Below w.heap.size w ((w.alloc (.cells #[.int .u8 0, .int .i64 0, .string ⟨#[]⟩, .int .i64 0] 55)).alloc (.cells #[.int .u8 1, .int .i64 (k : Int), .string ⟨#[]⟩, .int .i64 0] 55)) := hb0.alloc (by simp) _
  have c5 := (hw.below hb0).cellAt
  have hw1 := hw.below hb1
  have hz1 : T4 w.heap.size (.int .u8 0) (.int .i64 0) (.string ⟨#[]⟩) (.int .i64 0) ((w.alloc (.cells #[.int .u8 0, .int .i64 0, .string ⟨#[]⟩, .int .i64 0] 55)).alloc (.cells #[.int .u8 1, .int .i64 (k : Int), .string ⟨#[]⟩, .int .i64 0] 55)) := by
    unfold T4; rw [Below.heap_alloc _ _ _ (by simp)]; exact heap_alloc_new w _
  have ht1 : T4 (w.heap.size + 1) (.int .u8 1) (.int .i64 (k : Int)) (.string ⟨#[]⟩) (.int .i64 0) ((w.alloc (.cells #[.int .u8 0, .int .i64 0, .string ⟨#[]⟩, .int .i64 0] 55)).alloc (.cells #[.int .u8 1, .int .i64 (k : Int), .string ⟨#[]⟩, .int .i64 0] 55)) := by
    have := heap_alloc_new (w.alloc (.cells #[.int .u8 0, .int .i64 0, .string ⟨#[]⟩, .int .i64 0] 55)) (.cells #[.int .u8 1, .int .i64 (k : Int), .string ⟨#[]⟩, .int .i64 0] 55)
    simpa [T4] using this
  have HT := Lib.hid (take_S b s (by omega) 79 nameB name1_any (fun args w => by simp [go_sem]) k hk _ hw1)
  have hxl := take_le s nameB k hk
  obtain ⟨x, hx⟩ : ∃ x, x = ((Bs s).drop k).takeWhile nameB := ⟨_, rfl⟩
  rw [← hx] at HT hxl ⊢
  clear hx
  have hlt := hw.lt
  have H1 := Lib.hid (And.intro hb1 (And.intro hz1 ht1))
  have HTb := Lib.hid hT
  clear hw hw1 ht1 hb0 hb1 hz1 hT
  go_enter Tryz.func64, Tryz.ntmps64
  go_wp2_with fail
  refine HT.out.mono ?_
  rintro e w2 ⟨rfl, hr2, hg2⟩
  obtain ⟨hb1, hz1, ht1⟩ := H1.out
  have ht2 := ht1.other hg2 (by simp; omega)
  have hz2 := hz1.other hg2 (by simp; omega)
  have hg02 : w.grownBy w2 (some b) := grown_trans (grown_below (World.grownBy.refl _ _) hb1) hg2
  have htb2 : Tabs B w2 := HTb.out.grown hB hBs hg02
  have f2 := ht2.free 2
  have q2 := ht2.g2
  have hg3 : w2.grownBy (w2.setCell ⟨w.heap.size + 1, 2, none⟩ (.string ⟨x.toArray⟩)) (some (w.heap.size + 1)) := Lib.grownBy_setCell _ _ _ _
  have ht3 := ht2.set2 (.string ⟨x.toArray⟩)
  have hr3 := hr2.grownT ht2 (by omega) hg3
  have hz3 := hz2.other hg3 (by simp)
  have htb3 : Tabs B (w2.setCell ⟨w.heap.size + 1, 2, none⟩ (.string ⟨x.toArray⟩)) := htb2.grown (by omega) (Nat.le_trans hBs hg02.size) hg3
  have hg03 : w.grownBy (w2.setCell ⟨w.heap.size + 1, 2, none⟩ (.string ⟨x.toArray⟩)) (some b) := grown_new hg02 (by omega) hg3
  have p1 := ht3.g1
  have p2 := ht3.g2
  have hsz3 : B ≤ (w2.setCell ⟨w.heap.size + 1, 2, none⟩ (.string ⟨x.toArray⟩)).heap.size := Nat.le_trans hBs hg03.size
  have H3 := Lib.hid (And.intro hr3 (And.intro ht3 (And.intro hz3 (And.intro htb3 (And.intro hg03 hsz3)))))
  clear c5 hr2 hg2 ht2 hz2 ht1 hz1 hb1 ht3 hz3 hr3 htb3 hg03 hg02 htb2 hg3 HTb H1 HT hsz3
  by_cases hlen : 12 < x.length
  · go_wp2_with (go_at_call 45; refine (giveUp_any _ _ _).mono ?_; rintro e w3 ⟨rfl, rfl⟩)
    refine ⟨rfl, H3.out.2.2.2.2.1, ?_⟩
    unfold nameR
    rw [if_pos hlen]
    rfl
  · obtain ⟨W, hW⟩ : ∃ W, W = w2.setCell ⟨w.heap.size + 1, 2, none⟩ (.string ⟨x.toArray⟩) := ⟨_, rfl⟩
    rw [← hW] at H3
    have HH := Lib.hid (has_S B b s (k + x.length) ⟨x.toArray⟩ (by unfold maxLen; simp [ByteArray.size]; omega) (W.drewN 1) hB H3.out.2.2.2.2.2 (H3.out.2.2.2.1.drew 1) (H3.out.1.drawN 1))
    go_wp2_with fail
    rw [← hW]
    rw [← hW] at p2
    clear p1 f2 q2
    have HWn := Lib.hid hW
    clear hW
    go_still_tail 5, (by kernel_rfl)
    change wpList _ _ _ _ _ (W.drewN 1)
    go_wp2_with fail
    refine HH.out.mono ?_
    rintro e w4 ⟨rfl, hr4, hg4⟩
    obtain ⟨hr3, ht3, hz3, htb3, hg03, hsz3⟩ := H3.out
    have hg34 : W.grownBy w4 (some b) := grown_trans (grown_drawN 1) hg4
    have ht4 := ht3.other hg34 (by simp; omega)
    have hz4 := hz3.other hg34 (by simp; omega)
    have hg04 := grown_trans hg03 hg34
    clear hr3 ht3 hz3 htb3 hg03 hsz3 hg34 hg4 p2
    by_cases hw : wordB x = true
    · have hwb : wordB (Bs ⟨x.toArray⟩) = true := hw
      have f0 := ht4.free 0
      have q0 := ht4.g0
      have hg45 : w4.grownBy (w4.setCell ⟨w.heap.size + 1, 0, none⟩ (.int .u8 2)) (some (w.heap.size + 1)) := Lib.grownBy_setCell _ _ _ _
      have ht5 := ht4.set0 (.int .u8 2)
      have r0 := ht5.g0
      have r1 := ht5.g1
      have r2 := ht5.g2
      have r3 := ht5.g3
      have H5 := Lib.hid (And.intro (hr4.grownT ht4 (by omega) hg45) (And.intro ht5 (And.intro (hz4.other hg45 (by simp)) (grown_new hg04 (by omega) hg45))))
      have z0 := hz4.g0
      have z1 := hz4.g1
      have z2 := hz4.g2
      have z3 := hz4.g3
      have zf0 := hz4.free 0
      have zf1 := hz4.free 1
      have zf2 := hz4.free 2
      have zf3 := hz4.free 3
      clear hr4 ht4 hz4 hg04 hg45 ht5
      go_wp2
      obtain ⟨hr5, ht5, hz5, hg5⟩ := H5.out
      obtain ⟨hz9, hg9⟩ := hz5.copy (.int .u8 2) (.int .i64 (k : Int)) (.string ⟨x.toArray⟩) (.int .i64 0)
      have y0 := hz9.g0
      have y1 := hz9.g1
      have y2 := hz9.g2
      have y3 := hz9.g3
      have FIN := Lib.hid (And.intro (grown_new hg5 (Nat.le_refl _) hg9) (hr5.grownT hz5 (by omega) hg9))
      clear hr5 ht5 hz5 hg5 hz9 hg9 H5 r0 r1 r2 r3 z0 z1 z2 z3 zf0 zf1 zf2 zf3 f0 q0
      refine bodyPost_ret (v := tokV ⟨2, k, x, 0⟩) (by simp [results, Tryz.results64, go_sem, y0, y1, y2, y3, tokV]) rfl ⟨FIN.out.1, ?_⟩
      unfold nameR
      rw [if_neg hlen, hw]
      exact ⟨rfl, FIN.out.2⟩
    · have hwb : wordB (Bs ⟨x.toArray⟩) = false := by simpa using hw
      have r0 := ht4.g0
      have r1 := ht4.g1
      have r2 := ht4.g2
      have r3 := ht4.g3
      have z0 := hz4.g0
      have z1 := hz4.g1
      have z2 := hz4.g2
      have z3 := hz4.g3
      have zf0 := hz4.free 0
      have zf1 := hz4.free 1
      have zf2 := hz4.free 2
      have zf3 := hz4.free 3
      have H5 := Lib.hid (And.intro hr4 (And.intro ht4 (And.intro hz4 hg04)))
      clear hr4 ht4 hz4 hg04
      go_wp2
      obtain ⟨hr5, ht5, hz5, hg5⟩ := H5.out
      obtain ⟨hz9, hg9⟩ := hz5.copy (.int .u8 1) (.int .i64 (k : Int)) (.string ⟨x.toArray⟩) (.int .i64 0)
      have y0 := hz9.g0
      have y1 := hz9.g1
      have y2 := hz9.g2
      have y3 := hz9.g3
      have FIN := Lib.hid (And.intro (grown_new hg5 (Nat.le_refl _) hg9) (hr5.grownT hz5 (by omega) hg9))
      clear hr5 ht5 hz5 hg5 hz9 hg9 H5 r0 r1 r2 r3 z0 z1 z2 z3 zf0 zf1 zf2 zf3
      refine bodyPost_ret (v := tokV ⟨1, k, x, 0⟩) (by simp [results, Tryz.results64, go_sem, y0, y1, y2, y3, tokV]) rfl ⟨FIN.out.1, ?_⟩
      unfold nameR
      rw [if_neg hlen, if_neg hw]
      exact ⟨rfl, FIN.out.2⟩
end Go.Proofs.YtcgllooeimacdaaGreatDoor
