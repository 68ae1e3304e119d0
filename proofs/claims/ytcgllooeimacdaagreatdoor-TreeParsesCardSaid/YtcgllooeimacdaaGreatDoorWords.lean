/-
  The words of the language: made ready once, asked after.
-/
import Derived.Test.YtcgllooeimacdaaGreatDoorScan1
import Derived.Maps.OwnSet
import Derived.Maps.Views
import Derived.Deep.LoopGhost
namespace Go.Proofs.YtcgllooeimacdaaGreatDoor
open Go Go.RowKit Lx Go.Maps Go.WideMaps Go.WideShapes

/-- What the listed variables hold, in every world that is as this one below B. -/
def Tabs (B : Nat) (w : World) : Prop := ∀ w', Below B w w' → Lib.TabIs Tryz.prog w' "strings.asciiSpace" .u8 Lib.asciiSpaceTab ∧ ∃ te pe, w'.cell? ⟨2, 0, none⟩ = some (.iface te pe)
theorem Tabs.below {B : Nat} {w w' : World} (h : Tabs B w) (hb : Below B w w') : Tabs B w' := fun w'' h2 => h w'' (hb.trans h2)
theorem Tabs.drew {B : Nat} {w : World} (h : Tabs B w) (n : Nat) : Tabs B (w.drewN n) := h.below ⟨rfl, rfl, rfl, Nat.le_refl _, fun _ _ => rfl⟩
theorem Tabs.mono {B B' : Nat} {w : World} (h : Tabs B w) (hB : B ≤ B') : Tabs B' w := fun w' h2 => h w' (h2.mono hB)
theorem Tabs.grown {B b : Nat} {w w' : World} (h : Tabs B w) (hb : B ≤ b) (hs : B ≤ w.heap.size) (hg : w.grownBy w' (some b)) : Tabs B w' :=
  h.below ((Below.refl _ _).grown hg hs (fun k e => by cases e; exact hb))

/-- The words' block: four cells, and what stands behind them. -/
def Wd (b : Nat) (T : TypeId) (rest : Array Value) (v0 v1 v2 v3 : Value) (w : World) : Prop := w.heap[b]? = some (.cells (#[v0, v1, v2, v3] ++ rest) T (0, 0))
section
variable {b : Nat} {T : TypeId} {rest : Array Value} {v0 v1 v2 v3 : Value} {w w' : World}
theorem Wd.c0 (h : Wd b T rest v0 v1 v2 v3 w) : w.cell? ⟨b, 0, none⟩ = some v0 := by unfold Wd at h; simp only [World.cell?, h]; rw [Array.getElem?_append_left (by simp)]; rfl
theorem Wd.c1 (h : Wd b T rest v0 v1 v2 v3 w) : w.cell? ⟨b, 1, none⟩ = some v1 := by unfold Wd at h; simp only [World.cell?, h]; rw [Array.getElem?_append_left (by simp)]; rfl
theorem Wd.c3 (h : Wd b T rest v0 v1 v2 v3 w) : w.cell? ⟨b, 3, none⟩ = some v3 := by unfold Wd at h; simp only [World.cell?, h]; rw [Array.getElem?_append_left (by simp)]; rfl
theorem Wd.free (h : Wd b T rest v0 v1 v2 v3 w) (j : Nat) : w.frozen? ⟨b, j, none⟩ = false := by unfold Wd at h; simp [World.frozen?, h]
theorem Wd.lt (h : Wd b T rest v0 v1 v2 v3 w) : b < w.heap.size := lt_of_block h
theorem Wd.other {row : Option Nat} (h : Wd b T rest v0 v1 v2 v3 w) (hg : w.grownBy w' row) (hne : some b ≠ row) : Wd b T rest v0 v1 v2 v3 w' := (hg.block b h.lt hne).trans h
theorem set_block {w : World} {b j : Nat} {cs : Array Value} {T : TypeId} {u : Value} (h : w.heap[b]? = some (.cells cs T (0, 0))) : (w.setCell ⟨b, j, none⟩ u).heap[b]? = some (.cells (cs.setIfInBounds j u) T (0, 0)) := by
  have hlt := lt_of_block h
  have h' : w.heap[b] = .cells cs T (0, 0) := by simpa [Array.getElem?_eq_getElem hlt] using h
  show (w.heap.modify b _)[b]? = _
  rw [Array.getElem?_eq_getElem (by simpa using hlt), Array.getElem_modify_self, h']
  rfl
theorem Wd.set0 (h : Wd b T rest v0 v1 v2 v3 w) (u : Value) : Wd b T rest u v1 v2 v3 (w.setCell ⟨b, 0, none⟩ u) := by
  unfold Wd at *; rw [set_block h]; simp
theorem Wd.set1 (h : Wd b T rest v0 v1 v2 v3 w) (u : Value) : Wd b T rest v0 u v2 v3 (w.setCell ⟨b, 1, none⟩ u) := by
  unfold Wd at *; rw [set_block h]; simp
theorem Wd.set3 (h : Wd b T rest v0 v1 v2 v3 w) (u : Value) : Wd b T rest v0 v1 v2 u (w.setCell ⟨b, 3, none⟩ u) := by
  unfold Wd at *; rw [set_block h]; simp
end

theorem law_str : Keyed Tryz.prog 9 := string_keyed Tryz.underlying9
theorem zero_unit (w : World) : (zeroValue 84).run Tryz.prog w = .ok (.agg #[]) w := by kernel_rfl
def wordLits : List Lit := wordsL.map fun l => Lit.string l
def wordsD (k : Nat) : DataW Unit := setOf (.agg []) (wordLits.take k)

theorem wordsD_succ (k : Nat) (h : k < 14) : wordsD (k + 1) = (wordsD k).put (.string (wordsL[k]'h)) (.agg []) := by
  have h2 : k < wordLits.length := h
  unfold wordsD
  have e : wordLits[k] = Lit.string (wordsL[k]'h) := by simp [wordLits]; rfl
  rw [← setOf_snoc, List.take_succ_eq_append_getElem h2, e]
theorem has_wordsD (l : List UInt8) : Maps.has (wordsD 14) (.string l) = wordB l := by
  unfold wordsD
  rw [has_setOf _ _ _ (by intro x hx; have := List.mem_of_mem_take hx; simp only [wordLits, List.mem_map] at this; obtain ⟨y, _, rfl⟩ := this; exact trivial)]
  rw [List.take_of_length_le (Nat.le_refl 14)]
  unfold wordLits wordB
  rw [List.any_map, Bool.eq_iff_iff, List.any_eq_true, List.contains_iff_mem]
  constructor
  · rintro ⟨y, hy, e⟩
    have e2 : y = l := by simpa [Lit.sameKey] using e
    exact e2 ▸ hy
  · intro h
    exact ⟨l, h, by simp [Lit.sameKey]⟩

/-- The list of the words, as the text has it. -/
def wordsTxt : ByteArray := ⟨#[102, 110, 32, 108, 101, 116, 32, 105, 102, 32, 101, 108, 115, 101, 32, 119, 104, 105, 108, 101, 32, 114, 101, 116, 117, 114, 110, 32, 112, 114, 105, 110, 116, 32, 116, 114, 117, 101, 32, 102, 97, 108, 115, 101, 32, 114, 101, 97, 100, 32, 108, 101, 110, 32, 105, 110, 116, 32, 98, 111, 111, 108, 32, 97, 114, 114]⟩
theorem fields_words : Lib.fields wordsTxt.data.toList = wordsL := by decide +kernel
theorem ascii_words : ∀ (j : Nat) b, wordsTxt.data.toList[j]? = some b → b.toNat < 128 := by
  intro j b h
  have : ∀ x ∈ wordsTxt.data.toList, x.toNat < 128 := by decide +kernel
  exact this b (List.mem_of_getElem? h)

theorem fields_any (B : Nat) (w : World) (hT : Tabs B w) : Calls Tryz.prog 113 #[.string wordsTxt] w fun e w' => e = .returned (.slice (some ⟨w.heap.size, 0, none⟩) 14 14) ∧
    w.grownBy w' none ∧ w.heap.size < w'.heap.size ∧ ∀ j (h : j < 14), w'.cell? ⟨w.heap.size, j, none⟩ = some (.string ⟨(wordsL[j]).toArray⟩) := by
  refine (Tryz.strings_Fields_laid wordsTxt w (by decide) ascii_words (hT w (Below.refl _ _)).1).mono ?_
  rintro e w' ⟨rfl, rfl⟩
  rw [fields_words]
  refine ⟨rfl, World.grownBy_alloc _ _ _, by simp, fun j h => ?_⟩
  rw [cell_of_row _ _ _ _ _ _ (heap_alloc_new w _)]
  have h2 : j < wordsL.length := h
  rw [List.getElem?_toArray, List.getElem?_map, List.getElem?_eq_getElem h2]
  rfl

set_option maxRecDepth 100000 in
set_option maxHeartbeats 800000 in
theorem learn_any (B b : Nat) (T : TypeId) (rest : Array Value) (v0 v1 v2 v3 : Value) (w : World) (hB : B ≤ b) (hBs : B ≤ w.heap.size) (hT : Tabs B w) (hw : Wd b T rest v0 v1 v2 v3 w) :
    Calls Tryz.prog 95 #[.pointer (some ⟨b, 0, none⟩)] w fun e w' => e = .returned (.tuple #[]) ∧ ∃ mb, w.heap.size ≤ mb ∧ Wd b T rest v0 v1 v2 (.map (some mb)) w' ∧
      w'.ownsMap Tryz.prog 9 unitElem mb 14 (wordsD 14) ∧ w.grownBy w' (some b) := by
  have hmm := @run_makeMap Tryz.prog
  have hw1 : Wd b T rest v0 v1 v2 v3 (w.alloc (.map #[] 0)) := hw.other (World.grownBy_alloc _ _ none) (by simp)
  have c3 := hw1.c3
  have f3 := hw1.free 3
  have hlt := hw.lt
  have HW : Hid (Wd b T rest v0 v1 v2 (.map (some w.heap.size)) ((w.setCell ⟨b, 3, none⟩ (.map (some w.heap.size))).alloc (.map #[] 0)) ∧
      ((w.setCell ⟨b, 3, none⟩ (.map (some w.heap.size))).alloc (.map #[] 0)).ownsMap Tryz.prog 9 unitElem w.heap.size 0 (wordsD 0) ∧
      w.grownBy ((w.setCell ⟨b, 3, none⟩ (.map (some w.heap.size))).alloc (.map #[] 0)) (some b) ∧ Tabs B ((w.setCell ⟨b, 3, none⟩ (.map (some w.heap.size))).alloc (.map #[] 0))) := by
    have g1 : w.grownBy ((w.setCell ⟨b, 3, none⟩ (.map (some w.heap.size))).alloc (.map #[] 0)) (some b) := grown_trans (Lib.grownBy_setCell _ _ _ _) (World.grownBy_alloc _ _ _)
    refine ⟨(hw.set3 _).other (World.grownBy_alloc _ _ none) (by simp), ?_, g1, hT.grown hB hBs g1⟩
    have := World.ownsMap_made (H := Unit) (w.setCell ⟨b, 3, none⟩ (.map (some w.heap.size))) Tryz.prog 9 unitElem
    simpa [wordsD, setOf] using this
  have s1 : ((w.setCell ⟨b, 3, none⟩ (.map (some w.heap.size))).alloc (.map #[] 0)).heap.size = w.heap.size + 1 := by simp
  have HF := Lib.hid (fields_any B _ HW.out.2.2.2)
  rw [s1] at HF
  clear hw hw1 hT s1
  go_enter Tryz.func95, Tryz.ntmps95
  go_wp2_with fail
  refine HF.out.mono ?_
  rintro e w2 ⟨rfl, hg2, hs2, hc2⟩
  obtain ⟨hwd, hown, hgr, htb⟩ := HW.out
  have HW2 : Hid (Wd b T rest v0 v1 v2 (.map (some w.heap.size)) w2 ∧ w2.ownsMap Tryz.prog 9 unitElem w.heap.size 0 (wordsD 0) ∧ w.grownBy w2 (some b)) :=
    ⟨hwd.other hg2 (by simp), hown.kept hg2 (by simp), grown_trans hgr ⟨hg2.os, hg2.tape, hg2.output, hg2.size, fun k h1 _ => hg2.block k h1 (by simp)⟩⟩
  have HC2 := Lib.hid hc2
  have HS2 := Lib.hid hs2
  clear hwd hown hgr htb hg2 hc2 HW HF c3 f3 hs2
  have hbm : b ≠ w.heap.size := by omega
  go_wp2
  go_loopw [10] (fun i wr => ∃ k : Nat, k ≤ 14 ∧ i = .int .i64 k ∧ Wd b T rest v0 v1 v2 (.map (some w.heap.size)) wr ∧ wr.ownsMap Tryz.prog 9 unitElem w.heap.size k (wordsD k) ∧ w2.grownBy wr (some w.heap.size)) (fun i _ => 14 - (intOf i).toNat)
  case atStart => exact ⟨0, by omega, rfl, HW2.out.1, HW2.out.2.1, World.grownBy.refl _ _⟩
  case round =>
    obtain ⟨k, hk, rfl, hwd, hown, hgr⟩ := hrel
    by_cases hlt2 : k < 14
    · have hx : ∃ x : ByteArray, x = ⟨(wordsL[k]'hlt2).toArray⟩ := ⟨_, rfl⟩
      obtain ⟨x, hx⟩ := hx
      have hcx : wr.cell? ⟨w.heap.size + 1, k, none⟩ = some (.string x) := by
        rw [hx]
        exact hgr.cell (HC2.out k hlt2) (by simp)
      have hkey : keyOf Tryz.prog 9 (.string x) = some (.string (wordsL[k]'hlt2)) := by
        have hl : x.size ≤ maxLen := by
          have : ∀ y ∈ wordsL, y.length ≤ 12 := by decide
          have h1 := this (wordsL[k]'hlt2) (List.getElem_mem _)
          have h2 : x.size = (wordsL[k]'hlt2).length := by rw [hx]; simp [ByteArray.size]
          unfold maxLen; omega
        have := keyOf_string_mk Tryz.underlying9 hl
        rw [this, hx]
      have d3 := hwd.c3
      have HX := Lib.hid hx
      have HR := Lib.hid (And.intro hwd (And.intro hown hgr))
      have HK := Lib.hid hkey
      clear hx hwd hown hgr hkey
      go_wp2_with (at_mapUpdate; refine wpList_mapUpdate_own _ rfl _ _ _ 96 rfl 9 84 law_str Tryz.underlying96 (unitElem (H := Unit)) w.heap.size k _ rfl HR.out.2.1 (by unfold maxLen; omega) _ _ _ rfl rfl HK.out _ [] unitElem_mk ?_; intro w1 hown1 hgrow1)
      obtain ⟨hwd, _, hgr⟩ := HR.out
      go_roundw
      case rel =>
        refine ⟨k + 1, by omega, by go_num, hwd.other hgrow1 (by simpa using hbm), ?_, grown_trans hgr hgrow1⟩
        rw [wordsD_succ k hlt2]
        exact hown1
      case measure => simp [intOf]; omega
    · obtain rfl : k = 14 := by omega
      have HR := Lib.hid (And.intro hwd (And.intro hown hgr))
      clear hwd hown hgr
      go_wp2
      go_end0
      obtain ⟨hwd, hown, hgr⟩ := HR.out
      exact ⟨rfl, w.heap.size, Nat.le_refl _, hwd, hown, grown_new HW2.out.2.2 (Nat.le_refl _) hgr⟩
end Go.Proofs.YtcgllooeimacdaaGreatDoor
