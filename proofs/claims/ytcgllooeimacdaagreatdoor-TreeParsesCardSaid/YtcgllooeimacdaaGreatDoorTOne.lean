/-
  A list of one expression; a place in its brackets.
-/
import Derived.Test.YtcgllooeimacdaaGreatDoorTUn
namespace Go.Proofs.YtcgllooeimacdaaGreatDoor
open Go Go.RowKit Px
open Lx (Tok)

/-- A row of one expression, whose parts stand ahead of it. -/
def ExRow1 (w : World) (B g : Nat) (x : Ex) : Prop := B ≤ g ∧ ∃ xs, w.ownsRow 0 36 6 (.slice (some ⟨g, 0, none⟩) 1 1) 1 xs ∧ ExC w (fun h => B ≤ h ∧ h < g) x xs
theorem ExRow1.row {w : World} {B g : Nat} {x : Ex} (h : ExRow1 w B g x) : ExRow w (fun h => B ≤ h) [x] (.slice (some ⟨g, 0, none⟩) 1 1) := by
  obtain ⟨h1, xs, h2, h3⟩ := h
  refine Or.inr ⟨g, 1, xs, rfl, h1, h2, ?_⟩
  simp only [ExsC]
  exact ⟨xs, [], by simp, h3.stays (stays_weaken fun h hh _ => hh.1), rfl⟩
theorem ExRow1.lt {w : World} {B g : Nat} {x : Ex} (h : ExRow1 w B g x) : g < w.heap.size := by
  obtain ⟨_, xs, h2, _⟩ := h
  exact owns_lt h2
theorem ExRow1.stays {w w' : World} {B B' g : Nat} {x : Ex} (h : ExRow1 w B g x) (hB : B' ≤ B) (hs : ∀ j, B ≤ j → j < w.heap.size → w'.heap[j]? = w.heap[j]?) : ExRow1 w' B' g x := by
  have hl := h.lt
  obtain ⟨h1, xs, h2, h3⟩ := h
  exact ⟨by omega, xs, owns_stays h2 (hs g h1 hl), h3.stays fun j hj hl => ⟨hs j hj.1 hl, by omega, hj.2⟩⟩
/-- A list of one expression. -/
def oneE (B : Nat) (x : Ex) (e : Ending) (w' : World) : Prop := ∃ g, e = .returned (.slice (some ⟨g, 0, none⟩) 1 1) ∧ ExRow1 w' B g x

set_option maxRecDepth 100000 in
theorem one_C {f : Nat} (hB : BinC f) (b g cap : Nat) (ts : List Tok) (s : St) (w : World) (hw : PW b g cap ts s w) (hne : binF ts f 1 s ≠ gone) :
    Calls Tryz.prog 88 #[.pointer (some ⟨b, 0, none⟩)] w (RPost b g cap ts w (oneE w.heap.size) (binF ts f 1 s)) := by
  have HC := Lib.hid (expr_any hB b g cap ts s w hw hne)
  clear hw hne hB
  go_enter Tryz.func88, Tryz.ntmps88
  go_wp2_with fail
  refine HC.out.mono ?_
  rintro e w1 h1
  rcases h1.elim with ⟨pn, hr, hg, rfl⟩ | ⟨x, s', hr, hg, ⟨k, op, nm, n, pos, a, m, c, rfl, hx⟩, hp⟩
  · have FIN := Lib.hid (RPost.err (α := Ex) (g := g) (cap := cap) (ts := ts) (V := oneE w.heap.size) hr hg)
    clear hg hr h1
    go_wp2
    exact ⟨rfl, FIN.out⟩
  · have hs := hg.size
    have hb2 : Below w1.heap.size w1 (w1.alloc (.cells (exCells k op nm n pos a m c) 36)) := (Below.refl _ _).alloc (Nat.le_refl _) _
    have FIN := Lib.hid (RPost.ok (V := oneE w.heap.size) (e := .returned (.slice (some ⟨w1.heap.size, 0, none⟩) 1 1)) hr (gtrans hg (grown_of_below hb2))
      ⟨w1.heap.size, rfl, hs, (exCells k op nm n pos a m c).toList, ⟨rfl, Or.inr ⟨_, _, _, rfl, Nat.zero_le _, heap_alloc_new w1 _, Nat.le_refl _, by decide, rfl, rfl⟩⟩, hx.stays fun h hh hl => ⟨hb2.block h hl, hh, hl⟩⟩ (hp.below hb2))
    clear hg hr h1 hp hx hb2
    go_wp2
    go_ret
    exact FIN.out

set_option maxRecDepth 100000 in
set_option maxHeartbeats 1000000 in
theorem place_C {f : Nat} (hB : BinC f) (b g cap : Nat) (ts : List Tok) (s : St) (w : World) (hw : PW b g cap ts s w) (hne : placeF ts f s ≠ gone) :
    Calls Tryz.prog 99 #[.pointer (some ⟨b, 0, none⟩)] w (RPost b g cap ts w (oneE w.heap.size) (placeF ts f s)) := by
  have HRB := Lib.hid (show placeF ts f s = bindR (expectR [91] ts s) fun _ s => bindR (binF ts f 1 s) fun x s => bindR (expectR [93] ts s) fun _ s => .ok (x, s) from rfl)
  have HNE := Lib.hid hne
  have HE1 := Lib.hid (expect_any b g cap ts s [91] (by simp) w hw)
  have HEx := Lib.hid fun s' w1 (h1 : PW b g cap ts s' w1) (h : binF ts f 1 s' ≠ gone) => one_C hB b g cap ts s' w1 h1 h
  have HE2 := Lib.hid fun s' w1 (h1 : PW b g cap ts s' w1) => expect_any b g cap ts s' [93] (by simp) w1 h1
  have hlt := hw.blk.lt
  clear hw hne hB
  go_enter Tryz.func99, Tryz.ntmps99
  go_wp2_with fail
  refine HE1.out.mono ?_
  rintro e w1 h1
  rcases h1.elim with ⟨pn, hr, hg, rfl⟩ | ⟨⟨t0, t1, t2, t3⟩, s1, hr, hg, rfl, hp⟩
  · have FIN := Lib.hid (RPost.err (α := Ex) (g := g) (cap := cap) (ts := ts) (V := oneE w.heap.size) (HRB.out.trans (by rw [hr]; rfl)) hg)
    clear hg hr h1
    go_wp2
    exact ⟨rfl, FIN.out⟩
  · have hne := HNE.out
    unfold placeF placeB at hne
    rw [hr, bindR_ok] at hne
    have HR1 := Lib.hid (HRB.out.trans (by rw [hr, bindR_ok]))
    have HG1 := Lib.hid hg
    have HC := Lib.hid (HEx.out s1 w1 hp (bindR_gone hne))
    clear hg hr h1 hp hne
    unfold tokV'
    go_wp2_with fail
    refine HC.out.mono ?_
    rintro e w2 h2
    rcases h2.elim with ⟨pn, hr, hg, rfl⟩ | ⟨x, s2, hr, hg, ⟨gr, rfl, hx⟩, hp⟩
    · have FIN := Lib.hid (RPost.err (α := Ex) (g := g) (cap := cap) (ts := ts) (V := oneE w.heap.size) (HR1.out.trans (by rw [hr]; rfl)) (gtrans HG1.out hg))
      clear hg hr h2
      go_wp2
      exact ⟨rfl, FIN.out⟩
    · have HR2 := Lib.hid (HR1.out.trans (by rw [hr, bindR_ok]))
      have HG2 := Lib.hid (And.intro (gtrans HG1.out hg) hx)
      have HD := Lib.hid (HE2.out s2 w2 hp)
      clear hg hr h2 hp hx
      go_wp2_with fail
      refine HD.out.mono ?_
      rintro e w3 h3
      rcases h3.elim with ⟨pn, hr, hg, rfl⟩ | ⟨⟨q0, q1, q2, q3⟩, s3, hr, hg, rfl, hp⟩
      · have FIN := Lib.hid (RPost.err (α := Ex) (g := g) (cap := cap) (ts := ts) (V := oneE w.heap.size) (HR2.out.trans (by rw [hr]; rfl)) (gtrans HG2.out.1 hg))
        clear hg hr h3
        go_wp2
        exact ⟨rfl, FIN.out⟩
      · have hs1 := HG1.out.size
        have FIN := Lib.hid (RPost.ok (V := oneE w.heap.size) (e := .returned (.slice (some ⟨gr, 0, none⟩) 1 1)) (HR2.out.trans (by rw [hr, bindR_ok])) (gtrans HG2.out.1 hg)
          ⟨gr, rfl, HG2.out.2.stays (by omega) fun j hj hl => hg.block j hl (by simp; omega)⟩ hp)
        clear hg hr h3 hp
        unfold tokV'
        go_wp2
        go_ret
        exact FIN.out
end Go.Proofs.YtcgllooeimacdaaGreatDoor
