/-
  How trees lie in memory: expressions, statements, parameters, functions as rows of cells; what a parser's block holds; and that all of it stays where other blocks are written.
-/
import Derived.Test.YtknmmjfpipobdaaGreatDoorTSpec
import Derived.WalkKit
import Derived.Below
namespace Go.Proofs.YtknmmjfpipobdaaGreatDoor
open Go Go.RowKit Px
open Lx (Tok)

/-- A row of a list: nil where the list is empty; else a block that may be one, whose first cells are the list's. -/
def RowW {α : Type} (w : World) (ok : Nat → Prop) (E size : Nat) (P : List α → List Value → Prop) (l : List α) (sv : Value) : Prop :=
  (l = [] ∧ sv = .slice none 0 0) ∨ ∃ g cap xs, sv = .slice (some ⟨g, 0, none⟩) l.length cap ∧ ok g ∧ w.ownsRow 0 E size sv l.length xs ∧ P l xs

mutual
def ExC (w : World) (ok : Nat → Prop) : Ex → List Value → Prop
  | .mk k op nm n pos args, cs => ∃ sv, cs = [.int .u8 (k : Int), .int .u8 (op : Int), .string ⟨nm.toArray⟩, .int .i64 (n : Int), .int .i64 (pos : Int), sv] ∧
      ((args = [] ∧ sv = .slice none 0 0) ∨ ∃ g cap xs, sv = .slice (some ⟨g, 0, none⟩) args.length cap ∧ ok g ∧ w.ownsRow 0 36 6 sv args.length xs ∧ ExsC w ok args xs)
def ExsC (w : World) (ok : Nat → Prop) : List Ex → List Value → Prop
  | [], cs => cs = []
  | x :: l, cs => ∃ c d, cs = c ++ d ∧ ExC w ok x c ∧ ExsC w ok l d
end
abbrev ExRow (w : World) (ok : Nat → Prop) (l : List Ex) (sv : Value) : Prop := RowW w ok 36 6 (ExsC w ok) l sv

mutual
def SmC (w : World) (ok : Nat → Prop) : Sm → List Value → Prop
  | .mk k id nm t n pos exprs body els, cs => ∃ v1 v2 v3, cs = [.int .u8 (k : Int), .int .i64 (id : Int), .string ⟨nm.toArray⟩, .int .u8 (t : Int), .int .i64 (n : Int), .int .i64 (pos : Int), v1, v2, v3] ∧
      ExRow w ok exprs v1 ∧
      ((body = [] ∧ v2 = .slice none 0 0) ∨ ∃ g cap xs, v2 = .slice (some ⟨g, 0, none⟩) body.length cap ∧ ok g ∧ w.ownsRow 0 39 9 v2 body.length xs ∧ SmsC w ok body xs) ∧
      ((els = [] ∧ v3 = .slice none 0 0) ∨ ∃ g cap xs, v3 = .slice (some ⟨g, 0, none⟩) els.length cap ∧ ok g ∧ w.ownsRow 0 39 9 v3 els.length xs ∧ SmsC w ok els xs)
def SmsC (w : World) (ok : Nat → Prop) : List Sm → List Value → Prop
  | [], cs => cs = []
  | x :: l, cs => ∃ c d, cs = c ++ d ∧ SmC w ok x c ∧ SmsC w ok l d
end
abbrev SmRow (w : World) (ok : Nat → Prop) (l : List Sm) (sv : Value) : Prop := RowW w ok 39 9 (SmsC w ok) l sv

def PmC (p : Pm) : List Value := [.string ⟨p.name.toArray⟩, .int .u8 (p.typ : Int), .int .i64 (p.pos : Int)]
abbrev PmRow (w : World) (ok : Nat → Prop) (l : List Pm) (sv : Value) : Prop := RowW w ok 76 3 (fun l xs => xs = l.flatMap PmC) l sv
def FuC (w : World) (ok : Nat → Prop) (f : Fu) (cs : List Value) : Prop := ∃ v1 v2, cs = [.string ⟨f.name.toArray⟩, v1, .int .u8 (f.result : Int), v2, .int .i64 (f.pos : Int)] ∧ PmRow w ok f.params v1 ∧ SmRow w ok f.body v2
def FusC (w : World) (ok : Nat → Prop) : List Fu → List Value → Prop
  | [], cs => cs = []
  | x :: l, cs => ∃ c d, cs = c ++ d ∧ FuC w ok x c ∧ FusC w ok l d
abbrev FuRow (w : World) (ok : Nat → Prop) (l : List Fu) (sv : Value) : Prop := RowW w ok 42 5 (FusC w ok) l sv

/-- Blocks that may be a tree's lie in the other world as they lay. -/
def Stays (w : World) (ok : Nat → Prop) (w' : World) (ok' : Nat → Prop) : Prop := ∀ g, ok g → g < w.heap.size → w'.heap[g]? = w.heap[g]? ∧ ok' g

theorem owns_stays {w w' : World} {E size n g cap m : Nat} {xs : List Value} (h : w.ownsRow 0 E size (.slice (some ⟨g, 0, none⟩) m cap) n xs) (hb : w'.heap[g]? = w.heap[g]?) : w'.ownsRow 0 E size (.slice (some ⟨g, 0, none⟩) m cap) n xs := by
  obtain ⟨h1, h2⟩ := h
  refine ⟨h1, ?_⟩
  rcases h2 with ⟨h2, _⟩ | ⟨g', cap', cur, hv, hg, hc, r⟩
  · cases h2
  · cases hv
    exact Or.inr ⟨_, _, cur, rfl, hg, hb.trans hc, r⟩
theorem owns_lt {w : World} {E size n g cap m : Nat} {xs : List Value} (h : w.ownsRow 0 E size (.slice (some ⟨g, 0, none⟩) m cap) n xs) : g < w.heap.size := (h.lt g rfl).2

theorem RowW.stays {α : Type} {w w' : World} {ok ok' : Nat → Prop} {E size : Nat} {P P' : List α → List Value → Prop} {l : List α} {sv : Value} (h : RowW w ok E size P l sv) (hs : Stays w ok w' ok') (hP : ∀ xs, P l xs → P' l xs) :
    RowW w' ok' E size P' l sv := by
  rcases h with h | ⟨g, cap, xs, rfl, hg, ho, hp⟩
  · exact Or.inl h
  · obtain ⟨h1, h2⟩ := hs g hg (owns_lt ho)
    exact Or.inr ⟨g, cap, xs, rfl, h2, owns_stays ho h1, hP _ hp⟩

mutual
theorem ExC.stays {w w' : World} {ok ok' : Nat → Prop} (hs : Stays w ok w' ok') : ∀ (x : Ex) (cs : List Value), ExC w ok x cs → ExC w' ok' x cs
  | .mk k op nm n pos args, cs, h => by
    simp only [ExC] at h ⊢
    obtain ⟨sv, h1, h2⟩ := h
    refine ⟨sv, h1, ?_⟩
    rcases h2 with h2 | ⟨g, cap, xs, rfl, hg, ho, hp⟩
    · exact Or.inl h2
    · obtain ⟨h3, h4⟩ := hs g hg (owns_lt ho)
      exact Or.inr ⟨g, cap, xs, rfl, h4, owns_stays ho h3, ExsC.stays hs args xs hp⟩
theorem ExsC.stays {w w' : World} {ok ok' : Nat → Prop} (hs : Stays w ok w' ok') : ∀ (l : List Ex) (cs : List Value), ExsC w ok l cs → ExsC w' ok' l cs
  | [], cs, h => by simpa only [ExsC] using h
  | x :: l, cs, h => by
    simp only [ExsC] at h ⊢
    obtain ⟨c, d, h1, h2, h3⟩ := h
    exact ⟨c, d, h1, ExC.stays hs x c h2, ExsC.stays hs l d h3⟩
end
theorem ExRow.stays {w w' : World} {ok ok' : Nat → Prop} {l : List Ex} {sv : Value} (hs : Stays w ok w' ok') (h : ExRow w ok l sv) : ExRow w' ok' l sv := RowW.stays h hs fun xs => ExsC.stays hs l xs

mutual
theorem SmC.stays {w w' : World} {ok ok' : Nat → Prop} (hs : Stays w ok w' ok') : ∀ (x : Sm) (cs : List Value), SmC w ok x cs → SmC w' ok' x cs
  | .mk k id nm t n pos exprs body els, cs, h => by
    simp only [SmC] at h ⊢
    obtain ⟨v1, v2, v3, h1, h2, h3, h4⟩ := h
    refine ⟨v1, v2, v3, h1, ExRow.stays hs h2, ?_, ?_⟩
    · rcases h3 with h3 | ⟨g, cap, xs, rfl, hg, ho, hp⟩
      · exact Or.inl h3
      · obtain ⟨h5, h6⟩ := hs g hg (owns_lt ho)
        exact Or.inr ⟨g, cap, xs, rfl, h6, owns_stays ho h5, SmsC.stays hs body xs hp⟩
    · rcases h4 with h3 | ⟨g, cap, xs, rfl, hg, ho, hp⟩
      · exact Or.inl h3
      · obtain ⟨h5, h6⟩ := hs g hg (owns_lt ho)
        exact Or.inr ⟨g, cap, xs, rfl, h6, owns_stays ho h5, SmsC.stays hs els xs hp⟩
theorem SmsC.stays {w w' : World} {ok ok' : Nat → Prop} (hs : Stays w ok w' ok') : ∀ (l : List Sm) (cs : List Value), SmsC w ok l cs → SmsC w' ok' l cs
  | [], cs, h => by simpa only [SmsC] using h
  | x :: l, cs, h => by
    simp only [SmsC] at h ⊢
    obtain ⟨c, d, h1, h2, h3⟩ := h
    exact ⟨c, d, h1, SmC.stays hs x c h2, SmsC.stays hs l d h3⟩
end
theorem SmRow.stays {w w' : World} {ok ok' : Nat → Prop} {l : List Sm} {sv : Value} (hs : Stays w ok w' ok') (h : SmRow w ok l sv) : SmRow w' ok' l sv := RowW.stays h hs fun xs => SmsC.stays hs l xs
theorem PmRow.stays {w w' : World} {ok ok' : Nat → Prop} {l : List Pm} {sv : Value} (hs : Stays w ok w' ok') (h : PmRow w ok l sv) : PmRow w' ok' l sv := RowW.stays h hs fun _ h => h
theorem FuC.stays {w w' : World} {ok ok' : Nat → Prop} (hs : Stays w ok w' ok') {x : Fu} {cs : List Value} (h : FuC w ok x cs) : FuC w' ok' x cs := by
  obtain ⟨v1, v2, h1, h2, h3⟩ := h
  exact ⟨v1, v2, h1, PmRow.stays hs h2, SmRow.stays hs h3⟩
theorem FusC.stays {w w' : World} {ok ok' : Nat → Prop} (hs : Stays w ok w' ok') : ∀ (l : List Fu) (cs : List Value), FusC w ok l cs → FusC w' ok' l cs
  | [], cs, h => h
  | x :: l, cs, h => by
    obtain ⟨c, d, h1, h2, h3⟩ := h
    exact ⟨c, d, h1, h2.stays hs, FusC.stays hs l d h3⟩
theorem FuRow.stays {w w' : World} {ok ok' : Nat → Prop} {l : List Fu} {sv : Value} (hs : Stays w ok w' ok') (h : FuRow w ok l sv) : FuRow w' ok' l sv := RowW.stays h hs fun xs => FusC.stays hs l xs

theorem ExsC_snoc {w : World} {ok : Nat → Prop} {x : Ex} {c : List Value} (hx : ExC w ok x c) : ∀ (l : List Ex) (xs : List Value), ExsC w ok l xs → ExsC w ok (l ++ [x]) (xs ++ c)
  | [], xs, h => by
    simp only [ExsC] at h; subst h
    simp only [List.nil_append, ExsC]
    exact ⟨c, [], by simp, hx, rfl⟩
  | y :: l, xs, h => by
    simp only [ExsC] at h
    obtain ⟨a, d, rfl, h2, h3⟩ := h
    simp only [List.cons_append, ExsC]
    exact ⟨a, d ++ c, by simp, h2, ExsC_snoc hx l d h3⟩
theorem SmsC_snoc {w : World} {ok : Nat → Prop} {x : Sm} {c : List Value} (hx : SmC w ok x c) : ∀ (l : List Sm) (xs : List Value), SmsC w ok l xs → SmsC w ok (l ++ [x]) (xs ++ c)
  | [], xs, h => by
    simp only [SmsC] at h; subst h
    simp only [List.nil_append, SmsC]
    exact ⟨c, [], by simp, hx, rfl⟩
  | y :: l, xs, h => by
    simp only [SmsC] at h
    obtain ⟨a, d, rfl, h2, h3⟩ := h
    simp only [List.cons_append, SmsC]
    exact ⟨a, d ++ c, by simp, h2, SmsC_snoc hx l d h3⟩
theorem FusC_snoc {w : World} {ok : Nat → Prop} {x : Fu} {c : List Value} (hx : FuC w ok x c) : ∀ (l : List Fu) (xs : List Value), FusC w ok l xs → FusC w ok (l ++ [x]) (xs ++ c)
  | [], xs, h => by
    simp only [FusC] at h; subst h
    exact ⟨c, [], by simp, hx, rfl⟩
  | y :: l, xs, h => by
    obtain ⟨a, d, rfl, h2, h3⟩ := h
    exact ⟨a, d ++ c, by simp, h2, FusC_snoc hx l d h3⟩
end Go.Proofs.YtknmmjfpipobdaaGreatDoor
