/-
  What the listed variables give the walks: the two errors; and what an argument of the type Word is.
-/
import Derived.Test.YtlblmnneikdpgaaDoorIbN
import Derived.Test.YtlblmnneikdpgaaDoorRows
import Derived.Stop.LaidTwo
import Derived.MakeChecks
import Derived.LaidMore
import Derived.OpenShut
import Derived.Lib.SmallJoins
import Derived.Stop.Joined
import Derived.ProofKit
import Derived.KernelRfl
namespace Go.Proofs.YtlblmnneikdpgaaDoor
open Go Go.ChangeShapes Go.WideShapes Go.RowKit Go.Deep Ib

/-- The variables that the rows list. -/
abbrev laidL : List (String × DataW Unit) := Rows.instApartRow.laid
theorem own : ownKnob Tryd.prog.godebug = none := by kernel_rfl
theorem gMany : Tryd.prog.globalNamed "teasel/packed.Many" = some 1 := by kernel_rfl
theorem gWrong : Tryd.prog.globalNamed "teasel/packed.Wrong" = some 0 := by kernel_rfl
theorem tMany : (Tryd.prog.globals[1]?).map (·.type) = some 70 := by kernel_rfl
theorem tWrong : (Tryd.prog.globals[0]?).map (·.type) = some 70 := by kernel_rfl
theorem starE : "*" ++ "errors.errorString" = "*errors.errorString" := by decide
theorem rowErr (u : TypeId) (h : Tryd.prog.typeName? 3 u = some "*errors.errorString") : u = 202 :=
  typeName_ptr_named (nm := "errors.errorString") (by rw [starE]; kernel_rfl) (by kernel_rfl) (by decide) u (by rw [starE]; exact h)

set_option maxRecDepth 100000 in
theorem sen_of_laid {W : World} (h : laidMetH Tryd.prog laidL W) : ∃ aM aW, Sen aM aW W := by
  rw [MakeChecks.laidMetH_plain _ _ _ (by kernel_rfl)] at h
  obtain ⟨aM, aW, s0, s1, c0, c1, t0, t1, v0, v1, _, _, _, _, _, _, hne, b0, b1⟩ := laid_sentinels2 h gMany tMany gWrong tWrong Tryd.underlying70 rowErr Tryd.underlying202 Tryd.underlying226 rfl rfl Tryd.underlying9 (by kernel_rfl) (by kernel_rfl)
  exact ⟨aM, aW, by have := World.var?_cell gMany v0 0; exact this, by have := World.var?_cell gWrong v1 0; exact this, hne, ⟨_, _, b0⟩, ⟨_, _, b1⟩⟩

/-- The door's own heap meets the condition. -/
theorem door_met (os : Os) (args : Array Value) : laidMetH Tryd.prog laidL ((World.doorLaid Tryd.prog 47 os).forCall (fun _ _ => 0) ⟨#[], args, []⟩).memory :=
  laidMetH_of_parts3 (fuel := 8) (laidMet_of_run' 8 (by kernel_rfl) (by kernel_rfl)) (by kernel_rfl) (by kernel_rfl)

theorem b8_of {n : Int} (h : (Lit.int .u8 n).wf = true) : ∃ k : Nat, n = (k : Int) ∧ k < 256 := by
  have := bounds_u8 h
  exact ⟨n.toNat, by omega, by omega⟩
theorem array5 {α : Type} {cs : Array α} (h : cs.size = 5) : ∃ c0 c1 c2 c3 c4, cs = #[c0, c1, c2, c3, c4] := by
  obtain ⟨l⟩ := cs
  match l, h with
  | [c0, c1, c2, c3, c4], _ => exact ⟨c0, c1, c2, c3, c4, rfl⟩
/-- A struct of five fields of one cell, opened. -/
theorem open_agg5 {H : Type} {enc : TypeId × Value → H} {P : Program} {w : World} {base : Nat} {spare : Nat → Bool} {held : Bool} {r : Reach} {b0 : Nat} {t : TypeId} {f0 f1 f2 f3 f4 : Field} {v : Value} {d : DataW H} {p : List MemPlace} (hs : P.underlying t = some (.struct #[f0, f1, f2, f3, f4])) (hone : oneCellFields P #[f0, f1, f2, f3, f4] = true) (hC : P.cellsOf t = 5)
    (hv : Value.okWide P w r b0 t v) (h : DataW.Trod enc P w base spare held t v d p) :
    ∃ (v0 v1 v2 v3 v4 : Value) (y0 y1 y2 y3 y4 : DataW H × List MemPlace) (n : Nat), v = .agg #[v0, v1, v2, v3, v4] ∧ d = .agg [y0.1, y1.1, y2.1, y3.1, y4.1] ∧
      DataW.trod enc P w base spare held n f0.type [v0] = some y0 ∧ DataW.trod enc P w base spare held n f1.type [v1] = some y1 ∧ DataW.trod enc P w base spare held n f2.type [v2] = some y2 ∧ DataW.trod enc P w base spare held n f3.type [v3] = some y3 ∧ DataW.trod enc P w base spare held n f4.type [v4] = some y4 := by
  obtain ⟨cs, rfl, hsz⟩ := okWide_struct hs hv
  obtain ⟨c0, c1, c2, c3, c4, rfl⟩ := array5 (hsz.trans hC)
  obtain ⟨fuel, hf⟩ := h
  obtain ⟨xs, n, _, hx, hl, hlen, hff⟩ := DataW.trod_struct hs hf
  match xs, hlen with
  | [y0, y1, y2, y3, y4], _ =>
    obtain ⟨o0, k0⟩ := hone_of hone 0 f0 rfl
    obtain ⟨o1, k1⟩ := hone_of hone 1 f1 rfl
    obtain ⟨o2, k2⟩ := hone_of hone 2 f2 rfl
    obtain ⟨o3, k3⟩ := hone_of hone 3 f3 rfl
    obtain ⟨o4, k4⟩ := hone_of hone 4 f4 rfl
    have h0 := hff 0 f0 rfl
    have h1 := hff 1 f1 rfl
    have h2 := hff 2 f2 rfl
    have h3 := hff 3 f3 rfl
    have h4 := hff 4 f4 rfl
    simp only [Prod.mk.injEq] at hx
    exact ⟨c0, c1, c2, c3, c4, y0, y1, y2, y3, y4, n, rfl, by simpa using hx.1, by simpa [Value.cells, o0, k0] using h0, by simpa [Value.cells, o1, k1] using h1, by simpa [Value.cells, o2, k2] using h2, by simpa [Value.cells, o3, k3] using h3, by simpa [Value.cells, o4, k4] using h4⟩

set_option maxRecDepth 100000 in
/-- An instruction as a row reads it. -/
theorem word_open {H : Type} {enc : TypeId × Value → H} {w : World} {spare : Nat → Bool} {held : Bool} {r : Reach} {b0 : Nat} {v : Value} {d : DataW H} {p : List MemPlace} (hv : Value.okWide Tryd.prog w r b0 23 v)
    (h : DataW.Trod enc Tryd.prog w 0 spare held 23 v d p) : ∃ x : Wd, v = wV x ∧ WfW x := by
  obtain ⟨v0, v1, v2, v3, v4, y0, y1, y2, y3, y4, n, rfl, rfl, h0, h1, h2, h3, h4⟩ := open_agg5 Tryd.underlying23 (by kernel_rfl) (by kernel_rfl) hv h
  obtain ⟨m0, e0, _, f0⟩ := DataW.trod_int Tryd.underlying5 h0
  obtain ⟨m1, e1, _, f1⟩ := DataW.trod_int Tryd.underlying5 h1
  obtain ⟨m2, e2, _, f2⟩ := DataW.trod_int Tryd.underlying5 h2
  obtain ⟨m3, e3, _, f3⟩ := DataW.trod_int Tryd.underlying5 h3
  obtain ⟨m4, e4, _, f4⟩ := DataW.trod_int Tryd.underlying2 h4
  obtain rfl := List.head_eq_of_cons_eq e0
  obtain rfl := List.head_eq_of_cons_eq e1
  obtain rfl := List.head_eq_of_cons_eq e2
  obtain rfl := List.head_eq_of_cons_eq e3
  obtain rfl := List.head_eq_of_cons_eq e4
  obtain ⟨k0, rfl, l0⟩ := b8_of f0
  obtain ⟨k1, rfl, l1⟩ := b8_of f1
  obtain ⟨k2, rfl, l2⟩ := b8_of f2
  obtain ⟨k3, rfl, l3⟩ := b8_of f3
  exact ⟨⟨k0, k1, k2, k3, m4⟩, rfl, l0, l1, l2, l3, bounds_i64 f4⟩
end Go.Proofs.YtlblmnneikdpgaaDoor
