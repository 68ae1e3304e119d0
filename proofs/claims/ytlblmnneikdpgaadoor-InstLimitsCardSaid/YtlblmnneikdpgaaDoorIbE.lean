/-
  The errors of reading and writing, and how long a number is.
-/
import Derived.Test.YtlblmnneikdpgaaDoorIbS
import Derived.Test.YtlblmnneikdpgaaDoorIbL
import Derived.Test.YtlblmnneikdpgaaDoorIbB
import Derived.LaidEql
import Derived.Stop.Asserts
import Derived.RowKitTokens
namespace Go.Proofs.YtlblmnneikdpgaaDoor
open Go Go.RowKit Ib

/-- An error that stands in a variable. -/
abbrev eV (a : Addr) : Value := .iface 202 (.pointer (some a))
/-- The two errors that stand in the package's variables: of what is too much, of what is wrong. -/
structure Sen (aM aW : Addr) (W : World) : Prop where
  cM : W.cell? ⟨1, 0, none⟩ = some (eV aM)
  cW : W.cell? ⟨0, 0, none⟩ = some (eV aW)
  ne : aM ≠ aW
  hM : ∃ c t, W.heap[aM.block]? = some (.cells c t (0, 0))
  hW : ∃ c t, W.heap[aW.block]? = some (.cells c t (0, 0))
theorem lt_of_cell {W : World} {a : Addr} {v : Value} (h : W.cell? a = some v) : a.block < W.heap.size := by
  rcases Nat.lt_or_ge a.block W.heap.size with h' | h'
  · exact h'
  · unfold World.cell? at h
    rw [Array.getElem?_eq_none h'] at h
    simp at h
theorem Sen.keep {aM aW : Addr} {W W' : World} (h : Sen aM aW W) (hk : ∀ k, k = 1 ∨ k = 0 ∨ k = aM.block ∨ k = aW.block → W'.heap[k]? = W.heap[k]?) : Sen aM aW W' := by
  obtain ⟨h1, h2, h3, h4, h5⟩ := h
  refine ⟨?_, ?_, h3, ?_, ?_⟩
  · unfold World.cell? at h1 ⊢; rw [hk _ (Or.inl rfl)]; exact h1
  · unfold World.cell? at h2 ⊢; rw [hk _ (Or.inr (Or.inl rfl))]; exact h2
  · rw [hk _ (Or.inr (Or.inr (Or.inl rfl)))]; exact h4
  · rw [hk _ (Or.inr (Or.inr (Or.inr rfl)))]; exact h5
theorem Sen.lts {aM aW : Addr} {W : World} (h : Sen aM aW W) (k : Nat) (hk : k = 1 ∨ k = 0 ∨ k = aM.block ∨ k = aW.block) : k < W.heap.size := by
  obtain ⟨h1, h2, h3, ⟨_, _, h4⟩, ⟨_, _, h5⟩⟩ := h
  have e1 := lt_of_cell h1
  have e2 := lt_of_cell h2
  have e3 := lt_of_blk h4
  have e4 := lt_of_blk h5
  rcases hk with rfl | rfl | rfl | rfl <;> assumption
theorem Sen.below {aM aW : Addr} {W W' : World} {B : Nat} (h : Sen aM aW W) (hb : Below B W W') (hB : ∀ k, k = 1 ∨ k = 0 ∨ k = aM.block ∨ k = aW.block → k < B) : Sen aM aW W' :=
  h.keep fun k hk => hb.block k (hB k hk)

theorem unless_true (w : World) : Calls Tryd.prog 60 #[.bool true] w fun e w' => e = .returned .nilIface ∧ w = w' := by
  go_enter Tryd.func60, Tryd.ntmps60
  go_wp2_with fail
  go_ret
  exact ⟨rfl, rfl⟩
theorem unless_false {aM aW : Addr} (w : World) (h : Sen aM aW w) : Calls Tryd.prog 60 #[.bool false] w fun e w' => e = .returned (eV aW) ∧ w = w' := by
  have c0 := h.cW
  clear h
  go_enter Tryd.func60, Tryd.ntmps60
  go_wp2_with fail
  go_ret
  exact ⟨rfl, rfl⟩
/-- What tells whether something is so. -/
def unlE (aW : Addr) (b : Bool) : Value := if b then .nilIface else eV aW
theorem unless_any {aM aW : Addr} (b : Bool) (w : World) (h : Sen aM aW w) : Calls Tryd.prog 60 #[.bool b] w fun e w' => e = .returned (unlE aW b) ∧ w = w' := by
  cases b
  · exact unless_false w h
  · exact unless_true w

theorem bits_u (x : Nat) (h : x < 18446744073709551616) (w : World) : Calls Tryd.prog 101 #[.int .u64 (x : Int)] w fun e w' => e = .returned (I (Lib.bitLen x : Int)) ∧ w' = w := by
  have := Tryd.bits_Len64 (x : Int) w (by omega) (by omega)
  rwa [Int.toNat_natCast] at this
theorem bitLen_64 (x : Nat) (h : x < 18446744073709551616) : Lib.bitLen x ≤ 64 := Lib.bitLen_le x 64 (by omega) h
set_option maxRecDepth 100000 in
theorem size_any (x : Nat) (h : x < 18446744073709551616) (w : World) : Calls Tryd.prog 85 #[.int .u64 (x : Int)] w fun e w' => e = .returned (I (sizeU x : Int)) ∧ w' = w := by
  have HC := Lib.hid (bits_u x h w)
  have hl := bitLen_64 x h
  have hs : sizeU x = (Lib.bitLen x + 7) / 8 := rfl
  obtain ⟨L, hL⟩ : ∃ L, L = Lib.bitLen x := ⟨_, rfl⟩
  rw [← hL] at HC hl hs
  have HS := Lib.hid hs
  have d0 : (L : Int) ≤ 64 := by omega
  have d1 : (0 : Int) ≤ (L : Int) := by omega
  clear h hl hs hL
  go_enter Tryd.func85, Tryd.ntmps85
  go_wp2_with fail
  refine HC.out.mono ?_
  rintro e w' ⟨rfl, rfl⟩
  go_wp2_with fail
  go_ret
  exact ⟨ret_int (by rw [HS.out]; omega), rfl⟩
set_option maxRecDepth 100000 in
theorem ssize_any (n : Int) (h : In64 n) (w : World) : Calls Tryd.prog 84 #[I n] w fun e w' => e = .returned (I (sizeS n : Int)) ∧ w' = w := by
  by_cases h0 : n = 0
  · subst h0
    go_enter Tryd.func84, Tryd.ntmps84
    go_wp2_with fail
    go_ret
    exact ⟨rfl, rfl⟩
  · have g0 : (n == 0) = false := by simpa using h0
    have HC := Lib.hid (bits_u (mag n) (by have := mag_lt h; omega) w)
    have hl : Lib.bitLen (mag n) ≤ 63 := Lib.bitLen_le _ 63 (by omega) (mag_lt h)
    have hs : sizeS n = Lib.bitLen (mag n) / 8 + 1 := by unfold sizeS; rw [if_neg h0]
    have hx := xorSign h
    obtain ⟨L, hL⟩ : ∃ L, L = Lib.bitLen (mag n) := ⟨_, rfl⟩
    rw [← hL] at HC hl hs
    have HS := Lib.hid hs
    have HX := Lib.hid hx
    have d0 : (L : Int) ≤ 63 := by omega
    have d1 : (0 : Int) ≤ (L : Int) := by omega
    clear hl hs hL hx
    go_enter Tryd.func84, Tryd.ntmps84
    go_wp2_with fail
    rw [HX.out]
    refine HC.out.mono ?_
    rintro e w' ⟨rfl, rfl⟩
    go_wp2_with fail
    go_ret
    exact ⟨ret_int (by rw [HS.out]; omega), rfl⟩

/-! errors.Is at the package's errors. The numbers of three types without a name: interfaces with Is, with Unwrap, with an Unwrap of many. -/
abbrev tIs : TypeId := 190
abbrev tUn : TypeId := 193
abbrev tUns : TypeId := 195
abbrev tES : TypeId := 202
theorem esType (v : Value) (w : World) : (Extern.ReflectliteType.typeOf #[.iface tES v]).run Tryd.prog w = .ok (.iface 188 (.agg #[.pointer (some ⟨2, tES, none⟩)])) w := by kernel_rfl
theorem esComp (w : World) : ((Extern.ReflectliteType.method fun t => do Extern.Rtype.noPackHeld "Comparable" t; (fun a => Value.bool a.comparable) <$> typeInfo t) #[.agg #[.pointer (some ⟨2, tES, none⟩)]]).run Tryd.prog w = .ok (.bool true) w := by kernel_rfl
theorem esIsC : (Tryd.prog.info? tES).map (·.comparable) = some true := by kernel_rfl
theorem esSz : (Tryd.prog.info? 226).map (·.size) = some 1 := by kernel_rfl
theorem esNoIs (v : Value) (x : TypeId) (w : World) : (Instr.typeAssert (.iface tES v) x tIs true).run Tryd.prog w = .ok (.tuple #[.nilIface, .bool false]) w := run_typeAssert_lacksB Tryd.underlying190 (by kernel_rfl) (by kernel_rfl) v x w
theorem esNoUn (v : Value) (x : TypeId) (w : World) : (Instr.typeAssert (.iface tES v) x tUn true).run Tryd.prog w = .ok (.tuple #[.nilIface, .bool false]) w := run_typeAssert_lacksB Tryd.underlying193 (by kernel_rfl) (by kernel_rfl) v x w
theorem esNoUns (v : Value) (x : TypeId) (w : World) : (Instr.typeAssert (.iface tES v) x tUns true).run Tryd.prog w = .ok (.tuple #[.nilIface, .bool false]) w := run_typeAssert_lacksB Tryd.underlying195 (by kernel_rfl) (by kernel_rfl) v x w
theorem esMeth (v : Value) (w : World) : (Go.method 230 188 v "Comparable").run Tryd.prog w = .ok (121, v) w := by kernel_rfl

set_option maxRecDepth 100000 in
theorem is_self (a : Addr) (w : World) : Calls Tryd.prog 61 #[eV a, eV a] w fun e w' => e = .returned (.bool true) ∧ w' = w := by
  obtain ⟨i, hi, hc⟩ := Option.map_eq_some_iff.1 esIsC
  obtain ⟨j, hj, _⟩ := Option.map_eq_some_iff.1 esSz
  have x1 := @run_callFunc_extern Tryd.prog 86 _ Extern.ReflectliteType.typeOf Tryd.func86 (by kernel_rfl) (by kernel_rfl) (by kernel_rfl) (by kernel_rfl)
  have x2 := @run_callFunc_extern Tryd.prog 121 _ (Extern.ReflectliteType.method fun t => do Extern.Rtype.noPackHeld "Comparable" t; pure (.bool (← typeInfo t).comparable)) Tryd.func121 (by kernel_rfl) (by kernel_rfl) (by kernel_rfl) (by kernel_rfl)
  have y1 := esType
  have y2 := esComp
  have y3 := esMeth
  have y4 := run_eql_iface_ptr_same (P := Tryd.prog) w a Tryd.underlying70 Tryd.underlying202 hi hc hj
  go_enter Tryd.func61, Tryd.ntmps61
  go_wp2
  refine wp_loop_rounds 1 ?_
  rw [rounds_succ]
  go_wp2
  go_ret
  exact ⟨rfl, rfl⟩
set_option maxRecDepth 100000 in
theorem is_another {a b : Addr} {ca cb : Array Value} {ta tb : TypeId} (w : World) (hne : a ≠ b) (ha : w.heap[a.block]? = some (.cells ca ta (0, 0))) (hb : w.heap[b.block]? = some (.cells cb tb (0, 0))) : Calls Tryd.prog 61 #[eV a, eV b] w fun e w' => e = .returned (.bool false) ∧ w' = w := by
  obtain ⟨i, hi, hc⟩ := Option.map_eq_some_iff.1 esIsC
  obtain ⟨j, hj, hjs⟩ := Option.map_eq_some_iff.1 esSz
  have x1 := @run_callFunc_extern Tryd.prog 86 _ Extern.ReflectliteType.typeOf Tryd.func86 (by kernel_rfl) (by kernel_rfl) (by kernel_rfl) (by kernel_rfl)
  have x2 := @run_callFunc_extern Tryd.prog 121 _ (Extern.ReflectliteType.method fun t => do Extern.Rtype.noPackHeld "Comparable" t; pure (.bool (← typeInfo t).comparable)) Tryd.func121 (by kernel_rfl) (by kernel_rfl) (by kernel_rfl) (by kernel_rfl)
  have y1 := esType
  have y2 := esComp
  have y3 := esMeth
  have y5 := esNoIs
  have y6 := esNoUn
  have y7 := esNoUns
  have y4 := run_eql_iface_ptr_other (P := Tryd.prog) w Tryd.underlying70 Tryd.underlying202 hi hc hj (by rw [hjs]; decide) hne ha hb
  go_enter Tryd.func61, Tryd.ntmps61
  go_wp2
  refine wp_loop_rounds 1 ?_
  rw [rounds_succ]
  go_wp2
  go_ret
  exact ⟨rfl, rfl⟩

/-! As which number an error is told. -/
theorem errno_nil (w : World) : Calls Tryd.prog 40 #[.nilIface] w fun e w' => e = .returned (I 0) ∧ w' = w := by
  go_enter Tryd.func40, Tryd.ntmps40
  go_wp2_with fail
  go_ret
  exact ⟨rfl, rfl⟩
theorem errno_many {aM aW : Addr} (w : World) (h : Sen aM aW w) : Calls Tryd.prog 40 #[eV aM] w fun e w' => e = .returned (I 2) ∧ w' = w := by
  have c0 := h.cM
  have HC := Lib.hid (is_self aM w)
  clear h
  go_enter Tryd.func40, Tryd.ntmps40
  go_wp2_with fail
  refine HC.out.mono ?_
  rintro e w' ⟨rfl, rfl⟩
  go_wp2_with fail
  go_ret
  exact ⟨rfl, rfl⟩
theorem errno_wrong {aM aW : Addr} (w : World) (h : Sen aM aW w) : Calls Tryd.prog 40 #[eV aW] w fun e w' => e = .returned (I 3) ∧ w' = w := by
  have c0 := h.cM
  obtain ⟨c1, t1, h1⟩ := h.hM
  obtain ⟨c2, t2, h2⟩ := h.hW
  have HC := Lib.hid (is_another w (Ne.symm h.ne) h2 h1)
  clear h h1 h2
  go_enter Tryd.func40, Tryd.ntmps40
  go_wp2_with fail
  refine HC.out.mono ?_
  rintro e w' ⟨rfl, rfl⟩
  go_wp2_with fail
  go_ret
  exact ⟨rfl, rfl⟩
end Go.Proofs.YtlblmnneikdpgaaDoor
