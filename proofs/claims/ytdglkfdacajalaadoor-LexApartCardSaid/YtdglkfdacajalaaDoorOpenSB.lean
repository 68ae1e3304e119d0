/-
  A slice of bytes that came in, as a list of bytes.
-/
import Derived.Test.YtdglkfdacajalaaDoorNumsWalk
import Derived.Test.YtdglkfdacajalaaDoorLift
namespace Go.Proofs.YtdglkfdacajalaaDoor
open Go Go.ChangeShapes Go.WideShapes Go.ChangeAt Go.WideMaps Go.WideElems Go.RowKit

section
variable {H : Type} {enc : TypeId × Value → H}

theorem cells_u8 : Tryd.prog.cellsOf 5 = 1 := by kernel_rfl
theorem bytes_u8 : Tryd.prog.bytesOf 5 = 1 := by kernel_rfl

set_option maxRecDepth 100000 in
theorem open_sb {W : World} {base : Nat} {v : Value} {d : DataW H} {p : List MemPlace} (hval : Value.okWide Tryd.prog W .any base 31 v) (h1 : DataW.Trod enc Tryd.prog W 0 (fun _ => true) true 31 v d p)
    (hp : ∀ x ∈ p, x.block < W.heap.size) : ∃ D : List UInt8, (D.length = 0 ∨ ∃ e r, d = .slice e r ∧ D.length = e.length) ∧ SB W v D := by
  obtain ⟨a1, len, cap, rfl⟩ := okWide_slice Tryd.underlying31 hval
  obtain ⟨fuel, hf⟩ := h1
  rcases open_ints Tryd.underlying31 Tryd.underlying5 cells_u8 hf with ⟨hcs, hx⟩ | ⟨a, len', cap', zs, hcs, _, hl, hm, hz, hx, hcell, hwz⟩
  · simp [Value.cells] at hcs
    obtain ⟨rfl, rfl, rfl⟩ := hcs
    exact ⟨[], Or.inl rfl, none, 0, rfl, Or.inl rfl⟩
  · simp [Value.cells] at hcs
    obtain ⟨rfl, rfl, rfl⟩ := hcs
    simp only [Prod.mk.injEq] at hx
    obtain ⟨rfl, rfl⟩ := hx
    simp only [if_true] at hz
    have hlen : ((zs.take len).map fun n => UInt8.ofNat n.toNat).length = len := by simp; omega
    refine ⟨(zs.take len).map fun n => UInt8.ofNat n.toNat, Or.inr ⟨_, _, rfl, by simp [lits]⟩, some a, cap, by rw [hlen], ?_⟩
    by_cases h0 : len = 0
    · refine Or.inl ?_
      rw [List.eq_nil_iff_length_eq_zero, hlen, h0]
    · refine Or.inr ?_
      obtain ⟨ab, ao, spot⟩ := a
      have hspot : spot = none := by simpa [Addr.add] using World.cell?_spot (hcell 0 (by omega))
      subst hspot
      refine ⟨ab, ao, rfl, hp (.cell ab ao) (by simp only [MemPlace.row, List.mem_map, List.mem_range]; exact ⟨0, by omega, rfl⟩), fun j hj => ?_⟩
      rw [hlen] at hj
      have hcj := hcell j (by omega)
      rw [Addr.add_lit] at hcj
      rw [hcj]
      have hb := range_u8 hwz j
      simp only [List.getElem_map, List.getElem_take]
      have e : zs.getD j 0 = zs[j]'(by omega) := by simp [List.getD, List.getElem?_eq_getElem (show j < zs.length by omega)]
      rw [List.getD_eq_getElem?_getD] at e
      rw [e] at hb
      rw [List.getD_eq_getElem?_getD, e]
      congr 2
      simp only [UInt8.toNat_ofNat']
      omega

set_option maxRecDepth 100000 in
theorem sb_len {ts : List TypeId} {ds : List (DataW H)} {D : List UInt8} {d : DataW H} (hWT : (DataW.weightsEach Tryd.prog ts ds).all (· ≤ reachBytes) = true) {j : Nat} (ht : ts[j]? = some 31) (hd : ds[j]? = some d)
    (h : D.length = 0 ∨ ∃ e r, d = .slice e r ∧ D.length = e.length) : D.length ≤ 140737488351232 := by
  rcases h with h | ⟨e, r, rfl, h⟩
  · omega
  · have := sized_slice hWT ht hd Tryd.underlying31
    rw [bytes_u8] at this
    unfold reachBytes at this
    omega
end
end Go.Proofs.YtdglkfdacajalaaDoor
