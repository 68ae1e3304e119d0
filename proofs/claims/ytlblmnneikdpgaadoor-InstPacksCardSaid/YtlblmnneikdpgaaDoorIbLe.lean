/-
  A slice of bytes that came in, as a list of bytes.
-/
import Derived.Test.YtlblmnneikdpgaaDoorIbLd
import Derived.Test.YtlblmnneikdpgaaDoorIbA
import Derived.SizedLaws
namespace Go.Proofs.YtlblmnneikdpgaaDoor
open Go Go.ChangeShapes Go.WideShapes Go.ChangeAt Go.WideMaps Go.WideElems Go.RowKit Ib

theorem cells_u8 : Tryd.prog.cellsOf 5 = 1 := by kernel_rfl
set_option maxRecDepth 100000 in
theorem bytes_open {H : Type} {enc : TypeId × Value → H} {W : World} {base : Nat} {v : Value} {d : DataW H} {p : List MemPlace} (hval : Value.okWide Tryd.prog W .any base 24 v) (h1 : DataW.Trod enc Tryd.prog W 0 (fun _ => true) true 24 v d p)
    (hp : ∀ x ∈ p, x.block < W.heap.size) : ∃ (a : Option Addr) (n c : Nat) (m : List Nat), v = .slice a n c ∧ Byt m ∧ m.length ≤ 9223372036854775807 ∧ ByteZ W (.slice a n c) m := by
  obtain ⟨a1, len, cap, rfl⟩ := okWide_slice Tryd.underlying24 hval
  obtain ⟨fuel, hf⟩ := h1
  rcases open_ints Tryd.underlying24 Tryd.underlying5 cells_u8 hf with ⟨hcs, hx⟩ | ⟨a, len', cap', zs, hcs, _, hl, hm, hz, hx, hcell, hwz⟩
  · simp [Value.cells] at hcs
    obtain ⟨rfl, rfl, rfl⟩ := hcs
    exact ⟨none, 0, 0, [], rfl, (fun z hz => by cases hz), by simp, SlS.nil none 0⟩
  · simp [Value.cells] at hcs
    obtain ⟨rfl, rfl, rfl⟩ := hcs
    simp only [Prod.mk.injEq] at hx
    obtain ⟨rfl, rfl⟩ := hx
    simp only [if_true] at hz
    obtain ⟨m, hm1⟩ : ∃ m, m = (zs.take len).map Int.toNat := ⟨_, rfl⟩
    have hlen : m.length = len := by rw [hm1]; simp; omega
    have hget : ∀ i (hi : i < m.length), (m[i] : Int) = zs.getD i 0 ∧ m[i] < 256 := fun i hi => by
      have hi' : i < zs.length := by omega
      have hb := bounds_u8 (hwz _ (List.getElem_mem hi'))
      have e : m[i] = (zs[i]).toNat := by simp only [hm1, List.getElem_map, List.getElem_take]
      have e2 : zs.getD i 0 = zs[i] := by simp [List.getD, List.getElem?_eq_getElem hi']
      rw [e, e2]
      constructor <;> omega
    refine ⟨some a, len, cap, m, rfl, (fun z hz => ?_), by rw [hlen]; unfold maxLen at hm; omega, ?_⟩
    · obtain ⟨i, hi, rfl⟩ := List.mem_iff_getElem.1 hz
      exact (hget i hi).2
    · refine ⟨some a, cap, by rw [hlen], by rw [hlen]; exact hl, fun i hi => ?_⟩
      obtain ⟨ab, ao, spot⟩ := a
      have hspot : spot = none := by simpa [Addr.add] using World.cell?_spot (hcell 0 (by omega))
      subst hspot
      refine ⟨⟨ab, ao, none⟩, [B8 m[i]], rfl, hp (.cell ab ao) (by simp only [MemPlace.row, List.mem_map, List.mem_range]; exact ⟨0, by omega, rfl⟩), ?_, rfl⟩
      intro k u hk
      have hk0 : k = 0 := by
        rcases k with _ | k
        · rfl
        · simp at hk
      subst hk0
      simp at hk
      subst hk
      have hcj := hcell i (by omega)
      rw [Addr.add_lit] at hcj
      have e : ((⟨ab, ao, none⟩ : Addr).add (i * 1)).add 0 = ⟨ab, ao + i, none⟩ := by simp [Addr.add]; try omega
      rw [e, hcj, ← (hget i hi).1]
end Go.Proofs.YtlblmnneikdpgaaDoor
