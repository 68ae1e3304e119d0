/-
  Are two lists of bytes alike?
-/
import Derived.Test.YtlblmnneikdpgaaDoorIbA
import Derived.Laws.BytesArg
import Derived.Lib.Bytes
namespace Go.Proofs.YtlblmnneikdpgaaDoor
open Go Go.RowKit Ib

abbrev numsB (l : List Nat) : List Int := l.map fun n : Nat => (n : Int)
theorem conv_bytes {S : Nat → Prop} {W : World} {v : Value} {l : List Nat} (h : SlS S 1 ByteV W v l) : (convert 24 9 v).run Tryd.prog W = .ok (.string (strOfNums (numsB l))) W := by
  obtain ⟨a, c, rfl⟩ := h.size
  cases a with
  | none =>
    have hl : l = [] := by
      cases l with
      | nil => rfl
      | cons y l' => obtain ⟨b, vs, e, _⟩ := h.at 0 (by simp); cases e
    subst hl
    exact run_convert_bytes_nil W _ _ Tryd.underlying24 Tryd.underlying5 _ _ _ Tryd.underlying9
  | some b =>
    have hl : (loadCells b l.length).run Tryd.prog W = .ok ((numsB l).map (Value.int .u8)).toArray W := by
      have := run_loadCells_list (P := Tryd.prog) W b ((numsB l).map (Value.int .u8)) (fun j u hj => by
        rw [List.map_map, List.getElem?_map] at hj
        by_cases hjl : j < l.length
        · rw [List.getElem?_eq_getElem hjl] at hj
          simp at hj
          subst hj
          obtain ⟨b', e, _, hc⟩ := ByteZ.cell h j hjl
          cases e
          exact hc
        · rw [List.getElem?_eq_none (by omega)] at hj
          simp at hj)
      simpa using this
    rw [run_convert_bytes_string W _ _ _ _ _ _ Tryd.underlying24 Tryd.underlying5 Tryd.underlying9, run_bytesToString W _ _ _ _ hl, foldl_push_bytes]
    simp [strOfNums, ByteArray.empty, ByteArray.emptyWithCapacity]
    rfl
theorem nums_inj {l m : List Nat} (hl : Byt l) (hm : Byt m) (h : Lib.bytesOf (numsB l) = Lib.bytesOf (numsB m)) : l = m := by
  have e : ∀ {l : List Nat}, Byt l → (Lib.bytesOf (numsB l)).map UInt8.toNat = l := fun {l} hl => by
    unfold Lib.bytesOf
    rw [List.map_map, List.map_map]
    conv => rhs; rw [← List.map_id l]
    refine List.map_congr_left fun x hx => ?_
    have := hl x hx
    simp
    omega
  rw [← e hl, ← e hm, h]
set_option maxRecDepth 100000 in
theorem sameB_any {S S' : Nat → Prop} {u v : Value} {l m : List Nat} (hl : Byt l) (hm : Byt m) (w : World) (h : SlS S 1 ByteV w u l) (h' : SlS S' 1 ByteV w v m) :
    Calls Tryd.prog 18 #[u, v] w fun e w' => e = .returned (.bool (decide (l = m))) ∧ w = w' := by
  have c0 := conv_bytes h
  have c1 := conv_bytes h'
  have HE := Lib.hid (show (Lib.bytesOf (numsB l) == Lib.bytesOf (numsB m)) = decide (l = m) from by
    rw [Bool.eq_iff_iff]
    simp only [beq_iff_eq, decide_eq_true_eq]
    exact ⟨nums_inj hl hm, fun e => by rw [e]⟩)
  clear h h' hl hm
  go_enter Tryd.func18, Tryd.ntmps18
  go_wp2_with fail
  go_ret
  refine ⟨ret_bool ?_, rfl⟩
  rw [Lib.strOfNums_toList, Lib.strOfNums_toList]
  exact HE.out
end Go.Proofs.YtlblmnneikdpgaaDoor
