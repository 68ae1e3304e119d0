/-
  What the document's Decode reckons, plainly.
-/
import Derived.Test.YtlblmnneikdpgaaDoorIbK
namespace Go.Proofs.YtlblmnneikdpgaaDoor
open Go
namespace Ib
/-- Where an instruction begins the bytes, it is the one that is reckoned: with a number, and without. -/
theorem cand_num {op n : Nat} {rs q l q' : List Nat} {m : Int} (h : names op = some (n, true)) (hr : rs.length = n) (hl : SplN q l q') (hb : Byt l) (hm : m = wrap64 (numD (op == 30) l)) (x : Wd) (hp : PreW (op :: (rs ++ q)) x) : PreW (op :: (rs ++ q)) (cand op rs m) := by
  obtain ⟨h1, h2⟩ := pre_num h hr hl hb hm
  exact h1 (h2 x hp).1 (h2 x hp).2
theorem cand_plain {op n : Nat} {rs q : List Nat} (h : names op = some (n, false)) (hr : rs.length = n) (x : Wd) (hp : PreW (op :: (rs ++ q)) x) : PreW (op :: (rs ++ q)) (cand op rs 0) := by
  obtain ⟨h1, h2⟩ := pre_plain (q := q) h hr
  exact h1 (h2 x hp)
theorem byt_app {l m : List Nat} (h : Byt (l ++ m)) : Byt l ∧ Byt m := ⟨fun x hx => h x (List.mem_append_left _ hx), fun x hx => h x (List.mem_append_right _ hx)⟩
theorem getD_byt {l : List Nat} (h : Byt l) (i : Nat) : l.getD i 0 < 256 := by
  by_cases hi : i < l.length
  · rw [List.getD_eq_getElem?_getD, List.getElem?_eq_getElem hi]
    exact h _ (List.getElem_mem hi)
  · rw [List.getD_eq_getElem?_getD, List.getElem?_eq_none (by omega)]
    simp
theorem cand_wf {op : Nat} {rs : List Nat} {m : Int} (ho : op < 256) (hr : Byt rs) (hm : In64 m) : WfW (cand op rs m) := ⟨ho, getD_byt hr 0, getD_byt hr 1, getD_byt hr 2, hm⟩
/-- The number, byte by byte from the last one on. -/
theorem val_drop {l : List Nat} {i : Nat} (hi : i < l.length) : val (l.drop i) = l.getD i 0 + 256 * val (l.drop (i + 1)) := by
  rw [List.drop_eq_getElem_cons hi, val, List.getD_eq_getElem?_getD, List.getElem?_eq_getElem hi]
  rfl
theorem val_drop_lt {l : List Nat} (hb : Byt l) (i : Nat) : val (l.drop i) < 256 ^ (l.length - i) := by
  have h := val_lt (l.drop i) (fun x hx => hb x (List.mem_of_mem_drop hx))
  rw [List.length_drop] at h
  exact h
/-- The number with its sign spread. -/
def ext (l : List Nat) (i : Nat) : Nat := val l + (256 ^ i - 256 ^ l.length)
theorem ext_self (l : List Nat) : ext l l.length = val l := by unfold ext; omega
theorem ext_succ {l : List Nat} {i : Nat} (hi : l.length ≤ i) : ext l (i + 1) = ext l i + 255 * 256 ^ i := by
  unfold ext
  have h := Nat.pow_le_pow_right (show 0 < 256 by decide) hi
  rw [Nat.pow_succ]
  omega
theorem ext_lt {l : List Nat} (hb : Byt l) {i : Nat} (hi : l.length ≤ i) (h8 : i ≤ 8) : ext l i < 18446744073709551616 := by
  have h1 := val_lt l hb
  have h2 := Nat.pow_le_pow_right (show 0 < 256 by decide) hi
  have h3 := pow_le8 h8
  unfold ext
  omega
theorem wrap_ext {l : List Nat} (hl : l.length < 8) (h0 : l ≠ []) (h1 : 128 ≤ l.getLastD 0) : wrap64 (ext l 8 : Nat) = wrap64 (numD true l) := by
  have h2 := Nat.pow_le_pow_right (show 0 < 256 by decide) (show l.length ≤ 8 by omega)
  rw [show (256 : Nat) ^ 8 = 18446744073709551616 by decide] at h2
  unfold numD
  rw [if_pos ⟨rfl, h0, h1⟩]
  unfold ext wrap64
  rw [show (256 : Nat) ^ 8 = 18446744073709551616 by decide]
  omega
theorem wrap_val {op : Nat} {l : List Nat} (hl : l.length ≤ 8) (h : ¬ (op = 30 ∧ 0 < l.length ∧ l.length < 8 ∧ 127 < l.getLastD 0)) : wrap64 (val l : Nat) = wrap64 (numD (op == 30) l) := by
  unfold numD
  split
  case isFalse => rfl
  case isTrue h2 =>
    obtain ⟨h3, h4, h5⟩ := h2
    have h6 : l.length ≠ 0 := fun e => h4 (List.length_eq_zero_iff.1 e)
    have h7 : l.length = 8 := by
      simp only [beq_iff_eq] at h3
      omega
    rw [h7, show (256 : Nat) ^ 8 = 18446744073709551616 by decide]
    unfold wrap64
    omega
theorem last_getD {l : List Nat} (h : 0 < l.length) : l.getLastD 0 = l.getD (l.length - 1) 0 := by
  have hne : l ≠ [] := fun e => by rw [e] at h; simp at h
  rw [List.getLastD_eq_getLast?, List.getLast?_eq_getElem?, List.getD_eq_getElem?_getD]
end Ib
end Go.Proofs.YtlblmnneikdpgaaDoor
