/-
  What bytes begin with, step by step.
-/
import Derived.Test.YtepnjhbolaebmaaDoorIbQ
namespace Go.Proofs.YtepnjhbolaebmaaDoor
open Go
namespace Ib
theorem pre_nil (x : Wd) : ¬ PreW [] x := fun h => encW_ne h.1 (List.prefix_nil.1 h.2)
theorem pre_op {op : Nat} {q : List Nat} {x : Wd} (h : PreW (op :: q) x) : x.op = op ∧ ∃ n im, names op = some (n, im) ∧ RegOk x n ∧ least op ≤ x.imm ∧ x.imm ≤ most op ∧ encR x n ++ (if im then nmB (op == 30) x.imm else []) <+: q := by
  obtain ⟨⟨n, im, e1, r1, g1, g2⟩, h2⟩ := h
  unfold encW at h2
  rw [e1] at h2
  obtain ⟨eo, q', h3, h4⟩ := pre_cons h2 (List.prefix_refl (op :: q))
  have h5 : x.op :: (encR x n ++ if im then nmB (x.op == 30) x.imm else []) <+: op :: q := h2
  rw [List.cons_prefix_cons] at h5
  refine ⟨eo, n, im, by rw [← eo]; exact e1, r1, by rw [← eo]; exact g1, by rw [← eo]; exact g2, ?_⟩
  rw [← eo]
  exact h5.2
theorem pre_none {op : Nat} {q : List Nat} (h : names op = none) (x : Wd) : ¬ PreW (op :: q) x := fun hp => by
  obtain ⟨_, n, im, e, _⟩ := pre_op hp
  rw [h] at e
  cases e
theorem pre_short {op n : Nat} {im : Bool} {q : List Nat} (h : names op = some (n, im)) (hq : q.length < n) (x : Wd) : ¬ PreW (op :: q) x := fun hp => by
  obtain ⟨_, n', im', e, _, _, _, h2⟩ := pre_op hp
  rw [h] at e
  cases e
  have h3 := h2.length_le
  rw [List.length_append, encR_len x (names_le h).1] at h3
  omega
/-- The instruction that stands there, if its registers are rs and its number is m. -/
def cand (op : Nat) (rs : List Nat) (m : Int) : Wd := ⟨op, rs.getD 0 0, rs.getD 1 0, rs.getD 2 0, m⟩
theorem encR_cand {op n : Nat} {rs : List Nat} {m : Int} (hn : rs.length = n) (h3 : n ≤ 3) : encR (cand op rs m) n = rs := by
  unfold encR cand
  match rs, hn with
  | [], h => subst h; rfl
  | [a], h => subst h; rfl
  | [a, b], h => subst h; rfl
  | [a, b, c], h => subst h; rfl
  | a :: b :: c :: d :: r, h => simp at h; omega
theorem cand_of {x : Wd} {n : Nat} {rs : List Nat} (hn : rs.length = n) (h3 : n ≤ 3) (hr : RegOk x n) (he : encR x n = rs) : x = cand x.op rs x.imm := by
  obtain ⟨o, a, b, c, i⟩ := x
  unfold RegOk at hr
  unfold encR at he
  unfold cand
  have : n = 0 ∨ n = 1 ∨ n = 2 ∨ n = 3 := by omega
  simp at hr he
  rcases this with rfl | rfl | rfl | rfl <;> (subst he; simp; try omega)
theorem pre_regs {op n : Nat} {im : Bool} {rs q : List Nat} {x : Wd} (h : names op = some (n, im)) (hr : rs.length = n) (hp : PreW (op :: (rs ++ q)) x) : x = cand op rs x.imm ∧ FormW x ∧ (im = true → nmB (op == 30) x.imm <+: q) ∧ (im = false → x.imm = 0) := by
  obtain ⟨e0, n', im', e, r1, g1, g2, h2⟩ := pre_op hp
  rw [h] at e
  cases e
  have h3 := (names_le h).1
  obtain ⟨er, q', h4, h5⟩ := pre_split (by rw [encR_len x h3, hr]) h2 (List.prefix_refl (rs ++ q))
  have hc := cand_of hr h3 r1 er
  rw [e0] at hc
  refine ⟨hc, hp.1, fun hi => ?_, fun hi => ?_⟩
  · rw [hi, er] at h2
    exact (List.prefix_append_right_inj rs).1 h2
  · have hx := (names_nat op (by have := names_le h; omega) n im h).1 hi
    omega
/-- Without a number. -/
theorem pre_plain {op n : Nat} {rs q : List Nat} (h : names op = some (n, false)) (hr : rs.length = n) : (FormW (cand op rs 0) → PreW (op :: (rs ++ q)) (cand op rs 0)) ∧ (∀ x, PreW (op :: (rs ++ q)) x → FormW (cand op rs 0)) := by
  have h3 := (names_le h).1
  refine ⟨fun hf => ⟨hf, ?_⟩, fun x hp => ?_⟩
  · unfold encW
    rw [show (cand op rs 0).op = op from rfl, h]
    show op :: (encR (cand op rs 0) n ++ if false = true then _ else []) <+: _
    rw [encR_cand hr h3]
    simp
  · obtain ⟨e, hf, _, h0⟩ := pre_regs h hr hp
    rw [h0 rfl] at e
    rw [← e]
    exact hf
theorem enc_plain_len {op n : Nat} {rs : List Nat} (h : names op = some (n, false)) (hr : rs.length = n) : (encW (cand op rs 0)).length = 1 + n := by
  unfold encW
  rw [show (cand op rs 0).op = op from rfl, h]
  show (op :: (encR (cand op rs 0) n ++ if false = true then _ else [])).length = _
  rw [encR_cand hr (names_le h).1]
  simp [hr]
  omega
/-- What there is of a number. -/
def SplN (q : List Nat) (l q' : List Nat) : Prop := q = l.length :: (l ++ q') ∧ l.length ≤ 8
theorem spl_of {sign : Bool} {n : Int} {q : List Nat} (hn : In64 n) (h : nmB sign n <+: q) : ∃ l q', SplN q l q' ∧ l = leB (u64 n) (nmK sign n) := by
  obtain ⟨s, hs⟩ := h
  refine ⟨leB (u64 n) (nmK sign n), s, ⟨?_, ?_⟩, rfl⟩
  · rw [← hs]
    unfold nmB
    rw [leB_len]
    rfl
  · rw [leB_len]
    exact nmK_8 sign n hn
/-- With a number. -/
theorem pre_num {op n : Nat} {rs q l q' : List Nat} {m : Int} (h : names op = some (n, true)) (hr : rs.length = n) (hl : SplN q l q') (hb : Byt l) (hm : m = wrap64 (numD (op == 30) l)) :
    (FormW (cand op rs m) → nmK (op == 30) m = l.length → PreW (op :: (rs ++ q)) (cand op rs m)) ∧ (∀ x, PreW (op :: (rs ++ q)) x → FormW (cand op rs m) ∧ nmK (op == 30) m = l.length) := by
  have h3 := (names_le h).1
  refine ⟨fun hf hk => ⟨hf, ?_⟩, fun x hp => ?_⟩
  · unfold encW
    rw [show (cand op rs m).op = op from rfl, h]
    show op :: (encR (cand op rs m) n ++ if true = true then nmB (op == 30) m else []) <+: _
    rw [encR_cand hr h3, if_pos rfl, nmB_of hb hl.2 hm hk, List.cons_prefix_cons, List.prefix_append_right_inj, hl.1]
    exact ⟨rfl, by simp⟩
  · obtain ⟨e, hf, h1, _⟩ := pre_regs h hr hp
    have hi := FormW.in64 hf
    have h2 := h1 rfl
    have hbd : (op == 30) = false → 0 ≤ x.imm := fun hh => by
      obtain ⟨e0, n', im', e', _, g1, _, _⟩ := pre_op hp
      rw [h] at e'
      cases e'
      have hx := names_nat op (by have := names_le h; omega) n true h
      have := hx.2.1 hh
      omega
    obtain ⟨l2, q2, hs2, e2⟩ := spl_of hi h2
    have h4 := hl.1
    rw [hs2.1] at h4
    injection h4 with h4 h5
    have h6 : l2 = l := (List.append_inj h5 h4).1
    subst h6
    have h7 : numD (op == 30) l2 = x.imm := by rw [e2]; exact numD_nm _ _ hi hbd
    have h8 : m = x.imm := by rw [hm, h7, wrap64_id hi]
    rw [h8, ← e]
    exact ⟨hf, by rw [e2, leB_len]⟩
theorem pre_nonum {op n : Nat} {rs q : List Nat} (h : names op = some (n, true)) (hr : rs.length = n) (hq : ¬ ∃ l q', SplN q l q') (x : Wd) : ¬ PreW (op :: (rs ++ q)) x := fun hp => by
  obtain ⟨_, hf, h1, _⟩ := pre_regs h hr hp
  obtain ⟨l, q', hs, _⟩ := spl_of (FormW.in64 hf) (h1 rfl)
  exact hq ⟨l, q', hs⟩
theorem enc_num_len {op n : Nat} {rs l q q' : List Nat} {m : Int} (h : names op = some (n, true)) (hr : rs.length = n) (hl : SplN q l q') (hk : nmK (op == 30) m = l.length) : (encW (cand op rs m)).length = 1 + n + 1 + l.length := by
  unfold encW
  rw [show (cand op rs m).op = op from rfl, h]
  show (op :: (encR (cand op rs m) n ++ if true = true then nmB (op == 30) m else [])).length = _
  rw [encR_cand hr (names_le h).1, if_pos rfl]
  unfold nmB
  rw [hk]
  simp [leB_len, hr]
  omega
end Ib
end Go.Proofs.YtepnjhbolaebmaaDoor
