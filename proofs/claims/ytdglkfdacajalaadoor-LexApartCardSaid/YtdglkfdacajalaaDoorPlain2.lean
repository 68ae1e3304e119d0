/-
  Plain laws of the scan, on lists of bytes: how many tokens a text has; what its tokens' texts are. No program is named here.
-/
import Derived.Test.YtdglkfdacajalaaDoorPlain
namespace Go.Proofs.YtdglkfdacajalaaDoor.Lx

theorem resF_len : ∀ (n pos : Nat) (l : List UInt8) (ts : List Tok), resF n pos l = .ok ts → ts.length ≤ l.length + 1 := by
  intro n
  induction n with
  | zero => intro pos l ts h; cases h; simp
  | succ n ih =>
    intro pos l ts h
    match l with
    | [] => cases h; simp
    | c :: t =>
      simp only [resF] at h
      split at h
      · have := ih _ _ _ h; simp only [List.length_cons]; omega
      · split at h
        · have := ih _ _ _ h
          have := dropWhile_le (· != 10) t
          simp only [List.length_cons]; omega
        · split at h
          · cases h
          · rename_i k hk
            have h1 := tokL_len hk
            cases hr : resF n (pos + k.text.length) ((c :: t).drop k.text.length) with
            | error e => rw [hr] at h; cases h
            | ok l2 =>
              rw [hr] at h
              have h2 := ih _ _ _ hr
              cases h
              simp only [List.length_drop, List.length_cons] at h2 h1
              simp only [List.length_append, List.length_cons, List.length_nil]
              omega

theorem scan_len {l : List UInt8} {ts : List Tok} (h : scan l = .ok ts) : ts.length ≤ 20001 ∧ l.length ≤ 20000 := by
  unfold scan at h
  split at h
  · cases h
  · have := resF_len _ _ _ _ h
    omega
end Go.Proofs.YtdglkfdacajalaaDoor.Lx
