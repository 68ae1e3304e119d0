/-
  Joined: Plain2, Plain3, Plain4, Plain5.
-/
import Derived.Test.YtcgllooeimacdaaGreatDoorPlain
/-! Plain laws of the scan, on lists of bytes: how many tokens a text has; what its tokens' texts are. No program is named here. -/

namespace Go.Proofs.YtcgllooeimacdaaGreatDoor.Lx


end Go.Proofs.YtcgllooeimacdaaGreatDoor.Lx

/-! Plain laws of the scan of digits with one byte behind them. No program is named here. -/

namespace Go.Proofs.YtcgllooeimacdaaGreatDoor.Lx





def NumRest (n : Nat) (X : List UInt8) (r : Res) : Prop := r = .error (n, 4) ∨ ∃ ts, r = .ok (⟨3, 0, X, valueF 0 X⟩ :: ts)

end Go.Proofs.YtcgllooeimacdaaGreatDoor.Lx

/-! Plain laws of the scan: where tokens stand, what stands between them, what a line's end behind a text changes, and what a scan of tokens with gaps between comes to. No program is named here. -/

namespace Go.Proofs.YtcgllooeimacdaaGreatDoor.Lx



/-- The tokens from a place on. -/
def Placed (l : List UInt8) : Nat → List Tok → Prop
  | _, [] => False
  | q, t :: r => q ≤ t.pos ∧ t.pos + t.text.length ≤ l.length ∧ (l.drop t.pos).take t.text.length = t.text ∧ scan ((l.drop q).take (t.pos - q)) = .ok [⟨0, t.pos - q, [], 0⟩] ∧
    ((t.kind = 0 ∧ t.text = [] ∧ r = []) ∨ (t.kind ≠ 0 ∧ t.kind ≤ 4 ∧ t.text ≠ [] ∧ Placed l (t.pos + t.text.length) r))



theorem pre_ok {k : Tok} {r : Res} {ts : List Tok} (h : pre [k] r = .ok ts) : ∃ ts', r = .ok ts' ∧ ts = k :: ts' := by
  cases r with
  | error e => cases h
  | ok l => cases h; exact ⟨l, rfl, rfl⟩



/-! A byte that ends every token. -/
def stopB (z : UInt8) : Bool := z == 32 || z == 10 || z == 9









end Go.Proofs.YtcgllooeimacdaaGreatDoor.Lx

/-! Plain laws of the scan of tokens that are written anew with gaps between. No program is named here. -/

namespace Go.Proofs.YtcgllooeimacdaaGreatDoor.Lx

/-- What stands behind a token. -/
def gapL (n : Nat) : List UInt8 := if n = 0 then [32] else if n = 1 then [10] else if n = 2 then [9, 32, 13] else [32, 35, 32, 97, 32, 98, 32, 48, 48, 32, 33, 10]






/-- Tokens, the last of which is the end. -/
def Chain : List Tok → Prop
  | [] => False
  | t :: r => (t.text = [] ∧ t.kind = 0 ∧ t.num = 0 ∧ r = []) ∨ ((∃ pos c u, blankB c = false ∧ (c == 35) = false ∧ tokL pos (c :: u) = .ok t) ∧ Chain r)

theorem chain : ∀ (n pos : Nat) (l : List UInt8) (ts : List Tok), l.length ≤ n → res pos l = .ok ts → Chain ts := by
  intro n
  induction n with
  | zero =>
    intro pos l ts hn h
    have : l = [] := List.length_eq_zero_iff.1 (by omega)
    subst this
    cases h
    exact Or.inl ⟨rfl, rfl, rfl, rfl⟩
  | succ n ih =>
    intro pos l ts hn h
    have hs := res_skip _ l pos (Nat.le_refl _)
    rw [hs.1] at h
    cases hd : l.drop (skipF false l) with
    | nil =>
      rw [hd, res_nil] at h
      cases h
      exact Or.inl ⟨rfl, rfl, rfl, rfl⟩
    | cons c t =>
      obtain ⟨h1, h2⟩ := hs.2 c t hd
      rw [hd] at h
      cases ht : tokL (pos + skipF false l) (c :: t) with
      | error e => rw [res_error h1 h2 ht] at h; cases h
      | ok k =>
        rw [res_tok h1 h2 ht] at h
        obtain ⟨ts', hr, rfl⟩ := pre_ok h
        have hk := tokL_len ht
        have hlen : (c :: t).length ≤ l.length := by rw [← hd, List.length_drop]; omega
        exact Or.inr ⟨⟨_, c, t, h1, h2, ht⟩, ih _ _ _ (by rw [List.length_drop]; omega) hr⟩

/-- Tokens written anew, each with its gap behind it. -/
def joinF (gf : Nat → Nat) : Nat → List Tok → List UInt8
  | _, [] => []
  | i, t :: r => t.text ++ (gapL (gf i) ++ joinF gf (i + 1) r)



def keyT (t : Tok) : Nat × List UInt8 × Nat := (t.kind, t.text, t.num)



end Go.Proofs.YtcgllooeimacdaaGreatDoor.Lx
