/-
  Texts with many brackets: what the parser answers, and what lies in memory then.
-/
import Derived.Test.YtoimhdejfeclpaaGreatDoorTAwake2
import Derived.Test.YtoimhdejfeclpaaGreatDoorTDeepP
namespace Go.Proofs.YtoimhdejfeclpaaGreatDoor
open Go Go.RowKit Px
open Lx (Tok)

theorem fuQ_head {ts : List Tok} {F : Nat} {r : R (List Sm)} (h0 : tk ts 0 = ⟨2, 0, [102, 110], 0⟩) (h1 : tk ts 1 = ⟨1, 3, [109, 97, 105, 110], 0⟩) (h2 : tk ts 2 = ⟨4, 7, [40], 0⟩) (h3 : tk ts 3 = ⟨4, 8, [41], 0⟩) (h4 : tk ts 4 = ⟨4, 9, [58], 0⟩) (h5 : tk ts 5 = ⟨2, 11, [105, 110, 116], 0⟩)
    (hb : blockF ts F ⟨6, 0, 0⟩ = r) : fuQ ts F ⟨0, 0, 0⟩ = bindR r fun b s => .ok (⟨[109, 97, 105, 110], [], 1, b, 0⟩, s) := by
  unfold fuQ
  refine bindR_of (a := ⟨2, 0, [102, 110], 0⟩) (s := ⟨1, 0, 0⟩) (expect_of (by show (tk ts 0).text = _; rw [h0]) ((take_else (t := [102, 110]) (by show (tk ts 0).text = _; rw [h0]) rfl rfl).trans (by show (Except.ok (tk ts 0, _) : R Tok) = _; rw [h0]))) ?_
  refine bindR_of (a := ⟨1, 3, [109, 97, 105, 110], 0⟩) (s := ⟨2, 0, 0⟩) (kindR_of (by show (tk ts 1).kind = _; rw [h1]) ((take_else (t := [109, 97, 105, 110]) (by show (tk ts 1).text = _; rw [h1]) rfl rfl).trans (by show (Except.ok (tk ts 1, _) : R Tok) = _; rw [h1]))) ?_
  refine bindR_of (a := ()) (s := ⟨4, 0, 0⟩) ?_ ?_
  · unfold listR
    refine bindR_of (expect_of (by show (tk ts 2).text = _; rw [h2]) (take_open (t := [40]) (by show (tk ts 2).text = _; rw [h2]) rfl (by decide))) ?_
    refine bindR_of (a := ()) (s := ⟨3, 1, 0⟩) ?_ ?_
    · exact if_pos (by show (tk ts 3).text = [41]; rw [h3])
    · refine bindR_of (expect_of (by show (tk ts 3).text = _; rw [h3]) (take_shut (t := [41]) (by show (tk ts 3).text = _; rw [h3]) rfl rfl)) ?_
      rfl
  · rw [if_pos (by show (tk ts 4).text = [58]; rw [h4])]
    refine bindR_of (take_else (t := [58]) (by show (tk ts 4).text = _; rw [h4]) rfl rfl) ?_
    refine bindR_of (a := 1) (s := ⟨6, 0, 0⟩) ?_ ?_
    · unfold typeR
      rw [if_pos (by show (tk ts 5).text = _; rw [h5]; rfl)]
      exact bindR_of (take_else (t := [105, 110, 116]) (by show (tk ts 5).text = _; rw [h5]) rfl rfl) rfl
    · rw [hb]

theorem wfT_of {ts : List Tok} {n : Nat} (hl : ts.length = n + 1) (hn : n < 30000) (he : tk ts n = ⟨0, (tk ts n).pos, [], 0⟩) : WfT ts := by
  refine ⟨by omega, by omega, fun i hi h => ?_⟩
  rcases Nat.lt_or_ge (i + 1) ts.length with h1 | h1
  · exact h1
  · obtain rfl : i = n := by omega
    rw [he] at h
    simp at h
theorem wfE (k : Nat) (hk : k < 260) : WfT (tsE k) := by
  have h2 : tk (tsE k) (8 + k + 1 + (k + 2)) = ⟨0, 28 + k + k, [], 0⟩ := tkE_end k 2
  exact wfT_of (n := 8 + k + 1 + (k + 2)) (by rw [lenE]; omega) (by omega) (by rw [h2])
theorem wfO (k : Nat) (hk : k < 260) : WfT (tsO k) := by
  have h2 : tk (tsO k) (9 + k + 1 + (k + 5)) = ⟨0, 28 + k + k, [], 0⟩ := tkO_end k 5
  exact wfT_of (n := 9 + k + 1 + (k + 5)) (by rw [lenO]; omega) (by omega) (by rw [h2])

/-- What a text that is read leaves, as far as it is looked at: the first expression of its first statement is a number. -/
def SevOk (w : World) (e : Ending) (w' : World) : Prop := Below w.heap.size w w' ∧ ∃ g0 c0 g1 c1 g2 m2 c2, e = .returned (.tuple #[.agg #[.slice (some ⟨g0, 0, none⟩) 1 c0], .int .i64 0, .int .i64 0]) ∧
  w'.cell? ⟨g0, 3, none⟩ = some (.slice (some ⟨g1, 0, none⟩) 1 c1) ∧ w'.cell? ⟨g1, 6, none⟩ = some (.slice (some ⟨g2, 0, none⟩) (m2 + 1) c2) ∧ w'.cell? ⟨g2, 0, none⟩ = some (.int .u8 1) ∧ g0 < w'.heap.size ∧ g1 < w'.heap.size ∧ g2 < w'.heap.size
theorem sev_of {w : World} {s : St} {e : Ending} {w' : World} {k id : Nat} {nm : Bytes} {t n pos p : Nat} {l : List Ex} {body els : List Sm} (h : ParsePost w (.ok ([⟨[109, 97, 105, 110], [], 1, [.mk k id nm t n pos (sevE p :: l) body els], 0⟩], s)) e w') : SevOk w e w' := by
  obtain ⟨hb, a, m, c, rfl, hr⟩ := h
  refine ⟨hb, ?_⟩
  rcases hr with ⟨h, _⟩ | ⟨g0, c0, xs, hv, _, ho, hp⟩
  · cases h
  cases hv
  obtain ⟨cs, d, rfl, ⟨v1, v2, rfl, _, hsm⟩, rfl⟩ := hp
  have e0 := (owns_cell ho 3 v2 rfl).1
  rcases hsm with ⟨h, _⟩ | ⟨g1, c1, ys, rfl, _, ho1, hp1⟩
  · cases h
  simp only [SmsC] at hp1
  obtain ⟨cs1, d1, rfl, hs1, rfl⟩ := hp1
  simp only [SmC] at hs1
  obtain ⟨u1, u2, u3, rfl, hex, _, _⟩ := hs1
  have e1 := (owns_cell ho1 6 u1 rfl).1
  rcases hex with ⟨h, _⟩ | ⟨g2, c2, zs, rfl, _, ho2, hp2⟩
  · cases h
  simp only [ExsC] at hp2
  obtain ⟨cs2, d2, rfl, hs2, _⟩ := hp2
  simp only [ExC] at hs2
  obtain ⟨sv, rfl, _⟩ := hs2
  have e2 := (owns_cell ho2 0 (.int .u8 ((1 : Nat) : Int)) rfl).1
  exact ⟨g0, _, g1, _, g2, l.length, _, rfl, e0, e1, e2, (ho.lt g0 rfl).2, (ho1.lt g1 rfl).2, (ho2.lt g2 rfl).2⟩

def DeepErr (p : Nat) (w : World) (e : Ending) (w' : World) : Prop := e = .returned (.tuple #[.agg #[.slice none 0 0], .int .i64 (p : Int), .int .i64 5]) ∧ Below w.heap.size w w'

theorem parse_E (k : Nat) (hk : k ≤ 199) (S : ByteArray) (hS : Bs S = txE k) (hs : S.size ≤ 9223372036854775806) (w : World) (hT : Tabs w.heap.size w) : Calls Tryz.prog 9 #[.string S] w (SevOk w) := by
  have hb := block_E k (994 - 3 * k) hk
  rw [show 3 * k + 6 + (994 - 3 * k) = 1000 by omega] at hb
  have hq := fuQ_head (F := 1000) rfl rfl rfl rfl rfl rfl hb
  exact (treeParse_ok S hs (tsE k) (by rw [hS]; exact scan_E k (by omega)) (wfE k (by omega)) 1000 (by decide) _ _ hq (by show (tk (tsE k) (8 + k + 1 + (k + 2))).kind = 0; rw [tkE_end]; rfl) w hT).mono fun e w' h => sev_of h
theorem parse_O (k : Nat) (hk : k ≤ 198) (S : ByteArray) (hS : Bs S = txO k) (hs : S.size ≤ 9223372036854775806) (w : World) (hT : Tabs w.heap.size w) : Calls Tryz.prog 9 #[.string S] w (SevOk w) := by
  have hb := block_O k (994 - 3 * k) hk
  rw [show 3 * k + 6 + (994 - 3 * k) = 1000 by omega] at hb
  have hq := fuQ_head (F := 1000) rfl rfl rfl rfl rfl rfl hb
  exact (treeParse_ok S hs (tsO k) (by rw [hS]; exact scan_O k (by omega)) (wfO k (by omega)) 1000 (by decide) _ _ hq (by show (tk (tsO k) (9 + k + 1 + (k + 5))).kind = 0; rw [tkO_end]; rfl) w hT).mono fun e w' h => sev_of h
theorem parse_E_deep (k : Nat) (hk : 199 < k) (hk2 : k < 260) (S : ByteArray) (hS : Bs S = txE k) (hs : S.size ≤ 9223372036854775806) (w : World) (hT : Tabs w.heap.size w) : Calls Tryz.prog 9 #[.string S] w (DeepErr 223 w) := by
  have hb := block_E_deep k (994 - 3 * k) hk
  rw [show 3 * k + 6 + (994 - 3 * k) = 1000 by omega] at hb
  have hq := fuQ_head (F := 1000) rfl rfl rfl rfl rfl rfl hb
  exact (treeParse_pan S hs (tsE k) (by rw [hS]; exact scan_E k hk2) (wfE k hk2) 1000 (by decide) _ hq (by decide) w hT).mono fun e w' h => ⟨h.2, h.1⟩
theorem parse_O_deep (k : Nat) (hk : 198 < k) (hk2 : k < 260) (S : ByteArray) (hS : Bs S = txO k) (hs : S.size ≤ 9223372036854775806) (w : World) (hT : Tabs w.heap.size w) : Calls Tryz.prog 9 #[.string S] w (DeepErr 217 w) := by
  have hb := block_O_deep k (994 - 3 * k) hk
  rw [show 3 * k + 6 + (994 - 3 * k) = 1000 by omega] at hb
  have hq := fuQ_head (F := 1000) rfl rfl rfl rfl rfl rfl hb
  exact (treeParse_pan S hs (tsO k) (by rw [hS]; exact scan_O k hk2) (wfO k hk2) 1000 (by decide) _ hq (by decide) w hT).mono fun e w' h => ⟨h.2, h.1⟩
end Go.Proofs.YtoimhdejfeclpaaGreatDoor
