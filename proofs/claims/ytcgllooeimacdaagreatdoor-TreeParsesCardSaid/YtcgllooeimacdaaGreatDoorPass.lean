/-
  The reader's block in memory; the loop that passes bytes as long as a function value says so: where it stops, whatever the function value keeps beside.
-/
import Derived.Test.YtcgllooeimacdaaGreatDoorSmall
import Derived.Deep.LoopGhost
import Derived.Deep.RegionWith
import Derived.StillTailTactics
namespace Go.Proofs.YtcgllooeimacdaaGreatDoor
open Go Go.RowKit Lx

/-- The reader's block: four cells for its words, its text, its place. -/
def Rd (b : Nat) (v0 v1 v2 v3 : Value) (s : ByteArray) (k : Nat) (w : World) : Prop :=
  w.heap[b]? = some (.cells #[v0, v1, v2, v3, .string s, .int .i64 (k : Int)] 100 (0, 0))

theorem Rd.cellAt {b : Nat} {v0 v1 v2 v3 : Value} {s : ByteArray} {k : Nat} {w : World} (h : Rd b v0 v1 v2 v3 s k w) : w.cell? ⟨b, 5, none⟩ = some (.int .i64 (k : Int)) := by unfold Rd at h; simp [World.cell?, h]
theorem Rd.cellText {b : Nat} {v0 v1 v2 v3 : Value} {s : ByteArray} {k : Nat} {w : World} (h : Rd b v0 v1 v2 v3 s k w) : w.cell? ⟨b, 4, none⟩ = some (.string s) := by unfold Rd at h; simp [World.cell?, h]
theorem Rd.free {b : Nat} {v0 v1 v2 v3 : Value} {s : ByteArray} {k : Nat} {w : World} (h : Rd b v0 v1 v2 v3 s k w) (j : Nat) : w.frozen? ⟨b, j, none⟩ = false := by unfold Rd at h; simp [World.frozen?, h]
theorem Rd.lt {b : Nat} {v0 v1 v2 v3 : Value} {s : ByteArray} {k : Nat} {w : World} (h : Rd b v0 v1 v2 v3 s k w) : b < w.heap.size := lt_of_block h
theorem Rd.other {b : Nat} {v0 v1 v2 v3 : Value} {s : ByteArray} {k : Nat} {w w' : World} {row : Option Nat} (h : Rd b v0 v1 v2 v3 s k w) (hg : w.grownBy w' row) (hne : some b ≠ row) : Rd b v0 v1 v2 v3 s k w' := (hg.block b h.lt hne).trans h
theorem Rd.setAt {b : Nat} {v0 v1 v2 v3 : Value} {s : ByteArray} {k : Nat} {w : World} (h : Rd b v0 v1 v2 v3 s k w) (k' : Nat) : Rd b v0 v1 v2 v3 s k' (w.setCell ⟨b, 5, none⟩ (.int .i64 (k' : Int))) := by
  have hlt := h.lt
  unfold Rd at *
  have h' : w.heap[b] = .cells #[v0, v1, v2, v3, .string s, .int .i64 (k : Int)] 100 (0, 0) := by simpa [Array.getElem?_eq_getElem hlt] using h
  show (w.heap.modify b _)[b]? = _
  rw [Array.getElem?_eq_getElem (by simpa using hlt), Array.getElem_modify_self, h']
  rfl

set_option maxRecDepth 100000 in
set_option maxHeartbeats 400000 in
theorem pass_any (b : Nat) (v0 v1 v2 v3 : Value) (s : ByteArray) (hs : s.size ≤ 9223372036854775806) (N : Nat) (caps : Array Value) (g : Nat → Bool) (I J : Nat → World → Prop)
    (hI : ∀ k w, I k w → Rd b v0 v1 v2 v3 s k w) (hJ : ∀ k w, J k w → Rd b v0 v1 v2 v3 s k w)
    (hcall : ∀ k (hk : k < s.size) w, I k w → Calls Tryz.prog N (#[B8 s[k]] ++ caps) w fun e w' => e = .returned (.bool (g k)) ∧ J k w')
    (hnext : ∀ k w, k < s.size → g k = true → J k w → I (k + 1) (w.setCell ⟨b, 5, none⟩ (.int .i64 ((k + 1 : Nat) : Int))))
    (hent : ∀ (args : Array Value) (w : World), (callFunc N args).run Tryz.prog w = .ok (.enter N args) w) (hdraw : ∀ k w n, I k w → I k (w.drewN n)) (n0 : Nat) (hn0 : n0 ≤ s.size) (w : World) (hw : I n0 w) :
    Calls Tryz.prog 60 #[.pointer (some ⟨b, 0, none⟩), .func (.func N) #[] caps] w fun e w' => e = .returned (.tuple #[]) ∧ ∃ k, n0 ≤ k ∧ k ≤ s.size ∧ (∀ j, n0 ≤ j → j < k → g j = true) ∧ ((k = s.size ∧ I k w') ∨ (k < s.size ∧ g k = false ∧ J k w')) := by
  have HI := Lib.hid hI
  have HJ := Lib.hid hJ
  have HC := Lib.hid hcall
  have HN := Lib.hid hnext
  have HW := Lib.hid hw
  have HD := Lib.hid hdraw
  clear hI hJ hcall hnext hw hdraw
  go_enter Tryz.func60, Tryz.ntmps60
  go_wp2
  go_loopg [] (s.size - n0) (fun gk wr => ∃ k, n0 ≤ k ∧ k ≤ s.size ∧ gk = s.size - k ∧ (∀ j, n0 ≤ j → j < k → g j = true) ∧ I k wr)
  case atStart => exact ⟨n0, Nat.le_refl _, hn0, rfl, fun j h1 h2 => by omega, HW.out⟩
  case round =>
    obtain ⟨k, h1, h2, rfl, hall, hi⟩ := hrel
    have hrd := HI.out k wr hi
    have c5 := hrd.cellAt
    have c4 := hrd.cellText
    have HA := Lib.hid hall
    have Hi := Lib.hid hi
    have Hrd := Lib.hid hrd
    clear hall hi hrd
    by_cases hk : k < s.size
    · have hd : decide (k < s.size) = true := by simpa using hk
      go_wp2
      go_still_tail 21, (by kernel_rfl)
      change wpList _ _ _ _ _ wr.drew
      go_wp2_with fail
      refine (HC.out k hk _ (HD.out k wr 1 Hi.out)).mono ?_
      rintro e w1 ⟨rfl, hj⟩
      have hrj := HJ.out k w1 hj
      have d5 := hrj.cellAt
      have d4 := hrj.free 5
      have hn := Lib.hid (HN.out k w1 hk)
      have Hj := Lib.hid hj
      clear hj c5 c4
      by_cases hg : g k = true
      · go_wp2
        go_roundg (s.size - (k + 1))
        case measure => omega
        case rel =>
          refine ⟨k + 1, by omega, by omega, rfl, ?_, ?_⟩
          · intro j h3 h4
            by_cases h5 : j = k
            · subst h5; exact hg
            · exact HA.out j h3 (by omega)
          · exact hn.out hg Hj.out
      · go_wp2
        go_end0
        exact ⟨rfl, k, h1, h2, HA.out, Or.inr ⟨hk, by simpa using hg, Hj.out⟩⟩
    · have hd : decide (k < s.size) = false := by simpa using hk
      go_wp2
      go_quiet (fail)
      go_wp2
      go_end0
      obtain rfl : k = s.size := by omega
      exact ⟨rfl, s.size, h1, Nat.le_refl _, HA.out, Or.inl ⟨rfl, HD.out _ _ _ Hi.out⟩⟩
end Go.Proofs.YtcgllooeimacdaaGreatDoor
