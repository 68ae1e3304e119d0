/-
  The statement of the names: its body says true at every text and number.
-/
import Derived.Test.YtdglkfdacajalaaDoorAwake
import Derived.Test.YtdglkfdacajalaaDoorSame
import Derived.Test.YtdglkfdacajalaaDoorRefWord
import Derived.Lib.SlBytesRow
import Derived.Deep.RegionHeld3
namespace Go.Proofs.YtdglkfdacajalaaDoor
open Go Go.RowKit Lx Go.Maps Go.WideMaps Go.WideShapes

theorem takeWhile_all (P : UInt8 → Bool) : ∀ l : List UInt8, (∀ c ∈ l, P c = true) → l.takeWhile P = l := by
  intro l
  induction l with
  | nil => intro _; rfl
  | cons c t ih => intro h; rw [List.takeWhile_cons, if_pos (h c List.mem_cons_self), ih (fun d hd => h d (List.mem_cons_of_mem _ hd))]

theorem wordB_short {l : List UInt8} (h : wordB l = true) : l.length ≤ 6 := by
  unfold wordB at h
  rw [List.contains_iff_mem] at h
  have : ∀ x ∈ wordsL, x.length ≤ 6 := by decide
  exact this l h

/-- What the scan of one name comes to. -/
theorem scan_name (r : List UInt8) (h : ∀ c ∈ r, nameB c = true) (hl : r.length ≤ 30) : scan (113 :: r) = if 12 < r.length + 1 then .error (0, 2) else .ok [⟨if wordB (113 :: r) then 2 else 1, 0, 113 :: r, 0⟩, ⟨0, r.length + 1, [], 0⟩] := by
  have tw : (113 :: r).takeWhile nameB = 113 :: r := takeWhile_all nameB _ (fun c hc => by
    rcases List.mem_cons.1 hc with rfl | hc
    · rfl
    · exact h c hc)
  have ht : tokL 0 (113 :: r) = if 12 < r.length + 1 then .error 2 else .ok ⟨if wordB (113 :: r) then 2 else 1, 0, 113 :: r, 0⟩ := by
    rw [tokL, if_pos (by rfl), tw, List.length_cons]
  rw [scan, if_neg (by rw [List.length_cons]; omega)]
  by_cases h12 : 12 < r.length + 1
  · rw [if_pos h12] at ht ⊢
    exact res_error (by rfl) (by rfl) ht
  · rw [if_neg h12] at ht ⊢
    rw [res_tok (by rfl) (by rfl) ht]
    show pre _ (res (0 + (113 :: r).length) ((113 :: r).drop (113 :: r).length)) = _
    rw [List.drop_length, res_nil, List.length_cons, Nat.zero_add]
    rfl

theorem cell_below {w w' : World} (h : Below w.heap.size w w') {g i : Nat} (hg : g < w.heap.size) {v : Value} (hc : w.cell? ⟨g, i, none⟩ = some v) : w'.cell? ⟨g, i, none⟩ = some v := by
  unfold World.cell? at hc ⊢
  rw [h.block g hg]
  exact hc

theorem bs_append (X Y : ByteArray) : Bs (X ++ Y) = Bs X ++ Bs Y := by
  simp

theorem conv_one (c : UInt8) (w : World) : (convert 31 9 (.slice (some ⟨w.heap.size, 0, none⟩) 1 1)).run Tryd.prog (w.alloc (.cells #[B8 c] 5)) = .ok (.string ⟨#[c]⟩) (w.alloc (.cells #[B8 c] 5)) :=
  Lib.run_convert_whole _ 31 5 9 Tryd.underlying31 Tryd.underlying5 Tryd.underlying9 w.heap.size 0 ⟨#[c]⟩ (by
    intro i hi
    have h0 : i = 0 := by have : (⟨#[c]⟩ : ByteArray).size = 1 := rfl; omega
    subst h0
    rw [cell_of_row _ _ _ _ _ _ (heap_alloc_new w _)]
    rfl) 1

set_option maxRecDepth 100000 in
set_option maxHeartbeats 2000000 in
theorem lexNames_any (s : ByteArray) (n : UInt8) (w : World) (hT : Tabs w.heap.size w) : Calls Tryd.prog 8 #[.string s, B8 n] w fun e w' => e = .returned (.bool true) ∧ Below w.heap.size w w' := by
  have HT := Lib.hid hT
  clear hT
  go_enter Tryd.func8, Tryd.ntmps8
  go_wp2_with fail
  refine (awake_any w HT.out).mono ?_
  rintro e w1 ⟨rfl, hb1⟩
  have HB1 := Lib.hid hb1
  clear hb1
  go_wp2_with fail
  have hN : (n.toNat : Int) % 20 = ((n.toNat % 20 : Nat) : Int) := by omega
  obtain ⟨N, hNN⟩ : ∃ N, N = n.toNat % 20 := ⟨_, rfl⟩
  rw [← hNN] at hN
  have hN20 : N < 20 := by omega
  have HN := Lib.hid hNN
  clear hNN
  go_loopw [5, 16] (fun nm i wq => ∃ (k : Nat) (X : ByteArray), k ≤ N ∧ i = .int .i64 k ∧ nm = .string X ∧ (∃ r, Bs X = 113 :: r ∧ r.length = k ∧ ∀ c ∈ r, nameB c = true) ∧ Below w.heap.size w wq) (fun _ i _ => N - (intOf i).toNat)
  case atStart => exact ⟨0, ⟨#[113]⟩, Nat.zero_le _, rfl, rfl, ⟨[], rfl, rfl, by simp⟩, HB1.out⟩
  case round =>
    obtain ⟨k, X, hk, rfl, rfl, hX, hb⟩ := hrel
    have HX := Lib.hid hX
    have HB := Lib.hid hb
    clear hX hb
    have hXs : X.size = k + 1 := by
      obtain ⟨r, h1, h2, _⟩ := HX.out
      rw [← bs_length, h1, List.length_cons, h2]
    by_cases hlt : k < N
    · have hadd : ∀ c : UInt8, nameB c = true → Hid (∃ r, Bs (X ++ ⟨#[c]⟩) = 113 :: r ∧ r.length = k + 1 ∧ ∀ c ∈ r, nameB c = true) := by
        intro c hc
        obtain ⟨r, h1, h2, h3⟩ := HX.out
        refine ⟨r ++ [c], ?_, by rw [List.length_append, h2]; rfl, ?_⟩
        · rw [bs_append, h1]; rfl
        · intro d hd
          rcases List.mem_append.1 hd with h | h
          · exact h3 d h
          · obtain rfl := List.mem_singleton.1 h
            exact hc
      have hsz : ((X.size : Int) + 1) ≤ 9223372036854775807 := by omega
      by_cases hks : k < s.size
      · obtain ⟨c0, hc0⟩ : ∃ c0, c0 = s[k] := ⟨_, rfl⟩
        have hd1 : decide ((k : Int) < s.size) = true := by simp; omega
        by_cases hn : nameB s[k] = true
        · have HX2 := hadd s[k] hn
          have hcv := conv_one s[k] wr
          have hn2 : 97 ≤ s[k].toNat ∧ s[k].toNat ≤ 122 ∨ 48 ≤ s[k].toNat ∧ s[k].toNat ≤ 57 := by
            unfold nameB at hn
            rwa [Bool.or_eq_true, smallB_iff, digitB_iff] at hn
          clear hadd hn hc0
          rcases hn2 with hn2 | hn2
          · have e1 : decide ((97 : Int) ≤ (s[k].toNat : Int)) = true := by simp; omega
            have e2 : decide ((s[k].toNat : Int) ≤ 122) = true := by simp; omega
            clear hn2
            go_wp2_with fail
            go_roundw
            case rel => exact ⟨k + 1, X ++ ⟨#[s[k]]⟩, by omega, by go_num, rfl, HX2.out, HB.out.alloc HB.out.size _⟩
            case measure => simp [intOf]; omega
          · have e1 : decide ((97 : Int) ≤ (s[k].toNat : Int)) = false := by simp; omega
            have e3 : decide ((48 : Int) ≤ (s[k].toNat : Int)) = true := by simp; omega
            have e4 : decide ((s[k].toNat : Int) ≤ 57) = true := by simp; omega
            clear hn2
            go_wp2_with fail
            go_roundw
            case rel => exact ⟨k + 1, X ++ ⟨#[s[k]]⟩, by omega, by go_num, rfl, HX2.out, HB.out.alloc HB.out.size _⟩
            case measure => simp [intOf]; omega
        · have HX2 := hadd 113 (by decide)
          have hcv : (convert 31 9 (.slice (some ⟨wr.heap.size, 0, none⟩) 1 1)).run Tryd.prog (wr.alloc (.cells #[.int .u8 113] 5)) = .ok (.string ⟨#[113]⟩) (wr.alloc (.cells #[.int .u8 113] 5)) := conv_one 113 wr
          have hn2 : s[k].toNat < 48 ∨ (57 < s[k].toNat ∧ s[k].toNat < 97) ∨ 122 < s[k].toNat := by
            unfold nameB at hn
            rw [Bool.or_eq_true, smallB_iff, digitB_iff] at hn
            omega
          clear hadd hn hc0
          rcases hn2 with hn2 | hn2 | hn2
          · have e1 : decide ((97 : Int) ≤ (s[k].toNat : Int)) = false := by simp; omega
            have e3 : decide ((48 : Int) ≤ (s[k].toNat : Int)) = false := by simp; omega
            clear hn2
            go_wp2_with fail
            go_roundw
            case rel => exact ⟨k + 1, X ++ ⟨#[113]⟩, by omega, by go_num, rfl, HX2.out, HB.out.alloc HB.out.size _⟩
            case measure => simp [intOf]; omega
          · have e1 : decide ((97 : Int) ≤ (s[k].toNat : Int)) = false := by simp; omega
            have e3 : decide ((48 : Int) ≤ (s[k].toNat : Int)) = true := by simp; omega
            have e4 : decide ((s[k].toNat : Int) ≤ 57) = false := by simp; omega
            clear hn2
            go_wp2_with fail
            go_roundw
            case rel => exact ⟨k + 1, X ++ ⟨#[113]⟩, by omega, by go_num, rfl, HX2.out, HB.out.alloc HB.out.size _⟩
            case measure => simp [intOf]; omega
          · have e1 : decide ((97 : Int) ≤ (s[k].toNat : Int)) = true := by simp; omega
            have e2 : decide ((s[k].toNat : Int) ≤ 122) = false := by simp; omega
            have e3 : decide ((48 : Int) ≤ (s[k].toNat : Int)) = true := by simp; omega
            have e4 : decide ((s[k].toNat : Int) ≤ 57) = false := by simp; omega
            clear hn2
            go_wp2_with fail
            go_roundw
            case rel => exact ⟨k + 1, X ++ ⟨#[113]⟩, by omega, by go_num, rfl, HX2.out, HB.out.alloc HB.out.size _⟩
            case measure => simp [intOf]; omega
      · have hd1 : decide ((k : Int) < s.size) = false := by simp; omega
        have HX2 := hadd 48 (by decide)
        have hcv : (convert 31 9 (.slice (some ⟨wr.heap.size, 0, none⟩) 1 1)).run Tryd.prog (wr.alloc (.cells #[.int .u8 48] 5)) = .ok (.string ⟨#[48]⟩) (wr.alloc (.cells #[.int .u8 48] 5)) := conv_one 48 wr
        clear hadd
        go_wp2_with fail
        go_roundw
        case rel => exact ⟨k + 1, X ++ ⟨#[48]⟩, by omega, by go_num, rfl, HX2.out, HB.out.alloc HB.out.size _⟩
        case measure => simp [intOf]; omega
    · obtain ⟨r, hX1, hX2, hX3⟩ := HX.out
      have hXe : X = ⟨(113 :: r).toArray⟩ := by rw [← hX1]
      have hsc := scan_name r hX3 (by omega)
      rw [hX2] at hsc
      have hlen : (113 :: r).length = k + 1 := by rw [List.length_cons, hX2]
      have hd1 : decide ((k : Int) < (N : Int)) = false := by simp; omega
      subst hXe
      have HX3 := Lib.hid (And.intro hlen hX3)
      clear hX1 hX2 hX3 HX hlen
      by_cases h12 : 12 < k + 1
      · rw [if_pos h12] at hsc
        have hww : wordB (113 :: r) = false := by
          rw [Bool.eq_false_iff]
          intro e
          have := wordB_short e
          have := HX3.out.1
          omega
        have HS := Lib.hid (And.intro hsc hww)
        clear hsc hww
        have hd2 : decide ((12 : Int) < ((⟨(113 :: r).toArray⟩ : ByteArray).size : Int)) = true := by simp only [decide_eq_true_eq]; rw [hXs]; omega
        go_wp2_with fail
        refine (scan_any ⟨(113 :: r).toArray⟩ (by omega) wr ((HT.out.below HB.out).mono HB.out.size)).mono ?_
        rintro e w2 ⟨hb2, hp2⟩
        have e0 : Bs ⟨(113 :: r).toArray⟩ = 113 :: r := rfl
        rw [e0, HS.out.1] at hp2
        obtain rfl := hp2
        have HB2 := Lib.hid (HB.out.trans (hb2.mono HB.out.size))
        clear hb2 e0
        go_wp2_with fail
        refine (word_any ⟨(113 :: r).toArray⟩ (by unfold maxLen; omega) w2 ((HT.out.below HB2.out).mono HB2.out.size)).mono ?_
        rintro e w3 ⟨h3, hb3⟩
        have e3 : wordB (Bs ⟨(113 :: r).toArray⟩) = false := HS.out.2
        rw [e3] at h3
        subst h3
        have HB3 := Lib.hid (HB2.out.trans (hb3.mono HB2.out.size))
        clear hb3 e3
        go_wp2_with fail
        go_ret
        exact ⟨rfl, HB3.out⟩
      · rw [if_neg h12] at hsc
        have HS := Lib.hid hsc
        clear hsc
        have hd2 : decide ((12 : Int) < ((⟨(113 :: r).toArray⟩ : ByteArray).size : Int)) = false := by simp only [decide_eq_false_iff_not]; rw [hXs]; omega
        go_wp2_with fail
        refine (scan_any ⟨(113 :: r).toArray⟩ (by omega) wr ((HT.out.below HB.out).mono HB.out.size)).mono ?_
        rintro e w2 ⟨hb2, hp2⟩
        have e0 : Bs ⟨(113 :: r).toArray⟩ = 113 :: r := rfl
        rw [e0, HS.out] at hp2
        obtain ⟨v, rfl, ho⟩ := hp2
        have HB2 := Lib.hid (HB.out.trans (hb2.mono HB.out.size))
        clear hb2 e0
        go_wp2_with fail
        have hvf : ∃ g cap, v = .slice (some ⟨g, 0, none⟩) 2 cap := by
          rcases ho.2 with ⟨_, h⟩ | ⟨g, cap, cur, h, _⟩
          · cases h
          · exact ⟨g, cap, h⟩
        obtain ⟨g, cap, rfl⟩ := hvf
        obtain ⟨c0, c1, c2, c3⟩ := tok_at (ts := [⟨if wordB (113 :: r) then 2 else 1, 0, 113 :: r, 0⟩, ⟨0, k + 1, [], 0⟩]) ho 0 (by simp)
        have HRW := fun w => Lib.hid (refWord_any ⟨(113 :: r).toArray⟩ w)
        have hgl : g < w2.heap.size := (ho.lt g rfl).2
        clear ho c1 c3
        have hq0 : ∃ q : Int, w2.cell? ⟨g, 0, none⟩ = some (.int .u8 q) ∧ (q == 2) = wordB (113 :: r) := by
          refine ⟨((if wordB (113 :: r) then 2 else 1 : Nat) : Int), by simpa using c0, ?_⟩
          cases wordB (113 :: r) <;> rfl
        obtain ⟨q, c0', hq⟩ := hq0
        have c2' : w2.cell? ⟨g, 2, none⟩ = some (.string ⟨(113 :: r).toArray⟩) := by simpa using c2
        clear c0 c2
        have eW : wordB (Bs ⟨(113 :: r).toArray⟩) = wordB (113 :: r) := rfl
        rw [eW, ← hq] at HRW
        clear eW hq
        have hbb : ∀ X : ByteArray, (X.toList == X.toList) = true := fun X => by simp
        have hb2 := hbb ⟨(113 :: r).toArray⟩
        go_region_held3 (fun w' => w'.cell? ⟨g, 0, none⟩ = some (.int .u8 q) ∧ w'.cell? ⟨g, 2, none⟩ = some (.string ⟨(113 :: r).toArray⟩)) (first | exact hS4 | exact ⟨c0', c2'⟩ | go_keep) (first | (go_at_call 14; refine (HRW _).out.mono ?_; rintro e w4 ⟨rfl, hb4⟩; have hS4 := And.intro (cell_below hb4 hgl c0') (cell_below hb4 hgl c2')))
        have HB4 : Hid (Below w.heap.size w w4) := HB2.out.trans (Below.mono (show Below w2.heap.size w2 w4 from ⟨hb4.os, hb4.tape, hb4.output, hb4.size, hb4.block⟩) HB2.out.size)
        clear hb4
        go_wp2_with fail
        go_ret
        exact ⟨ret_bool (by simp), HB4.out⟩
end Go.Proofs.YtdglkfdacajalaaDoor
