/-
  The statement of the numbers: its body says true at every list of digits and every byte behind.
-/
import Derived.Test.YtdglkfdacajalaaDoorNames
import Derived.Test.YtdglkfdacajalaaDoorPlain3
namespace Go.Proofs.YtdglkfdacajalaaDoor
open Go Go.RowKit Lx Go.Maps Go.WideMaps Go.WideShapes

/-- A slice of bytes that came in. -/
def SB (w : World) (v : Value) (D : List UInt8) : Prop := ∃ ao cap, v = .slice ao D.length cap ∧ (D = [] ∨ ∃ b off, ao = some ⟨b, off, none⟩ ∧ b < w.heap.size ∧ ∀ j (h : j < D.length), w.cell? ⟨b, off + j, none⟩ = some (B8 (D[j]'h)))

def digC (d : UInt8) : UInt8 := UInt8.ofNat (48 + d.toNat % 10)
theorem digC_nat (d : UInt8) : (digC d).toNat = 48 + d.toNat % 10 := by unfold digC; simp only [UInt8.toNat_ofNat']; omega
theorem digC_digit (d : UInt8) : digitB (digC d) = true := by rw [digitB_iff, digC_nat]; omega
def digs (l : List UInt8) : List UInt8 := l.map digC
theorem digs_digit (l : List UInt8) : ∀ c ∈ digs l, digitB c = true := by
  intro c hc
  obtain ⟨d, _, rfl⟩ := List.mem_map.1 hc
  exact digC_digit d
theorem digs_snoc (D : List UInt8) (k : Nat) (h : k < D.length) : digs (D.take (k + 1)) = digs (D.take k) ++ [digC (D[k]'h)] := by
  rw [List.take_succ_eq_append_getElem h]
  unfold digs
  rw [List.map_append]
  rfl

theorem cut_text (E : Nat) (h : E < 10) : (⟨#[48, 49, 50, 51, 52, 53, 54, 55, 56, 57]⟩ : ByteArray).extract E (E + 1) = ⟨#[UInt8.ofNat (48 + E)]⟩ := by
  rw [extract_str]
  have h10 : E = 0 ∨ E = 1 ∨ E = 2 ∨ E = 3 ∨ E = 4 ∨ E = 5 ∨ E = 6 ∨ E = 7 ∨ E = 8 ∨ E = 9 := by omega
  rcases h10 with rfl | rfl | rfl | rfl | rfl | rfl | rfl | rfl | rfl | rfl <;> rfl
theorem cut_digit (E : Nat) (h : E < 10) (w : World) : (Instr.slice 9 (.string ⟨#[48, 49, 50, 51, 52, 53, 54, 55, 56, 57]⟩) (some (.int .u8 (E : Int))) (some (.int .u8 ((E : Int) + 1))) none).run Tryd.prog w = .ok (.string ⟨#[UInt8.ofNat (48 + E)]⟩) w := by
  rw [← cut_text E h]
  have hs : (⟨#[48, 49, 50, 51, 52, 53, 54, 55, 56, 57]⟩ : ByteArray).size = 10 := rfl
  generalize (⟨#[48, 49, 50, 51, 52, 53, 54, 55, 56, 57]⟩ : ByteArray) = s at hs ⊢
  have h1 : (E : Int) ≤ (E : Int) + 1 := by omega
  have h2 : ((E : Int) + 1) ≤ s.size := by rw [hs]; omega
  have h3 : (0 : Int) ≤ E := by omega
  have h4 : ((E : Int) + 1).toNat = E + 1 := by omega
  simp [go_sem, h1, h2, h3, h4]

/-- What the loop has reckoned: whether it is too great, and what it is, if it isn't. -/
def NRel (V : Nat) (x : Int) (g : Bool) : Prop := g = decide (9223372036854775807 < V) ∧ (V ≤ 9223372036854775807 → x = V)

/-- What is known when the digits have been gone through. -/
structure NEnd (L : List UInt8) (X : ByteArray) (k : Nat) (x : Int) (g : Bool) (b : UInt8) : Prop where
  text : Bs X = L
  size : X.size = k
  whole : X = ⟨L.toArray⟩
  len : L.length = k
  scans : digitB b = false → (9223372036854775807 < valueF 0 L → scan (L ++ [b]) = .error (0, 2)) ∧
    (valueF 0 L ≤ 9223372036854775807 → (L.head? = some 48 ∧ 1 < L.length) ∨ letterB b = true → scan (L ++ [b]) = .error (0, 4)) ∧
    (valueF 0 L ≤ 9223372036854775807 → ¬ (L.head? = some 48 ∧ 1 < L.length) → letterB b = false → NumRest L.length L (scan (L ++ [b])))
  first : ∀ h : 0 < X.size, L.head? = some X[0]
  full : X.toList.isEmpty = false
  rel : NRel (valueF 0 L) x g
  scanned : Bs (X ++ ⟨#[b]⟩) = L ++ [b]
  more : (X ++ (⟨#[b]⟩ : ByteArray)).size ≤ 9223372036854775806

theorem nums_end (D : List UInt8) (k : Nat) (X : ByteArray) (x : Int) (g : Bool) (b : UInt8) (hk : k ≤ D.length) (hk0 : ¬ k = 0) (hk4 : k ≤ 40) (hX : Bs X = digs (D.take k)) (hN : NRel (valueF 0 (digs (D.take k))) x g) : ∃ L, NEnd L X k x g b := by
  obtain ⟨L, hL⟩ : ∃ L, L = digs (D.take k) := ⟨_, rfl⟩
  have hLk : L.length = k := by rw [hL]; simp [digs]; omega
  have hLd : ∀ c ∈ L, digitB c = true := by rw [hL]; exact digs_digit _
  rw [← hL] at hX hN
  have hXs : X.size = k := by rw [← bs_length, hX, hLk]
  refine ⟨L, hX, hXs, by rw [← hX], hLk, ?_, ?_, ?_, hN, by rw [bs_append, hX], ?_⟩
  · exact scan_digits L b hLd (by intro e; rw [e] at hLk; simp at hLk; omega) (by omega)
  · intro h
    have := getElem_drop X 0 h
    rw [List.drop_zero, hX] at this
    rw [this]; rfl
  · rw [List.isEmpty_eq_false_iff]
    intro e
    have h2 : Bs X = [] := by rw [Lib.toList_data] at e; exact e
    rw [h2] at hX
    rw [← hX] at hLk
    simp at hLk
    omega
  · have : (X ++ (⟨#[b]⟩ : ByteArray)).size = X.size + 1 := by simp; rfl
    omega

/-- A byte held against the bounds of digits and letters. -/
def Dec (b : UInt8) (p97 p122 p65 p90 p48 p57 : Bool) : Prop := decide ((97 : Int) ≤ (b.toNat : Int)) = p97 ∧ decide ((b.toNat : Int) ≤ 122) = p122 ∧ decide ((65 : Int) ≤ (b.toNat : Int)) = p65 ∧ decide ((b.toNat : Int) ≤ 90) = p90 ∧ decide ((48 : Int) ≤ (b.toNat : Int)) = p48 ∧ decide ((b.toNat : Int) ≤ 57) = p57
theorem byte_class (b : UInt8) : (digitB b = true ∧ Dec b false true false true true true) ∨ (digitB b = false ∧ letterB b = true ∧ (Dec b false true true true true false ∨ Dec b true true true false true false)) ∨
    (digitB b = false ∧ letterB b = false ∧ (Dec b false true false true false true ∨ Dec b false true false true true false ∨ Dec b false true true false true false ∨ Dec b true false true false true false)) := by
  have dig : digitB b = decide (48 ≤ b.toNat ∧ b.toNat ≤ 57) := by rw [Bool.eq_iff_iff, digitB_iff]; simp
  have let1 : letterB b = decide (97 ≤ b.toNat ∧ b.toNat ≤ 122 ∨ 65 ≤ b.toNat ∧ b.toNat ≤ 90) := by
    rw [Bool.eq_iff_iff]; unfold letterB; rw [Bool.or_eq_true, smallB_iff, greatB_iff]; simp
  rw [dig, let1]
  have hr : b.toNat < 48 ∨ (48 ≤ b.toNat ∧ b.toNat ≤ 57) ∨ (58 ≤ b.toNat ∧ b.toNat < 65) ∨ (65 ≤ b.toNat ∧ b.toNat ≤ 90) ∨ (91 ≤ b.toNat ∧ b.toNat < 97) ∨ (97 ≤ b.toNat ∧ b.toNat ≤ 122) ∨ 123 ≤ b.toNat := by omega
  rcases hr with h | h | h | h | h | h | h
  · exact Or.inr (Or.inr ⟨by simp; omega, by simp; omega, Or.inl ⟨by simp; omega, by simp; omega, by simp; omega, by simp; omega, by simp; omega, by simp; omega⟩⟩)
  · exact Or.inl ⟨by simp; omega, by simp; omega, by simp; omega, by simp; omega, by simp; omega, by simp; omega, by simp; omega⟩
  · exact Or.inr (Or.inr ⟨by simp; omega, by simp; omega, Or.inr (Or.inl ⟨by simp; omega, by simp; omega, by simp; omega, by simp; omega, by simp; omega, by simp; omega⟩)⟩)
  · exact Or.inr (Or.inl ⟨by simp; omega, by simp; omega, Or.inl ⟨by simp; omega, by simp; omega, by simp; omega, by simp; omega, by simp; omega, by simp; omega⟩⟩)
  · exact Or.inr (Or.inr ⟨by simp; omega, by simp; omega, Or.inr (Or.inr (Or.inl ⟨by simp; omega, by simp; omega, by simp; omega, by simp; omega, by simp; omega, by simp; omega⟩))⟩)
  · exact Or.inr (Or.inl ⟨by simp; omega, by simp; omega, Or.inr ⟨by simp; omega, by simp; omega, by simp; omega, by simp; omega, by simp; omega, by simp; omega⟩⟩)
  · exact Or.inr (Or.inr ⟨by simp; omega, by simp; omega, Or.inr (Or.inr (Or.inr ⟨by simp; omega, by simp; omega, by simp; omega, by simp; omega, by simp; omega, by simp; omega⟩))⟩)

/-- Does the text begin with a nought that has more behind it? -/
theorem nought_iff {L : List UInt8} {X : ByteArray} {k : Nat} {x : Int} {g : Bool} {b : UInt8} (h : NEnd L X k x g b) (h0 : 0 < X.size) :
    ((L.head? = some 48 ∧ 1 < L.length) ∧ decide ((1 : Int) < (X.size : Int)) = true ∧ ((X[0].toNat : Int) == 48) = true) ∨
    (¬ (L.head? = some 48 ∧ 1 < L.length) ∧ (decide ((1 : Int) < (X.size : Int)) = false ∨ decide ((1 : Int) < (X.size : Int)) = true ∧ ((X[0].toNat : Int) == 48) = false)) := by
  have hl : L.length = X.size := by rw [h.len, h.size]
  rw [h.first h0, hl]
  have e : (some X[0] = some (48 : UInt8)) = (X[0].toNat = 48) := by
    have := u8_eq X[0] 48 (by decide)
    simpa using this
  rw [e]
  by_cases h1 : 1 < X.size
  · have d1 : decide ((1 : Int) < (X.size : Int)) = true := by simp; omega
    by_cases h2 : X[0].toNat = 48
    · exact Or.inl ⟨⟨h2, h1⟩, d1, by simp [h2]⟩
    · exact Or.inr ⟨fun e => h2 e.1, Or.inr ⟨d1, by simp; omega⟩⟩
  · exact Or.inr ⟨fun e => h1 e.2, Or.inl (by simp; omega)⟩

set_option maxRecDepth 100000 in
set_option maxHeartbeats 16000000 in
theorem lexNumbers_any (D : List UInt8) (hD : D.length ≤ 140737488351232) (v : Value) (b : UInt8) (w : World) (hv : SB w v D) (hT : Tabs w.heap.size w) : Calls Tryd.prog 7 #[v, B8 b] w fun e w' => e = .returned (.bool true) ∧ Below w.heap.size w w' := by
  have HT := Lib.hid hT
  clear hT
  obtain ⟨ao, cap, rfl, hc⟩ := hv
  have HC := Lib.hid hc
  clear hc
  go_enter Tryd.func7, Tryd.ntmps7
  go_wp2_with fail
  refine (awake_any w HT.out).mono ?_
  rintro e w1 ⟨rfl, hb1⟩
  have HB1 := Lib.hid hb1
  clear hb1
  go_wp2_with fail
  go_loopw [5, 6, 7, 18] (fun sv wv gv i wq => ∃ (k : Nat) (X : ByteArray) (x : Int) (g : Bool), k ≤ D.length ∧ k ≤ 40 ∧ i = .int .i64 k ∧ sv = .string X ∧ wv = .int .u64 x ∧ gv = .bool g ∧ Bs X = digs (D.take k) ∧ NRel (valueF 0 (digs (D.take k))) x g ∧ Below w.heap.size w wq) (fun _ _ _ i _ => D.length - (intOf i).toNat)
  case atStart => exact ⟨0, ⟨#[]⟩, 0, false, Nat.zero_le _, Nat.zero_le _, rfl, rfl, rfl, rfl, rfl, ⟨rfl, fun _ => rfl⟩, HB1.out⟩
  case round =>
    obtain ⟨k, X, x, g, hk, hk4, rfl, rfl, rfl, rfl, hX, hN, hb⟩ := hrel
    have HX := Lib.hid hX
    have HN := Lib.hid hN
    have HB := Lib.hid hb
    clear hX hN hb
    by_cases hlt : k < D.length
    · have hd0 : decide ((k : Int) < (D.length : Int)) = true := by simp; omega
      have hne : D ≠ [] := by intro e; subst e; simp at hlt
      obtain ⟨g0, off, rfl, hg0, hcells⟩ := HC.out.resolve_left hne
      have hcell : wr.cell? ⟨g0, off + k, none⟩ = some (B8 (D[k]'hlt)) := cell_below HB.out hg0 (hcells k hlt)
      obtain ⟨d, hdd⟩ : ∃ d, d = D[k]'hlt := ⟨_, rfl⟩
      rw [← hdd] at hcell
      have HDD := Lib.hid hdd
      clear hcells hdd hne
      by_cases h40 : k < 40
      · have hd1 : decide ((40 : Int) ≤ (k : Int)) = false := by simp; omega
        obtain ⟨E, hE⟩ : ∃ E, E = d.toNat % 10 := ⟨_, rfl⟩
        have hE10 : E < 10 := by omega
        have hmod : (d.toNat : Int) % 10 = (E : Int) := by omega
        obtain ⟨c, hcc⟩ : ∃ c, c = digC d := ⟨_, rfl⟩
        have HCD := fun w => cut_digit E hE10 w
        rw [show UInt8.ofNat (48 + E) = c by rw [hcc, hE]; rfl] at HCD
        have HE := Lib.hid (And.intro hE hcc)
        clear hE hcc
        have hXs : ((X.size : Int) + 1) ≤ 9223372036854775807 := by
          have := congrArg List.length HX.out
          rw [bs_length] at this
          simp [digs] at this
          omega
        obtain ⟨V, hV⟩ : ∃ V, V = valueF 0 (digs (D.take k)) := ⟨_, rfl⟩
        have hNN := HN.out
        rw [← hV] at hNN
        have HV := Lib.hid hV
        clear hV
        by_cases hle : V ≤ 9223372036854775807
        · obtain ⟨hg, hx⟩ := hNN
          obtain rfl := hx hle
          have hg' : g = false := by rw [hg]; simp; omega
          subst hg'
          clear hg hx
          by_cases hnew : 10 * V + E ≤ 9223372036854775807
          · have hd2 : decide ((9223372036854775807 - (E : Int)) / 10 < (V : Int)) = false := by simp; omega
            have hb2 : (V : Int) * 10 + (E : Int) ≤ 9223372036854775807 := by omega
            have hb3 : (V : Int) * 10 ≤ 9223372036854775807 := by omega
            clear hnew hle
            go_wp2_with fail
            go_roundw
            case rel =>
              have e1 := digs_snoc D k hlt
              rw [← HDD.out, ← HE.out.2] at e1
              have e2 : c.toNat - 48 = E := by rw [HE.out.2, digC_nat, ← HE.out.1]; omega
              refine ⟨k + 1, X ++ ⟨#[c]⟩, (V : Int) * 10 + (E : Int), false, by omega, by omega, by go_num, rfl, rfl, rfl, ?_, ?_, HB.out⟩
              · rw [bs_append, HX.out, e1]
              · rw [e1, valueF_snoc, ← HV.out, e2]
                exact ⟨by simp; omega, fun _ => by omega⟩
            case measure => simp [intOf]; omega
          · have hd2 : decide ((9223372036854775807 - (E : Int)) / 10 < (V : Int)) = true := by simp; omega
            go_wp2_with fail
            go_roundw
            case rel =>
              have e1 := digs_snoc D k hlt
              rw [← HDD.out, ← HE.out.2] at e1
              have e2 : c.toNat - 48 = E := by rw [HE.out.2, digC_nat, ← HE.out.1]; omega
              refine ⟨k + 1, X ++ ⟨#[c]⟩, _, true, by omega, by omega, by go_num, rfl, rfl, rfl, ?_, ?_, HB.out⟩
              · rw [bs_append, HX.out, e1]
              · rw [e1, valueF_snoc, ← HV.out, e2]
                exact ⟨by simp; omega, fun _ => by omega⟩
            case measure => simp [intOf]; omega
        · obtain ⟨hg, _⟩ := hNN
          have hg' : g = true := by rw [hg]; simp; omega
          subst hg'
          clear hg
          go_wp2_with fail
          go_roundw
          case rel =>
            have e1 := digs_snoc D k hlt
            rw [← HDD.out, ← HE.out.2] at e1
            refine ⟨k + 1, X ++ ⟨#[c]⟩, _, true, by omega, by omega, by go_num, rfl, rfl, rfl, ?_, ?_, HB.out⟩
            · rw [bs_append, HX.out, e1]
            · rw [e1, valueF_snoc, ← HV.out]
              exact ⟨by simp; omega, fun _ => by omega⟩
          case measure => simp [intOf]; omega
      · have hd1 : decide ((40 : Int) ≤ (k : Int)) = true := by simp; omega
        clear HDD hg0
        obtain ⟨L, hE⟩ := nums_end D k X x g b hk (by omega) hk4 HX.out HN.out
        have HE := Lib.hid hE
        have HBA := Lib.hid (HB.out.alloc HB.out.size (.cells #[B8 b] 5))
        have HTA : Hid (Tabs (wr.alloc (.cells #[B8 b] 5)).heap.size (wr.alloc (.cells #[B8 b] 5))) := (HT.out.below HBA.out).mono HBA.out.size
        have HSC := Lib.hid (scan_any (X ++ (⟨#[b]⟩ : ByteArray)) HE.out.more (wr.alloc (.cells #[B8 b] 5)) HTA.out)
        have hemp := hE.full
        have h0 : 0 < X.size := by have := hE.size; omega
        have hcv := conv_one b wr
        have hsz : ((X.size : Int) + 1) ≤ 9223372036854775807 := by have := hE.size; omega
        clear hE HX HN HB HC HB1
        go_wp2_with fail
        refine HSC.out.mono ?_
        rintro e w2 ⟨hb2, hp2⟩
        rw [HE.out.scanned] at hp2
        have HB2 := Lib.hid (HBA.out.trans (hb2.mono HBA.out.size))
        have HP2 := Lib.hid hp2
        clear hb2 hp2 hcv hsz hemp
        rcases byte_class b with ⟨_, hdec⟩ | ⟨hdg, hlt2, hdec⟩ | ⟨hdg, hlt2, hdec⟩
        · as_aux_lemma =>
            have hp2 := HP2.out
            obtain ⟨d1, d2, d3, d4, d5, d6⟩ := hdec
            cases hsc : scan (L ++ [b]) with
            | error pn =>
              obtain ⟨p, n⟩ := pn
              rw [hsc] at hp2
              obtain rfl := hp2
              clear hsc
              go_wp2_with fail
              go_ret
              exact ⟨rfl, HB2.out⟩
            | ok ts =>
              rw [hsc] at hp2
              obtain ⟨v, rfl, _⟩ := hp2
              clear hsc
              go_wp2_with fail
              go_ret
              exact ⟨rfl, HB2.out⟩
        · as_aux_lemma =>
            rcases hdec with hdec | hdec
            all_goals
              obtain ⟨d1, d2, d3, d4, d5, d6⟩ := hdec
              have hp2 := HP2.out
              obtain ⟨s1, s2, _⟩ := HE.out.scans hdg
              obtain ⟨hg, hx⟩ := HE.out.rel
              by_cases hgr : 9223372036854775807 < valueF 0 L
              · rw [s1 hgr] at hp2
                obtain rfl := hp2
                have hg' : g = true := by rw [hg]; simp; omega
                subst hg'
                clear s1 s2 hg hx hgr
                go_wp2_with fail
                go_ret
                exact ⟨rfl, HB2.out⟩
              · have hle : valueF 0 L ≤ 9223372036854775807 := by omega
                have hg' : g = false := by rw [hg]; simp; omega
                subst hg'
                rw [s2 hle (Or.inr hlt2)] at hp2
                obtain rfl := hp2
                clear s1 s2 hg hx hgr hle
                rcases nought_iff HE.out h0 with ⟨_, z1, z2⟩ | ⟨_, z1 | ⟨z1, z2⟩⟩
                all_goals
                  go_wp2_with fail
                  go_ret
                  exact ⟨rfl, HB2.out⟩
        · as_aux_lemma =>
            rcases hdec with hdec | hdec | hdec | hdec
            all_goals
              obtain ⟨d1, d2, d3, d4, d5, d6⟩ := hdec
              have hp2 := HP2.out
              obtain ⟨s1, s2, s3⟩ := HE.out.scans hdg
              obtain ⟨hg, hx⟩ := HE.out.rel
              by_cases hgr : 9223372036854775807 < valueF 0 L
              · rw [s1 hgr] at hp2
                obtain rfl := hp2
                have hg' : g = true := by rw [hg]; simp; omega
                subst hg'
                clear s1 s2 s3 hg hx hgr
                go_wp2_with fail
                go_ret
                exact ⟨rfl, HB2.out⟩
              · have hle : valueF 0 L ≤ 9223372036854775807 := by omega
                have hg' : g = false := by rw [hg]; simp; omega
                subst hg'
                obtain rfl := hx hle
                clear hg hx s1
                rcases nought_iff HE.out h0 with ⟨hz, z1, z2⟩ | ⟨hz, hzz⟩
                · rw [s2 hle (Or.inl hz)] at hp2
                  obtain rfl := hp2
                  clear s2 s3 hle hz
                  go_wp2_with fail
                  go_ret
                  exact ⟨rfl, HB2.out⟩
                · have hr := s3 hle hz hlt2
                  clear s2 s3 hz
                  rw [HE.out.len, ← HE.out.size] at hr
                  rcases hr with hr | ⟨ts, hr⟩
                  · rw [hr] at hp2
                    obtain rfl := hp2
                    clear hr hle
                    rcases hzz with z1 | ⟨z1, z2⟩
                    all_goals
                      go_wp2_with fail
                      go_ret
                      exact ⟨ret_bool (by simp), HB2.out⟩
                  · rw [hr] at hp2
                    obtain ⟨v, rfl, ho⟩ := hp2
                    clear hr
                    have hvf : ∃ g0 cap, v = .slice (some ⟨g0, 0, none⟩) (ts.length + 1) cap := by
                      rcases ho.2 with ⟨_, h⟩ | ⟨g0, cap, cur, h, _⟩
                      · simp at h
                      · exact ⟨g0, cap, h⟩
                    obtain ⟨g0, cap0, rfl⟩ := hvf
                    obtain ⟨c0, _, c2, c3⟩ := tok_at (ts := ⟨3, 0, L, valueF 0 L⟩ :: ts) ho 0 (by simp)
                    have c0' : w2.cell? ⟨g0, 0, none⟩ = some (.int .u8 3) := by simpa using c0
                    have c2' : w2.cell? ⟨g0, 2, none⟩ = some (.string X) := by rw [HE.out.whole]; simpa using c2
                    have c3' : w2.cell? ⟨g0, 3, none⟩ = some (.int .i64 (valueF 0 L : Int)) := by simpa using c3
                    clear c0 c2 c3 ho
                    rcases hzz with z1 | ⟨z1, z2⟩
                    all_goals
                      go_wp2_with fail
                      go_ret
                      exact ⟨rfl, HB2.out⟩
    · have hd0 : decide ((k : Int) < (D.length : Int)) = false := by simp; omega
      by_cases hk0 : k = 0
      · subst hk0
        have hX0 : X = ⟨#[]⟩ := by
          have h := HX.out
          simp only [List.take_zero] at h
          have h2 : Bs X = [] := h
          rcases X with ⟨⟨l⟩⟩
          have h3 : l = [] := h2
          rw [h3]
        subst hX0
        go_wp2_with fail
        go_ret
        exact ⟨rfl, HB.out⟩
      · obtain ⟨L, hE⟩ := nums_end D k X x g b hk (by omega) hk4 HX.out HN.out
        have HE := Lib.hid hE
        have HBA := Lib.hid (HB.out.alloc HB.out.size (.cells #[B8 b] 5))
        have HTA : Hid (Tabs (wr.alloc (.cells #[B8 b] 5)).heap.size (wr.alloc (.cells #[B8 b] 5))) := (HT.out.below HBA.out).mono HBA.out.size
        have HSC := Lib.hid (scan_any (X ++ (⟨#[b]⟩ : ByteArray)) HE.out.more (wr.alloc (.cells #[B8 b] 5)) HTA.out)
        have hemp := hE.full
        have h0 : 0 < X.size := by have := hE.size; omega
        have hcv := conv_one b wr
        have hsz : ((X.size : Int) + 1) ≤ 9223372036854775807 := by have := hE.size; omega
        clear hE HX HN HB HC HB1
        go_wp2_with fail
        refine HSC.out.mono ?_
        rintro e w2 ⟨hb2, hp2⟩
        rw [HE.out.scanned] at hp2
        have HB2 := Lib.hid (HBA.out.trans (hb2.mono HBA.out.size))
        have HP2 := Lib.hid hp2
        clear hb2 hp2 hcv hsz hemp
        rcases byte_class b with ⟨_, hdec⟩ | ⟨hdg, hlt2, hdec⟩ | ⟨hdg, hlt2, hdec⟩
        · as_aux_lemma =>
            have hp2 := HP2.out
            obtain ⟨d1, d2, d3, d4, d5, d6⟩ := hdec
            cases hsc : scan (L ++ [b]) with
            | error pn =>
              obtain ⟨p, n⟩ := pn
              rw [hsc] at hp2
              obtain rfl := hp2
              clear hsc
              go_wp2_with fail
              go_ret
              exact ⟨rfl, HB2.out⟩
            | ok ts =>
              rw [hsc] at hp2
              obtain ⟨v, rfl, _⟩ := hp2
              clear hsc
              go_wp2_with fail
              go_ret
              exact ⟨rfl, HB2.out⟩
        · as_aux_lemma =>
            rcases hdec with hdec | hdec
            all_goals
              obtain ⟨d1, d2, d3, d4, d5, d6⟩ := hdec
              have hp2 := HP2.out
              obtain ⟨s1, s2, _⟩ := HE.out.scans hdg
              obtain ⟨hg, hx⟩ := HE.out.rel
              by_cases hgr : 9223372036854775807 < valueF 0 L
              · rw [s1 hgr] at hp2
                obtain rfl := hp2
                have hg' : g = true := by rw [hg]; simp; omega
                subst hg'
                clear s1 s2 hg hx hgr
                go_wp2_with fail
                go_ret
                exact ⟨rfl, HB2.out⟩
              · have hle : valueF 0 L ≤ 9223372036854775807 := by omega
                have hg' : g = false := by rw [hg]; simp; omega
                subst hg'
                rw [s2 hle (Or.inr hlt2)] at hp2
                obtain rfl := hp2
                clear s1 s2 hg hx hgr hle
                rcases nought_iff HE.out h0 with ⟨_, z1, z2⟩ | ⟨_, z1 | ⟨z1, z2⟩⟩
                all_goals
                  go_wp2_with fail
                  go_ret
                  exact ⟨rfl, HB2.out⟩
        · as_aux_lemma =>
            rcases hdec with hdec | hdec | hdec | hdec
            all_goals
              obtain ⟨d1, d2, d3, d4, d5, d6⟩ := hdec
              have hp2 := HP2.out
              obtain ⟨s1, s2, s3⟩ := HE.out.scans hdg
              obtain ⟨hg, hx⟩ := HE.out.rel
              by_cases hgr : 9223372036854775807 < valueF 0 L
              · rw [s1 hgr] at hp2
                obtain rfl := hp2
                have hg' : g = true := by rw [hg]; simp; omega
                subst hg'
                clear s1 s2 s3 hg hx hgr
                go_wp2_with fail
                go_ret
                exact ⟨rfl, HB2.out⟩
              · have hle : valueF 0 L ≤ 9223372036854775807 := by omega
                have hg' : g = false := by rw [hg]; simp; omega
                subst hg'
                obtain rfl := hx hle
                clear hg hx s1
                rcases nought_iff HE.out h0 with ⟨hz, z1, z2⟩ | ⟨hz, hzz⟩
                · rw [s2 hle (Or.inl hz)] at hp2
                  obtain rfl := hp2
                  clear s2 s3 hle hz
                  go_wp2_with fail
                  go_ret
                  exact ⟨rfl, HB2.out⟩
                · have hr := s3 hle hz hlt2
                  clear s2 s3 hz
                  rw [HE.out.len, ← HE.out.size] at hr
                  rcases hr with hr | ⟨ts, hr⟩
                  · rw [hr] at hp2
                    obtain rfl := hp2
                    clear hr hle
                    rcases hzz with z1 | ⟨z1, z2⟩
                    all_goals
                      go_wp2_with fail
                      go_ret
                      exact ⟨ret_bool (by simp), HB2.out⟩
                  · rw [hr] at hp2
                    obtain ⟨v, rfl, ho⟩ := hp2
                    clear hr
                    have hvf : ∃ g0 cap, v = .slice (some ⟨g0, 0, none⟩) (ts.length + 1) cap := by
                      rcases ho.2 with ⟨_, h⟩ | ⟨g0, cap, cur, h, _⟩
                      · simp at h
                      · exact ⟨g0, cap, h⟩
                    obtain ⟨g0, cap0, rfl⟩ := hvf
                    obtain ⟨c0, _, c2, c3⟩ := tok_at (ts := ⟨3, 0, L, valueF 0 L⟩ :: ts) ho 0 (by simp)
                    have c0' : w2.cell? ⟨g0, 0, none⟩ = some (.int .u8 3) := by simpa using c0
                    have c2' : w2.cell? ⟨g0, 2, none⟩ = some (.string X) := by rw [HE.out.whole]; simpa using c2
                    have c3' : w2.cell? ⟨g0, 3, none⟩ = some (.int .i64 (valueF 0 L : Int)) := by simpa using c3
                    clear c0 c2 c3 ho
                    rcases hzz with z1 | ⟨z1, z2⟩
                    all_goals
                      go_wp2_with fail
                      go_ret
                      exact ⟨rfl, HB2.out⟩
end Go.Proofs.YtdglkfdacajalaaDoor
