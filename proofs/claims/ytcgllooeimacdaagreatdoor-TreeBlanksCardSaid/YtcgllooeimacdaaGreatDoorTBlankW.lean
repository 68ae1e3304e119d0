/-
  Joined: TGap, TOpenSB, TBlankW.
-/
import Derived.Test.YtcgllooeimacdaaGreatDoorPlain2
import Derived.Test.YtcgllooeimacdaaGreatDoorSmall
import Derived.Test.YtcgllooeimacdaaGreatDoorLift
import Derived.Test.YtcgllooeimacdaaGreatDoorTSame
import Derived.Test.YtcgllooeimacdaaGreatDoorTCutW
import Derived.Test.YtcgllooeimacdaaGreatDoorRefScan
import Derived.RegionTactic
import Derived.IntWalk
/-! Plain laws of the scan of a program's tokens that are written anew with gaps between, a remark among them. No program is named here. -/

namespace Go.Proofs.YtcgllooeimacdaaGreatDoor.Lx

/-- What ends every token ahead of it. -/
def endB (z : UInt8) : Bool := z == 32 || z == 10 || z == 9 || z == 35

theorem end_is {z : UInt8} (h : endB z = true) : nameB z = false ∧ digitB z = false ∧ letterB z = false ∧ (∀ a, pairB a z = false) := by
  unfold endB at h
  rw [Bool.or_eq_true, Bool.or_eq_true, Bool.or_eq_true, beq_iff_eq, beq_iff_eq, beq_iff_eq, beq_iff_eq] at h
  have hp : ∀ z : UInt8, (z = 32 ∨ z = 10 ∨ z = 9 ∨ z = 35) → ∀ a, pairB a z = false := by
    intro z hz a
    unfold pairB
    rw [if_neg (by rcases hz with rfl | rfl | rfl | rfl <;> decide), Bool.and_eq_false_iff]
    rcases hz with rfl | rfl | rfl | rfl
    · by_cases e : a = 32
      · subst e; exact Or.inr rfl
      · exact Or.inl (by simpa using e)
    · by_cases e : a = 10
      · subst e; exact Or.inr rfl
      · exact Or.inl (by simpa using e)
    · by_cases e : a = 9
      · subst e; exact Or.inr rfl
      · exact Or.inl (by simpa using e)
    · by_cases e : a = 35
      · subst e; exact Or.inr rfl
      · exact Or.inl (by simpa using e)
  rcases h with ((rfl | rfl) | rfl) | rfl
  · exact ⟨rfl, rfl, rfl, hp _ (Or.inl rfl)⟩
  · exact ⟨rfl, rfl, rfl, hp _ (Or.inr (Or.inl rfl))⟩
  · exact ⟨rfl, rfl, rfl, hp _ (Or.inr (Or.inr (Or.inl rfl)))⟩
  · exact ⟨rfl, rfl, rfl, hp _ (Or.inr (Or.inr (Or.inr rfl)))⟩

theorem tokL_end (pos : Nat) (z : UInt8) (m : List UInt8) (hz : endB z = true) (c : UInt8) (t : List UInt8) : tokL pos (c :: (t ++ z :: m)) = tokL pos (c :: t) := by
  obtain ⟨z1, z2, z3, z4⟩ := end_is hz
  have t1 := takeWhile_stop nameB z m z1 (c :: t)
  have t2 := takeWhile_stop digitB z m z2 (c :: t)
  have t3 := dropWhile_stop digitB z m z2 (c :: t)
  rw [List.cons_append] at t1 t2 t3
  have hh : ((c :: t).dropWhile digitB ++ z :: m).head?.any letterB = ((c :: t).dropWhile digitB).head?.any letterB := by
    cases (c :: t).dropWhile digitB with
    | nil => simp [z3]
    | cons a b => rfl
  have hs : signSize (c :: (t ++ z :: m)) = signSize (c :: t) := by
    match t with
    | [] => simp only [List.nil_append, signSize, z4 c]; rfl
    | b :: t => rfl
  have hl := (signSize_le (c :: t)).1
  have hk : (c :: (t ++ z :: m)).take (signSize (c :: t)) = (c :: t).take (signSize (c :: t)) := by
    rw [← List.cons_append, List.take_append_of_le_length hl]
  rw [tokL, tokL, t1, t2, t3, hh, hs, hk]

/-- What stands behind a token. -/
def gapM (n : Nat) : List UInt8 := if n = 0 then [32] else if n = 1 then [10] else if n = 2 then [35, 32, 125, 10] else [9, 9]

theorem gapM_head (n : Nat) : ∃ z g, gapM n = z :: g ∧ endB z = true := by
  unfold gapM
  split
  · exact ⟨_, _, rfl, rfl⟩
  · split
    · exact ⟨_, _, rfl, rfl⟩
    · split
      · exact ⟨_, _, rfl, rfl⟩
      · exact ⟨_, _, rfl, rfl⟩
theorem gapM_len (n : Nat) : (gapM n).length ≤ 4 := by
  unfold gapM
  split
  · simp
  · split
    · simp
    · split <;> simp
theorem gapM_res (n p : Nat) (R : List UInt8) : res p (gapM n ++ R) = res (p + (gapM n).length) R := by
  unfold gapM
  split
  · exact res_blank rfl
  · split
    · exact res_blank rfl
    · split
      · show res p (35 :: 32 :: 125 :: 10 :: R) = res (p + 4) R
        rw [res_remark rfl]
        have e1 : (32 :: 125 :: 10 :: R).takeWhile (· != 10) = [32, 125] := takeWhile_stop (· != 10) 10 R rfl [32, 125]
        have e2 : (32 :: 125 :: 10 :: R).dropWhile (· != 10) = 10 :: R := dropWhile_stop (· != 10) 10 R rfl [32, 125]
        rw [e1, e2, res_blank rfl]
        rfl
      · show res p (9 :: 9 :: R) = res (p + 2) R
        rw [res_blank rfl, res_blank rfl]

/-- Tokens written anew, each with its gap behind it. -/
def joinM (gf : Nat → Nat) : Nat → List Tok → List UInt8
  | _, [] => []
  | i, t :: r => t.text ++ (gapM (gf i) ++ joinM gf (i + 1) r)

theorem joinM_snoc (gf : Nat → Nat) : ∀ (l : List Tok) (i : Nat) (t : Tok), joinM gf i (l ++ [t]) = joinM gf i l ++ (t.text ++ gapM (gf (i + l.length))) := by
  intro l
  induction l with
  | nil => intro i t; simp [joinM]
  | cons a r ih =>
    intro i t
    rw [List.cons_append]
    simp only [joinM]
    rw [ih, List.length_cons, show i + 1 + r.length = i + (r.length + 1) by omega]
    simp only [List.append_assoc]

theorem joinM_len (gf : Nat → Nat) (B : Nat) : ∀ (l : List Tok) (i : Nat), (∀ t ∈ l, t.text.length ≤ B) → (joinM gf i l).length ≤ l.length * (B + 4) := by
  intro l
  induction l with
  | nil => intro i _; simp [joinM]
  | cons a r ih =>
    intro i h
    have h1 := ih (i + 1) (fun t ht => h t (List.mem_cons_of_mem _ ht))
    have h2 := h a List.mem_cons_self
    have h3 := gapM_len (gf i)
    simp only [joinM, List.length_append, List.length_cons]
    rw [Nat.add_mul]
    omega

theorem joinM_res (gf : Nat → Nat) : ∀ (ts : List Tok) (i p : Nat), Chain ts → ∃ ts', res p (joinM gf i ts) = .ok ts' ∧ ts'.map keyT = ts.map keyT := by
  intro ts
  induction ts with
  | nil => intro i p h; exact h.elim
  | cons k r ih =>
    intro i p h
    rcases h with ⟨h1, h2, h3, rfl⟩ | ⟨⟨pos, c, u, hb, h35, ht⟩, hr⟩
    · refine ⟨[⟨0, p + (gapM (gf i)).length, [], 0⟩], ?_, by simp [keyT, h1, h2, h3]⟩
      simp only [joinM, h1, List.nil_append]
      rw [gapM_res, res_nil]
    · obtain ⟨v, hv, hself⟩ := tok_self p ht
      obtain ⟨z, g, hg, hz⟩ := gapM_head (gf i)
      have hst := tokL_end p z (g ++ joinM gf (i + 1) r) hz c v
      rw [hself] at hst
      obtain ⟨ts', hres, hmap⟩ := ih (i + 1) (p + k.text.length + (gapM (gf i)).length) hr
      refine ⟨⟨k.kind, p, k.text, k.num⟩ :: ts', ?_, by simp [keyT, hmap]⟩
      have e : joinM gf i (k :: r) = c :: (v ++ z :: (g ++ joinM gf (i + 1) r)) := by
        simp only [joinM, hv, hg, List.cons_append]
      rw [e, res_tok hb h35 hst]
      have e2 : (c :: (v ++ z :: (g ++ joinM gf (i + 1) r))).drop k.text.length = gapM (gf i) ++ joinM gf (i + 1) r := by
        rw [hv, hg, ← List.cons_append, List.drop_left (l₁ := c :: v)]
        rfl
      show pre _ (res (p + k.text.length) _) = _
      rw [e2, gapM_res, hres]
      rfl

theorem scan_joinM {l : List UInt8} {ts : List Tok} (gf : Nat → Nat) (h : scan l = .ok ts) (hl : (joinM gf 0 ts).length ≤ 20000) : ∃ ts', scan (joinM gf 0 ts) = .ok ts' ∧ ts'.map keyT = ts.map keyT := by
  have hn := (scan_len h).2
  unfold scan at h ⊢
  rw [if_neg (by omega)] at h
  rw [if_neg (by omega)]
  exact joinM_res gf ts 0 0 (chain _ _ _ _ (Nat.le_refl _) h)
end Go.Proofs.YtcgllooeimacdaaGreatDoor.Lx

/-! A slice of bytes that came in, as a list of bytes (for the seat of tree). -/

namespace Go.Proofs.YtcgllooeimacdaaGreatDoor
open Go Go.ChangeShapes Go.WideShapes Go.ChangeAt Go.WideMaps Go.WideElems Go.RowKit

/-- A slice of bytes that came in. -/
def SB (w : World) (v : Value) (D : List UInt8) : Prop := ∃ ao cap, v = .slice ao D.length cap ∧ (D = [] ∨ ∃ b off, ao = some ⟨b, off, none⟩ ∧ b < w.heap.size ∧ ∀ j (h : j < D.length), w.cell? ⟨b, off + j, none⟩ = some (B8 (D[j]'h)))

section
variable {H : Type} {enc : TypeId × Value → H}

theorem cells_u8 : Tryz.prog.cellsOf 5 = 1 := by kernel_rfl
theorem bytes_u8 : Tryz.prog.bytesOf 5 = 1 := by kernel_rfl

set_option maxRecDepth 100000 in
theorem open_sb {W : World} {base : Nat} {v : Value} {d : DataW H} {p : List MemPlace} (hval : Value.okWide Tryz.prog W .any base 50 v) (h1 : DataW.Trod enc Tryz.prog W 0 (fun _ => true) true 50 v d p)
    (hp : ∀ x ∈ p, x.block < W.heap.size) : ∃ D : List UInt8, (D.length = 0 ∨ ∃ e r, d = .slice e r ∧ D.length = e.length) ∧ SB W v D := by
  obtain ⟨a1, len, cap, rfl⟩ := okWide_slice Tryz.underlying50 hval
  obtain ⟨fuel, hf⟩ := h1
  rcases open_ints Tryz.underlying50 Tryz.underlying5 cells_u8 hf with ⟨hcs, hx⟩ | ⟨a, len', cap', zs, hcs, _, hl, hm, hz, hx, hcell, hwz⟩
  · simp [Value.cells] at hcs
    obtain ⟨rfl, rfl, rfl⟩ := hcs
    exact ⟨[], Or.inl rfl, none, 0, rfl, Or.inl rfl⟩
  · simp [Value.cells] at hcs
    obtain ⟨rfl, rfl, rfl⟩ := hcs
    simp only [Prod.mk.injEq] at hx
    obtain ⟨rfl, rfl⟩ := hx
    simp only [if_true] at hz
    have hlen : ((zs.take len).map fun n => UInt8.ofNat n.toNat).length = len := by simp; omega
    refine ⟨(zs.take len).map fun n => UInt8.ofNat n.toNat, Or.inr ⟨_, _, rfl, by simp [lits]⟩, some a, cap, by rw [hlen], ?_⟩
    by_cases h0 : len = 0
    · refine Or.inl ?_
      rw [List.eq_nil_iff_length_eq_zero, hlen, h0]
    · refine Or.inr ?_
      obtain ⟨ab, ao, spot⟩ := a
      have hspot : spot = none := by simpa [Addr.add] using World.cell?_spot (hcell 0 (by omega))
      subst hspot
      refine ⟨ab, ao, rfl, hp (.cell ab ao) (by simp only [MemPlace.row, List.mem_map, List.mem_range]; exact ⟨0, by omega, rfl⟩), fun j hj => ?_⟩
      rw [hlen] at hj
      have hcj := hcell j (by omega)
      rw [Addr.add_lit] at hcj
      rw [hcj]
      have hb := range_u8 hwz j
      simp only [List.getElem_map, List.getElem_take]
      have e : zs.getD j 0 = zs[j]'(by omega) := by simp [List.getD, List.getElem?_eq_getElem (show j < zs.length by omega)]
      rw [List.getD_eq_getElem?_getD] at e
      rw [e] at hb
      rw [List.getD_eq_getElem?_getD, e]
      congr 2
      simp only [UInt8.toNat_ofNat']
      omega

set_option maxRecDepth 100000 in
theorem sb_len {ts : List TypeId} {ds : List (DataW H)} {D : List UInt8} {d : DataW H} (hWT : (DataW.weightsEach Tryz.prog ts ds).all (· ≤ reachBytes) = true) {j : Nat} (ht : ts[j]? = some 50) (hd : ds[j]? = some d)
    (h : D.length = 0 ∨ ∃ e r, d = .slice e r ∧ D.length = e.length) : D.length ≤ 140737488351232 := by
  rcases h with h | ⟨e, r, rfl, h⟩
  · omega
  · have := sized_slice hWT ht hd Tryz.underlying50
    rw [bytes_u8] at this
    unfold reachBytes at this
    omega
end
end Go.Proofs.YtcgllooeimacdaaGreatDoor

/-! TreeBlanks: the statement's own body says true of every text and all gaps. -/

namespace Go.Proofs.YtcgllooeimacdaaGreatDoor
open Go Go.RowKit Px
open Lx (Tok)

namespace Px
theorem key_alike {a b : List Tok} (h : b.map Lx.keyT = a.map Lx.keyT) : LikeT a b := by
  have hl : b.length = a.length := by simpa using congrArg List.length h
  have hk : ∀ i, Lx.keyT (tk b i) = Lx.keyT (tk a i) := by
    intro i
    unfold tk
    by_cases hi : i < a.length
    · have h1 := congrArg (fun l : List (Nat × List UInt8 × Nat) => l[i]?) h
      simp only [List.getElem?_map, List.getElem?_eq_getElem hi, List.getElem?_eq_getElem (show i < b.length by omega), Option.map_some, Option.some.injEq] at h1
      simpa [List.getD, List.getElem?_eq_getElem hi, List.getElem?_eq_getElem (show i < b.length by omega)] using h1
    · simp [List.getD, List.getElem?_eq_none (show a.length ≤ i by omega), List.getElem?_eq_none (show b.length ≤ i by omega)]
  refine ⟨fun i => ?_, fun i => ?_, fun i => ?_⟩
  · have := hk i; unfold Lx.keyT at this; exact (Prod.mk.inj this).1
  · have := hk i; unfold Lx.keyT at this; exact (Prod.mk.inj (Prod.mk.inj this).2).1
  · have := hk i; unfold Lx.keyT at this; exact (Prod.mk.inj (Prod.mk.inj this).2).2
theorem Ls.fs : ∀ {l l' : List Fu}, Ls LF l l' → l.map stF = l'.map stF
  | _, _, .nil => rfl
  | _, _, .cons h hl => by rw [List.map_cons, List.map_cons, Ls.fs hl, show stF _ = stF _ from h]
/-- A text's tokens, written anew with gaps between, are parsed alike. -/
theorem blanks_alike {l l' : Bytes} {ts ts' : List Tok} {K : List Fu} {s : St} (hs : Lx.scan l = .ok ts) (hs' : Lx.scan l' = .ok ts') (hk : ts'.map Lx.keyT = ts.map Lx.keyT) (hp : parseR l = .ok (K, s)) :
    ∃ K' s', parseR l' = .ok (K', s') ∧ eqFs false K K' := by
  have hl : ts'.length = ts.length := by simpa using congrArg List.length hk
  unfold parseR at hp ⊢
  rw [hs] at hp
  rw [hs']
  have hp : fusF ts (fuel ts) [] ⟨0, 0, 0⟩ = .ok (K, s) := hp
  show ∃ K' s', fusF ts' (fuel ts') [] ⟨0, 0, 0⟩ = .ok (K', s') ∧ _
  have hf : fuel ts' = fuel ts := by unfold fuel; rw [hl]
  rw [hf]
  have h := fusF_like (key_alike hk) (fuel ts) [] [] ⟨0, 0, 0⟩ .nil
  rw [hp] at h
  cases hr : fusF ts' (fuel ts) [] ⟨0, 0, 0⟩ with
  | error e => rw [hr] at h; exact h.elim
  | ok p =>
    obtain ⟨K', s'⟩ := p
    rw [hr] at h
    exact ⟨K', s', rfl, h.2.fs, fun h => by cases h⟩
end Px

theorem bs_append (X Y : ByteArray) : Bs (X ++ Y) = Bs X ++ Bs Y := by
  simp
def gapF (D : List UInt8) (i : Nat) : Nat := if h : i < D.length then (D[i]'h).toNat % 4 else 0

theorem par_ok {w w' : World} {l : Bytes} {e : Ending} (h : ParsePost w (parseR l) e w') : Below w.heap.size w w' ∧ ((∃ (p n : Nat), n ≠ 0 ∧ e = .returned (.tuple #[.agg #[.slice none 0 0], .int .i64 (p : Int), .int .i64 (n : Int)])) ∨
    ∃ (K : List Fu) (s' : St) (a : Option Addr) (c : Nat), parseR l = .ok (K, s') ∧ e = .returned (.tuple #[.agg #[.slice a K.length c], .int .i64 0, .int .i64 0]) ∧ FuRow w' ok0 K (.slice a K.length c)) := by
  obtain ⟨hb, h⟩ := h
  refine ⟨hb, ?_⟩
  cases hr : parseR l with
  | error pn =>
    rw [hr] at h
    obtain ⟨p, n⟩ := pn
    exact Or.inl ⟨p, n, parse_err hr, h⟩
  | ok q =>
    rw [hr] at h
    obtain ⟨k, s'⟩ := q
    obtain ⟨a, m, c, he, hrow⟩ := h
    have hm : m = k.length := by
      rcases hrow with ⟨rfl, h⟩ | ⟨_, _, _, h, _⟩
      · cases h; rfl
      · cases h; rfl
    subst hm
    exact Or.inr ⟨k, s', a, c, rfl, he, FuRow.stays (fun g _ _ => ⟨rfl, trivial⟩) hrow⟩
theorem parseR_scan {l : Bytes} {K : List Fu} {s' : St} (hp : parseR l = .ok (K, s')) : ∃ ts, Lx.scan l = .ok ts := by
  unfold parseR at hp
  cases hsc : Lx.scan l with
  | error e => rw [hsc] at hp; cases hp
  | ok ts => exact ⟨ts, rfl⟩

set_option maxRecDepth 100000 in
set_option maxHeartbeats 4000000 in
theorem treeBlanks_any (s : ByteArray) (hs : s.size ≤ 9223372036854775806) (D : List UInt8) (hD : D.length ≤ 140737488351232) (v : Value) (w : World) (hv : SB w v D) (hT : Tabs w.heap.size w) :
    Calls Tryz.prog 7 #[.string s, v] w fun e w' => e = .returned (.bool true) ∧ Below w.heap.size w w' := by
  obtain ⟨ao, cap, rfl, hc⟩ := hv
  have HC := Lib.hid hc
  have HT := Lib.hid hT
  have HP := Lib.hid fun (s' : ByteArray) (w1 : World) (h1 : s'.size ≤ 9223372036854775806) (h2 : Tabs w1.heap.size w1) => treeParse_any s' h1 w1 h2
  have hsz : (s.size : Int) ≤ 9223372036854775806 := by omega
  clear hT hc
  go_enter Tryz.func7, Tryz.ntmps7
  go_wp2_with fail
  refine (awake_tree w HT.out).mono ?_
  rintro e w1 ⟨rfl, hb1⟩
  have HT1 := Lib.hid ((HT.out.below hb1).mono hb1.size)
  have HB1 := Lib.hid hb1
  clear hb1
  go_wp2_with fail
  have hS2 : (s.extract 0 (min (s.size : Int) 2000).toNat).size ≤ 2000 := by simp only [ByteArray.size_extract]; omega
  generalize s.extract 0 (min (s.size : Int) 2000).toNat = S at *
  refine (HP.out _ w1 (by omega) HT1.out).mono ?_
  rintro e w2 h2
  obtain ⟨hb2, ⟨p, n, hn, rfl⟩ | ⟨K, s', a, c, hpK, rfl, hrow⟩⟩ := par_ok h2
  · have HB2 := Lib.hid (HB1.out.trans (hb2.mono HB1.out.size))
    have hk1 : ((n : Int) == 0) = false := by rw [beq_eq_false_iff_ne]; omega
    clear hb2 hn h2
    go_wp2_with fail
    go_ret
    exact ⟨rfl, HB2.out.alloc HB2.out.size _⟩
  · obtain ⟨W, hW⟩ : ∃ W, W = w2.alloc (.cells #[.slice a K.length c] 24) := ⟨_, rfl⟩
    have hbW : Below w2.heap.size w2 W := by rw [hW]; exact (Below.refl _ _).alloc (Nat.le_refl _) _
    have hbw : Below w.heap.size w W := HB1.out.trans ((hb2.mono HB1.out.size).trans (hbW.mono (Nat.le_trans HB1.out.size hb2.size)))
    have hkW : Blk w2.heap.size #[.slice a K.length c] 24 W := by rw [hW]; exact Blk.new _ _ _
    obtain ⟨ts, hsc⟩ := parseR_scan hpK
    have hl1 := (scan_ok hsc).2
    have hl0 := List.length_pos_iff.2 (scan_ok hsc).1.ne
    have hshort : ∀ t ∈ ts, t.text.length ≤ 2000 := fun t ht => by
      have := Lx.placed_short _ ts 0 (Lx.scan_placed hsc) t ht
      rw [bs_length] at this
      omega
    have HW := Lib.hid (And.intro hbw (And.intro hkW (FuRow.stays (ok0_stays hbW) hrow)))
    have HWW := Lib.hid hW
    have HSC := Lib.hid (And.intro hsc (And.intro hpK hshort))
    have HR := Lib.hid (refScan_any S (by omega) W)
    clear h2 hb2 hW hbW hbw hkW hsc hpK hshort hrow
    go_wp2_with fail
    rw [← HWW.out]
    refine HR.out.mono ?_
    rintro e w3 ⟨hb3, h3⟩
    rw [HSC.out.1] at h3
    obtain ⟨v, rfl, ho⟩ := h3
    have hv : ∃ g cap, v = .slice (some ⟨g, 0, none⟩) ts.length cap := by
      rcases ho.2 with ⟨_, h⟩ | ⟨g, cap, cur, rfl, _⟩
      · omega
      · exact ⟨g, cap, rfl⟩
    obtain ⟨g, cap1, rfl⟩ := hv
    have HTK := Lib.hid (toks_own ho)
    have HB3 := Lib.hid (And.intro (HW.out.1.trans (hb3.mono HW.out.1.size)) (And.intro (HW.out.2.1.below hb3 HW.out.2.1.lt) (FuRow.stays (ok0_stays hb3) HW.out.2.2)))
    have HLT := Lib.hid (And.intro HW.out.2.1.lt hb3.size)
    clear hb3 ho
    go_upto_region 10 with (fail)
    go_loopw [11, 41] (fun tv i wq => ∃ (k : Nat) (Y : ByteArray), k ≤ ts.length ∧ i = .int .i64 k ∧ tv = .string Y ∧ Bs Y = Lx.joinM (gapF D) 0 (ts.take k) ∧ Below w3.heap.size w3 wq) (fun _ i _ => ts.length - (intOf i).toNat)
    case atStart => exact ⟨0, ⟨#[]⟩, Nat.zero_le _, rfl, rfl, rfl, Below.refl _ _⟩
    case round =>
      obtain ⟨k, Y, hk, rfl, rfl, hY, hb⟩ := hrel
      have HR2 := Lib.hid (And.intro hY hb)
      clear hY hb
      have hYs : Y.size ≤ 40099999 := by
        have h1 := Lx.joinM_len (gapF D) 2000 (ts.take k) 0 (fun t ht => HSC.out.2.2 t (List.mem_of_mem_take ht))
        rw [← HR2.out.1, bs_length, List.length_take] at h1
        have h2 : min k ts.length * (2000 + 4) ≤ 20001 * 2004 := Nat.mul_le_mul (by omega) (by omega)
        omega
      by_cases hlt : k < ts.length
      · have hd : decide ((k : Int) < (ts.length : Int)) = true := by simp; omega
        obtain ⟨t, ht⟩ : ∃ t, t = tk ts k := ⟨_, rfl⟩
        have hcq : ∀ j u, w3.cell? ⟨g, j, none⟩ = some u → wr.cell? ⟨g, j, none⟩ = some u := fun j u hu => cellB HR2.out.2 HTK.out.lt hu
        have p0 := hcq _ _ (HTK.out.c0 k hlt)
        have p1 := hcq _ _ (HTK.out.c1 k hlt)
        have p2 := hcq _ _ (HTK.out.c2 k hlt)
        have p3 := hcq _ _ (HTK.out.c3 k hlt)
        rw [← ht] at p0 p1 p2 p3
        obtain ⟨T, hTT⟩ : ∃ T : ByteArray, T = ⟨t.text.toArray⟩ := ⟨_, rfl⟩
        rw [← hTT] at p2
        have htk : ts[k] = t := by rw [ht, tk_get ts k hlt]
        have hTs : T.size ≤ 2000 := by
          have h1 := HSC.out.2.2 t (by rw [← htk]; exact List.getElem_mem hlt)
          rw [hTT]
          simpa [ByteArray.size] using h1
        have hBT : Bs T = t.text := by rw [hTT]
        obtain ⟨P, hPP⟩ : ∃ P : Int, P = (t.pos : Int) := ⟨_, rfl⟩
        obtain ⟨Kk, hKK⟩ : ∃ Kk : Int, Kk = (t.kind : Int) := ⟨_, rfl⟩
        obtain ⟨NN, hNN⟩ : ∃ NN : Int, NN = (t.num : Int) := ⟨_, rfl⟩
        rw [← hPP] at p1
        rw [← hKK] at p0
        rw [← hNN] at p3
        obtain ⟨W2, hW2⟩ : ∃ W2, W2 = wr.alloc (.cells #[.int .u8 Kk, .int .i64 P, .string T, .int .i64 NN] 55) := ⟨_, rfl⟩
        have n2 : W2.cell? ⟨wr.heap.size, 2, none⟩ = some (.string T) := by rw [hW2]; exact (Blk.new _ _ _).get 2 _ rfl
        have hbW : Below wr.heap.size wr W2 := by rw [hW2]; exact (Below.refl _ _).alloc (Nat.le_refl _) _
        have hzW : W2.heap.size = wr.heap.size + 1 := by rw [hW2]; simp
        have hnext : ∀ G : ByteArray, Bs G = Lx.gapM (gapF D k) → Hid (Bs (Y ++ (T ++ G)) = Lx.joinM (gapF D) 0 (ts.take (k + 1))) := by
          intro G hG
          show _ = _
          rw [List.take_succ_eq_append_getElem hlt, Lx.joinM_snoc, htk, bs_append, bs_append, HR2.out.1, hBT, hG, List.length_take, Nat.min_eq_left hk, Nat.zero_add]
        have HNX := Lib.hid hnext
        have HW2 := Lib.hid (And.intro hW2 (And.intro hbW hzW))
        have HBW := Lib.hid (HR2.out.2.trans (hbW.mono HR2.out.2.size))
        have hYT : (Y.size : Int) + ((T.size : Int) + 12) ≤ 9223372036854775807 := by omega
        have hnw : ¬ wr.heap.size = W2.heap.size := by omega
        have hnw2 : wr.heap.size < W2.heap.size := by omega
        clear hW2 hNN hbW hzW hTT hBT hPP hKK ht hnext hYs htk hcq
        by_cases hkd : k < D.length
        · have hne : D ≠ [] := by intro e; subst e; simp at hkd
          obtain ⟨b0, off, rfl, hb0, hcells⟩ := HC.out.resolve_left hne
          have hbwr : Below w.heap.size w wr := HB3.out.1.trans (HR2.out.2.mono HB3.out.1.size)
          have hcell : wr.cell? ⟨b0, off + k, none⟩ = some (B8 (D[k]'hkd)) := cellB hbwr hb0 (hcells k hkd)
          have hb0r : b0 < wr.heap.size := by have := hbwr.size; omega
          have hb0n : ¬ b0 = wr.heap.size := by omega
          have hgf : gapF D k = (D[k]'hkd).toNat % 4 := by unfold gapF; rw [dif_pos hkd]
          obtain ⟨d, hdd⟩ : ∃ d, d = D[k]'hkd := ⟨_, rfl⟩
          rw [← hdd] at hcell hgf
          have hd2 : decide (k < D.length) = true := by simp; omega
          obtain ⟨R, hR⟩ : ∃ R, R = d.toNat % 4 := ⟨_, rfl⟩
          have hmod : (d.toNat : Int) % 4 = (R : Int) := by omega
          have hmodT : ((d.toNat : Int)).tmod 4 = (R : Int) := by rw [Int.tmod_eq_emod_of_nonneg (by omega)]; exact hmod
          have hR4 : R < 4 := by omega
          rw [← hR] at hgf
          have HGF := Lib.hid hgf
          clear hgf hdd hcells hne hR hbwr
          have hR3 : R = 0 ∨ R = 1 ∨ R = 2 ∨ R = 3 := by omega
          clear hR4
          rcases hR3 with rfl | rfl | rfl | rfl
          · have HN := HNX.out ⟨#[32]⟩ (by rw [HGF.out]; rfl)
            go_wp2_with fail
            change Code.wp _ _ _ _ (wr.alloc (.cells #[.int .u8 Kk, .int .i64 P, .string T, .int .i64 NN] 55))
            rw [← HW2.out.1]
            go_region
            go_wp2_with fail
            go_roundw
            case rel => exact ⟨k + 1, _, by omega, by go_num, rfl, HN.out, (HBW.out.alloc HBW.out.size _).drew⟩
            case measure => simp [intOf]; omega
          · have HN := HNX.out ⟨#[10]⟩ (by rw [HGF.out]; rfl)
            go_wp2_with fail
            change Code.wp _ _ _ _ (wr.alloc (.cells #[.int .u8 Kk, .int .i64 P, .string T, .int .i64 NN] 55))
            rw [← HW2.out.1]
            go_region
            go_wp2_with fail
            go_roundw
            case rel => exact ⟨k + 1, _, by omega, by go_num, rfl, HN.out, (HBW.out.alloc HBW.out.size _).drew⟩
            case measure => simp [intOf]; omega
          · have HN := HNX.out ⟨#[35, 32, 125, 10]⟩ (by rw [HGF.out]; rfl)
            go_wp2_with fail
            change Code.wp _ _ _ _ (wr.alloc (.cells #[.int .u8 Kk, .int .i64 P, .string T, .int .i64 NN] 55))
            rw [← HW2.out.1]
            go_region
            go_wp2_with fail
            go_roundw
            case rel => exact ⟨k + 1, _, by omega, by go_num, rfl, HN.out, (HBW.out.alloc HBW.out.size _).drew⟩
            case measure => simp [intOf]; omega
          · have HN := HNX.out ⟨#[9, 9]⟩ (by rw [HGF.out]; rfl)
            go_wp2_with fail
            change Code.wp _ _ _ _ (wr.alloc (.cells #[.int .u8 Kk, .int .i64 P, .string T, .int .i64 NN] 55))
            rw [← HW2.out.1]
            go_region
            go_wp2_with fail
            go_roundw
            case rel => exact ⟨k + 1, _, by omega, by go_num, rfl, HN.out, (HBW.out.alloc HBW.out.size _).drew⟩
            case measure => simp [intOf]; omega
        · have hgf : gapF D k = 0 := by unfold gapF; rw [dif_neg hkd]
          have hd2 : decide (k < D.length) = false := by simp; omega
          have HGF := Lib.hid hgf
          clear hgf
          have HN := HNX.out ⟨#[32]⟩ (by rw [HGF.out]; rfl)
          go_wp2_with fail
          change Code.wp _ _ _ _ (wr.alloc (.cells #[.int .u8 Kk, .int .i64 P, .string T, .int .i64 NN] 55))
          rw [← HW2.out.1]
          go_region
          go_wp2_with fail
          go_roundw
          case rel => exact ⟨k + 1, _, by omega, by go_num, rfl, HN.out, (HBW.out.alloc HBW.out.size _).drew⟩
          case measure => simp [intOf]; omega
      · have hke : k = ts.length := by omega
        have hd : decide ((k : Int) < (ts.length : Int)) = false := by simp; omega
        have hYj : Bs Y = Lx.joinM (gapF D) 0 ts := by rw [HR2.out.1, hke, List.take_length]
        have HBF := Lib.hid (HB3.out.1.trans (HR2.out.2.mono HB3.out.1.size))
        by_cases hbig : 20000 < Y.size
        · have hd2 : decide ((20000 : Int) < (Y.size : Int)) = true := by simp; omega
          clear hYs hke hYj
          go_wp2_with fail
          go_ret
          exact ⟨rfl, HBF.out⟩
        · have hd2 : decide ((20000 : Int) < (Y.size : Int)) = false := by simp; omega
          obtain ⟨ts', hsj, hmap⟩ := Lx.scan_joinM (gapF D) HSC.out.1 (by rw [← hYj, bs_length]; omega)
          rw [← hYj] at hsj
          obtain ⟨K', s2, hpK', heq⟩ := blanks_alike HSC.out.1 hsj hmap HSC.out.2.1
          obtain ⟨wo, rfl⟩ : ∃ wo : World, wo = wr := ⟨_, rfl⟩
          have HPY := Lib.hid (treeParse_any Y (by omega) wo ((HT.out.below HBF.out).mono HBF.out.size))
          have HK := Lib.hid (And.intro hpK' heq)
          clear hYs hke hYj hsj hmap hpK' heq
          go_wp2_with fail
          refine HPY.out.mono ?_
          rintro e w4 h4
          obtain ⟨hb4, ⟨p, n, hn, rfl⟩ | ⟨K2, s3, a2, c2, hpK2, rfl, hrow2⟩⟩ := par_ok h4
          · exfalso
            have := h4.2
            rw [HK.out.1] at this
            obtain ⟨_, _, _, he, _⟩ := this
            injection he with he
            injection he with he
            injection he with he
            simp at he
            omega
          · rw [HK.out.1] at hpK2
            obtain rfl : K' = K2 := by injection hpK2 with hh; injection hh
            obtain ⟨V, hV⟩ : ∃ V, V = w4.alloc (.cells #[.slice a2 K'.length c2] 24) := ⟨_, rfl⟩
            have hbV : Below w4.heap.size w4 V := by rw [hV]; exact (Below.refl _ _).alloc (Nat.le_refl _) _
            have hb34 : Below w3.heap.size w3 V := HR2.out.2.trans ((hb4.mono HR2.out.2.size).trans (hbV.mono (Nat.le_trans HR2.out.2.size hb4.size)))
            have hkA : Blk w2.heap.size #[.slice a K.length c] 24 V := HB3.out.2.1.below hb34 HB3.out.2.1.lt
            have hkB : Blk w4.heap.size #[.slice a2 K'.length c2] 24 V := by rw [hV]; exact Blk.new _ _ _
            have HS := Lib.hid (same_any false K K' a a2 K.length K'.length c c2 V HK.out.2 (FuRow.stays (ok0_stays hb34) HB3.out.2.2) (FuRow.stays (ok0_stays hbV) hrow2))
            have HBV := Lib.hid (HB3.out.1.trans (hb34.mono HB3.out.1.size))
            have HVV := Lib.hid hV
            have c1 := hkA.get 0 _ rfl
            have c3 := hkB.get 0 _ rfl
            clear h4 hb4 hpK2 hrow2 hbV hb34 hkA hkB hV
            go_upto_region 20 with (fail)
            rw [← HVV.out]
            clear HVV
            go_wp2_with fail
            refine HS.out.mono ?_
            rintro e w5 ⟨rfl, hb5⟩
            have HB5 := Lib.hid (HBV.out.trans (hb5.mono HBV.out.size))
            clear hb5
            go_wp2_with fail
            go_ret
            exact ⟨rfl, HB5.out⟩
end Go.Proofs.YtcgllooeimacdaaGreatDoor
