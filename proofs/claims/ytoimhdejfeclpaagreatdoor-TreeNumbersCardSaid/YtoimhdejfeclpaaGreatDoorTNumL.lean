/-
  Joined: TNumW, TNumL.
-/
import Derived.Test.YtoimhdejfeclpaaGreatDoorTNm
import Derived.Test.YtoimhdejfeclpaaGreatDoorTNum
import Derived.Test.YtoimhdejfeclpaaGreatDoorTAwake2
import Derived.BigQuiet
/-! The statement's own 'numbered': true of statements that are numbered. -/

namespace Go.Proofs.YtoimhdejfeclpaaGreatDoor
open Go Go.RowKit Px
open Lx (Tok)

namespace Px
mutual
theorem numSm_le : ∀ (x : Sm) {n a n1 a1 : Nat}, numSm x n a = some (n1, a1) → n + 1 ≤ n1
  | .mk _ id _ _ _ pos _ body els, n, a, n1, a1, h => by
    rw [numSm] at h
    split at h
    · cases hb : numSms body (n + 1) (pos + 1) with
      | none => rw [hb] at h; cases h
      | some p =>
        obtain ⟨n2, a2⟩ := p
        rw [hb] at h
        have h1 := numSms_le body hb
        have h2 := numSms_le els h
        omega
    · cases h
theorem numSms_le : ∀ (l : List Sm) {n a n1 a1 : Nat}, numSms l n a = some (n1, a1) → n + l.length ≤ n1
  | [], n, a, n1, a1, h => by rw [numSms] at h; cases h; simp
  | x :: l, n, a, n1, a1, h => by
    rw [numSms] at h
    cases hb : numSm x n a with
    | none => rw [hb] at h; cases h
    | some p =>
      obtain ⟨n2, a2⟩ := p
      rw [hb] at h
      have h1 := numSm_le x hb
      have h2 := numSms_le l h
      simp only [List.length_cons]; omega
end
end Px

theorem SmC_len {w : World} {ok : Nat → Prop} : ∀ {x : Sm} {cs : List Value}, SmC w ok x cs → cs.length = 9
  | .mk _ _ _ _ _ _ _ _ _, cs, h => by
    simp only [SmC] at h
    obtain ⟨v1, v2, v3, rfl, _⟩ := h
    rfl
theorem SmsC_at {w : World} {ok : Nat → Prop} {x : Sm} {r : List Sm} : ∀ (d : List Sm) {xs : List Value}, SmsC w ok (d ++ x :: r) xs → ∃ cs, SmC w ok x cs ∧ ∀ j, j < 9 → xs[d.length * 9 + j]? = cs[j]?
  | [], xs, h => by
    simp only [List.nil_append, SmsC] at h
    obtain ⟨c, e, rfl, h1, _⟩ := h
    refine ⟨c, h1, fun j hj => ?_⟩
    rw [List.getElem?_append_left (by rw [SmC_len h1]; simpa using hj)]
    simp
  | y :: d, xs, h => by
    simp only [List.cons_append, SmsC] at h
    obtain ⟨c, e, rfl, h1, h2⟩ := h
    obtain ⟨cs, h3, h4⟩ := SmsC_at d h2
    have hl := SmC_len h1
    refine ⟨cs, h3, fun j hj => ?_⟩
    rw [List.getElem?_append_right (by rw [hl]; simp only [List.length_cons]; omega), hl, ← h4 j hj]
    congr 1
    simp only [List.length_cons]; omega
/-- A statement of a row: its cells, and the rows of its blocks. -/
theorem sm_at {w : World} {ok : Nat → Prop} {d r : List Sm} {k id : Nat} {nm : Bytes} {t n pos : Nat} {ex : List Ex} {body els : List Sm} {sv : Value} (h : SmRow w ok (d ++ .mk k id nm t n pos ex body els :: r) sv) :
    ∃ (g cap : Nat) (a1 : Option Addr) (m1 c1 : Nat) (a2 : Option Addr) (m2 c2 : Nat) (a3 : Option Addr) (m3 c3 : Nat), sv = .slice (some ⟨g, 0, none⟩) (d ++ .mk k id nm t n pos ex body els :: r).length cap ∧ ok g ∧ g < w.heap.size ∧
      SmRow w ok body (.slice a2 m2 c2) ∧ SmRow w ok els (.slice a3 m3 c3) ∧ ∀ j u, (smCells k id nm t n pos (.slice a1 m1 c1) (.slice a2 m2 c2) (.slice a3 m3 c3)).toList[j]? = some u → w.cell? ⟨g, d.length * 9 + j, none⟩ = some u := by
  rcases h with ⟨h, _⟩ | ⟨g, cap, xs, rfl, hg, ho, hxs⟩
  · simp at h
  obtain ⟨cs, h1, h2⟩ := SmsC_at d hxs
  simp only [SmC] at h1
  obtain ⟨v1, v2, v3, rfl, e1, e2, e3⟩ := h1
  have form : ∀ {α : Type} {E size : Nat} {P : List α → List Value → Prop} {l : List α} {v : Value}, RowW w ok E size P l v → ∃ (a : Option Addr) (m c : Nat), v = .slice a m c := by
    intro α E size P l v h
    rcases h with ⟨_, rfl⟩ | ⟨_, _, _, rfl, _⟩
    · exact ⟨_, _, _, rfl⟩
    · exact ⟨_, _, _, rfl⟩
  have e2 : SmRow w ok body v2 := e2
  have e3 : SmRow w ok els v3 := e3
  obtain ⟨a1, m1, c1, rfl⟩ := form e1
  obtain ⟨a2, m2, c2, rfl⟩ := form e2
  obtain ⟨a3, m3, c3, rfl⟩ := form e3
  refine ⟨g, cap, a1, m1, c1, a2, m2, c2, a3, m3, c3, rfl, hg, owns_lt ho, e2, e3, ?_⟩
  intro j u hu
  have hj : j < 9 := by
    have := (List.getElem?_eq_some_iff.1 hu).1
    simpa using this
  have hadd : ∀ j, (⟨g, 0, none⟩ : Addr).add j = ⟨g, j, none⟩ := by intro j; unfold Addr.add; split <;> simp_all
  have := ho.cells (g := g) rfl (d.length * 9 + j) u (by rw [h2 j hj]; exact hu)
  rwa [hadd] at this
theorem sm_form {w : World} {ok : Nat → Prop} {l : List Sm} {sv : Value} (h : SmRow w ok l sv) : ∃ (a : Option Addr) (c : Nat), sv = .slice a l.length c := by
  rcases h with ⟨rfl, rfl⟩ | ⟨_, _, _, rfl, _⟩
  · exact ⟨_, _, rfl⟩
  · exact ⟨_, _, rfl⟩
theorem Grown2.sms {p q : Nat} {w w' : World} (h : Grown2 p q w w') {l : List Sm} {sv : Value} (hr : SmRow w (fun g => g ≠ p ∧ g ≠ q) l sv) : SmRow w' (fun g => g ≠ p ∧ g ≠ q) l sv := hr.stays fun g hg hl => ⟨h.block g hl hg.1 hg.2, hg⟩

def NumP (p q n' a' : Nat) (w : World) (e : Ending) (w' : World) : Prop := e = .returned (.bool true) ∧ Grown2 p q w w' ∧ Blk p #[.int .i64 (n' : Int)] 3 w' ∧ Blk q #[.int .i64 ((a' : Int) - 1)] 3 w'
def NumC (K : Nat) : Prop := ∀ (l : List Sm) (n a n' a' : Nat) (sv : Value) (p q : Nat) (w : World), n' ≤ n + K → n' ≤ 1000000000 → numSms l n a = some (n', a') → SmRow w (fun g => g ≠ p ∧ g ≠ q) l sv → p ≠ q →
  Blk p #[.int .i64 (n : Int)] 3 w → Blk q #[.int .i64 ((a : Int) - 1)] 3 w → Calls Tryz.prog 17 #[sv, .pointer (some ⟨p, 0, none⟩), .pointer (some ⟨q, 0, none⟩)] w (NumP p q n' a' w)
def NumRel (l : List Sm) (n n' a' p q : Nat) (w : World) (gk : Nat) (v : Value) (wr : World) : Prop := ∃ (d r : List Sm) (n1 a1 : Nat), l = d ++ r ∧ r.length = gk ∧ v = .int .i64 (d.length : Int) ∧ n ≤ n1 ∧ numSms r n1 a1 = some (n', a') ∧ Grown2 p q w wr ∧ Blk p #[.int .i64 (n1 : Int)] 3 wr ∧ Blk q #[.int .i64 ((a1 : Int) - 1)] 3 wr

set_option maxRecDepth 100000 in
set_option maxHeartbeats 4000000 in
theorem numbered_step (K : Nat) (IH : ∀ K', K' < K → NumC K') : NumC K := by
  intro l n a n' a' sv p q w hK hB hnum hrow hpq hp hq
  obtain ⟨av, cv, rfl⟩ := sm_form hrow
  have hlen := numSms_le l hnum
  have HIH := Lib.hid IH
  have HROW := Lib.hid hrow
  have HREL := Lib.hid (show NumRel l n n' a' p q w l.length (.int .i64 0) w from ⟨[], l, n, a, rfl, rfl, rfl, Nat.le_refl _, hnum, Grown2.refl _ _ _, hp, hq⟩)
  clear IH hrow hnum hp hq
  go_enter Tryz.func17, Tryz.ntmps17
  go_upto_region 2 with (fail)
  go_loopg [11] l.length (fun gk v wr => NumRel l n n' a' p q w gk v wr)
  case atStart => exact HREL.out
  case round =>
    obtain ⟨d, r, n1, a1, hl, hgk, rfl, hn1, hr, hg, hp, hq⟩ := hrel
    have hll : l.length = d.length + r.length := by rw [hl, List.length_append]
    cases r with
    | nil =>
      have hge : ¬ (d.length : Int) < (l.length : Int) := by rw [hll]; simp
      rw [numSms] at hr
      have FIN := Lib.hid (show NumP p q n' a' w (.returned (.bool true)) wr from ⟨rfl, hg, by cases hr; exact hp, by cases hr; exact hq⟩)
      clear hr hg hp hq hll
      go_wp2
      go_ret
      exact FIN.out
    | cons x r =>
      obtain ⟨xk, xid, xnm, xt, xn, xpos, xe, body, els⟩ := x
      rw [numSms] at hr
      cases hx : numSm (.mk xk xid xnm xt xn xpos xe body els) n1 a1 with
      | none => rw [hx] at hr; cases hr
      | some p2 =>
        obtain ⟨n2, a2⟩ := p2
        rw [hx] at hr
        have hr : numSms r n2 a2 = some (n', a') := hr
        rw [numSm] at hx
        split at hx
        · rename_i hc
          obtain ⟨rfl, hap⟩ := hc
          cases hb : numSms body (xid + 1) (xpos + 1) with
          | none => rw [hb] at hx; cases hx
          | some p3 =>
            obtain ⟨n3, a3⟩ := p3
            rw [hb] at hx
            have hx : numSms els n3 a3 = some (n2, a2) := hx
            have l1 := numSms_le body hb
            have l2 := numSms_le els hx
            have l3 := numSms_le r hr
            have HR := Lib.hid hr
            have HL := Lib.hid hl
            have hrow := HROW.out
            rw [hl] at hrow
            obtain ⟨g, cap, b1, m1, c1, b2, m2, c2, b3, m3, c3, hsv, hok, hgl, hrb, hre, hcell⟩ := sm_at hrow
            rw [← hl] at hsv
            cases hsv
            have hcr : ∀ j u, (smCells xk xid xnm xt xn xpos (.slice b1 m1 c1) (.slice b2 m2 c2) (.slice b3 m3 c3)).toList[j]? = some u → wr.cell? ⟨g, d.length * 9 + j, none⟩ = some u := fun j u hu => (World.cell?_of_block (w := w) (a := ⟨g, d.length * 9 + j, none⟩) (hg.block g hgl hok.1 hok.2)).trans (hcell j u hu)
            have k0 := hcr 0 _ rfl
            have k1 := hcr 1 _ rfl
            have k2 := hcr 2 _ rfl
            have k3 := hcr 3 _ rfl
            have k4 := hcr 4 _ rfl
            have k5 := hcr 5 _ rfl
            have k6 := hcr 6 _ rfl
            have k7 := hcr 7 _ rfl
            have k8 := hcr 8 _ rfl
            rw [Nat.add_zero] at k0
            obtain ⟨W, hW⟩ : ∃ W, W = wr.alloc (.cells (smCells xk xid xnm xt xn xpos (.slice b1 m1 c1) (.slice b2 m2 c2) (.slice b3 m3 c3)) 39) := ⟨_, rfl⟩
            have hbW : Below wr.heap.size wr W := by rw [hW]; exact (Below.refl _ _).alloc (Nat.le_refl _) _
            have hM : Blk wr.heap.size (smCells xk xid xnm xt xn xpos (.slice b1 m1 c1) (.slice b2 m2 c2) (.slice b3 m3 c3)) 39 W := by rw [hW]; exact Blk.new _ _ _
            have hMp : wr.heap.size ≠ p := by have := hp.lt; omega
            have hMq : wr.heap.size ≠ q := by have := hq.lt; omega
            have hpW := hp.below hbW hp.lt
            have hqW := hq.below hbW hq.lt
            have hgW := hg.trans (Grown2.below hbW)
            have HWW := Lib.hid hW
            have HB := Lib.hid (And.intro hgW (And.intro hM (And.intro hpW hqW)))
            have HX := Lib.hid (And.intro hrb (And.intro hre (And.intro hb hx)))
            have v1 := hM.get 1 (.int .i64 (xid : Int)) rfl
            have v5 := hM.get 5 (.int .i64 (xpos : Int)) rfl
            have vp := hpW.get 0 (.int .i64 (xid : Int)) rfl
            have vq := hqW.get 0 (.int .i64 ((a1 : Int) - 1)) rfl
            have hidx : (d.length : Int) < (l.length : Int) := by rw [hll]; simp; omega
            have hlb : (l.length : Int) ≤ 1000000000 := by omega
            have hib : (xid : Int) ≤ 1000000000 := by omega
            have hle : decide ((xpos : Int) ≤ (a1 : Int) - 1) = false := by simp; omega
            have hne1 : ¬ p = q := hpq
            have HLL := Lib.hid hll
            clear hr hl hrow hcell hcr hok hrb hre hb hx hW hbW hM hpW hqW hgW hg hp hq hll
            go_upto_region 4 with (fail)
            rw [← HWW.out]
            clear k0 k1 k2 k3 k4 k5 k6 k7 k8 HWW
            generalize wr.heap.size = M at *
            go_quiet (fail)
            obtain ⟨V, hV⟩ : ∃ V, V = W.drewN nq := ⟨_, rfl⟩
            rw [← hV]
            have hbV : Below W.heap.size W V := by rw [hV]; exact ⟨rfl, rfl, rfl, Nat.le_refl _, fun _ _ => rfl⟩
            have hgV := HB.out.1.trans (Grown2.below hbV)
            have hMV := HB.out.2.1.below hbV HB.out.2.1.lt
            have hpV := HB.out.2.2.1.below hbV HB.out.2.2.1.lt
            have hqV := HB.out.2.2.2.below hbV HB.out.2.2.2.lt
            clear v1 v5 vp vq hV hbV
            obtain ⟨X, hX⟩ : ∃ X, X = (V.setCell ⟨p, 0, none⟩ (.int .i64 ((xid : Int) + 1))).setCell ⟨q, 0, none⟩ (.int .i64 (xpos : Int)) := ⟨_, rfl⟩
            have hg1 : V.grownBy (V.setCell ⟨p, 0, none⟩ (.int .i64 ((xid : Int) + 1))) (some p) := Lib.grownBy_setCell _ _ _ _
            have hg2 : (V.setCell ⟨p, 0, none⟩ (.int .i64 ((xid : Int) + 1))).grownBy X (some q) := by rw [hX]; exact Lib.grownBy_setCell _ _ _ _
            have hpX : Blk p #[.int .i64 ((xid + 1 : Nat) : Int)] 3 X := (hpV.set 0 (.int .i64 ((xid : Int) + 1))).other hg2 (by simpa using hpq)
            have hqX : Blk q #[.int .i64 (((xpos + 1 : Nat) : Int) - 1)] 3 X := by
              rw [show (((xpos + 1 : Nat) : Int) - 1) = (xpos : Int) by omega, hX]
              exact (hqV.other hg1 (by simpa using Ne.symm hpq)).set 0 _
            have hgX := (hgV.trans (Grown2.of1 hg1)).trans (Grown2.of2 hg2)
            have hMX := ((hMV.other hg1 (by simpa using hMp)).other hg2 (by simpa using hMq))
            have HC1 := Lib.hid (HIH.out (K - 1) (by omega) body (xid + 1) (xpos + 1) n3 a3 _ p q X (by omega) (by omega) HX.out.2.2.1 (hgX.sms HX.out.1) hpq hpX hqX)
            have HXX := Lib.hid hX
            have HY := Lib.hid (And.intro hgX hMX)
            have v5 := hMV.get 5 (.int .i64 (xpos : Int)) rfl
            have vp := hpV.get 0 (.int .i64 (xid : Int)) rfl
            have vq := hqV.get 0 (.int .i64 ((a1 : Int) - 1)) rfl
            have fp := hpV.free 0
            have fq := hqV.free 0
            have w7 := hMX.get 7 (.slice b2 m2 c2) rfl
            clear hX hg1 hg2 hpX hqX hgX hMX hgV hMV hpV hqV
            go_upto_region 8 with (fail)
            rw [← HXX.out]
            clear v5 vp vq fp fq HXX
            go_wp2_with fail
            refine HC1.out.mono ?_
            rintro e w4 ⟨rfl, hg4, hp4, hq4⟩
            have hM4 := hg4.stays HY.out.2 hMp hMq
            have HC2 := Lib.hid (HIH.out (K - 1) (by omega) els n3 a3 n2 a2 _ p q w4 (by omega) (by omega) HX.out.2.2.2 ((HY.out.1.trans hg4).sms HX.out.2.1) hpq hp4 hq4)
            have HG4 := Lib.hid (HY.out.1.trans hg4)
            have w8 := hM4.get 8 (.slice b3 m3 c3) rfl
            clear w7 hg4 hp4 hq4 hM4
            go_wp2_with fail
            refine HC2.out.mono ?_
            rintro e w5 ⟨rfl, hg5, hp5, hq5⟩
            have FIN := Lib.hid (show NumRel l n n' a' p q w r.length (.int .i64 ((d.length : Int) + 1)) w5 from ⟨d ++ [.mk xk xid xnm xt xn xpos xe body els], r, n2, a2, by rw [HL.out]; simp, rfl, by simp, by omega, HR.out, HG4.out.trans hg5, hp5, hq5⟩)
            clear w8 hg5 hp5 hq5
            go_wp2
            go_roundg r.length
            case measure => simp only [List.length_cons] at hgk; omega
            case rel => exact FIN.out
        · cases hx
end Go.Proofs.YtoimhdejfeclpaaGreatDoor

/-! TreeNumbers: the statement's own body says true of every text. -/

namespace Go.Proofs.YtoimhdejfeclpaaGreatDoor
open Go Go.RowKit Px
open Lx (Tok)

theorem numC : ∀ K, NumC K := by
  have h : ∀ n K, K < n → NumC K := by
    intro n
    induction n with
    | zero => intro K h; omega
    | succ n ih => intro K h; exact numbered_step K fun K' h' => ih K' (by omega)
  exact fun K => h (K + 1) K (by omega)

theorem FuC_len {w : World} {ok : Nat → Prop} {x : Fu} {cs : List Value} (h : FuC w ok x cs) : cs.length = 5 := by
  obtain ⟨v1, v2, rfl, _⟩ := h
  rfl
theorem FusC_at {w : World} {ok : Nat → Prop} {x : Fu} {r : List Fu} : ∀ (d : List Fu) {xs : List Value}, FusC w ok (d ++ x :: r) xs → ∃ cs, FuC w ok x cs ∧ ∀ j, j < 5 → xs[d.length * 5 + j]? = cs[j]?
  | [], xs, h => by
    obtain ⟨c, e, rfl, h1, _⟩ := h
    refine ⟨c, h1, fun j hj => ?_⟩
    rw [List.getElem?_append_left (by rw [FuC_len h1]; simpa using hj)]
    simp
  | y :: d, xs, h => by
    obtain ⟨c, e, rfl, h1, h2⟩ := h
    obtain ⟨cs, h3, h4⟩ := FusC_at d h2
    have hl := FuC_len h1
    refine ⟨cs, h3, fun j hj => ?_⟩
    rw [List.getElem?_append_right (by rw [hl]; simp only [List.length_cons]; omega), hl, ← h4 j hj]
    congr 1
    simp only [List.length_cons]; omega
theorem fu_at {w : World} {ok : Nat → Prop} {d r : List Fu} {x : Fu} {sv : Value} (h : FuRow w ok (d ++ x :: r) sv) :
    ∃ (g cap : Nat) (a1 : Option Addr) (m1 c1 : Nat) (a2 : Option Addr) (m2 c2 : Nat), sv = .slice (some ⟨g, 0, none⟩) (d ++ x :: r).length cap ∧ ok g ∧ g < w.heap.size ∧
      SmRow w ok x.body (.slice a2 m2 c2) ∧ ∀ j u, (fuCells x.name (.slice a1 m1 c1) (.int .u8 (x.result : Int)) (.slice a2 m2 c2) x.pos).toList[j]? = some u → w.cell? ⟨g, d.length * 5 + j, none⟩ = some u := by
  rcases h with ⟨h, _⟩ | ⟨g, cap, xs, rfl, hg, ho, hxs⟩
  · simp at h
  obtain ⟨cs, h1, h2⟩ := FusC_at d hxs
  obtain ⟨v1, v2, rfl, e1, e2⟩ := h1
  have form : ∀ {α : Type} {E size : Nat} {P : List α → List Value → Prop} {l : List α} {v : Value}, RowW w ok E size P l v → ∃ (a : Option Addr) (m c : Nat), v = .slice a m c := by
    intro α E size P l v h
    rcases h with ⟨_, rfl⟩ | ⟨_, _, _, rfl, _⟩
    · exact ⟨_, _, _, rfl⟩
    · exact ⟨_, _, _, rfl⟩
  obtain ⟨a1, m1, c1, rfl⟩ := form e1
  obtain ⟨a2, m2, c2, rfl⟩ := form e2
  refine ⟨g, cap, a1, m1, c1, a2, m2, c2, rfl, hg, owns_lt ho, e2, ?_⟩
  intro j u hu
  have hj : j < 5 := by
    have := (List.getElem?_eq_some_iff.1 hu).1
    simpa using this
  have hadd : ∀ j, (⟨g, 0, none⟩ : Addr).add j = ⟨g, j, none⟩ := by intro j; unfold Addr.add; split <;> simp_all
  have := ho.cells (g := g) rfl (d.length * 5 + j) u (by rw [h2 j hj]; exact hu)
  rwa [hadd] at this

theorem par_num {w w' : World} {l : Bytes} {e : Ending} (h : ParsePost w (parseR l) e w') : ∃ (a : Option Addr) (c : Nat) (at' : Int) (n : Nat) (L : List Fu), e = .returned (.tuple #[.agg #[.slice a L.length c], .int .i64 at', .int .i64 (n : Int)]) ∧ Below w.heap.size w w' ∧
    (n ≠ 0 ∨ n = 0 ∧ FuRow w' (fun h => w.heap.size ≤ h) L (.slice a L.length c) ∧ L.length ≤ 30000 ∧ ∃ n' a', numFus L 1 0 = some (n', a') ∧ n' ≤ 1000000000) := by
  obtain ⟨hb, h⟩ := h
  cases hr : parseR l with
  | error pn =>
    rw [hr] at h
    obtain ⟨p, n⟩ := pn
    refine ⟨none, 0, p, n, [], h, hb, ?_⟩
    rcases Nat.eq_zero_or_pos n with rfl | hn
    · exact Or.inr ⟨rfl, Or.inl ⟨rfl, rfl⟩, by simp, 1, 0, by rw [numFus], by omega⟩
    · exact Or.inl (by omega)
  | ok q =>
    rw [hr] at h
    obtain ⟨k, s'⟩ := q
    obtain ⟨a, m, c, he, hrow⟩ := h
    have hm : m = k.length := by
      rcases hrow with ⟨rfl, h⟩ | ⟨_, _, _, h, _⟩
      · cases h; rfl
      · cases h; rfl
    subst hm
    obtain ⟨h1, h2⟩ := parse_num hr
    exact ⟨a, c, 0, 0, k, he, hb, Or.inr ⟨rfl, hrow, h1, h2⟩⟩

def FunRel (L : List Fu) (n' a' p q : Nat) (w : World) (gk : Nat) (v : Value) (wr : World) : Prop := ∃ (d r : List Fu) (n1 a1 : Nat), L = d ++ r ∧ r.length = gk ∧ v = .int .i64 (d.length : Int) ∧ numFus r n1 a1 = some (n', a') ∧ Grown2 p q w wr ∧ Blk p #[.int .i64 (n1 : Int)] 3 wr ∧ Blk q #[.int .i64 ((a1 : Int) - 1)] 3 wr
theorem numFus_le : ∀ (l : List Fu) {n a n1 a1 : Nat}, numFus l n a = some (n1, a1) → n ≤ n1
  | [], n, a, n1, a1, h => by rw [numFus] at h; cases h; exact Nat.le_refl _
  | x :: l, n, a, n1, a1, h => by
    rw [numFus] at h
    cases hb : numSms x.body n a with
    | none => rw [hb] at h; cases h
    | some p =>
      obtain ⟨n2, a2⟩ := p
      rw [hb] at h
      have h1 := numSms_le x.body hb
      have h2 := numFus_le l h
      omega

set_option maxRecDepth 100000 in
set_option maxHeartbeats 4000000 in
theorem treeNumbers_any (s : ByteArray) (hs : s.size ≤ 9223372036854775806) (w : World) (hT : Tabs w.heap.size w) : Calls Tryz.prog 6 #[.string s] w fun e w' => e = .returned (.bool true) ∧ Below w.heap.size w w' := by
  have HT := Lib.hid hT
  have HP := Lib.hid fun (s' : ByteArray) (w1 : World) (h1 : s'.size ≤ 9223372036854775806) (h2 : Tabs w1.heap.size w1) => treeParse_any s' h1 w1 h2
  have hsz : (s.size : Int) ≤ 9223372036854775806 := by omega
  clear hT
  go_enter Tryz.func6, Tryz.ntmps6
  go_wp2_with fail
  refine (awake_tree w HT.out).mono ?_
  rintro e w1 ⟨rfl, hb1⟩
  have HT1 := Lib.hid ((HT.out.below hb1).mono hb1.size)
  have HB1 := Lib.hid hb1
  clear hb1
  go_wp2_with fail
  refine (HP.out _ w1 ?_ HT1.out).mono ?_
  · simp only [ByteArray.size_extract]; omega
  rintro e w2 h2
  obtain ⟨a, c, at', n, L, rfl, hb2, h2⟩ := par_num h2
  have HB2 := Lib.hid (HB1.out.trans (hb2.mono HB1.out.size))
  rcases h2 with hn | ⟨rfl, hrow, hL, n', a', hnum, hn'⟩
  · have hk1 : ((n : Int) == 0) = false := by rw [beq_eq_false_iff_ne]; omega
    clear hb2 hn
    go_wp2_with fail
    go_ret
    exact ⟨rfl, HB2.out.alloc HB2.out.size _⟩
  · obtain ⟨V, hV⟩ : ∃ V, V = ((w2.alloc (.cells #[.slice a L.length c] 24)).alloc (.cells #[.int .i64 1] 3)).alloc (.cells #[.int .i64 (-1)] 3) := ⟨_, rfl⟩
    have hbV : Below w2.heap.size w2 V := by rw [hV]; go_grown
    have hp : Blk (w2.heap.size + 1) #[.int .i64 ((1 : Nat) : Int)] 3 V := by rw [hV]; exact (Blk.new' _ _ _ (by simp)).below ((Below.refl _ _).alloc (Nat.le_refl _) _) (by simp)
    have hq : Blk (w2.heap.size + 2) #[.int .i64 (((0 : Nat) : Int) - 1)] 3 V := by rw [hV]; exact Blk.new' _ _ _ (by simp)
    have hVs : V.heap.size = w2.heap.size + 3 := by rw [hV]; simp
    have hrowV : FuRow V (fun g => g ≠ w2.heap.size + 1 ∧ g ≠ w2.heap.size + 2) L (.slice a L.length c) := hrow.stays fun g _ hl => ⟨hbV.block g hl, by omega, by omega⟩
    have HROW := Lib.hid hrowV
    have HREL := Lib.hid (show FunRel L n' a' (w2.heap.size + 1) (w2.heap.size + 2) V L.length (.int .i64 0) V from ⟨[], L, 1, 0, rfl, rfl, rfl, hnum, Grown2.refl _ _ _, hp, hq⟩)
    have HBV := Lib.hid (HB2.out.trans (hbV.mono HB2.out.size))
    have hbw := HB2.out.size
    have HVV := Lib.hid hV
    clear hrow hnum hb2 h2 hV hbV hp hq hrowV
    go_upto_region 9 with (fail)
    rw [← HVV.out]
    clear HVV
    obtain ⟨N, hN⟩ : ∃ N, N = w2.heap.size := ⟨_, rfl⟩
    rw [← hN] at HREL HROW hVs hbw ⊢
    clear hN
    rw [show N + 1 + 1 = N + 2 from rfl]
    go_loopg [28] L.length (fun gk v wr => FunRel L n' a' (N + 1) (N + 2) V gk v wr)
    case atStart => exact HREL.out
    case round =>
      obtain ⟨d, r, n1, a1, hl, hgk, rfl, hr, hg, hp, hq⟩ := hrel
      have hll : L.length = d.length + r.length := by rw [hl, List.length_append]
      cases r with
      | nil =>
        have hge : ¬ (d.length : Int) < (L.length : Int) := by rw [hll]; simp
        have FIN := Lib.hid (show Below w.heap.size w wr from ⟨hg.os.trans HBV.out.os, hg.tape.trans HBV.out.tape, hg.output.trans HBV.out.output, Nat.le_trans HBV.out.size hg.size, fun k hk => (hg.block k (Nat.lt_of_lt_of_le hk HBV.out.size) (by omega) (by omega)).trans (HBV.out.block k hk)⟩)
        clear hr hg hp hq hll
        go_wp2
        go_ret
        exact ⟨rfl, FIN.out⟩
      | cons x r =>
        rw [numFus] at hr
        cases hx : numSms x.body n1 a1 with
        | none => rw [hx] at hr; cases hr
        | some p2 =>
          obtain ⟨n2, a2⟩ := p2
          rw [hx] at hr
          have hr : numFus r n2 a2 = some (n', a') := hr
          have l3 := numFus_le r hr
          have hrow := HROW.out
          rw [hl] at hrow
          obtain ⟨g, cap, b1, m1, c1, b2, m2, c2, hsv, hok, hgl, hrb, hcell⟩ := fu_at hrow
          rw [← hl] at hsv
          cases hsv
          have hcr : ∀ j u, (fuCells x.name (.slice b1 m1 c1) (.int .u8 (x.result : Int)) (.slice b2 m2 c2) x.pos).toList[j]? = some u → wr.cell? ⟨g, d.length * 5 + j, none⟩ = some u := fun j u hu => (World.cell?_of_block (w := V) (a := ⟨g, d.length * 5 + j, none⟩) (hg.block g hgl hok.1 hok.2)).trans (hcell j u hu)
          have k0 := hcr 0 _ rfl
          have k1 := hcr 1 _ rfl
          have k2 := hcr 2 _ rfl
          have k3 := hcr 3 _ rfl
          have k4 := hcr 4 _ rfl
          rw [Nat.add_zero] at k0
          obtain ⟨W, hW⟩ : ∃ W, W = wr.alloc (.cells (fuCells x.name (.slice b1 m1 c1) (.int .u8 (x.result : Int)) (.slice b2 m2 c2) x.pos) 42) := ⟨_, rfl⟩
          have hbW : Below wr.heap.size wr W := by rw [hW]; exact (Below.refl _ _).alloc (Nat.le_refl _) _
          have hM : Blk wr.heap.size (fuCells x.name (.slice b1 m1 c1) (.int .u8 (x.result : Int)) (.slice b2 m2 c2) x.pos) 42 W := by rw [hW]; exact Blk.new _ _ _
          have hgW := hg.trans (Grown2.below hbW)
          have HC := Lib.hid (numC n2 x.body n1 a1 n2 a2 _ (N + 1) (N + 2) W (by omega) (by omega) hx (hgW.sms hrb) (by omega) (hp.below hbW hp.lt) (hq.below hbW hq.lt))
          have HWW := Lib.hid hW
          have HGW := Lib.hid hgW
          have HR := Lib.hid hr
          have HL := Lib.hid hl
          have w3 := hM.get 3 (.slice b2 m2 c2) rfl
          have hidx : (d.length : Int) < (L.length : Int) := by rw [hll]; simp; omega
          have hlb : (L.length : Int) ≤ 30000 := by omega
          clear hr hl hrow hcell hcr hok hrb hx hW hbW hM hgW hg hp hq hll
          go_upto_region 11 with (fail)
          rw [← HWW.out]
          clear k0 k1 k2 k3 k4 HWW
          go_wp2_with fail
          refine HC.out.mono ?_
          rintro e w5 ⟨rfl, hg5, hp5, hq5⟩
          have FIN := Lib.hid (show FunRel L n' a' (N + 1) (N + 2) V r.length (.int .i64 ((d.length : Int) + 1)) w5 from ⟨d ++ [x], r, n2, a2, by rw [HL.out]; simp, rfl, by simp, HR.out, HGW.out.trans hg5, hp5, hq5⟩)
          clear w3 hg5 hp5 hq5
          go_wp2
          go_roundg r.length
          case measure => simp only [List.length_cons] at hgk; omega
          case rel => exact FIN.out
end Go.Proofs.YtoimhdejfeclpaaGreatDoor
