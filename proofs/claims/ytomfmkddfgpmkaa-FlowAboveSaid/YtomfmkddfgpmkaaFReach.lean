/-
  What is reached from a node, never through another one: the document's own answer, walked.
-/
import Derived.Test.YtomfmkddfgpmkaaFEx
namespace Go.Proofs.Ytomfmkddfgpmkaa
open Go Go.RowKit Fl

namespace Fl
/-- How many are not. -/
def cf (bs : List Bool) : Nat := bs.countP (fun b => !b)
theorem cf_set : ∀ (bs : List Bool) (x : Nat), x < bs.length → bs.getD x false = false → cf (bs.set x true) < cf bs
  | [], _, h, _ => absurd h (by simp)
  | b :: bs, 0, _, h => by
    have hb : b = false := by simpa using h
    subst hb
    show cf (true :: bs) < cf (false :: bs)
    unfold cf
    rw [List.countP_cons, List.countP_cons]
    simp
  | b :: bs, x + 1, h, h2 => by
    have ih := cf_set bs x (by simpa using h) (by simpa using h2)
    show cf (b :: bs.set x true) < cf (b :: bs)
    unfold cf at ih ⊢
    rw [List.countP_cons, List.countP_cons]
    omega
theorem cf_le (bs : List Bool) : cf bs ≤ bs.length := List.countP_le_length
theorem getB_set (bs : List Bool) (x y : Nat) (hx : x < bs.length) : (bs.set x true).getD y false = if x = y then true else bs.getD y false := by
  rw [List.getD_eq_getElem?_getD, List.getElem?_set]
  by_cases e : x = y
  · rw [if_pos e, if_pos e, if_pos hx]
    rfl
  · rw [if_neg e, if_neg e, ← List.getD_eq_getElem?_getD]
def okN (but : Int) (y : Nat) : Prop := (y : Int) ≠ but
/-- Just what is reached. -/
def ReachB (G : List (List Nat)) (fr : Nat) (but : Int) (bs : List Bool) : Prop := ∀ x, bs.getD x false = true ↔ Av (EG G) (okN but) fr x
theorem reach_done {G : List (List Nat)} {fr : Nat} {but : Int} {bs : List Bool} (hs : ∀ x, bs.getD x false = true → Av (EG G) (okN but) fr x) (hf : bs.getD fr false = true) (hc : ∀ a, bs.getD a false = true → ∀ b ∈ row G a, okN but b → bs.getD b false = true) : ReachB G fr but bs := by
  intro x
  refine ⟨hs x, fun h => ?_⟩
  induction h with
  | refl _ => exact hf
  | step _ he ho ih => exact hc _ ih _ he ho
end Fl

structure RS (b0 N fr : Nat) (G : List (List Nat)) (but : Int) (w : World) (bs : List Bool) (W : World) : Prop where
  kb : Blk b0 (arrB bs) 4 W
  ln : bs.length = N
  so : ∀ x, bs.getD x false = true → Av (EG G) (okN but) fr x
  ff : bs.getD fr false = true
  be : Below w.heap.size w W
  lo : w.heap.size ≤ b0
def RO (b0 N fr : Nat) (G : List (List Nat)) (but : Int) (w : World) (gk : Nat) (mv : Value) (W : World) : Prop :=
  ∃ bs m, mv = .bool m ∧ RS b0 N fr G but w bs W ∧ (m = false → ReachB G fr but bs) ∧ (m = true → cf bs < gk)
def R2 (b0 N fr : Nat) (G : List (List Nat)) (but : Int) (w : World) (bs0 : List Bool) (mv pv : Value) (W : World) : Prop :=
  ∃ (p : Nat) (bs : List Bool) (m : Bool), p ≤ N ∧ pv = I (p : Int) ∧ mv = .bool m ∧ RS b0 N fr G but w bs W ∧ cf bs ≤ cf bs0 ∧ (m = true → cf bs < cf bs0) ∧ (m = false → bs = bs0 ∧ ∀ a, a < p → bs0.getD a false = true → ∀ b ∈ row G a, okN but b → bs0.getD b false = true)
def R3 (b0 N fr : Nat) (G : List (List Nat)) (but : Int) (w : World) (bs0 : List Bool) (p : Nat) (mv jv : Value) (W : World) : Prop :=
  ∃ (j : Nat) (bs : List Bool) (m : Bool), j ≤ (row G p).length ∧ jv = I (j : Int) ∧ mv = .bool m ∧ RS b0 N fr G but w bs W ∧ cf bs ≤ cf bs0 ∧ (m = true → cf bs < cf bs0) ∧ (m = false → bs = bs0 ∧ (∀ a, a < p → bs0.getD a false = true → ∀ b ∈ row G a, okN but b → bs0.getD b false = true) ∧ (bs0.getD p false = true → ∀ b ∈ (row G p).take j, okN but b → bs0.getD b false = true))
/-- What is answered. -/
def ReachT (w : World) (N fr : Nat) (G : List (List Nat)) (but : Int) (W : World) (e : Ending) : Prop :=
  ∃ b bs, e = .returned (.slice (some ⟨b, 0, none⟩) N N) ∧ Blk b (arrB bs) 4 W ∧ bs.length = N ∧ ReachB G fr but bs ∧ w.heap.size ≤ b ∧ Below w.heap.size w W

theorem RS.set {b0 N fr : Nat} {G : List (List Nat)} {but : Int} {w : World} {bs : List Bool} {W : World} (h : RS b0 N fr G but w bs W) {x : Nat} (hx : x < N) (ha : Av (EG G) (okN but) fr x) : RS b0 N fr G but w (bs.set x true) (W.setCell ⟨b0, x, none⟩ (.bool true)) := by
  have hxl : x < bs.length := by rw [h.ln]; exact hx
  refine ⟨by rw [← arrB_set]; exact h.kb.set x _, by rw [List.length_set, h.ln], fun y hy => ?_, ?_, h.be.setCell (p := ⟨b0, x, none⟩) h.lo _, h.lo⟩
  · rw [getB_set _ _ _ hxl] at hy
    by_cases e : x = y
    · rw [← e]; exact ha
    · rw [if_neg e] at hy; exact h.so y hy
  · rw [getB_set _ _ _ hxl]
    split
    · rfl
    · exact h.ff

set_option maxRecDepth 100000 in
set_option maxHeartbeats 1600000 in
theorem Reach_any (bg cap N fr : Nat) (but : Int) (G : List (List Nat)) (hG : GOk G) (hGl : G.length = N) (hN : N ≤ 1000) (hrow : ∀ i, (row G i).length ≤ 1000) (hfr : fr < N) (w : World) (h : GrB w.heap.size w bg G) :
    Calls Try.prog 25 #[.slice (some ⟨bg, 0, none⟩) N cap, I (fr : Int), I but] w fun e w' => ReachT w N fr G but w' e := by
  obtain ⟨W1, hW1⟩ : ∃ W, W = w.alloc (.cells (arrB (List.replicate N false)) 4) := ⟨_, rfl⟩
  obtain ⟨b0, hb0⟩ : ∃ b, b = w.heap.size := ⟨_, rfl⟩
  have hB1 : Below w.heap.size w W1 := by rw [hW1]; exact (Below.refl _ _).alloc (Nat.le_refl _) _
  have hk1 : Blk b0 (arrB (List.replicate N false)) 4 W1 := by rw [hb0, hW1]; exact Blk.new _ _ _
  have hmk := mkBn N (by omega) w
  have HW := Lib.hid (And.intro hW1 hb0)
  have HH := Lib.hid (And.intro h (And.intro hG (And.intro hGl (And.intro hrow (And.intro hB1 (And.intro hk1 hfr))))))
  have d0 : decide (N ≤ fr) = false := by simp; omega
  have d1 : (0 : Int) ≤ (fr : Int) := by omega
  have d2 : (fr : Int) < (N : Int) := by omega
  by_cases hbu : (fr : Int) = but
  · have g0 : ((fr : Int) == but) = true := by simpa using hbu
    have FIN := Lib.hid (show ReachT w N fr G but W1 (.returned (.slice (some ⟨b0, 0, none⟩) N N)) from ⟨b0, _, rfl, hk1, by simp, fun x => by
      constructor
      · intro h
        rw [List.getD_eq_getElem?_getD, List.getElem?_replicate] at h
        split at h <;> simp at h
      · intro h
        exact absurd hbu h.start_ok, by rw [hb0]; exact Nat.le_refl _, hB1⟩)
    clear h hG hrow hfr hW1 hb0 hB1 hk1 hbu
    go_enter Try.func25, Try.ntmps25
    go_upto_region 2 with (fail)
    rw [← HW.out.2]
    change Code.wp _ _ _ _ (w.alloc (.cells (arrB (List.replicate N false)) 4))
    rw [← HW.out.1]
    go_wp2_with fail
    go_ret
    exact FIN.out
  · have g0 : ((fr : Int) == but) = false := by simpa using hbu
    have y0 := hk1.get fr (.bool false) (by rw [arrB_getD _ fr false (by simp; exact hfr)]; congr 2; rw [List.getD_eq_getElem?_getD, List.getElem?_replicate]; split <;> rfl)
    have y1 := hk1.free fr
    obtain ⟨W2, hW2⟩ : ∃ W, W = W1.setCell ⟨b0, fr, none⟩ (.bool true) := ⟨_, rfl⟩
    have hS2 : RS b0 N fr G but w ((List.replicate N false).set fr true) W2 := by
      rw [hW2]
      refine ⟨by rw [← arrB_set]; exact hk1.set fr _, by simp, fun y hy => ?_, ?_, hB1.setCell (p := ⟨b0, fr, none⟩) (by rw [hb0]; exact Nat.le_refl _) _, by rw [hb0]; exact Nat.le_refl _⟩
      · rw [getB_set _ _ _ (by simp; exact hfr)] at hy
        by_cases e : fr = y
        · rw [← e]; exact .refl _ hbu
        · rw [if_neg e, List.getD_eq_getElem?_getD, List.getElem?_replicate] at hy
          split at hy <;> simp at hy
      · rw [getB_set _ _ _ (by simp; exact hfr), if_pos rfl]
    have HST := Lib.hid (show RO b0 N fr G but w (N + 1) (.bool true) W2 from ⟨_, true, rfl, hS2, (fun e => absurd e (by decide)), (fun _ => by have := cf_le ((List.replicate N false).set fr true); simp at this; omega)⟩)
    have HW2 := Lib.hid hW2
    clear h hG hrow hfr hW1 hb0 hB1 hk1 hbu hW2 hS2
    go_enter Try.func25, Try.ntmps25
    go_upto_region 2 with (fail)
    rw [← HW.out.2]
    change Code.wp _ _ _ _ (w.alloc (.cells (arrB (List.replicate N false)) 4))
    rw [← HW.out.1]
    go_upto_region 5 with (fail)
    change Code.wp _ _ _ _ (W1.setCell ⟨b0, fr, none⟩ (.bool true))
    rw [← HW2.out]
    clear y0 y1 HW2
    go_wp2_with fail
    go_loopg [8] (N + 1) (fun gk mv W => RO b0 N fr G but w gk mv W)
    case atStart => exact HST.out
    case round =>
      obtain ⟨bs0, m, rfl, hS, hf, ht⟩ := hrel
      cases m
      · have FIN := Lib.hid (show ReachT w N fr G but wr (.returned (.slice (some ⟨b0, 0, none⟩) N N)) from ⟨b0, bs0, rfl, hS.kb, hS.ln, hf rfl, hS.lo, hS.be⟩)
        clear hS hf ht HST
        go_wp2_with fail
        go_ret
        exact FIN.out
      · have HS := Lib.hid (And.intro hS (ht rfl))
        have HR := Lib.hid (show R2 b0 N fr G but w bs0 (.bool false) (I 0) wr from ⟨0, bs0, false, Nat.zero_le _, rfl, rfl, hS, Nat.le_refl _, (fun e => absurd e (by decide)), (fun _ => ⟨rfl, fun a ha => absurd ha (by omega)⟩)⟩)
        clear hS hf ht HST
        go_wp2_with fail
        go_loopw [8, 32] (fun mv pv W => R2 b0 N fr G but w bs0 mv pv W) (fun _ pv _ => N - (intOf pv).toNat)
        case atStart => exact HR.out
        case round =>
          obtain ⟨p, bs, m, hp, rfl, rfl, hS, hle, ht, hf⟩ := hrel
          by_cases hpn : p < N
          · have hgb := HH.out.1.below hS.be
            obtain ⟨rv, c0, hrv⟩ := hgb.row p (by rw [hGl]; exact hpn)
            obtain ⟨L, hL⟩ : ∃ L, L = (row G p).length := ⟨_, rfl⟩
            obtain ⟨ra, rc, rfl⟩ : ∃ a c, rv = .slice a L c := by
              rcases hrv with ⟨e, e2⟩ | ⟨g, c, e, _⟩
              · exact ⟨_, _, by rw [e, hL, e2]; rfl⟩
              · exact ⟨_, _, by rw [e, hL]⟩
            have hLb : (L : Int) ≤ 1000 := by have := HH.out.2.2.2.1 p; omega
            have e0 : decide (p < N) = true := by simpa using hpn
            have e1 : (0 : Int) ≤ (p : Int) := by omega
            have e2 : (p : Int) < (N : Int) := by omega
            have e3 : (p : Int) ≤ 1000 := by omega
            have HR3 := Lib.hid (show R3 b0 N fr G but w bs0 p (.bool m) (I 0) wr from ⟨0, bs, m, Nat.zero_le _, rfl, rfl, hS, hle, ht, fun e => ⟨(hf e).1, (hf e).2, fun _ b hb => absurd hb (by simp)⟩⟩)
            have hrw : RowB w.heap.size w (.slice ra L rc) (row G p) ∨ True := Or.inr trivial
            have HP := Lib.hid (And.intro hL (And.intro hpn (show ∀ j (h : j < (row G p).length), ∃ g, ra = some ⟨g, 0, none⟩ ∧ g < w.heap.size ∧ w.cell? ⟨g, j, none⟩ = some (I (((row G p)[j] : Nat) : Int)) from fun j hj => by
              obtain ⟨rv', c0', hrv'⟩ := HH.out.1.row p (by rw [hGl]; exact hpn)
              have h1 := cell_belowB hS.be HH.out.1.lt c0'
              rw [c0] at h1
              cases h1
              rcases hrv' with ⟨_, h2⟩ | ⟨g, c, e, h2, h3⟩
              · rw [h2] at hj; exact absurd hj (by simp)
              · cases e; exact ⟨g, rfl, h2, h3 j hj⟩)))
            clear hgb hrv hL hpn hrw hS hle ht hf hp HR
            go_wp2_with fail
            go_loopw [8, 39] (fun mv jv W => R3 b0 N fr G but w bs0 p mv jv W) (fun _ jv _ => L - (intOf jv).toNat)
            case atStart => exact HR3.out
            case round =>
              obtain ⟨j, bs, m, hj, rfl, rfl, hS, hle, ht, hf⟩ := hrel
              by_cases hjl : j < L
              · have hjr : j < (row G p).length := by rw [← HP.out.1]; exact hjl
                obtain ⟨g, hra, hgl, c1w⟩ := HP.out.2.2 j hjr
                subst hra
                obtain ⟨x, hx⟩ : ∃ x, x = (row G p)[j] := ⟨_, rfl⟩
                rw [← hx] at c1w
                have c1 := cell_belowB hS.be hgl c1w
                have hxN : x < N := by rw [hx, ← hGl]; exact HH.out.2.1 p _ (List.getElem_mem hjr)
                have hxm : x ∈ row G p := by rw [hx]; exact List.getElem_mem hjr
                have htk : (row G p).take (j + 1) = (row G p).take j ++ [x] := by rw [List.take_add_one, List.getElem?_eq_getElem hjr, hx]; rfl
                obtain ⟨A, hA⟩ : ∃ A, A = bs.getD p false := ⟨_, rfl⟩
                obtain ⟨B, hB⟩ : ∃ B, B = bs.getD x false := ⟨_, rfl⟩
                have y0 := hS.kb.get p (.bool A) (by rw [hA]; exact arrB_getD bs p false (by rw [hS.ln]; exact HP.out.2.1))
                have y1 := hS.kb.get x (.bool B) (by rw [hB]; exact arrB_getD bs x false (by rw [hS.ln]; exact hxN))
                have y2 := hS.kb.free x
                have f0 : decide (j < L) = true := by simpa using hjl
                have f1 : (0 : Int) ≤ (j : Int) := by omega
                have f2 : (j : Int) < (L : Int) := by omega
                have f3 : (0 : Int) ≤ (x : Int) := by omega
                have f4 : (x : Int) < (N : Int) := by omega
                have f5 : (j : Int) ≤ 1000 := by omega
                have HX := Lib.hid (And.intro hjr (And.intro hS (And.intro hle (And.intro ht (And.intro hf (And.intro hA (And.intro hB (And.intro hxm (And.intro htk hxN)))))))))
                -- nothing is turned where one of the three tests fails
                have HSAME := Lib.hid (show (A = false ∨ ¬ okN but x ∨ B = true) → R3 b0 N fr G but w bs0 p (.bool m) (I ((j : Int) + 1)) wr from fun hno => ⟨j + 1, bs, m, hjr, rfl, rfl, hS, hle, ht, fun e => by
                  obtain ⟨q1, q2, q3⟩ := hf e
                  refine ⟨q1, q2, fun hp b hb hok => ?_⟩
                  rw [htk] at hb
                  rcases List.mem_append.1 hb with h1 | h1
                  · exact q3 hp b h1 hok
                  · obtain rfl : b = x := List.mem_singleton.1 h1
                    rw [← q1] at hp ⊢
                    rcases hno with h2 | h2 | h2
                    · rw [← hA, h2] at hp; cases hp
                    · exact absurd hok h2
                    · rw [← hB]; exact h2⟩)
                have HYES := Lib.hid (show A = true → okN but x → B = false → R3 b0 N fr G but w bs0 p (.bool true) (I ((j : Int) + 1)) (wr.setCell ⟨b0, x, none⟩ (.bool true)) from fun h1 h2 h3 =>
                  have hlt : cf (bs.set x true) < cf bs := cf_set bs x (by rw [hS.ln]; exact hxN) (by rw [← hB]; exact h3)
                  ⟨j + 1, bs.set x true, true, hjr, rfl, rfl, hS.set hxN (.step (hS.so p (by rw [← hA]; exact h1)) hxm h2), by omega, (fun _ => by omega), (fun e => absurd e (by decide))⟩)
                clear hx hxN hxm htk hA hB hjr hjl hS hle ht hf hj hgl c1w
                cases A
                · have HN := Lib.hid (HSAME.out (Or.inl rfl))
                  clear HSAME HYES
                  go_wp2_with fail
                  exact ⟨HN.out, by have h1 := HX.out.1; have h2 := HP.out.1; simp [intOf]; omega⟩
                · by_cases hxb : (x : Int) = but
                  · have g1 : ((x : Int) != but) = false := by simpa using hxb
                    have HN := Lib.hid (HSAME.out (Or.inr (Or.inl (fun h => h hxb))))
                    clear HSAME HYES hxb
                    go_wp2_with fail
                    exact ⟨HN.out, by have h1 := HX.out.1; have h2 := HP.out.1; simp [intOf]; omega⟩
                  · have g1 : ((x : Int) != but) = true := by simpa using hxb
                    cases B
                    · have HN := Lib.hid (HYES.out rfl hxb rfl)
                      clear HSAME HYES hxb
                      go_wp2_with fail
                      exact ⟨HN.out, by have h1 := HX.out.1; have h2 := HP.out.1; simp [intOf]; omega⟩
                    · have HN := Lib.hid (HSAME.out (Or.inr (Or.inr rfl)))
                      clear HSAME HYES hxb
                      go_wp2_with fail
                      exact ⟨HN.out, by have h1 := HX.out.1; have h2 := HP.out.1; simp [intOf]; omega⟩
              · have f0 : decide (j < L) = false := by simpa using hjl
                have hte : (row G p).take j = row G p := List.take_of_length_le (by rw [← HP.out.1]; omega)
                have HN := Lib.hid (show R2 b0 N fr G but w bs0 (.bool m) (I ((p : Int) + 1)) wr from ⟨p + 1, bs, m, HP.out.2.1, rfl, rfl, hS, hle, ht, fun e => by
                  obtain ⟨q1, q2, q3⟩ := hf e
                  refine ⟨q1, fun a ha => ?_⟩
                  rcases Nat.lt_or_ge a p with h1 | h1
                  · exact q2 a h1
                  · obtain rfl : a = p := by omega
                    rw [hte] at q3
                    exact q3⟩)
                clear hjl hte hS hle ht hf hj
                go_wp2_with fail
                exact ⟨HN.out, by have h1 := HP.out.2.1; simp [intOf]; omega⟩
          · have e0 : decide (p < N) = false := by simpa using hpn
            have HN := Lib.hid (show RO b0 N fr G but w (cf bs0) (.bool m) wr from ⟨bs, m, rfl, hS, (fun e => by
              obtain ⟨q1, q2⟩ := hf e
              rw [q1]
              rw [q1] at hS
              refine reach_done hS.so hS.ff (fun a ha => q2 a ?_ ha)
              rcases Nat.lt_or_ge a N with h1 | h1
              · omega
              · rw [List.getD_eq_getElem?_getD, List.getElem?_eq_none (by rw [hS.ln]; exact h1)] at ha
                cases ha), ht⟩)
            have HM := Lib.hid HS.out.2
            clear hpn hS hle ht hf hp HR
            go_wp2_with fail
            go_roundg (cf bs0)
            case rel => exact HN.out
            case measure => exact HM.out
end Go.Proofs.Ytomfmkddfgpmkaa
