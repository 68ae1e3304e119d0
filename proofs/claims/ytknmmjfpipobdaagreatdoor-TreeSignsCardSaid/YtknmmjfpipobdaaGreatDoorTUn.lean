/-
  Unary expressions and operands.
-/
import Derived.Test.YtknmmjfpipobdaaGreatDoorTBin
namespace Go.Proofs.YtknmmjfpipobdaaGreatDoor
open Go Go.RowKit Px
open Lx (Tok)

set_option maxRecDepth 100000 in
/-- Another token stands there: nothing has turned. -/
theorem accept_no (b g cap : Nat) (ts : List Tok) (s : St) (x : Bytes) (w : World) (hw : PW b g cap ts s w) (h : (tk ts s.i).text ≠ x) :
    Calls Tryz.prog 53 #[.pointer (some ⟨b, 0, none⟩), .string ⟨x.toArray⟩] w fun e w' => e = .returned (.bool false) ∧ Below w.heap.size w w' := by
  have HN := Lib.hid (is_any b g cap ts s x w hw)
  have hq : ((tk ts s.i).text == x) = false := by simpa using h
  rw [hq] at HN
  clear h hq hw
  go_enter Tryz.func53, Tryz.ntmps53
  go_wp2_with fail
  refine HN.out.mono ?_
  rintro e w1 ⟨rfl, hb⟩
  have HB := Lib.hid hb
  clear hb
  go_wp2
  go_ret
  exact ⟨rfl, HB.out⟩

/-- That token stands there, and is taken. -/
theorem accept_yes (b g cap : Nat) (ts : List Tok) (s : St) (x : Bytes) (hx : x ≠ []) (w : World) (hw : PW b g cap ts s w) (h : (tk ts s.i).text = x) :
    Calls Tryz.prog 53 #[.pointer (some ⟨b, 0, none⟩), .string ⟨x.toArray⟩] w (RPost b g cap ts w (fun _ e _ => e = .returned (.bool true)) (takeR ts s)) := by
  refine (accept_any b g cap ts s x hx w hw).mono ?_
  intro e w' h1
  have e1 : acceptR x ts s = bindR (takeR ts s) fun _ s => .ok (true, s) := by unfold acceptR; rw [if_pos h]
  rcases h1.elim with ⟨pn, hr, hg, rfl⟩ | ⟨a, s', hr, hg, rfl, hp⟩
  · refine RPost.err ?_ hg
    rw [e1] at hr
    rcases h4 : takeR ts s with pn' | ⟨a, s'⟩
    · rw [h4] at hr; simpa [bindR] using hr
    · rw [h4] at hr; simp [bindR] at hr
  · rw [e1] at hr
    rcases h4 : takeR ts s with pn' | ⟨a', s''⟩
    · rw [h4] at hr; simp [bindR] at hr
    · rw [h4] at hr
      simp only [bindR, Except.ok.injEq, Prod.mk.injEq] at hr
      obtain ⟨rfl, rfl⟩ := hr
      exact ⟨hg, rfl, hp⟩

set_option maxRecDepth 100000 in
set_option maxHeartbeats 1000000 in
theorem unary_step {F : Nat} (hO : OpC F) : UnC (F + 1) := by
  intro b g cap ts s w hw hne
  rw [unF] at hne
  by_cases hpre : prefixOf (tk ts s.i).text = 0
  · rw [if_pos hpre] at hne
    have HRB := Lib.hid (show unF ts (F + 1) s = opF ts F s by rw [unF, if_pos hpre])
    obtain ⟨W, hW⟩ : ∃ W, W = w.alloc ex0 := ⟨_, rfl⟩
    have hbW : Below w.heap.size w W := by rw [hW]; exact (Below.refl _ _).alloc (Nat.le_refl _) _
    have hz : Blk w.heap.size zEx 36 W := by rw [hW]; exact Blk.new _ _ _
    have HN := Lib.hid (next_any b g cap ts s W (hw.below hbW))
    have HW := Lib.hid hw
    have HH := Lib.hid (And.intro hbW hz)
    have HWW := Lib.hid hW
    have HO := Lib.hid fun w1 (h1 : PW b g cap ts s w1) => hO b g cap ts s w1 h1 hne
    have hlt := hw.blk.lt
    have HP := Lib.hid (prefix_any (tk ts s.i).text)
    have HPR := Lib.hid hpre
    have hzl := hz.lt
    clear hw hbW hz hW hne hO hpre
    rcases htk : tk ts s.i with ⟨t0, t1, t2, t3⟩
    simp only [htk] at HN HP HPR
    clear htk
    go_enter Tryz.func141, Tryz.ntmps141
    go_wp2_with fail
    rw [← HWW.out]
    refine HN.out.mono ?_
    rintro e w1 ⟨rfl, hb1⟩
    unfold tokV'
    obtain ⟨V, hV⟩ : ∃ V, V = w1.alloc (.cells #[.int .u8 (t0 : Int), .int .i64 (t1 : Int), .string ⟨t2.toArray⟩, .int .i64 (t3 : Int)] 55) := ⟨_, rfl⟩
    have hbV : Below w.heap.size w V := by rw [hV]; exact (HH.out.1.trans (hb1.mono HH.out.1.size)).alloc (by have := hb1.size; omega) _
    have hzV : Blk w.heap.size zEx 36 V := by rw [hV]; exact (HH.out.2.below hb1 hzl).below ((Below.refl _ _).alloc (Nat.le_refl _) _) (by have := hb1.size; omega)
    have htV : Blk w1.heap.size #[.int .u8 (t0 : Int), .int .i64 (t1 : Int), .string ⟨t2.toArray⟩, .int .i64 (t3 : Int)] 55 V := by rw [hV]; exact Blk.new _ _ _
    obtain ⟨c0, c1, c2, c3⟩ := htV.get4
    have hVs : w.heap.size < V.heap.size := by have := hzV.lt; exact this
    have HV := Lib.hid (And.intro hbV hzV)
    have HVV := Lib.hid hV
    clear hb1 hbV hzV htV hV
    go_upto_region 2 with (fail)
    rw [← HVV.out]
    go_wp2_with fail
    refine (HP.out V).mono ?_
    rintro e V' ⟨rfl, rfl⟩
    rw [HPR.out]
    go_wp2_with fail
    refine (HO.out V (HW.out.below HV.out.1)).mono ?_
    rintro e w2 h2
    rcases h2.elim with ⟨pn, hr, hg, rfl⟩ | ⟨x, s', hr, hg, ⟨k, op, nm, n, pos, a, m, c, rfl, hx⟩, hp⟩
    · have FIN := Lib.hid (RPost.err (α := Ex) (g := g) (cap := cap) (ts := ts) (V := exE w.heap.size) (HRB.out.trans hr) (gtrans (row := some b) (grown_of_below HV.out.1) hg))
      clear hg hr h2
      go_wp2
      exact ⟨rfl, FIN.out⟩
    · have hz1 := HV.out.2.other hg (by simp; omega)
      have HR := Lib.hid (HRB.out.trans hr)
      have FIN := Lib.hid (ex_fin HW.out (gtrans (row := some b) (grown_of_below HV.out.1) hg) hz1 hp (hx.stays (stays_weaken fun k hk _ => by omega)))
      obtain ⟨z0, z1, z2, z3, z4, z5⟩ := hz1.get6
      obtain ⟨f0, f1, f2, f3, f4, f5⟩ := hz1.free6
      clear hg hp hz1 hr h2 hx c0 c1 c2 c3
      go_wp2
      rw [← set6_eq]
      obtain ⟨y0, y1, y2, y3, y4, y5⟩ := FIN.out.1.get6
      clear z0 z1 z2 z3 z4 z5 f0 f1 f2 f3 f4 f5
      exact bodyPost_ret (v := .agg (exCells k op nm n pos a m c)) (by simp [results, Tryz.results141, go_sem, y0, y1, y2, y3, y4, y5]) rfl (RPost.ok HR.out FIN.out.2.1 FIN.out.2.2.2 FIN.out.2.2.1)
  · rw [if_neg hpre] at hne
    exact absurd rfl hne

/-- The boxes of an operand: the result's, the token's, the expression's that is being made. -/
structure OpW (b g cap : Nat) (ts : List Tok) (s : St) (w : World) (M : Nat) (t : Tok) (cs : Array Value) (w' : World) : Prop where
  grown : w.grownBy w' (some b)
  res : Blk w.heap.size zEx 36 w'
  tok : Blk M #[.int .u8 (t.kind : Int), .int .i64 (t.pos : Int), .string ⟨t.text.toArray⟩, .int .i64 (t.num : Int)] 55 w'
  box : Blk (M + 1) cs 36 w'
  pw : PW b g cap ts s w'
  lt : w.heap.size < M

theorem OpW.below {b g cap : Nat} {ts : List Tok} {s : St} {w w1 w2 : World} {M : Nat} {t : Tok} {cs : Array Value} (h : OpW b g cap ts s w M t cs w1) (hb : Below w1.heap.size w1 w2) : OpW b g cap ts s w M t cs w2 :=
  ⟨gtrans h.grown (grown_of_below hb), h.res.below hb h.res.lt, h.tok.below hb h.tok.lt, h.box.below hb h.box.lt, h.pw.below hb, h.lt⟩
theorem OpW.other {b g cap : Nat} {ts : List Tok} {s s' : St} {w w1 w2 : World} {M : Nat} {t : Tok} {cs : Array Value} (hlt : b < w.heap.size) (h : OpW b g cap ts s w M t cs w1) (hg : w1.grownBy w2 (some b)) (hp : PW b g cap ts s' w2) : OpW b g cap ts s' w M t cs w2 :=
  ⟨gtrans h.grown hg, h.res.other hg (by simp; omega), h.tok.other hg (by have := h.lt; simp; omega), h.box.other hg (by have := h.lt; simp; omega), hp, h.lt⟩
end Go.Proofs.YtknmmjfpipobdaaGreatDoor
