/-
  A block: statements up to its end, kept in a list.
-/
import Derived.Test.YtcgllooeimacdaaGreatDoorTSm
import Derived.Maps.AppendAt
namespace Go.Proofs.YtcgllooeimacdaaGreatDoor
open Go Go.RowKit Px
open Lx (Tok)

theorem bodyF_succ (ts : List Tok) (f : Nat) (l : List Sm) (s : St) : bodyF ts (f + 1) l s = if (tk ts s.i).text = [125] then .ok (l, s) else bindR (smF ts f s) fun x s => bodyF ts f (l ++ [x]) s := by rw [bodyF]
theorem blockF_succ (ts : List Tok) (f : Nat) (s : St) : blockF ts (f + 1) s = bindR (expectR [123] ts s) fun _ s => bindR (bodyF ts f [] s) fun l s => bindR (expectR [125] ts s) fun _ s => .ok (l, s) := by rw [blockF]


/-- What holds ahead of each statement of a block: the list that there is, in a row of its own. -/
def BodyRel (b g cap : Nat) (ts : List Tok) (w : World) (F : Nat) (r0 : R (List Sm)) (gk : Nat) (v : Value) (wr : World) : Prop :=
  ∃ (l : List Sm) (s1 : St) (xs : List Value), gk ≤ F ∧ s1.n ≤ s1.i ∧ r0 = bodyF ts gk l s1 ∧ bodyF ts gk l s1 ≠ gone ∧ (∃ a m c, v = .slice a m c) ∧ wr.ownsRow w.heap.size 39 9 v l.length xs ∧ SmsC wr (fun h => w.heap.size ≤ h ∧ some h ≠ v.ownBlock) l xs ∧
    l.length + gk ≤ F ∧ (l = [] → v = .slice none 0 0) ∧ PW b g cap ts s1 wr ∧ w.grownBy wr (some b)

theorem Tryz.infoSm : (Tryz.prog.info? 39).map (fun i => (i.zero, i.size, i.bytes)) = some (some (.agg zSm), 9, 128) := by kernel_rfl

theorem sm_new (w : World) (k id : Nat) (nm : Bytes) (t n pos : Nat) (v1 v2 v3 : Value) : ∀ j u, (smCells k id nm t n pos v1 v2 v3).toList[j]? = some u → (w.alloc (.cells (smCells k id nm t n pos v1 v2 v3) 39)).cell? ((⟨w.heap.size, 0, none⟩ : Addr).add j) = some u := by
  intro j u hj
  have hadd : (⟨w.heap.size, 0, none⟩ : Addr).add j = ⟨w.heap.size, j, none⟩ := by unfold Addr.add; split <;> simp_all
  rw [hadd]
  exact (Blk.new w _ _).get j u (by rw [← Array.getElem?_toList]; exact hj)
theorem sm_one (k id : Nat) (nm : Bytes) (t n pos : Nat) (a1 : Option Addr) (m1 c1 : Nat) (a2 : Option Addr) (m2 c2 : Nat) (a3 : Option Addr) (m3 c3 : Nat) : ∀ u ∈ (smCells k id nm t n pos (.slice a1 m1 c1) (.slice a2 m2 c2) (.slice a3 m3 c3)).toList, u.oneCell' = true := by
  intro u hu
  simp only [List.mem_cons, List.not_mem_nil, or_false] at hu
  rcases hu with rfl | rfl | rfl | rfl | rfl | rfl | rfl | rfl | rfl <;> rfl

theorem _root_.Go.World.ownsRow.weaken_base {w : World} {B E size n : Nat} {v : Value} {xs : List Value} (h : w.ownsRow B E size v n xs) : w.ownsRow 0 E size v n xs := by
  obtain ⟨h1, h2⟩ := h
  refine ⟨h1, ?_⟩
  rcases h2 with h2 | ⟨g, cap, cur, hv, _, r⟩
  · exact Or.inl h2
  · exact Or.inr ⟨g, cap, cur, hv, Nat.zero_le _, r⟩
theorem grown_own {w w1 w2 : World} {b n E size : Nat} {v : Value} {xs : List Value} (h : w.grownBy w1 (some b)) (ho : w1.ownsRow w.heap.size E size v n xs) (hg : w1.grownBy w2 v.ownBlock) : w.grownBy w2 (some b) :=
  ⟨hg.os.trans h.os, hg.tape.trans h.tape, hg.output.trans h.output, Nat.le_trans h.size hg.size, fun i hi hne => (hg.block i (Nat.lt_of_lt_of_le hi h.size) (by intro e; have := (ho.lt i e.symm).1; omega)).trans (h.block i hi hne)⟩

/-- What an append leaves of a body: the statement that was read stands behind the others. -/
theorem body_grow {b g cap : Nat} {ts : List Tok} {s2 : St} {w wr w3 : World} {l : List Sm} {v : Value} {xs : List Value} {x : Sm} {cs : Array Value} (hlt : b < w.heap.size) (hgl : g < w.heap.size)
    (ho : wr.ownsRow w.heap.size 39 9 v l.length xs) (hx : SmsC wr (fun h => w.heap.size ≤ h ∧ some h ≠ v.ownBlock) l xs) (hgr : w.grownBy wr (some b)) (hg3 : wr.grownBy w3 (some b)) (hp : PW b g cap ts s2 w3) (hs : SmC w3 (fun h => wr.heap.size ≤ h) x cs.toList) :
    w3.ownsRow w.heap.size 39 9 v l.length xs ∧ ∀ W, W = w3.alloc (.cells cs 39) → ∀ v' w4, w4.ownsRow w.heap.size 39 9 v' (l.length + 1) (xs ++ cs.toList) → W.grownBy w4 v.ownBlock → (v'.ownBlock = v.ownBlock ∨ v'.ownBlock = some W.heap.size) →
      w4.ownsRow w.heap.size 39 9 v' (l ++ [x]).length (xs ++ cs.toList) ∧ SmsC w4 (fun h => w.heap.size ≤ h ∧ some h ≠ v'.ownBlock) (l ++ [x]) (xs ++ cs.toList) ∧ PW b g cap ts s2 w4 ∧ w.grownBy w4 (some b) := by
  have hbv : v.ownBlock ≠ some b := by intro e; have := (ho.lt b e).1; omega
  have hgv : v.ownBlock ≠ some g := by intro e; have := (ho.lt g e).1; omega
  have hvl : ∀ h, v.ownBlock = some h → h < wr.heap.size := fun h e => (ho.lt h e).2
  have ho3 : w3.ownsRow w.heap.size 39 9 v l.length xs := ho.kept hg3 (by cases hu : v.ownBlock with | none => exact Or.inl rfl | some h => exact Or.inr (by rw [hu] at hbv; exact hbv))
  have hsz := hg3.size
  have hszr := hgr.size
  refine ⟨ho3, ?_⟩
  intro W hW v' w4 ho4 hg4 hat
  have hbW : Below w3.heap.size w3 W := by rw [hW]; exact (Below.refl _ _).alloc (Nat.le_refl _) _
  have hWs : W.heap.size = w3.heap.size + 1 := by rw [hW]; simp
  have hnew : ∀ h, w.heap.size ≤ h ∧ h < w3.heap.size ∧ some h ≠ v.ownBlock → some h ≠ v'.ownBlock := by
    intro h hh e
    rcases hat with e1 | e1
    · exact hh.2.2 (e.trans e1)
    · rw [e1] at e; cases e; omega
  have e1 : SmsC w4 (fun h => w.heap.size ≤ h ∧ some h ≠ v'.ownBlock) l xs := by
    have a1 : SmsC w3 (fun h => w.heap.size ≤ h ∧ h < w3.heap.size ∧ some h ≠ v.ownBlock) l xs := SmsC.stays (ok' := fun h => w.heap.size ≤ h ∧ h < w3.heap.size ∧ some h ≠ v.ownBlock) (fun h hh hl => ⟨hg3.block h hl (by simp; omega), hh.1, by omega, hh.2⟩) l xs hx
    refine SmsC.stays (fun h hh hl => ⟨(hg4.block h (by omega) hh.2.2).trans (hbW.block h hl), hh.1, hnew h hh⟩) l xs a1
  have e2 : SmC w4 (fun h => w.heap.size ≤ h ∧ some h ≠ v'.ownBlock) x cs.toList := by
    refine SmC.stays (fun h hh hl => ?_) x cs.toList hs
    have hne : some h ≠ v.ownBlock := by intro e; have := hvl h e.symm; omega
    exact ⟨(hg4.block h (by omega) hne).trans (hbW.block h hl), by omega, hnew h ⟨by omega, hl, hne⟩⟩
  refine ⟨by rw [List.length_append]; exact ho4, SmsC_snoc e2 l xs e1, (hp.below hbW).other hg4 (Ne.symm hbv) (Ne.symm hgv), ?_⟩
  exact grown_own (gtrans (gtrans hgr hg3) (grown_of_below hbW)) (by rw [hW]; exact ho3.alloc _) hg4

set_option maxRecDepth 100000 in
set_option maxHeartbeats 2000000 in
theorem block_step {F : Nat} (hS : ∀ k, k ≤ F → SmCt k) : BlkC (F + 1) := by
  intro b g cap ts s w hw hn hF hne
  rw [blockF_succ] at hne
  have HRB := Lib.hid (blockF_succ ts F s)
  have HNE := Lib.hid hne
  have HW := Lib.hid hw
  have hlt := hw.blk.lt
  have hgl := hw.toks.lt
  have HE1 := Lib.hid (expect_any b g cap ts s [123] (by simp) w hw)
  have HIs := Lib.hid fun s' w1 (h1 : PW b g cap ts s' w1) => is_any b g cap ts s' [125] w1 h1
  have HExp := Lib.hid fun s' w1 (h1 : PW b g cap ts s' w1) => expect_any b g cap ts s' [125] (by simp) w1 h1
  have HSm := Lib.hid fun F' s' w1 (h0 : F' ≤ F) (h1 : PW b g cap ts s' w1) (h : s'.n ≤ s'.i) (h2 : smF ts F' s' ≠ gone) => hS F' h0 b g cap ts s' w1 h1 h (by omega) h2
  obtain ⟨i0, hi, hz0, hz1, hz2⟩ := info_parts Tryz.infoSm
  clear hw hne hS
  go_enter Tryz.func55, Tryz.ntmps55
  go_wp2_with fail
  refine HE1.out.mono ?_
  rintro e w1 h1
  rcases h1.elim with ⟨pn, hr, hg, rfl⟩ | ⟨⟨q0, q1, q2, q3⟩, s1, hr, hg, rfl, hp⟩
  · have FIN := Lib.hid (RPost.err (α := List Sm) (g := g) (cap := cap) (ts := ts) (V := smsE w.heap.size) (HRB.out.trans (by rw [hr]; rfl)) hg)
    clear hg hr h1
    go_wp2
    exact ⟨rfl, FIN.out⟩
  · have hne2 := HNE.out
    rw [hr, bindR_ok] at hne2
    have HNE2 := Lib.hid hne2
    have HR1 := Lib.hid (HRB.out.trans (by rw [hr, bindR_ok]))
    have HREL := Lib.hid (show BodyRel b g cap ts w F (bodyF ts F [] s1) F (.slice none 0 0) w1 from ⟨[], s1, [], Nat.le_refl _, by have := expectR_bal hr; unfold Bal at this; omega, rfl, bindR_gone hne2, ⟨_, _, _, rfl⟩, World.ownsRow_nil _ _ _ _, rfl, by simp, fun _ => rfl, hp, hg⟩)
    clear hg hr h1 hp hne2
    unfold tokV'
    go_upto_region 3 with (fail)
    clear HNE HE1
    go_loopg [3] F (fun gk v wr => BodyRel b g cap ts w F (bodyF ts F [] s1) gk v wr)
    case atStart => exact HREL.out
    case round =>
      obtain ⟨l, s2, xs, hgk, hnn, h0, hng, ⟨a, m, c, rfl⟩, ho, hx, hll, hnil, hp, hg⟩ := hrel
      cases gk with
      | zero => exact absurd (by rw [bodyF]) hng
      | succ gk =>
        have HI := HIs.out s2 wr hp
        rw [bodyF_succ] at h0 hng
        have HR := Lib.hid (And.intro ho (And.intro hx (And.intro hnil (And.intro hp hg))))
        clear ho hx hnil hp hg
        by_cases hend : (tk ts s2.i).text = [125]
        · rw [if_pos hend] at h0
          have H0 := Lib.hid h0
          have hq : ((tk ts s2.i).text == [125]) = true := by simpa using hend
          rw [hq] at HI
          have HI := Lib.hid HI
          clear hend hq h0 hng
          go_wp2_with fail
          refine HI.out.mono ?_
          rintro e w2 ⟨rfl, hb2⟩
          have HE := Lib.hid (HExp.out s2 w2 (HR.out.2.2.2.1.below hb2))
          have HB2 := Lib.hid hb2
          clear hb2
          go_wp2_with fail
          refine HE.out.mono ?_
          rintro e w3 h3
          rcases h3.elim with ⟨pn, hr, hg, rfl⟩ | ⟨⟨z0, z1, z2, z3⟩, s3, hr, hg, rfl, hp⟩
          · have FIN := Lib.hid (RPost.err (α := List Sm) (g := g) (cap := cap) (ts := ts) (V := smsE w.heap.size) (HR1.out.trans (by rw [H0.out, bindR_ok, hr]; rfl)) (gtrans (row := some b) (gtrans HR.out.2.2.2.2 (grown_of_below HB2.out)) hg))
            clear hg hr h3
            go_wp2
            exact ⟨rfl, FIN.out⟩
          · have hfin : SmRow w3 (fun h => w.heap.size ≤ h) l (.slice a m c) := by
              obtain ⟨ho, hx, hnil, _, _⟩ := HR.out
              rcases own_slice ho with ⟨e, hl⟩ | ⟨gg, cc, e⟩
              · exact Or.inl ⟨List.length_eq_zero_iff.1 hl, e⟩
              · rw [e] at ho hx ⊢
                have hgb : gg ≠ b := by have := (ho.lt gg rfl).1; omega
                have h1 : w3.heap[gg]? = wr.heap[gg]? := (hg.block gg (Nat.lt_of_lt_of_le (ho.lt gg rfl).2 HB2.out.size) (by simpa using hgb)).trans (HB2.out.block gg (ho.lt gg rfl).2)
                refine Or.inr ⟨gg, cc, xs, rfl, (ho.lt gg rfl).1, owns_stays (ho.weaken_base) h1, ?_⟩
                exact SmsC.stays (ok' := fun h => w.heap.size ≤ h) (fun h hh hl => ⟨(hg.block h (Nat.lt_of_lt_of_le hl HB2.out.size) (by simp; omega)).trans (HB2.out.block h hl), hh.1⟩) l xs hx
            have FIN := Lib.hid (RPost.ok (V := smsE w.heap.size) (e := .returned (.slice a m c)) (HR1.out.trans (by rw [H0.out, bindR_ok, hr, bindR_ok])) (gtrans (row := some b) (gtrans HR.out.2.2.2.2 (grown_of_below HB2.out)) hg) ⟨a, m, c, rfl, hfin⟩ hp)
            clear hg hr h3 hp hfin
            unfold tokV'
            go_wp2
            go_ret
            exact FIN.out
        · rw [if_neg hend] at h0 hng
          have H0 := Lib.hid h0
          have HNG := Lib.hid hng
          have hq : ((tk ts s2.i).text == [125]) = false := by simpa using hend
          rw [hq] at HI
          have HI := Lib.hid HI
          clear hend hq h0 hng
          go_wp2_with fail
          refine HI.out.mono ?_
          rintro e w2 ⟨rfl, hb2⟩
          have HS := Lib.hid (HSm.out gk s2 w2 (by omega) (HR.out.2.2.2.1.below hb2) hnn (bindR_gone HNG.out))
          have HB2 := Lib.hid hb2
          clear hb2
          go_wp2_with fail
          refine HS.out.mono ?_
          rintro e w3 h3
          rcases h3.elim with ⟨pn, hr, hg, rfl⟩ | ⟨x, s3, hr, hg, ⟨k, id, nm, t, n, pos, a1, m1, c1, a2, m2, c2, a3, m3, c3, rfl, hx3⟩, hp⟩
          · have FIN := Lib.hid (RPost.err (α := List Sm) (g := g) (cap := cap) (ts := ts) (V := smsE w.heap.size) (HR1.out.trans (by rw [H0.out, hr]; rfl)) (gtrans (row := some b) (gtrans HR.out.2.2.2.2 (grown_of_below HB2.out)) hg))
            clear hg hr h3
            go_wp2
            exact ⟨rfl, FIN.out⟩
          · obtain ⟨ho3, HBG⟩ := body_grow hlt hgl HR.out.1 HR.out.2.1 HR.out.2.2.2.2 (gtrans (grown_of_below HB2.out) hg) hp (SmC.stays (ok' := fun h => wr.heap.size ≤ h) (stays_weaken fun h hh _ => Nat.le_trans HB2.out.size hh) x _ hx3)
            have HO3 := Lib.hid ho3
            have HBG := Lib.hid HBG
            have hsz3 : w.heap.size ≤ w3.heap.size := Nat.le_trans HR.out.2.2.2.2.size (Nat.le_trans HB2.out.size hg.size)
            have HNG3 := Lib.hid (show bodyF ts gk (l ++ [x]) s3 ≠ gone by have := HNG.out; rw [hr, bindR_ok] at this; exact this)
            have H03 := Lib.hid (H0.out.trans (by rw [hr, bindR_ok]))
            have hn3 : s3.n ≤ s3.i := by have := (stmts_bal ts gk).2.2 _ _ _ hr; unfold Bal at this; omega
            clear hg hr h3 hp hx3 ho3
            have hb1 : (l.length + 1) * 128 ≤ 140737488355328 := by omega
            have hm1 : l.length + 1 ≤ maxLen := by unfold maxLen; omega
            have HSZ := Lib.hid (And.intro hb1 (And.intro hm1 (show w.heap.size ≤ (w3.alloc (.cells (smCells k id nm t n pos (.slice a1 m1 c1) (.slice a2 m2 c2) (.slice a3 m3 c3)) 39)).heap.size by simp; omega)))
            clear hb1 hm1
            go_wp2_with (at_builtin; refine Hid.out ?_)
            unfold Hid
            refine wpList_append_own_at _ rfl _ _ 37 rfl w.heap.size 39 i0 _ 9 128 Tryz.underlying37 hi hz0 hz1 hz2 rfl (by decide) _ _ _ rfl (HO3.out.alloc _) ⟨w3.heap.size, 0, none⟩ 1 1 (smCells k id nm t n pos (.slice a1 m1 c1) (.slice a2 m2 c2) (.slice a3 m3 c3)).toList rfl rfl (sm_new w3 k id nm t n pos _ _ _) (sm_one k id nm t n pos a1 m1 c1 a2 m2 c2 a3 m3 c3) HSZ.out.2.1 HSZ.out.1 HSZ.out.2.2 ?_
            intro v' w4 ho4 hg4 hnl hat
            have hfin := HBG.out _ rfl v' w4 ho4 hg4 hat
            have hvs : ∃ a m c, v' = .slice a m c := by
              rcases own_slice ho4 with ⟨e, _⟩ | ⟨gg, cc, e⟩
              · exact ⟨_, _, _, e⟩
              · exact ⟨_, _, _, e⟩
            have FIN := Lib.hid (And.intro hfin hvs)
            clear ho4 hg4 hnl hat hfin hvs
            go_wp2
            go_roundg gk
            case measure => omega
            case rel =>
              obtain ⟨⟨f1, f2, f3, f4⟩, f5⟩ := FIN.out
              exact ⟨l ++ [x], s3, _, by omega, hn3, H03.out, HNG3.out, f5, f1, f2, by simp; omega, fun h => by simp at h, f3, f4⟩

theorem all_S : ∀ F, (∀ k, k ≤ F → SmCt k) ∧ (∀ k, k ≤ F → BlkC k)
  | 0 => by
    refine ⟨fun k hk => ?_, fun k hk => ?_⟩
    · obtain rfl : k = 0 := by omega
      exact fun b g cap ts s w _ _ _ h => absurd (by rw [smF]) h
    · obtain rfl : k = 0 := by omega
      exact fun b g cap ts s w _ _ _ h => absurd (by rw [blockF]) h
  | F + 1 => by
    obtain ⟨h1, h2⟩ := all_S F
    refine ⟨fun k hk => ?_, fun k hk => ?_⟩
    · rcases Nat.lt_or_ge k (F + 1) with h | h
      · exact h1 k (by omega)
      · obtain rfl : k = F + 1 := by omega
        exact statement_step (h2 F (Nat.le_refl _))
    · rcases Nat.lt_or_ge k (F + 1) with h | h
      · exact h2 k (by omega)
      · obtain rfl : k = F + 1 := by omega
        exact block_step h1
theorem blkC (F : Nat) : BlkC F := (all_S F).2 F (Nat.le_refl _)
end Go.Proofs.YtcgllooeimacdaaGreatDoor
