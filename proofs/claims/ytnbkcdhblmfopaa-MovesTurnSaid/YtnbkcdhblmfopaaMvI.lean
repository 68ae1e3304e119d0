/-
  The rings of a tangle: walked.
-/
import Derived.Test.YtnbkcdhblmfopaaMvO
namespace Go.Proofs.Ytnbkcdhblmfopaa
open Go Go.RowKit Go.Maps Mv

/-- A list of moves in a list of lists. -/
def CirV (S : Nat → Prop) (W : World) (vs : List Value) (cm : List M) : Prop := ∃ sv, vs = [sv] ∧ SlS S 2 MovV W sv cm
theorem cirV_stays : StaysV CirV := fun _ _ _ _ _ _ ⟨sv, h1, h2⟩ he hS => ⟨sv, h1, h2.keep movV_stays he hS⟩
theorem OwnS.apart {base : Nat} {E : TypeId} {k : Nat} {α : Type} {V : (Nat → Prop) → World → List Value → α → Prop} {WS W : World} {v : Value} {l : List α} (hV : StaysV V) (h : OwnS base E k V WS v l) (he : ∀ n, base ≤ n → n < WS.heap.size → W.heap[n]? = WS.heap[n]?) (hz : WS.heap.size ≤ W.heap.size) : OwnS base E k V W v l := by
  obtain ⟨cs, h1, h2, h3, h4⟩ := h
  refine ⟨cs, h1, h2, ⟨h3.1, ?_⟩, fun i hi hi' => stayF hV (h4 i hi hi') (fun n hn => he n hn.1 hn.2.1) (fun n hn => ⟨hn.1, Nat.lt_of_lt_of_le hn.2.1 hz, hn.2.2⟩)⟩
  rcases h3.2 with h5 | ⟨g, cap, cur, e, hb, hg, h6⟩
  · exact Or.inl h5
  · exact Or.inr ⟨g, cap, cur, e, hb, (he g hb (Array.getElem?_eq_some_iff.1 hg).1).trans hg, h6⟩
theorem infoSm : (Try.prog.info? 24).map (fun i => (i.zero, i.size, i.bytes)) = some (some (.slice none 0 0), 1, 24) := by kernel_rfl
def mvs (l : List M) (css : List (List Nat)) : List (List M) := css.map fun c => c.map (mv l)
theorem mvs_app (l : List M) (css : List (List Nat)) (c : List Nat) : mvs l (css ++ [c]) = mvs l css ++ [c.map (mv l)] := by simp [mvs]

def CicT (w : World) (l : List M) (base bd : Nat) (dn : Nat → Bool) (W : World) (e : Ending) : Prop :=
  ∃ v css, e = .returned v ∧ OwnS w.heap.size 24 1 CirV W v (mvs l css) ∧ Out l dn css l.length ∧ Below base w W ∧ ∀ k, k < w.heap.size → k ≠ bd → W.heap[k]? = w.heap[k]?
structure CiV (w : World) (l : List M) (base bt bm ba bd : Nat) (lv : Value) (ask : Nat → Nat) (dn : Nat → Bool) (ov : Value) (css : List (List Nat)) (i : Nat) (W : World) : Prop where
  u : Out l dn css i
  t : Tang l base bt bm ba bd lv l.length ask (dnC dn css.flatten) W
  o : OwnS w.heap.size 24 1 CirV W ov (mvs l css)
  b : Below base w W
  z : w.heap.size ≤ W.heap.size
  m : css.length ≤ i
  a : ∀ k, k < w.heap.size → k ≠ bd → W.heap[k]? = w.heap[k]?
def CiR (w : World) (l : List M) (base bt bm ba bd : Nat) (lv : Value) (ask : Nat → Nat) (dn : Nat → Bool) (ov iv : Value) (W : World) : Prop := ∃ i css, i ≤ l.length ∧ iv = I (i : Int) ∧ CiV w l base bt bm ba bd lv ask dn ov css i W
structure InV (w WS : World) (l : List M) (base bt bm ba bd : Nat) (lv : Value) (ask : Nat → Nat) (dn : Nat → Bool) (first : Nat) (c : List Nat) (i : Nat) (cv : Value) (W : World) : Prop where
  inn : Inn l dn first c i
  il : i < l.length
  t : Tang l base bt bm ba bd lv l.length ask (dnC dn c) W
  o : MovO W WS.heap.size 32 cv (c.map (mv l))
  b : Below base w W
  a : ∀ k, k < WS.heap.size → k ≠ bd → W.heap[k]? = WS.heap[k]?
  z : WS.heap.size ≤ W.heap.size
  m : c.Nodup ∧ ∀ x ∈ c, x < l.length
def CiI (w WS : World) (l : List M) (base bt bm ba bd : Nat) (lv : Value) (ask : Nat → Nat) (dn : Nat → Bool) (first gk : Nat) (cv iv : Value) (W : World) : Prop := ∃ (c : List Nat) (i : Nat), iv = I (i : Int) ∧ InV w WS l base bt bm ba bd lv ask dn first c i cv W ∧ ct l.length (fun j => !dnC dn c j) < gk

set_option maxRecDepth 100000 in
set_option maxHeartbeats 3200000 in
theorem circles_any (base bt bm ba bd : Nat) (lv : Value) (l : List M) (hl : l.length ≤ 1000) (hwf : WfL l) (hd : Dis l) (ask : Nat → Nat) (dn : Nat → Bool) (hp : Perm l dn) (w : World) (h : Tang l base bt bm ba bd lv l.length ask dn w) :
    Calls Try.prog 17 #[.pointer (some ⟨bt, 0, none⟩)] w fun e w' => CicT w l base bd dn w' e := by
  obtain ⟨i0, p1, p2, p3, p4⟩ := info_parts infoSm
  have HI := Lib.hid (And.intro p1 (And.intro p2 (And.intro p3 p4)))
  clear p1 p2 p3 p4
  obtain ⟨i1, p1, p2, p3, p4⟩ := info_parts infoMm
  have HM := Lib.hid (And.intro p1 (And.intro p2 (And.intro p3 p4)))
  clear p1 p2 p3 p4
  obtain ⟨n, hn⟩ : ∃ n, n = l.length := ⟨_, rfl⟩
  obtain ⟨la, lc, hlv⟩ := h.ls.size
  rw [← hn] at hlv
  have hnb : (n : Int) ≤ 1000 := by omega
  have t0 := h.tb.get 0 lv rfl
  rw [hlv] at t0
  have htl : bt < w.heap.size ∧ bm < w.heap.size ∧ ba < w.heap.size ∧ bd < w.heap.size := ⟨h.tb.lt, h.mp.lt, h.ab.lt, h.db.lt⟩
  have HST := Lib.hid (show CiR w l base bt bm ba bd lv ask dn (.slice none 0 0) (I 0) w from ⟨0, [], Nat.zero_le _, rfl, out_start hp, by rw [List.flatten_nil, dnC_nil]; exact h, OwnS.start, Below.refl _ _, Nat.le_refl _, Nat.le_refl _, fun _ _ _ => rfl⟩)
  have HH := Lib.hid (And.intro h (And.intro hn (And.intro hl (And.intro hwf (And.intro hd (And.intro hlv htl))))))
  clear h hn hl hwf hd htl hlv hp
  go_enter Try.func17, Try.ntmps17
  go_wp2_with fail
  go_loopw [3, 12] (fun ov iv W => CiR w l base bt bm ba bd lv ask dn ov iv W) (fun _ iv _ => n - (intOf iv).toNat)
  case atStart => exact HST.out
  case round =>
    obtain ⟨i, css, hi, rfl, hv⟩ := hrel
    by_cases hin : i < n
    · have hil : i < l.length := by rw [← HH.out.2.1]; exact hin
      have d0 : decide (i < n) = true := by simpa using hin
      have d1 : (0 : Int) ≤ (i : Int) := by omega
      have d2 : (i : Int) < (n : Int) := by omega
      have hbz : base ≤ wr.heap.size := by have := HH.out.1.lt.1; have := HH.out.2.2.2.2.2.2.1; have := hv.z; omega
      have HS := Lib.hid (show CiI w wr l base bt bm ba bd lv ask (dnC dn css.flatten) i (n + 1) (.slice none 0 0) (I (i : Int)) wr from ⟨[], i, rfl, ⟨inn_start hil, hil, by rw [dnC_nil]; exact hv.t, MovO.start, hv.b, fun _ _ _ => rfl, Nat.le_refl _, List.nodup_nil, fun x hx => by cases hx⟩, by have := ct_le (f := fun j => !dnC (dnC dn css.flatten) [] j) (n := l.length); have := HH.out.2.1; omega⟩)
      have HV := Lib.hid (And.intro hv (And.intro hil (And.intro hin hbz)))
      obtain ⟨WS, hWS⟩ : ∃ W, W = wr := ⟨_, rfl⟩
      rw [← hWS] at HS HV
      have HWS := Lib.hid hWS
      clear hv hil hin hi hbz hWS
      go_wp2_with fail
      go_loopg [5, 6] (n + 1) (fun gk cv iv W => CiI w WS l base bt bm ba bd lv ask (dnC dn css.flatten) i gk cv iv W)
      case atStart => rw [← HWS.out]; exact HS.out
      case round =>
        obtain ⟨c, q, rfl, hI, hmu⟩ := hrel
        obtain ⟨k, rfl⟩ : ∃ k, gk = k + 1 := ⟨gk - 1, by omega⟩
        cases hdd : dnC (dnC dn css.flatten) c q with
        | false =>
          have hol : c.length ≤ 1000 := by
            have h1 := hI.m.1.length_le_of_subset (l₂ := List.range l.length) (fun x hx => List.mem_range.2 (hI.m.2 x hx))
            rw [List.length_range] at h1
            have := HH.out.2.2.1
            omega
          have hqc : q ∉ c := (dnC_false.1 hdd).2
          have hlS := HV.out.1.z
          obtain ⟨h1t, h2t, h3t, h4t⟩ := HH.out.2.2.2.2.2.2
          obtain ⟨oa, oc, hov⟩ := hI.o.row
          have t3 := hI.t.tb.get 3 (.slice (some ⟨bd, 0, none⟩) l.length l.length) rfl
          rw [← HH.out.2.1] at t3
          have z3 := hI.t.db.get q (.bool (dnC (dnC dn css.flatten) c q)) (arrF_get (fun x => Value.bool (dnC (dnC dn css.flatten) c x)) hI.il)
          rw [hdd] at z3
          have f3 := hI.t.db.free q
          obtain ⟨W1, hW1⟩ : ∃ W, W = wr.setCell ⟨bd, q, none⟩ (.bool true) := ⟨_, rfl⟩
          have tg1 : Tang l base bt bm ba bd lv l.length ask (dnC (dnC dn css.flatten) (c ++ [q])) W1 := by
            have h9 := hI.t.setDn q true
            rw [dnC_snoc] at h9
            rw [hW1]; exact h9
          have hz1 : W1.heap.size = wr.heap.size := by rw [hW1]; simp [World.setCell]
          have hSd : bd < WS.heap.size := by omega
          have ho1 : MovO W1 WS.heap.size 32 u5 (c.map (mv l)) := by rw [hW1]; exact own_set hI.o (fun e => by have := (World.ownsRow.lt hI.o bd e.symm).1; omega)
          have hb1 : Below base w W1 := by rw [hW1]; exact hI.b.setCell HH.out.1.lt.2.2.2 _
          have ha1 : ∀ k, k < WS.heap.size → k ≠ bd → W1.heap[k]? = WS.heap[k]? := fun k hk hne => by rw [hW1, Below.heap_setCell _ _ _ _ (show k ≠ bd from hne)]; exact hI.a k hk hne
          have hmu2 := ct_flip (f := fun j => !dnC (dnC dn css.flatten) c j) (g := fun j => !dnC (dnC dn css.flatten) (c ++ [q]) j) (i := q) (by rw [hdd]; rfl) (by rw [← dnC_snoc, up_same]; rfl) hI.il (fun j _ hne => by rw [← dnC_snoc, up_other _ _ hne])
          have hnext := inn_next HV.out.1.u.perm HH.out.2.2.2.2.1 hI.inn hdd
          have hstep := fun (j : Nat) (hj : j < l.length) (he : fR l q = tO l j) => inn_step HV.out.1.u.perm HH.out.2.2.2.2.1 hI.inn hdd hj he
          obtain ⟨o, hoo⟩ : ∃ o, o = c.length := ⟨_, rfl⟩
          rw [List.length_map, ← hoo] at hov
          rw [← hoo] at hol
          have ho1' : W1.ownsRow WS.heap.size 32 2 u5 o (cellsM (c.map (mv l))) := by
            have h9 := ho1
            unfold MovO at h9
            rw [List.length_map, ← hoo] at h9
            exact h9
          have s0 := tg1.tb.get 0 lv rfl
          obtain ⟨b, _, hlab, hbl, q0, e0⟩ := SlS.at (by have h9 := tg1.ls; rw [HH.out.2.2.2.2.2.1] at h9; exact h9) q hI.il
          obtain rfl := e0
          rw [getD_mv hI.il] at q0
          obtain ⟨xt, xf, hx⟩ : ∃ a b, mv l q = (a, b) := ⟨_, _, rfl⟩
          rw [hx] at q0
          have x0 : W1.cell? (b.add (q * 2)) = some (I xt) := q0.f0
          have x1 : W1.cell? ⟨(b.add (q * 2)).block, (b.add (q * 2)).off + 1, none⟩ = some (I xf) := q0.f1
          rw [HH.out.2.2.2.2.2.1, hlab] at s0
          have hfr : fR l q = xf := by unfold fR; rw [hx]
          have hwx := HH.out.2.2.2.1 (xt, xf) (by rw [← hx]; exact mv_mem hI.il)
          have H1 := Lib.hid (And.intro tg1 (And.intro ho1' (And.intro hb1 (And.intro ha1 (And.intro hoo (And.intro hI.il (And.intro hI.m (And.intro hqc (And.intro hnext (And.intro hstep (show WS.heap.size ≤ W1.heap.size by rw [hz1]; exact hI.z)))))))))))
          have HX := Lib.hid (And.intro hx (And.intro hfr (And.intro hwx hlab)))
          have HMU := Lib.hid (show ct l.length (fun j => !dnC (dnC dn css.flatten) (c ++ [q]) j) < k by omega)
          have HW1 := Lib.hid hW1
          have e4 : (0 : Int) ≤ (q : Int) := by omega
          have e5 : (q : Int) < (n : Int) := by have := HH.out.2.1; have := hI.il; omega
          have u0 := hI.t.tb.get 0 lv rfl
          rw [HH.out.2.2.2.2.2.1, hlab] at u0
          subst hov
          clear hI hmu hdd hqc h1t h2t h3t h4t hW1 tg1 hz1 hSd ho1 ho1' hb1 ha1 hmu2 hnext hstep hoo q0 hx hfr hwx hlab hbl t0 hlS
          go_upto_region 10 with (fail)
          change Code.wp _ _ _ _ (wr.setCell ⟨bd, q, none⟩ (.bool true))
          rw [← HW1.out]
          clear t3 z3 f3 u0
          go_wp2_with (first | (at_builtin; refine Hid.out ?_) | go_in)
          unfold Hid
          change wpList _ _ _ _ _ (W1.alloc (.cells #[I xt, I xf] 32))
          refine wpList_append_lies _ rfl (.tmp 43) (.tmp 51) 24 rfl WS.heap.size 32 i1 (.agg #[I 0, I 0]) 2 16 Try.underlying24 HM.out.1 HM.out.2.1 HM.out.2.2.1 HM.out.2.2.2 rfl (by decide) (.slice oa o oc) o (cellsM (c.map (mv l))) rfl (H1.out.2.1.alloc _) ⟨W1.heap.size, 0, none⟩ 1 1 [I xt, I xf] rfl rfl (World.news_of_block (heap_alloc_new W1 _)) (by simp [Value.oneCell']) (by decide) (by unfold maxLen; omega) (by omega) (by have h1 := H1.out.2.2.2.2.2.2.2.2.2.2; simp; omega) _ rfl ?_
          intro g3 c3 w3 ho3 hg3 hat3 hlt3
          obtain ⟨h1t, h2t, h3t, h4t⟩ := HH.out.2.2.2.2.2.2
          have hlS := HV.out.1.z
          have hbz := HV.out.2.2.2
          have hzz := H1.out.2.2.2.2.2.2.2.2.2.2
          have hrow : ∀ k, (Value.slice oa o oc).ownBlock = some k → WS.heap.size ≤ k := fun k hk => (H1.out.2.1.lt k hk).1
          have tg3 : Tang l base bt bm ba bd lv l.length ask (dnC (dnC dn css.flatten) (c ++ [q])) w3 := (H1.out.1.alloc _).kept hg3 (fun e => by have := hrow bt e; omega) (fun e => by have := hrow bm e; omega) (fun e => by have := hrow ba e; omega) (fun e => by have := hrow bd e; omega) (fun k hk => by have := hrow k hk; omega)
          have o3 : MovO w3 WS.heap.size 32 (.slice (some ⟨g3, 0, none⟩) (o + 1) c3) ((c ++ [q]).map (mv l)) := by
            rw [List.map_append, List.map_cons, List.map_nil, HX.out.1]
            exact MovO.app (by rw [List.length_map, ← H1.out.2.2.2.2.1]; exact ho3)
          have hb3 : Below base w w3 := (H1.out.2.2.1.alloc (by omega) (.cells #[I xt, I xf] 32)).grown hg3 (by simp; omega) (fun k hk => by have := hrow k hk; omega)
          have ha3 : ∀ k, k < WS.heap.size → k ≠ bd → w3.heap[k]? = WS.heap[k]? := fun k hk hne => by
            rw [hg3.block k (by simp; omega) (fun e => by have := hrow k e.symm; omega), heap_alloc_old _ _ (by omega)]
            exact H1.out.2.2.2.1 k hk hne
          have hz3 : WS.heap.size ≤ w3.heap.size := by have := hg3.size; simp at this; omega
          obtain ⟨b', _, hlab', hbl', q0, e0⟩ := SlS.at (by have h9 := tg3.ls; rw [HH.out.2.2.2.2.2.1] at h9; exact h9) q H1.out.2.2.2.2.2.1
          obtain rfl := e0
          rw [HX.out.2.2.2] at hlab'
          cases hlab'
          rw [getD_mv H1.out.2.2.2.2.2.1, HX.out.1] at q0
          have y1 : w3.cell? ⟨(b.add (q * 2)).block, (b.add (q * 2)).off + 1, none⟩ = some (I xf) := q0.f1
          have s3 := tg3.tb.get 0 lv rfl
          rw [HH.out.2.2.2.2.2.1, HX.out.2.2.2] at s3
          have t1 := tg3.tb.get 1 (.map (some bm)) rfl
          obtain ⟨cc, bb, _, hlk, hcc⟩ := look_by tg3.mp 0 HX.out.2.2.1.2
          obtain ⟨j, hj, hjt, hjc⟩ : ∃ j : Nat, j < l.length ∧ fR l q = tO l j ∧ cc = (j : Int) := by
            obtain ⟨j', hj', he'⟩ := H1.out.2.2.2.2.2.2.2.2.1
            rcases hcc with ⟨_, j, h1, h2, h3⟩ | ⟨_, h1⟩
            · exact ⟨j, h1, by rw [HX.out.2.1, h2], h3⟩
            · exact absurd (by rw [← he', HX.out.2.1]) (h1 j' hj')
          subst hjc
          have H3 := Lib.hid (And.intro tg3 (And.intro o3 (And.intro hb3 (And.intro ha3 hz3))))
          have HJ := Lib.hid (And.intro hj hjt)
          clear ho3 hg3 hat3 hlt3 h1t h2t h3t h4t hrow hbz hlS hzz tg3 o3 hb3 ha3 hz3 q0 hbl' hcc hj hjt x0 x1 s0
          go_upto_region 8 with (fail)
          go_quiet (fail)
          obtain ⟨V, hV⟩ : ∃ V, V = w3.drewN nq := ⟨_, rfl⟩
          rw [← hV]
          have hbV : Below w3.heap.size w3 V := by rw [hV]; exact below_drewN (Below.refl _ _) nq
          have HN := Lib.hid (show CiI w WS l base bt bm ba bd lv ask (dnC dn css.flatten) i k (.slice (some ⟨g3, 0, none⟩) (o + 1) c3) (I (j : Int)) V from ⟨c ++ [q], j, rfl, ⟨H1.out.2.2.2.2.2.2.2.2.2.1 j HJ.out.1 HJ.out.2, HJ.out.1, H3.out.1.below hbV, H3.out.2.1.below hbV, H3.out.2.2.1.trans (hbV.mono (by have := HV.out.2.2.2; have := H3.out.2.2.2.2; omega)), fun x hx hne => (hbV.block x (by have := H3.out.2.2.2.2; omega)).trans (H3.out.2.2.2.1 x hx hne), Nat.le_trans H3.out.2.2.2.2 hbV.size,
            List.nodup_append.2 ⟨H1.out.2.2.2.2.2.2.1.1, by simp, fun a ha b hb e => by rw [List.mem_singleton.1 hb] at e; rw [e] at ha; exact H1.out.2.2.2.2.2.2.2.1 ha⟩, fun x hx => by
              rcases List.mem_append.1 hx with h | h
              · exact H1.out.2.2.2.2.2.2.1.2 x h
              · rw [List.mem_singleton.1 h]; exact H1.out.2.2.2.2.2.1⟩, HMU.out⟩)
          clear hV hbV hlk y1 s3 t1
          go_wp2_with fail
          go_roundg k
          case rel => exact HN.out
          case measure => omega
        | true =>
          have hend := inn_end HV.out.1.u.perm hI.inn hdd
          have t3 := hI.t.tb.get 3 (.slice (some ⟨bd, 0, none⟩) l.length l.length) rfl
          rw [← HH.out.2.1] at t3
          have z3 := hI.t.db.get q (.bool (dnC (dnC dn css.flatten) c q)) (arrF_get (fun x => Value.bool (dnC (dnC dn css.flatten) c x)) hI.il)
          rw [hdd] at z3
          have e4 : (0 : Int) ≤ (q : Int) := by omega
          have e5 : (q : Int) < (n : Int) := by have := HH.out.2.1; have := hI.il; omega
          have hbds : bd < w.heap.size := HH.out.2.2.2.2.2.2.2.2.2
          have hlS := HV.out.1.z
          have hoW : OwnS w.heap.size 24 1 CirV wr u3 (mvs l css) := HV.out.1.o.apart cirV_stays (fun k hk hk2 => hI.a k hk2 (by omega)) hI.z
          rcases hend with ⟨hf, rfl⟩ | ⟨hf, hring, hhd, hmem⟩
          · have HN := Lib.hid (show CiR w l base bt bm ba bd lv ask dn u3 (I ((i : Int) + 1)) wr from ⟨i + 1, css, HV.out.2.1, rfl, out_none HV.out.1.u hf, by
              have h9 := hI.t
              rw [dnC_nil] at h9
              exact h9, hoW, hI.b, Nat.le_trans hlS hI.z, by have := HV.out.1.m; omega, fun k hk hne => (hI.a k (by omega) hne).trans (HV.out.1.a k hk hne)⟩)
            have hov := hI.o.row
            obtain ⟨oa, oc, hov⟩ := hov
            rw [List.map_nil, List.length_nil] at hov
            have HT := Lib.hid HV.out.2.2.1
            subst hov
            clear hI hmu hdd hf hlS hoW hbds t0
            go_wp2_with fail
            exact ⟨HN.out, by have := HT.out; simp [intOf]; omega⟩
          · obtain ⟨oa, oc, hov⟩ := hI.o.row
            rw [List.length_map] at hov
            obtain ⟨o, hoo⟩ : ∃ o, o = c.length := ⟨_, rfl⟩
            have hop : 0 < o := by rw [hoo]; exact List.length_pos_iff.2 hring.1
            have hob : o ≤ 1000 := by
              have h1 := hring.2.1.length_le_of_subset (l₂ := List.range l.length) (fun x hx => List.mem_range.2 (hmem x hx).1)
              rw [List.length_range] at h1
              have := HH.out.2.2.1
              omega
            rw [← hoo] at hov
            obtain ⟨sa, sc, hsv⟩ := hoW.row
            obtain ⟨N, hN⟩ : ∃ N, N = (mvs l css).length := ⟨_, rfl⟩
            have hNc : N = css.length := by rw [hN]; simp [mvs]
            have hNb : N ≤ 1000 := by have := HV.out.1.m; have := HV.out.2.1; have := HH.out.2.2.1; omega
            rw [← hN] at hsv
            have hx : CirV (SxW w.heap.size u3 wr) wr [u5] (c.map (mv l)) := ⟨u5, rfl, (hI.o.own.sl movV_stays).keepF movV_stays (fun _ _ => rfl) (fun k hk => ⟨by have := hk.1; omega, hk.2, fun e => by
              obtain ⟨cs, _, _, q3, _⟩ := HV.out.1.o
              have h1 := (q3.lt k e.symm).2
              have h2 := hk.1
              omega⟩)⟩
            obtain ⟨cs, q1, q2, q3, q4⟩ := hoW
            have q3' : wr.ownsRow w.heap.size 24 1 u3 N cs.flatten := by rw [hN]; exact q3
            have hfl : (css ++ [c]).flatten = css.flatten ++ c := by simp
            have HR := Lib.hid (And.intro q1 (And.intro q2 (And.intro q3' (And.intro hx (And.intro hN hNc)))))
            have HQ4 := Lib.hid q4
            have HSV := Lib.hid hsv
            have tgw : Tang l base bt bm ba bd lv l.length ask (dnC dn (css ++ [c]).flatten) wr := by rw [hfl, ← dnC_app]; exact hI.t
            have H5 := Lib.hid (And.intro tgw (And.intro hI.b (And.intro (Nat.le_trans hlS hI.z) (And.intro (out_ring HH.out.2.2.2.2.1 HV.out.1.u hring hhd hmem) (show ∀ k, k < w.heap.size → k ≠ bd → wr.heap[k]? = w.heap[k]? from fun k hk hne => (hI.a k (by omega) hne).trans (HV.out.1.a k hk hne))))))
            have e6 : (0 : Int) < (o : Int) := by omega
            have e7 : (o : Int) ≤ 1000 := by omega
            have HT := Lib.hid (And.intro HV.out.2.2.1 HV.out.2.1)
            have HOV := Lib.hid hov
            subst hsv
            subst hov
            clear hI hmu hdd hf hlS hbds hring hhd hmem hoo hop hN hNc hx q1 q2 q3 q4 q3' hfl tgw t0
            go_wp2_with (first | (at_builtin; refine Hid.out ?_) | go_in)
            unfold Hid
            change wpList _ _ _ _ _ (wr.alloc (.cells #[.slice oa o oc] 24))
            refine wpList_append_lies _ rfl (.tmp 56) (.tmp 58) 47 rfl w.heap.size 24 i0 (.slice none 0 0) 1 24 Try.underlying47 HI.out.1 HI.out.2.1 HI.out.2.2.1 HI.out.2.2.2 rfl (by decide) (.slice sa N sc) N cs.flatten rfl (HR.out.2.2.1.alloc _) ⟨wr.heap.size, 0, none⟩ 1 1 [.slice oa o oc] rfl rfl (World.news_of_block (heap_alloc_new wr _)) (by simp [Value.oneCell']) (by decide) (by unfold maxLen; omega) (by omega) (by have h1 := H5.out.2.2.1; simp; omega) _ rfl ?_
            intro g6 c6 w6 ho6 hg6 hat6 hlt6
            obtain ⟨h1t, h2t, h3t, h4t⟩ := HH.out.2.2.2.2.2.2
            have hrow : ∀ k, (Value.slice sa N sc).ownBlock = some k → w.heap.size ≤ k := fun k hk => (HR.out.2.2.1.lt k hk).1
            have hlt := HH.out.1.lt
            have hz := H5.out.2.2.1
            have hoN : OwnS w.heap.size 24 1 CirV w6 (.slice (some ⟨g6, 0, none⟩) (N + 1) c6) (mvs l (css ++ [c])) := by
              rw [mvs_app]
              refine OwnS.app (W := wr) (v := .slice sa N sc) cirV_stays HR.out.1 HR.out.2.1 HQ4.out HR.out.2.2.2.1 rfl hg6 (by rw [← HR.out.2.2.2.2.1]; exact ho6) ?_
              rcases hat6 with e | e
              · exact Or.inl e.symm
              · exact Or.inr (by rw [e]; rfl)
            have HN := Lib.hid (show CiR w l base bt bm ba bd lv ask dn (.slice (some ⟨g6, 0, none⟩) (N + 1) c6) (I ((i : Int) + 1)) w6 from ⟨i + 1, css ++ [c], HT.out.2, rfl, H5.out.2.2.2.1, (H5.out.1.alloc _).kept hg6 (fun e => by have := hrow bt e; omega) (fun e => by have := hrow bm e; omega) (fun e => by have := hrow ba e; omega) (fun e => by have := hrow bd e; omega) (fun k hk => by have := hrow k hk; omega), hoN,
              (H5.out.2.1.alloc (by omega) (.cells #[.slice oa o oc] 24)).grown hg6 (by simp; omega) (fun k hk => by have := hrow k hk; omega), by have := hg6.size; simp at this; omega, by have := HV.out.1.m; simp; omega, fun k hk hne => by
                rw [hg6.block k (by simp; omega) (fun e => by have := hrow k e.symm; omega), heap_alloc_old _ _ (by omega)]
                exact H5.out.2.2.2.2 k hk hne⟩)
            clear ho6 hg6 hat6 hlt6 h1t h2t h3t h4t hrow hlt hz hoN
            go_wp2_with fail
            exact ⟨HN.out, by have := HT.out.1; simp [intOf]; omega⟩
    · have d0 : decide (i < n) = false := by simpa using hin
      have FIN := Lib.hid (show CicT w l base bd dn wr (.returned u3) from ⟨_, css, rfl, hv.o, by
        have h9 := hv.u
        rw [show i = l.length by have := HH.out.2.1; omega] at h9
        exact h9, hv.b, hv.a⟩)
      clear hv hin hi
      go_wp2_with fail
      go_ret
      exact FIN.out
end Go.Proofs.Ytnbkcdhblmfopaa
