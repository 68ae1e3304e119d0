/-
  InstPacks' body, walked.
-/
import Derived.Test.YtlblmnneikdpgaaDoorIbRd
import Derived.Test.YtlblmnneikdpgaaDoorIbPp
import Derived.Test.YtlblmnneikdpgaaDoorIbUp
import Derived.Test.YtlblmnneikdpgaaDoorIbAw
namespace Go.Proofs.YtlblmnneikdpgaaDoor
open Go Go.RowKit Ib

theorem encs_byt {l : List Wd} (h : ∀ x ∈ l, WfW x) : Byt (encs l) := fun z hz => by
  obtain ⟨x, hx, hz⟩ := List.mem_flatMap.1 hz
  exact encW_byt (h x hx) z hz
theorem encs_inj {l l' : List Wd} (h : ∀ x ∈ l, FormW x) (h' : ∀ x ∈ l', FormW x) (e : encs l = encs l') : l = l' := encL_inj h h' e
theorem below_dr {B : Nat} {w W : World} (h : Below B w W) (q : Nat) : Below B w (W.drewN q) := below_drewN h q

set_option maxRecDepth 100000 in
set_option maxHeartbeats 6400000 in
theorem instPacks_body (aM aW : Addr) (al : Option Addr) (nl cl : Nat) (l : List Wd) (hlw : ∀ x ∈ l, WfW x) (ap : Option Addr) (np cp : Nat) (p : List Nat) (hpb : Byt p) (w : World) (hl : WordZ w (.slice al nl cl) l) (hp : ByteZ w (.slice ap np cp) p) (hs : Sen aM aW w) :
    Calls Tryd.prog 5 #[.slice al nl cl, .slice ap np cp] w fun e w' => LawT w w' e := by
  have hcl := hl.cap
  have hcp := hp.cap
  obtain rfl : nl = l.length := by obtain ⟨_, _, e, _⟩ := hl; injection e
  obtain rfl := ByteZ.len hp
  obtain ⟨NL, hNL⟩ : ∃ n, n = l.length := ⟨_, rfl⟩
  obtain ⟨NP, hNP⟩ : ∃ n, n = p.length := ⟨_, rfl⟩
  rw [← hNL] at hl hcl ⊢
  rw [← hNP] at hp hcp ⊢
  obtain ⟨N, hN⟩ : ∃ N, N = min NL 500 := ⟨_, rfl⟩
  obtain ⟨M, hM⟩ : ∃ M, M = min NP 3000 := ⟨_, rfl⟩
  obtain ⟨l5, hl5⟩ : ∃ x, x = l.take N := ⟨_, rfl⟩
  obtain ⟨p5, hp5⟩ : ∃ x, x = p.take M := ⟨_, rfl⟩
  have hlz := SlS.takeG hl N (by omega)
  have hpz := ByteZ.take hp M (by omega)
  rw [← hl5] at hlz
  rw [← hp5] at hpz
  have hN5 : l5.length = N := by rw [hl5, List.length_take]; omega
  have hM5 : p5.length = M := by rw [hp5, List.length_take]; omega
  have hw5 : ∀ x ∈ l5, WfW x := fun x hx => hlw x (by rw [hl5] at hx; exact List.mem_of_mem_take hx)
  have hb5 : Byt p5 := fun z hz => hpb z (by rw [hp5] at hz; exact List.mem_of_mem_take hz)
  have HA := Lib.hid (awake_any aM aW w hs)
  have H0 := Lib.hid (And.intro hlz (And.intro hpz (And.intro hs (And.intro hw5 (And.intro hb5 (And.intro hN5 (And.intro hM5 (show N ≤ 500 ∧ M ≤ 3000 by omega))))))))
  have n0 : (0 : Int) ≤ (N : Int) := by omega
  have n1 : (N : Int) ≤ (NL : Int) := by omega
  have n2 : (N : Int) ≤ (cl : Int) := by omega
  have n3 : min (NL : Int) 500 = (N : Int) := by omega
  have m0 : (0 : Int) ≤ (M : Int) := by omega
  have m1 : (M : Int) ≤ (NP : Int) := by omega
  have m2 : (M : Int) ≤ (cp : Int) := by omega
  have m3 : min (NP : Int) 3000 = (M : Int) := by omega
  clear hl hp hs hlw hpb hcl hcp hNL hNP hN hM hl5 hp5 hlz hpz hN5 hM5 hw5 hb5
  go_enter Tryd.func5, Tryd.ntmps5
  go_wp2_with fail
  refine HA.out.mono ?_
  rintro e w1 ⟨rfl, hb1⟩
  have hl1 := H0.out.1.below wordV_stays hb1
  have hs1 := H0.out.2.2.1.below hb1 (fun k hk => H0.out.2.2.1.lts k hk)
  have H1 := Lib.hid (And.intro hb1 (And.intro hl1 hs1))
  clear hb1 hl1 hs1 HA
  go_upto_region 4 with (fail)
  go_wp2_with (at_builtin; refine Hid.out ?_)
  unfold Hid
  have hbA : Below w1.heap.size w1 (w1.alloc (.cells #[] 23)) := (Below.refl _ _).alloc (Nat.le_refl _) _
  refine wpList_append_w rfl (.tmp 24) (.tmp 25) rfl w.heap.size (.slice (some ⟨w1.heap.size, 0, none⟩) 0 0) (.slice al N cl) 0 [] rfl ((Blk.new w1 #[] 23).owns H1.out.1.size (by decide) (by simp)) rfl l5 _ (H1.out.2.1.below wordV_stays hbA) (Or.inl (by simp [Value.ownBlock])) (by have := H0.out.2.2.2.2.2.1; have := H0.out.2.2.2.2.2.2.2.1; omega) (by simp; have := H1.out.1.size; omega) ?_
  intro v1 w2 hown1 hgr1 hat1
  have hb12 : Below w1.heap.size w1 w2 := hbA.grown hgr1 hbA.size (fun k hk => by cases hk; exact Nat.le_refl _)
  have hb2 : Below w.heap.size w w2 := below_tr H1.out.1 hb12
  have hmz : WordZ w2 v1 l5 := own_words (base := w.heap.size) (by have h := hown1; rw [Nat.zero_add, List.nil_append] at h; exact h)
  obtain ⟨am, cm, rfl⟩ := hmz.size
  rw [H0.out.2.2.2.2.2.1] at hmz
  have hs2 := H0.out.2.2.1.below hb2 (fun k hk => H0.out.2.2.1.lts k hk)
  have HPK := Lib.hid (pack_any aM aW (.slice am N cm) l5 (by have := H0.out.2.2.2.2.2.1; have := H0.out.2.2.2.2.2.2.2.1; omega) H0.out.2.2.2.1 w2 hmz hs2)
  have H2 := Lib.hid (And.intro hb2 (And.intro hmz hs2))
  rw [H0.out.2.2.2.2.2.1]
  clear hbA hown1 hgr1 hat1 hb12 hb2 hmz hs2
  go_wp2_with fail
  refine HPK.out.mono ?_
  rintro e w3 ⟨hb3, hor3⟩
  obtain ⟨va, E, B, rfl, hza, hE⟩ : ∃ va E B, e = .returned (.tuple #[va, I E]) ∧ ByteZ w3 va B ∧ ((E = 0 ∧ B = encs l5 ∧ ∀ x ∈ l5, FormW x) ∨ (E = 3 ∧ B = [] ∧ ¬ ∀ x ∈ l5, FormW x)) := by
    rcases hor3 with ⟨h, _⟩ | ⟨_, hf, v, rfl, hz⟩ | ⟨_, hf, rfl⟩
    · have := H0.out.2.2.2.2.2.1; have := H0.out.2.2.2.2.2.2.2.1; omega
    · exact ⟨v, 0, _, rfl, hz, Or.inl ⟨rfl, rfl, hf⟩⟩
    · exact ⟨_, 3, [], rfl, SlS.nil none 0, Or.inr ⟨rfl, rfl, hf⟩⟩
  obtain ⟨aa, ca, rfl⟩ := hza.size
  have hB3 := below_tr H2.out.1 hb3
  have hl3 := H0.out.1.below wordV_stays hB3
  have HRP := Lib.hid (refPack_any (.slice al N cl) l5 (by have := H0.out.2.2.2.2.2.1; have := H0.out.2.2.2.2.2.2.2.1; omega) H0.out.2.2.2.1 w3 hl3)
  have hbB : Byt B := by
    rcases hE with ⟨_, rfl, _⟩ | ⟨_, rfl, _⟩
    · exact encs_byt H0.out.2.2.2.1
    · exact fun z hz => by cases hz
  obtain ⟨LB, hLB⟩ : ∃ n, n = B.length := ⟨_, rfl⟩
  rw [← hLB] at hza ⊢
  have H3 := Lib.hid (And.intro hB3 (And.intro hza (And.intro hE (And.intro hbB (And.intro hb3 hLB)))))
  clear hb3 hor3 hza hE hB3 hl3 hbB hLB HPK
  go_wp2_with fail
  refine HRP.out.mono ?_
  rintro e w4 ⟨hb4, hor4⟩
  obtain ⟨vb, rfl, hzb⟩ : ∃ vb, e = .returned (.tuple #[vb, I E]) ∧ ByteZ w4 vb B := by
    rcases hor4 with ⟨hf, v, rfl, hz⟩ | ⟨hf, rfl⟩
    · rcases H3.out.2.2.1 with ⟨e1, e2, _⟩ | ⟨_, _, h⟩
      · rw [e1, e2]; exact ⟨v, rfl, own_bytes hz⟩
      · exact absurd hf h
    · rcases H3.out.2.2.1 with ⟨_, _, h⟩ | ⟨e1, e2, _⟩
      · exact absurd h hf
      · rw [e1, e2]; exact ⟨_, rfl, SlS.nil none 0⟩
  obtain ⟨ab, cb, rfl⟩ := hzb.size
  rw [← H3.out.2.2.2.2.2] at hzb ⊢
  have hB4 := below_tr H3.out.1 hb4
  have hmz4 := H2.out.2.1.below wordV_stays (below_tr H3.out.2.2.2.2.1 hb4)
  have hl4 := H0.out.1.below wordV_stays hB4
  have hSB := sameB_any H3.out.2.2.2.1 H3.out.2.2.2.1 w4 (H3.out.2.1.below byteV_stays hb4) hzb
  rw [decide_eq_true rfl] at hSB
  have hSW := sameW_any (.slice am N cm) (.slice al N cl) l5 l5 (by have := H0.out.2.2.2.2.2.1; have := H0.out.2.2.2.2.2.2.2.1; omega) w4 hmz4 hl4
  rw [decide_eq_true rfl] at hSW
  have HSB := Lib.hid hSB
  have HSW := Lib.hid hSW
  have H4 := Lib.hid hB4
  have C4 := Lib.hid hb4
  have eE : (E != E) = false := by simp
  clear hb4 hor4 hzb hB4 hmz4 hl4 hSB hSW HRP
  go_wp2_with fail
  refine HSB.out.mono ?_
  rintro e w5 ⟨rfl, rfl⟩
  go_wp2_with fail
  refine HSW.out.mono ?_
  rintro e w5 ⟨rfl, q5, hq5⟩
  have hB5 : Below w.heap.size w w5 := by rw [hq5]; exact below_drewN H4.out q5
  have hb45 : Below w4.heap.size w4 w5 := by rw [hq5]; exact below_drewN (Below.refl _ _) q5
  have HSP := Lib.hid (spare_any ap M cp p5 w5 (H0.out.2.1.below byteV_stays hB5) (by have := H0.out.2.2.2.2.2.2.1; have := H0.out.2.2.2.2.2.2.2.2; omega))
  have H5 := Lib.hid hB5
  have C5 := Lib.hid (below_tr C4.out hb45)
  clear hq5 hB5 hb45 HSB HSW
  go_wp2_with fail
  refine HSP.out.mono ?_
  rintro e w6 ⟨g, cap, hcap, rfl, hown, hb6⟩
  have hz := own_bytes hown
  have hq6 : ByteZ w6 (.slice (some ⟨g, 0, none⟩) p5.length cap) p5 := by
    have h := ByteZ.take hz p5.length (by simp)
    rw [List.take_left' rfl] at h
    exact h
  have hcell : w6.cell? ⟨g, p5.length, none⟩ = some (B8 165) := by
    obtain ⟨b', e1, _, h⟩ := ByteZ.cell hz p5.length (by simp)
    cases e1
    rw [Addr.add_lit, Nat.zero_add] at h
    rw [h]
    simp
  rw [H0.out.2.2.2.2.2.2.1] at hcap hq6 hcell ⊢
  have hB6 := below_tr H5.out hb6
  have hs6 := H0.out.2.2.1.below hB6 (fun k hk => H0.out.2.2.1.lts k hk)
  have HU := Lib.hid (unpack_any aM aW (some ⟨g, 0, none⟩) M cap p5 H0.out.2.2.2.2.1 w6 hq6 hs6)
  have C6 := Lib.hid (below_tr C5.out hb6)
  have H6 := Lib.hid (And.intro hB6 (And.intro hq6 (And.intro hcell hcap)))
  clear hown hb6 hz hq6 hcell hcap hB6 hs6 HSP
  go_wp2_with fail
  refine HU.out.mono ?_
  rintro e w7 ⟨hb7, hor7⟩
  obtain ⟨vx, G, X, rfl, hzx, hG⟩ : ∃ vx G X, e = .returned (.tuple #[vx, I G]) ∧ WordZ w7 vx X ∧ ((G = 0 ∧ encs X = p5 ∧ ∀ x ∈ X, FormW x) ∨ (G = 3 ∧ X = [] ∧ ∀ l, encs l = p5 → (∀ x ∈ l, FormW x) → False)) := by
    rcases hor7 with ⟨X, h1, h2, _, v, rfl, hz⟩ | ⟨h, rfl⟩ | ⟨⟨l', r, h1, h2, h3, _⟩, _⟩
    · exact ⟨v, 0, X, rfl, hz, Or.inl ⟨rfl, h1, h2⟩⟩
    · exact ⟨_, 3, [], rfl, SlS.nil none 0, Or.inr ⟨rfl, rfl, h⟩⟩
    · have h4 := encs_ge l' h2
      have h5 := congrArg List.length h1
      rw [List.length_append, H0.out.2.2.2.2.2.2.1] at h5
      have := H0.out.2.2.2.2.2.2.2.2
      omega
  obtain ⟨ax, cx, rfl⟩ := hzx.size
  have hXl : X.length ≤ 3000 := by
    rcases hG with ⟨_, h1, h2⟩ | ⟨_, rfl, _⟩
    · have h4 := encs_ge X h2
      rw [h1, H0.out.2.2.2.2.2.2.1] at h4
      have := H0.out.2.2.2.2.2.2.2.2
      omega
    · simp
  obtain ⟨LX, hLX⟩ : ∃ n, n = X.length := ⟨_, rfl⟩
  rw [← hLX] at hzx ⊢
  have hB7 := below_tr H6.out.1 hb7
  have HRU := Lib.hid (refUnpack_of (fun a n c q w h1 h2 h3 => refDecode_any a n c q w h1 (by omega) h3) ap M cp p5 H0.out.2.2.2.2.1 (by have := H0.out.2.2.2.2.2.2.1; have := H0.out.2.2.2.2.2.2.2.2; omega) w7 (H0.out.2.1.below byteV_stays hB7))
  have C7 := Lib.hid (below_tr C6.out hb7)
  have H7 := Lib.hid (And.intro hB7 (And.intro hzx (And.intro hG (And.intro hLX (And.intro hb7 hXl)))))
  clear hb7 hor7 hzx hG hB7 hLX hXl HU
  go_wp2_with fail
  refine HRU.out.mono ?_
  rintro e w8 ⟨hb8, hor8⟩
  obtain ⟨vy, rfl, hzy⟩ : ∃ vy, e = .returned (.tuple #[vy, I G]) ∧ WordZ w8 vy X := by
    rcases hor8 with ⟨Y, h1, h2, v, rfl, hz⟩ | ⟨hno, rfl⟩
    · rcases H7.out.2.2.1 with ⟨e1, h3, h4⟩ | ⟨_, _, h⟩
      · rw [e1, encs_inj h4 h2 (h3.trans h1.symm)]; exact ⟨v, rfl, own_words hz⟩
      · exact absurd h2 (fun h2 => h Y h1 h2)
    · rcases H7.out.2.2.1 with ⟨_, h3, h4⟩ | ⟨e1, e2, _⟩
      · exact absurd ⟨X, h3, h4⟩ hno
      · rw [e1, e2]; exact ⟨_, rfl, SlS.nil none 0⟩
  obtain ⟨ay, cy, rfl⟩ := hzy.size
  rw [← H7.out.2.2.2.1] at hzy ⊢
  have hB8 := below_tr H7.out.1 hb8
  have hSW := sameW_any (.slice ax LX cx) (.slice ay LX cy) X X (by have := H7.out.2.2.2.2.2; omega) w8 (H7.out.2.1.below wordV_stays hb8) hzy
  rw [decide_eq_true rfl] at hSW
  have HSW := Lib.hid hSW
  have C8 := Lib.hid (below_tr C7.out hb8)
  have H8 := Lib.hid (And.intro hB8 (below_tr H7.out.2.2.2.2.1 hb8))
  have eG : (G != G) = false := by simp
  clear hb8 hor8 hzy hB8 hSW HRU
  go_wp2_with fail
  refine HSW.out.mono ?_
  rintro e w9 ⟨rfl, q9, hq9⟩
  have hb89 : Below w8.heap.size w8 w9 := by rw [hq9]; exact below_drewN (Below.refl _ _) q9
  have hB9 := below_tr H8.out.1 hb89
  have hb69 := below_tr H8.out.2 hb89
  have hK := kept_any g cap ap cp p5 H0.out.2.2.2.2.1 w9 (by rw [H0.out.2.2.2.2.2.2.1]; exact H6.out.2.1.below byteV_stays hb69) (by rw [H0.out.2.2.2.2.2.2.1]; exact H0.out.2.1.below byteV_stays hB9) (by rw [H0.out.2.2.2.2.2.2.1]; exact H6.out.2.2.2)
    (by rw [H0.out.2.2.2.2.2.2.1]; exact cellA_below hb69 (lt_of_cell H6.out.2.2.1) H6.out.2.2.1) (by have := H0.out.2.2.2.2.2.2.1; have := H0.out.2.2.2.2.2.2.2.2; omega)
  rw [H0.out.2.2.2.2.2.2.1] at hK
  have HK := Lib.hid hK
  have H9 := Lib.hid hB9
  have C9 := Lib.hid (below_tr C8.out hb89)
  clear hq9 hb89 hB9 hb69 hK HSW
  go_wp2_with fail
  refine HK.out.mono ?_
  rintro e w10 ⟨rfl, rfl⟩
  rcases H3.out.2.2.1 with ⟨rfl, hBe, hf⟩ | ⟨rfl, _, _⟩
  · have hs9 := H0.out.2.2.1.below H9.out (fun k hk => H0.out.2.2.1.lts k hk)
    have HU := Lib.hid (unpack_any aM aW aa LB ca B H3.out.2.2.2.1 w9 (H3.out.2.1.below byteV_stays C9.out) hs9)
    have HBE := Lib.hid (And.intro hBe hf)
    clear hs9 hBe hf
    go_wp2_with fail
    refine HU.out.mono ?_
    rintro e w11 ⟨hb11, hor11⟩
    obtain ⟨vz, rfl, hzz⟩ : ∃ vz, e = .returned (.tuple #[vz, I 0]) ∧ WordZ w11 vz l5 := by
      rcases hor11 with ⟨Z, h1, h2, _, v, rfl, hz⟩ | ⟨h, rfl⟩ | ⟨⟨l', r, h1, h2, h3, _⟩, _⟩
      · rw [HBE.out.1] at h1
        rw [← encs_inj h2 HBE.out.2 h1]
        exact ⟨v, rfl, hz⟩
      · exact absurd HBE.out.2 (fun h2 => h l5 HBE.out.1.symm h2)
      · have h4 := encs_ge l' h2
        have h5 := congrArg List.length h1
        rw [List.length_append, HBE.out.1] at h5
        have h6 := encs_len l5 H0.out.2.2.2.1
        have := H0.out.2.2.2.2.2.1
        have := H0.out.2.2.2.2.2.2.2.1
        omega
    obtain ⟨az, cz, rfl⟩ := hzz.size
    rw [H0.out.2.2.2.2.2.1] at hzz ⊢
    have hB11 := below_tr H9.out hb11
    have hSW := sameW_any (.slice az N cz) (.slice al N cl) l5 l5 (by have := H0.out.2.2.2.2.2.1; have := H0.out.2.2.2.2.2.2.2.1; omega) w11 hzz (H0.out.1.below wordV_stays hB11)
    rw [decide_eq_true rfl] at hSW
    have HSW := Lib.hid hSW
    have H11 := Lib.hid hB11
    clear hb11 hor11 hzz hB11 hSW HU
    go_wp2_with fail
    refine HSW.out.mono ?_
    rintro e w12 ⟨rfl, q12, hq12⟩
    have FIN := Lib.hid (show LawT w w12 (.returned (.bool true)) from ⟨rfl, by rw [hq12]; exact below_drewN H11.out q12⟩)
    clear hq12 HSW
    go_wp2_with fail
    go_ret
    exact FIN.out
  · have FIN := Lib.hid (show LawT w w9 (.returned (.bool true)) from ⟨rfl, H9.out⟩)
    go_wp2_with fail
    go_ret
    exact FIN.out
end Go.Proofs.YtlblmnneikdpgaaDoor
