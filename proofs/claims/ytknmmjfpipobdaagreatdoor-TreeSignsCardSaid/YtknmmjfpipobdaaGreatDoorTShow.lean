/-
  A program of one function with one return is written.
-/
import Derived.Test.YtknmmjfpipobdaaGreatDoorTShF
namespace Go.Proofs.YtknmmjfpipobdaaGreatDoor
open Go Go.RowKit Px

/-- One function in a row. -/
theorem one_fun {w : World} {ok : Nat → Prop} {a : Option Addr} {c id pos pf y : Nat} {nm : Bytes} {x : Ex} (hok : ∀ g, ok g → g < w.heap.size → g < w.heap.size) (h : FuRow w ok [⟨nm, [], y, [retS id pos x], pf⟩] (.slice a 1 c)) :
    ∃ g, a = some ⟨g, 0, none⟩ ∧ g < w.heap.size ∧ ∃ (a1 : Option Addr) (c1 gs cs : Nat), SmRow w (fun g => g < w.heap.size) [retS id pos x] (.slice (some ⟨gs, 0, none⟩) 1 cs) ∧
      ∀ j u, (fnC nm y pf a1 c1 gs cs).toList[j]? = some u → w.cell? ⟨g, j, none⟩ = some u := by
  have h := RowW.stays (w' := w) (ok' := fun g => g < w.heap.size) h (fun g _ hl => ⟨rfl, hl⟩) (fun xs hx => FusC.stays (w' := w) (ok' := fun g => g < w.heap.size) (fun g _ hl => ⟨rfl, hl⟩) _ xs hx)
  rcases h with ⟨h, _⟩ | ⟨g, cap', xs, e, hg, ho, hxs⟩
  · cases h
  cases e
  simp only [FusC, FuC] at hxs
  obtain ⟨ka, d, rfl, ⟨v1, v2, rfl, h1, h2⟩, rfl⟩ := hxs
  have h1' : ∃ (a : Option Addr) (c : Nat), v1 = .slice a 0 c := by
    rcases h1 with ⟨_, rfl⟩ | ⟨_, _, _, rfl, _⟩
    · exact ⟨_, _, rfl⟩
    · exact ⟨_, _, rfl⟩
  obtain ⟨a1, c1, rfl⟩ := h1'
  have h2' := h2
  rcases h2 with ⟨h, _⟩ | ⟨gs, cs, _, rfl, _⟩
  · cases h
  refine ⟨g, rfl, hg, a1, c1, gs, cs, h2', ?_⟩
  intro j u hu
  have hadd : ∀ j, (⟨g, 0, none⟩ : Addr).add j = ⟨g, j, none⟩ := by intro j; unfold Addr.add; split <;> simp_all
  have := ho.cells (g := g) rfl j u (by rw [List.append_nil]; exact hu)
  rwa [hadd] at this

abbrev zWr : Array Value := #[.pointer none, .slice none 0 0, .int .i64 20000]

set_option maxRecDepth 100000 in
set_option maxHeartbeats 2000000 in
theorem show_any (x : Ex) (t : Bytes) (cn : Nat) (hE : ExW x t cn) (w : World) (ok : Nat → Prop) (id pos y pf : Nat) (nm : Bytes) (a : Option Addr) (c : Nat) (hy : 1 ≤ y)
    (hx : FuRow w ok [⟨nm, [], y, [retS id pos x], pf⟩] (.slice a 1 c)) (hk1 : cn ≤ 10000) (hlen : (fnT nm y t).length ≤ 1000000) :
    Calls Tryz.prog 24 #[.agg #[.slice a 1 c]] w fun e w' => e = .returned (.string ⟨(fnT nm y t).toArray⟩) ∧ Below w.heap.size w w' := by
  obtain ⟨g, rfl, hg, a1, c1, gs, cs, hsm, hcell⟩ := one_fun (fun _ _ h => h) hx
  obtain ⟨W, hW⟩ : ∃ W, W = (w.alloc (.cells #[.slice (some ⟨g, 0, none⟩) 1 c] 24)).alloc (.cells zWr 111) := ⟨_, rfl⟩
  have hbW : Below w.heap.size w W := by rw [hW]; exact ((Below.refl _ _).alloc (Nat.le_refl _) _).alloc (by simp) _
  have hWs : W.heap.size = w.heap.size + 2 := by rw [hW]; simp
  have hP : Blk w.heap.size #[.slice (some ⟨g, 0, none⟩) 1 c] 24 W := by rw [hW]; exact (Blk.new w _ _).below ((Below.refl _ _).alloc (Nat.le_refl _) _) (by simp)
  have hQ : Blk (w.heap.size + 1) zWr 111 W := by rw [hW]; exact Blk.new' _ _ _ (by simp)
  have hwb : WB w.heap.size (w.heap.size + 1) [] 20000 W := ⟨_, _, hQ, ⟨rfl, Or.inl ⟨rfl, rfl⟩⟩, by simp [Value.ownBlock], Or.inl rfl⟩
  obtain ⟨V, hV⟩ : ∃ V, V = W.alloc (.cells (fnC nm y pf a1 c1 gs cs) 42) := ⟨_, rfl⟩
  have hbV : Below W.heap.size W V := by rw [hV]; exact (Below.refl _ _).alloc (Nat.le_refl _) _
  have hF : Blk W.heap.size (fnC nm y pf a1 c1 gs cs) 42 V := by rw [hV]; exact Blk.new _ _ _
  have hKV : WK w.heap.size (w.heap.size + 1) w V := (WK.of_below (Nat.le_refl _) hbW).trans (WK.of_below (by omega) hbV)
  have HM := Lib.hid (more_any w.heap.size (w.heap.size + 1) [] 20000 V (by omega) ⟨by omega, by omega⟩ (hwb.below hbV))
  have HFn := Lib.hid fun l1 k1 w1 (hk : WK w.heap.size (w.heap.size + 1) w w1) (h2 : WB w.heap.size (w.heap.size + 1) l1 k1 w1) h4 h5 h6 => function_W x t cn hE w.heap.size (w.heap.size + 1) l1 k1 w1 id pos gs cs nm y pf a1 c1 hy (by omega) hk.1.size h2 (SmRow_down hsm hk) h4 h5 h6
  have HS := Lib.hid fun l k w1 h1 h2 h3 => string_any w.heap.size (w.heap.size + 1) l k w1 h1 h2 h3
  have HH := Lib.hid (And.intro hKV hF)
  have HLEN := Lib.hid hlen
  have d0 := (hbW.cell (p := ⟨g, 0, none⟩) hg).trans (hcell 0 _ rfl)
  have d1 := (hbW.cell (p := ⟨g, 1, none⟩) hg).trans (hcell 1 _ rfl)
  have d2 := (hbW.cell (p := ⟨g, 2, none⟩) hg).trans (hcell 2 _ rfl)
  have d3 := (hbW.cell (p := ⟨g, 3, none⟩) hg).trans (hcell 3 _ rfl)
  have d4 := (hbW.cell (p := ⟨g, 4, none⟩) hg).trans (hcell 4 _ rfl)
  have p0 := hP.get 0 (.slice (some ⟨g, 0, none⟩) 1 c) rfl
  have HWW := Lib.hid hW
  have HVV := Lib.hid hV
  clear hx hbW hW hV hbV hF hKV hwb hP hQ hE hlen hcell hsm
  have HT0 := Lib.hid (show fnT nm y t ≠ [] by simp [fnT])
  generalize fnT nm y t = T at *
  go_enter Tryz.func24, Tryz.ntmps24
  go_upto_region 2 with (fail)
  rw [← HWW.out]
  go_wp2_with fail
  refine wp_loop_rounds 2 ?_
  rw [rounds_succ]
  go_wp2_with fail
  rw [← HVV.out]
  refine HM.out.mono ?_
  rintro e w1 ⟨rfl, h1', h2'⟩
  rw [show decide ((1 : Int) ≤ 20000) = true from rfl]
  have hF1 := h2'.blk HH.out.2 (by omega) (by decide)
  rw [hWs] at hF1
  have hK1 := HH.out.1.trans h2'
  have HK1 := Lib.hid hK1
  obtain ⟨c0, c1', c2, c3, c4⟩ := hF1.get5
  have HQ := Lib.hid (HFn.out _ _ w1 hK1 h1' (by omega) (by omega) (by have := HLEN.out; simpa using this))
  rw [List.nil_append] at HQ
  clear h1' h2' hF1 hK1
  go_wp2_with fail
  refine HQ.out.mono ?_
  rintro e w2 ⟨rfl, h1', h2'⟩
  have hK2 := HK1.out.trans h2'
  have HK2 := Lib.hid hK2
  have HQ2 := Lib.hid (HS.out _ _ w2 HT0.out (by have := HLEN.out; omega) h1')
  clear h1' h2' hK2 c0 c1' c2 c3 c4
  go_wp2_with fail
  rw [rounds_succ]
  go_wp2_with fail
  refine HQ2.out.mono ?_
  rintro e w3 ⟨rfl, hb3⟩
  have FIN := Lib.hid (HK2.out.1.trans hb3)
  clear hb3
  go_wp2
  go_ret
  exact ⟨rfl, FIN.out⟩
end Go.Proofs.YtknmmjfpipobdaaGreatDoor
