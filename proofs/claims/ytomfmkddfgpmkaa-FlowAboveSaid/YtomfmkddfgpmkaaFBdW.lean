/-
  Borders: the walk.
-/
import Derived.Test.YtomfmkddfgpmkaaFBdP
import Derived.Test.YtomfmkddfgpmkaaFBdC
import Derived.Test.YtomfmkddfgpmkaaFFace
import Derived.Test.YtomfmkddfgpmkaaDrawn
import Derived.Deep.AppendLies
namespace Go.Proofs.Ytomfmkddfgpmkaa
open Go Go.RowKit Fl

/-- No row lies in block b. -/
def ApartB (bl b : Nat) (W : World) : Prop := ∀ vs : List Value, Blk bl vs.toArray 25 W → ∀ t (h : t < vs.length), some b ≠ vs[t].ownBlock
theorem blk_same {b : Nat} {cs cs' : Array Value} {T : TypeId} {W : World} (h : Blk b cs T W) (h' : Blk b cs' T W) : cs = cs' := by
  unfold Blk at h h'
  rw [h] at h'
  injection h' with e
  injection e
theorem blk_list {b : Nat} {vs vs' : List Value} {T : TypeId} {W : World} (h : Blk b vs.toArray T W) (h' : Blk b vs'.toArray T W) : vs = vs' := by
  have := blk_same h h'
  simpa using this
/-- The rows, and the box of them. -/
structure BdG (w : World) (bl bb N : Nat) (T : Nat → List Nat) (W : World) : Prop where
  iw : IntoW w.heap.size bl N T W
  kb : Blk bb #[.slice (some ⟨bl, 0, none⟩) N N] 22 W
  ne : bb ≠ bl
  lo : w.heap.size ≤ bb
  ap : ApartB bl bb W
  be : Below w.heap.size w W
/-- And the box of a node. -/
structure BdN (w : World) (bl bb nb b N : Nat) (T : Nat → List Nat) (W : World) : Prop where
  g : BdG w bl bb N T W
  kn : Blk nb #[I (b : Int)] 3 W
  n1 : nb ≠ bl
  an : ApartB bl nb W
  nlo : w.heap.size ≤ nb
section
variable {w W W' : World} {bl bb nb b N : Nat} {T T' : Nat → List Nat}
theorem ApartB.heap (h : ApartB bl b W) (e : W'.heap = W.heap) : ApartB bl b W' := fun vs hv => h vs (by unfold Blk at hv ⊢; rw [← e]; exact hv)
theorem BdG.drewN (h : BdG w bl bb N T W) (k : Nat) : BdG w bl bb N T (W.drewN k) := ⟨h.iw.heap rfl, h.kb, h.ne, h.lo, h.ap.heap rfl, below_drewN h.be k⟩
theorem BdN.drewN (h : BdN w bl bb nb b N T W) (k : Nat) : BdN w bl bb nb b N T (W.drewN k) := ⟨h.g.drewN k, h.kn, h.n1, h.an.heap rfl, h.nlo⟩
theorem BdG.ext (h : BdG w bl bb N T W) (e : ∀ t, t < N → T' t = T t) : BdG w bl bb N T' W := ⟨h.iw.ext e, h.kb, h.ne, h.lo, h.ap, h.be⟩
theorem apart_new {base n : Nat} (h : IntoW base bl n T W) (hb : W.heap.size ≤ b) : ApartB bl b W := by
  obtain ⟨_, vs, _, h2, h3, _⟩ := h
  intro vs' hv t ht
  obtain rfl := blk_list h2 hv
  intro e
  have := ((h3 t ht).lt b e.symm).2
  omega
theorem BdG.node (h : BdG w bl bb N T W) (b : Nat) : BdN w bl bb W.heap.size b N T (W.alloc (.cells #[I (b : Int)] 3)) := by
  have hbl : bl < W.heap.size := by obtain ⟨_, vs, _, h2, _⟩ := h.iw; exact h2.lt
  have hiw : IntoW w.heap.size bl N T (W.alloc (.cells #[I (b : Int)] 3)) := by
    obtain ⟨h0, vs, h1, h2, h3, h4, h5⟩ := h.iw
    exact ⟨h0, vs, h1, h2.alloc _, fun t ht => (h3 t ht).alloc _, h4, h5⟩
  have hap : ∀ x, ApartB bl x W → ApartB bl x (W.alloc (.cells #[I (b : Int)] 3)) := by
    intro x hx vs hv
    obtain ⟨h0, vs2, h1, h2, _⟩ := h.iw
    obtain rfl := blk_list hv (h2.alloc _)
    exact hx vs h2
  exact ⟨⟨hiw, h.kb.alloc _, h.ne, h.lo, hap _ h.ap, h.be.alloc h.be.size _⟩, Blk.new W #[I (b : Int)] 3, by omega, hap _ (apart_new h.iw (Nat.le_refl _)), h.be.size⟩
theorem bdG_start (w : World) (N : Nat) : BdG w w.heap.size (w.heap.size + 1) N (fun _ => []) ((w.alloc (.cells (Array.replicate N (.slice none 0 0)) 25)).alloc (.cells #[.slice (some ⟨w.heap.size, 0, none⟩) N N] 22)) := by
  have hk : Blk w.heap.size (List.replicate N (Value.slice none 0 0)).toArray 25 ((w.alloc (.cells (Array.replicate N (.slice none 0 0)) 25)).alloc (.cells #[.slice (some ⟨w.heap.size, 0, none⟩) N N] 22)) := by
    rw [show (List.replicate N (Value.slice none 0 0)).toArray = Array.replicate N (Value.slice none 0 0) by apply Array.toList_inj.1; simp]
    exact (Blk.new _ _ _).alloc _
  refine ⟨⟨Nat.le_refl _, _, by simp, hk, fun t ht => ?_, fun t ht => ?_, fun t u ht hu _ => ?_⟩, Blk.new' _ _ _ (by simp), by omega, by omega, fun vs hv t ht => ?_, ((Below.refl _ _).alloc (Nat.le_refl _) _).alloc (by simp) _⟩
  · rw [List.getElem_replicate]
    exact World.ownsRow_nil _ _ _ _
  · rw [List.getElem_replicate]; simp [Value.ownBlock]
  · left; rw [List.getElem_replicate]; rfl
  · obtain rfl := blk_list hk hv
    rw [List.getElem_replicate]; simp [Value.ownBlock]
theorem apart_app {vs : List Value} {c : Nat} {o : Obj} {u : Value} {w4 : World} {base : Nat} (h : ApartB bl b W) (hb : b < W.heap.size) (v2 : Blk bl vs.toArray 25 W) (v4 : ∀ t (h : t < vs.length), some bl ≠ vs[t].ownBlock) (v3 : ∀ t (h : t < vs.length), Nums W base vs[t] (T t)) (hc : c < vs.length) (hg : (W.alloc o).grownBy w4 vs[c].ownBlock)
    (hat : u.ownBlock = vs[c].ownBlock ∨ u.ownBlock = some (W.alloc o).heap.size) : ApartB bl b (w4.setCell ⟨bl, c, none⟩ u) := by
  intro vs' hv t ht
  have h2 := ((v2.alloc o).other hg (v4 c hc)).set c u
  rw [show vs.toArray.setIfInBounds c u = (vs.set c u).toArray by apply Array.toList_inj.1; simp] at h2
  obtain rfl := blk_list hv h2
  have hat' : u.ownBlock = vs[c].ownBlock ∨ ∃ g, u.ownBlock = some g ∧ W.heap.size ≤ g := by
    rcases hat with e | e
    · exact Or.inl e
    · exact Or.inr ⟨_, e, by simp⟩
  rw [List.getElem_set]
  split
  · exact own_apart (v3 c hc) (h vs v2 c hc) hb (Nat.le_refl _) hat'
  · exact h vs v2 t (by simpa using ht)
theorem BdN.app {vs : List Value} {c : Nat} {o : Obj} {u : Value} {w4 : World} (h : BdN w bl bb nb b N T W) (v2 : Blk bl vs.toArray 25 W) (hc : c < vs.length) (hg : (W.alloc o).grownBy w4 vs[c].ownBlock) (ho : Nums w4 w.heap.size u (T c ++ [b]))
    (hat : u.ownBlock = vs[c].ownBlock ∨ u.ownBlock = some (W.alloc o).heap.size) : BdN w bl bb nb b N (fun a => if a = c then T a ++ [b] else T a) (w4.setCell ⟨bl, c, none⟩ u) := by
  obtain ⟨h0, vs2, h1, h2, h3, h4, h5⟩ := h.g.iw
  obtain rfl := blk_list v2 h2
  have hbb := h.g.kb.lt
  have hnb := h.kn.lt
  refine ⟨⟨IntoW.app h0 h1 h2 h3 h4 h5 hc hg ho hat, ((h.g.kb.alloc o).other hg (h.g.ap vs h2 c hc)).setOther h.g.ne _ _, h.g.ne, h.g.lo, apart_app h.g.ap hbb h2 h4 h3 hc hg hat, ?_⟩, ((h.kn.alloc o).other hg (h.an vs h2 c hc)).setOther h.n1 _ _, h.n1, apart_app h.an hnb h2 h4 h3 hc hg hat, h.nlo⟩
  exact ((h.g.be.alloc h.g.be.size o).grown hg (by have := h.g.be.size; simp; omega) (fun k hk => ((h3 c hc).lt k hk).1)).setCell (p := ⟨bl, c, none⟩) h0 _
end

def B1 (w : World) (bl bb N : Nat) (G : List (List Nat)) (iv : Value) (W : World) : Prop := ∃ (b : Nat) (T : Nat → List Nat), b ≤ N ∧ iv = I (b : Int) ∧ BdRow G b (HadB G b []) T ∧ BdG w bl bb N T W
def B2 (w : World) (bl bb nb N b : Nat) (G : List (List Nat)) (F : List Nat) (jv : Value) (W : World) : Prop := ∃ (j : Nat) (T : Nat → List Nat), j ≤ F.length ∧ jv = I (j : Int) ∧ BdRow G b (HadB G b (F.take j)) T ∧ BdN w bl bb nb b N T W
def B3 (w : World) (bl bb nb N b f : Nat) (G : List (List Nat)) (F : List Nat) (nv : Value) (W : World) : Prop := ∃ (n : Int) (T : Nat → List Nat) (H : Nat → Prop), nv = I n ∧ UpB G b f (HadB G b F) H n ∧ BdRow G b H T ∧ BdN w bl bb nb b N T W
def BrdW (w : World) (G : List (List Nat)) (N : Nat) (W : World) (e : Ending) : Prop := ∃ bl, e = .returned (.slice (some ⟨bl, 0, none⟩) N N) ∧ IntoW w.heap.size bl N (fun a => brdT G N a) W ∧ Below w.heap.size w W

/-- Does a node have b in its border already? -/
theorem has_any {w W : World} {bl bb nb b N c : Nat} {G : List (List Nat)} {H : Nat → Prop} {T : Nat → List Nat} (h : BdN w bl bb nb b N T W) (hR : BdRow G b H T) (hGl : G.length = N) (hb : b ≤ 24) (hc : c < N) :
    ∃ q : Bool, (q = true ↔ H c) ∧ Calls Try.prog 43 #[I (c : Int), .pointer (some ⟨bb, 0, none⟩), .pointer (some ⟨nb, 0, none⟩)] W fun e w' => e = .returned (.bool q) ∧ ∃ k, w' = W.drewN k := by
  obtain ⟨h0, vs, v1, v2, v3, v4, v5⟩ := h.g.iw
  have hcv : c < vs.length := by omega
  have hcG : c < G.length := by omega
  have c0 := h.g.kb.get 0 (.slice (some ⟨bl, 0, none⟩) N N) rfl
  have x0 := v2.get c vs[c] (by simp [hcv])
  have hlen := rowB_len hR hcG
  by_cases hT : T c = []
  · have ho := v3 c hcv
    rw [hT] at ho
    obtain ⟨sa, sc, hv⟩ : ∃ a k, vs[c] = .slice a 0 k := by
      rcases own_slice ho with ⟨h, _⟩ | ⟨g, cap, h⟩
      · exact ⟨_, _, h⟩
      · exact ⟨_, _, h⟩
    rw [hv] at x0
    exact ⟨false, ⟨fun h => (by cases h), fun h => absurd h (rowB_nil hR hcG hT)⟩, has_nil bb nb bl N c sc sa hc W c0 x0⟩
  · obtain ⟨M, hM⟩ : ∃ M, (T c).length = M + 1 := ⟨(T c).length - 1, by have := List.length_pos_iff.2 hT; omega⟩
    have ho := v3 c hcv
    obtain ⟨gg, sc, hv⟩ : ∃ g k, vs[c] = .slice (some ⟨g, 0, none⟩) (M + 1) k := by
      rcases own_slice ho with ⟨_, h⟩ | ⟨g, cap, h⟩
      · omega
      · exact ⟨g, cap, by rw [h, hM]⟩
    have ho' : W.ownsRow w.heap.size 3 1 (.slice (some ⟨gg, 0, none⟩) (M + 1) sc) (M + 1) (ints (T c)) := by rw [← hv, ← hM]; exact ho
    rw [hv] at x0
    refine ⟨((((T c).getD M 0 : Nat) : Int) == (b : Int)), ?_, has_one bb nb bl N c M gg sc ((T c).getD M 0) b (by omega) hc W c0 x0 (nums_get ho' hM M (by omega)) (h.kn.get 0 _ rfl)⟩
    rw [← rowB_last hR hcG hM, beq_iff_eq]
    omega

set_option maxRecDepth 100000 in
set_option maxHeartbeats 3200000 in
theorem borders_any (bw g m cap bf br N b0 ba : Nat) (G : List (List Nat)) (hGO : GOk G) (h0 : G.length ≠ 0) (hn : N ≤ 24) (w : World) (h : AbvR w bw g m cap bf br N b0 G (wlk G)) (ka : Blk ba (arrZ (abvL G)) 3 w) :
    Calls Try.prog 33 #[.pointer (some ⟨bw, 0, none⟩), .slice (some ⟨ba, 0, none⟩) N N, .slice (some ⟨b0, 0, none⟩) N N] w fun e w' => BrdW w G N w' e := by
  obtain ⟨i0, hi, hz0, hz1, hz2⟩ := info_parts info_int'
  have HI := Lib.hid (And.intro hi (And.intro hz0 (And.intro hz1 hz2)))
  clear hi hz0 hz1 hz2
  have hmk := mkSn N (by omega)
  have hmf : ∀ (fn : Fn) (first cap : Array Value) (w : World), (Instr.makeFunc fn first cap).run Try.prog w = .ok (.func fn first cap) w := fun _ _ _ _ => rfl
  have HH := Lib.hid (And.intro h (And.intro ka (And.intro hGO (And.intro h0 hn))))
  clear h ka hGO h0 hn
  go_enter Try.func33, Try.ntmps33
  obtain ⟨W, hW⟩ : ∃ W, W = (w.alloc (.cells (Array.replicate N (.slice none 0 0)) 25)).alloc (.cells #[.slice (some ⟨w.heap.size, 0, none⟩) N N] 22) := ⟨_, rfl⟩
  obtain ⟨bl, hbl⟩ : ∃ b, b = w.heap.size := ⟨_, rfl⟩
  obtain ⟨bb, hbb⟩ : ∃ b, b = w.heap.size + 1 := ⟨_, rfl⟩
  have HST := Lib.hid (show B1 w bl bb N G (I 0) W from ⟨0, _, Nat.zero_le _, rfl, rowB_start, by rw [hW, hbl, hbb]; exact bdG_start w N⟩)
  have HW := Lib.hid (And.intro hW (And.intro hbl hbb))
  clear hW hbl hbb
  go_upto_region 2 with (fail)
  rw [← HW.out.2.2, ← HW.out.2.1]
  change Code.wp _ _ _ _ ((w.alloc (.cells (Array.replicate N (.slice none 0 0)) 25)).alloc (.cells #[.slice (some ⟨bl, 0, none⟩) N N] 22))
  rw [HW.out.2.1, ← HW.out.1, ← HW.out.2.1]
  go_wp2_with fail
  go_loopw [17] (fun iv W => B1 w bl bb N G iv W) (fun iv _ => N - (intOf iv).toNat)
  case atStart => exact HST.out
  case round =>
    obtain ⟨b, T, hb, rfl, hR, hG⟩ := hrel
    obtain ⟨wo, rfl⟩ : ∃ wo : World, wo = wr := ⟨_, rfl⟩
    by_cases hbn : b < N
    · have hbG : b < G.length := by rw [HH.out.1.nm]; exact hbn
      obtain ⟨nb, hnb⟩ : ∃ nb, nb = wo.heap.size := ⟨_, rfl⟩
      obtain ⟨W1, hW1⟩ : ∃ W1, W1 = wo.alloc (.cells #[I (b : Int)] 3) := ⟨_, rfl⟩
      have hN1 : BdN w bl bb nb b N T W1 := by rw [hnb, hW1]; exact hG.node b
      obtain ⟨F, hF⟩ : ∃ F, F = rowSt G G.length 0 b := ⟨_, rfl⟩
      obtain ⟨rv, c0w, ra, rc, hrv, hrw⟩ := HH.out.1.gr.row b (by simp [intoF]; exact hbG)
      rw [intoF_row G hbG, ← hF] at hrv hrw
      subst hrv
      obtain ⟨L, hL⟩ : ∃ L, L = F.length := ⟨_, rfl⟩
      rw [← hL] at c0w
      have c0 := cell_below hN1.g.be HH.out.1.gr.lt c0w
      have x8 := hN1.kn.get 0 (I (b : Int)) rfl
      have hLb : L ≤ 25 := by rw [hL, hF]; have := rowSt_len G G.length 0 b; have h2 := HH.out.1.nm; have := HH.out.2.2.2.2; omega
      have HB2 := Lib.hid (show B2 w bl bb nb N b G F (I 0) W1 from ⟨0, T, Nat.zero_le _, rfl, hR, hN1⟩)
      have HX := Lib.hid (And.intro hbG (And.intro hF (And.intro hL (And.intro hrw (And.intro hLb hbn)))))
      have HW1 := Lib.hid (And.intro hW1 hnb)
      have d0 : decide (b < N) = true := by simpa using hbn
      have d1 : (0 : Int) ≤ (b : Int) := by omega
      have d2 : (b : Int) < (N : Int) := by omega
      have d3 : (b : Int) ≤ 24 := by have := HH.out.2.2.2.2; omega
      clear hnb hW1 hN1 hF hrw hL hLb hbG hbn c0w hR hG hb HST
      go_upto_region 6 with (fail)
      rw [← HW1.out.2]
      change Code.wp _ _ _ _ (wo.alloc (.cells #[I (b : Int)] 3))
      rw [← HW1.out.1]
      go_wp2_with fail
      go_loopw [26] (fun jv W => B2 w bl bb nb N b G F jv W) (fun jv _ => L - (intOf jv).toNat)
      case atStart => exact HB2.out
      case round =>
        obtain ⟨j, T, hj, rfl, hR, hN⟩ := hrel
        by_cases hjl : j < L
        · have hjF : j < F.length := by rw [← HX.out.2.2.1]; exact hjl
          obtain ⟨gf, hra, hgl, c1w⟩ := HX.out.2.2.2.1 j hjF
          subst hra
          obtain ⟨f, hf⟩ : ∃ f, f = F[j] := ⟨_, rfl⟩
          rw [← hf] at c1w
          have c1 := cell_below hN.g.be hgl c1w
          have hfm : b ∈ row G f := by
            have h1 : f ∈ rowSt G G.length 0 b := by rw [← HX.out.2.1, hf]; exact List.getElem_mem hjF
            exact (mem_rowSt.1 h1).2
          have hfl : f < N := by rw [← HH.out.1.nm]; exact row_lt hfm
          have htk : F.take (j + 1) = F.take j ++ [f] := by rw [List.take_succ_eq_append_getElem hjF, ← hf]
          obtain ⟨Rf, hRf⟩ : ∃ R, R = (wlk G).rch.getD f false := ⟨_, rfl⟩
          have hRi : Rf = true ↔ Rch G f := by
            obtain ⟨_, ⟨P, hP⟩, _, hcu⟩ := wlk_inv HH.out.2.2.1 (Nat.pos_of_ne_zero HH.out.2.2.2.1)
            rw [hRf, hP.rc f, hP.rch hcu f]
          have y0 := cell_below hN.g.be HH.out.1.lw HH.out.1.c3
          have y1 := cell_below hN.g.be HH.out.1.lr (HH.out.1.rc f hfl)
          rw [← hRf] at y1
          have e0 : decide (j < L) = true := by simpa using hjl
          have e1 : (0 : Int) ≤ (j : Int) := by omega
          have e2 : (j : Int) < (L : Int) := by omega
          have e3 : (j : Int) ≤ 25 := by have := HX.out.2.2.2.2.1; omega
          have e4 : (0 : Int) ≤ (f : Int) := by omega
          have e5 : (f : Int) < (N : Int) := by omega
          have HJ := Lib.hid (And.intro hjl (And.intro hjF (And.intro hfm (And.intro hfl (And.intro htk hRi)))))
          have HNX : Hid (∀ (T' : Nat → List Nat) (H' : Nat → Prop) (W' : World), BdRow G b H' T' → BdN w bl bb nb b N T' W' → (∀ a, H' a ↔ HadB G b (F.take (j + 1)) a) → B2 w bl bb nb N b G F (I ((j : Int) + 1)) W') := fun T' H' W' h1 h2 h3 => ⟨j + 1, T', HJ.out.2.1, rfl, h1.iff (fun a => (h3 a).symm), h2⟩
          cases Rf
          · have HN := Lib.hid (HNX.out T _ wr hR hN (fun a => by
              rw [HJ.out.2.2.2.2.1]
              exact (had_not (fun h => by have := HJ.out.2.2.2.2.2.2 h; cases this) a).symm))
            clear hjl hjF hf c1w hgl hfm hfl htk hRf hRi hR hN hj HNX
            go_wp2_with fail
            exact ⟨HN.out, by have := HJ.out.1; simp [intOf]; omega⟩
          · have HB3 := Lib.hid (show B3 w bl bb nb N b f G (F.take j) (I (f : Int)) wr from ⟨f, T, _, rfl, upB_start HH.out.2.2.1 HH.out.2.2.2.1 (HJ.out.2.2.2.2.2.1 rfl) HJ.out.2.2.1, hR, hN⟩)
            clear hjl hjF hf c1w hgl hfm hfl htk hRf hRi hR hN hj
            go_wp2_with fail
            go_loopw [11] (fun nv W => B3 w bl bb nb N b f G (F.take j) nv W) (fun nv _ => if intOf nv < 0 then 0 else depB G (intOf nv).toNat + 1)
            case atStart => exact HB3.out
            case round =>
              obtain ⟨n, T, H, rfl, hU, hR, hN⟩ := hrel
              obtain ⟨V0, rfl⟩ : ∃ V0 : World, V0 = wr := ⟨_, rfl⟩
              rcases hU.2 with hm | ⟨c, hc, hdc, hyc⟩
              · subst hm
                have HN := Lib.hid (HNX.out T H _ hR hN (fun a => by rw [HJ.out.2.2.2.2.1, had_snoc]; exact upB_end HH.out.2.2.1 HH.out.2.2.2.1 HX.out.1 hU (Or.inl rfl) a))
                clear hU hR hN
                go_wp2_with fail
                exact ⟨HN.out, by have := HJ.out.1; simp [intOf]; omega⟩
              · subst hc
                obtain ⟨Y, hY⟩ : ∃ Y, Y = (abvL G).getD b 0 := ⟨_, rfl⟩
                have hal : (abvL G).length = G.length := (abv_facts HH.out.2.2.1 HH.out.2.2.2.1).1.1
                have z0 := cell_below hN.g.be HH.out.2.1.lt (HH.out.2.1.get b (I ((abvL G).getD b 0)) (arrZ_getD (abvL G) b 0 (by rw [hal]; exact HX.out.1)))
                rw [← hY] at z0
                have z1 := hN.kn.get 0 (I (b : Int)) rfl
                have hcN : c < N := by rw [← HH.out.1.nm]; exact rchLt HH.out.2.2.1 HH.out.2.2.2.1 hdc.1
                have k0 : (0 : Int) ≤ (c : Int) := by omega
                have k1 : (c : Int) < (N : Int) := by omega
                by_cases hcy : (c : Int) = Y
                · have k2 : ((c : Int) != Y) = false := by simpa using hcy
                  have HN := Lib.hid (HNX.out T H _ hR hN (fun a => by rw [HJ.out.2.2.2.2.1, had_snoc]; exact upB_end HH.out.2.2.1 HH.out.2.2.2.1 HX.out.1 hU (Or.inr (by rw [hcy, hY])) a))
                  clear hU hR hN hY hal hcN hdc hyc hcy
                  go_wp2_with fail
                  exact ⟨HN.out, by have := HJ.out.1; simp [intOf]; omega⟩
                · have k2 : ((c : Int) != Y) = true := by simpa using hcy
                  obtain ⟨q, hq, hC⟩ := has_any (G := G) hN hR HH.out.1.nm (by have := HX.out.2.2.2.2.2; have := HH.out.2.2.2.2; omega) hcN
                  have HC := Lib.hid hC
                  have HU := Lib.hid (And.intro hU (And.intro hR (And.intro hN (And.intro hq (And.intro hcN (And.intro hdc (show (c : Int) ≠ (abvL G).getD b 0 by rw [← hY]; exact hcy)))))))
                  clear hU hR hN hY hal hcN hdc hyc hcy hq hC
                  go_wp2_with fail
                  refine HC.out.mono ?_
                  rintro e w' ⟨rfl, kk, rfl⟩
                  obtain ⟨V, hV⟩ : ∃ V, V = V0.drewN kk := ⟨_, rfl⟩
                  have hNV : BdN w bl bb nb b N T V := by rw [hV]; exact HU.out.2.2.1.drewN kk
                  rw [← hV]
                  clear hV HC z0 z1 y0 y1
                  cases q
                  · have hnH : ¬ H c := fun h => by have := HU.out.2.2.2.1.2 h; cases this
                    obtain ⟨W6, hW6⟩ : ∃ W6, W6 = V.drew := ⟨_, rfl⟩
                    have hN6 : BdN w bl bb nb b N T W6 := by rw [hW6]; exact hNV.drewN 1
                    obtain ⟨h0, vs, v1, v2, v3, v4, v5⟩ := hN6.g.iw
                    have hcv : c < vs.length := by have := HU.out.2.2.2.2.1; omega
                    have ho := v3 c hcv
                    obtain ⟨s5, m5, k5, hv⟩ : ∃ a m k, vs[c] = .slice a m k := by
                      rcases own_slice ho with ⟨h, _⟩ | ⟨g, cap, h⟩
                      · exact ⟨_, _, _, h⟩
                      · exact ⟨_, _, _, h⟩
                    have hlen := rowB_len HU.out.2.1 (a := c) (by rw [HH.out.1.nm]; exact HU.out.2.2.2.2.1)
                    obtain ⟨r5, hr5⟩ : ∃ r, r = T c := ⟨_, rfl⟩
                    rw [← hr5] at ho hlen
                    have hl24 : r5.length ≤ 24 := by have := HX.out.2.2.2.2.2; have := HH.out.2.2.2.2; omega
                    have hS : W6.cell? ⟨bb, 0, none⟩ = some (.slice (some ⟨bl, 0, none⟩) N N) ∧ W6.cell? ⟨bl, c, none⟩ = some (.slice s5 m5 k5) ∧ W6.cell? ⟨nb, 0, none⟩ = some (I (b : Int)) := ⟨hN6.g.kb.get 0 _ rfl, by rw [← hv]; exact v2.get c _ (by simp [hcv]), hN6.kn.get 0 _ rfl⟩
                    have HV := Lib.hid (And.intro hN6 (And.intro v2 (And.intro hcv (And.intro hv (And.intro ho (And.intro hr5 (And.intro hl24 (And.intro hnH v4))))))))
                    have HW6 := Lib.hid hW6
                    clear hN6 h0 v1 v2 v3 v4 v5 hv ho hr5 hl24 hnH hlen hNV hW6
                    go_upto_region 11 with (fail)
                    refine wp_region_dep (S := fun w' => w'.cell? ⟨bb, 0, none⟩ = some (.slice (some ⟨bl, 0, none⟩) N N) ∧ w'.cell? ⟨bl, c, none⟩ = some (.slice s5 m5 k5) ∧ w'.cell? ⟨nb, 0, none⟩ = some (I (b : Int))) (dep := [10]) (by kernel_rfl) ?_
                    change wpAnyD _ _ _ _ _ _ _ _ _ (World.drew _)
                    rw [← HW6.out]
                    refine wpAnyD_take (i := 0) (v := ?_) rfl (by kernel_rfl) (by kernel_rfl) (by kernel_rfl) (by kernel_rfl) (by kernel_rfl) (fun _ _ _ h => h) hS (Or.inl ⟨by rfl, ?_⟩) ?_
                    rotate_left
                    · intro w hSw; obtain ⟨hSw, hSw2, hSw3⟩ := hSw; go_simp
                      try with_reducible rfl
                    try simp only [Act.put, List.setIfInBounds_toArray, List.set_cons_zero, List.set_cons_succ]
                    refine wpAnyD_take (i := 1) (v := ?_) rfl (by kernel_rfl) (by kernel_rfl) (by kernel_rfl) (by kernel_rfl) (by kernel_rfl) (fun _ _ _ h => h) hS (Or.inl ⟨by rfl, ?_⟩) ?_
                    rotate_left
                    · intro w hSw; obtain ⟨hSw, hSw2, hSw3⟩ := hSw; go_simp
                      try with_reducible rfl
                    try simp only [Act.put, List.setIfInBounds_toArray, List.set_cons_zero, List.set_cons_succ]
                    refine wpAnyD_take (i := 2) (v := ?_) rfl (by kernel_rfl) (by kernel_rfl) (by kernel_rfl) (by kernel_rfl) (by kernel_rfl) (fun _ _ _ h => h) hS (Or.inl ⟨by rfl, ?_⟩) ?_
                    rotate_left
                    · intro w hSw; obtain ⟨hSw, hSw2, hSw3⟩ := hSw; go_simp
                      try with_reducible rfl
                    try simp only [Act.put, List.setIfInBounds_toArray, List.set_cons_zero, List.set_cons_succ]
                    refine wpAnyD_take (i := 3) (v := ?_) rfl (by kernel_rfl) (by kernel_rfl) (by kernel_rfl) (by kernel_rfl) (by kernel_rfl) (fun _ _ _ h => h) hS (Or.inl ⟨by rfl, ?_⟩) ?_
                    rotate_left
                    · intro w hSw; obtain ⟨hSw, hSw2, hSw3⟩ := hSw; go_simp
                      try with_reducible rfl
                    try simp only [Act.put, List.setIfInBounds_toArray, List.set_cons_zero, List.set_cons_succ]
                    refine wpAnyD_take (i := 4) (v := ?_) rfl (by kernel_rfl) (by kernel_rfl) (by kernel_rfl) (by kernel_rfl) (by kernel_rfl) (fun _ _ _ h => h) hS (Or.inl ⟨by rfl, ?_⟩) ?_
                    rotate_left
                    · intro w hSw; obtain ⟨hSw, hSw2, hSw3⟩ := hSw; go_simp
                      try with_reducible rfl
                    try simp only [Act.put, List.setIfInBounds_toArray, List.set_cons_zero, List.set_cons_succ]
                    refine wpAnyD_take (i := 5) (v := ?_) rfl (by kernel_rfl) (by kernel_rfl) (by kernel_rfl) (by kernel_rfl) (by kernel_rfl) (fun _ _ _ h => h) hS (Or.inl ⟨by rfl, ?_⟩) ?_
                    rotate_left
                    · intro w hSw; obtain ⟨hSw, hSw2, hSw3⟩ := hSw; go_simp
                      try with_reducible rfl
                    try simp only [Act.put, List.setIfInBounds_toArray, List.set_cons_zero, List.set_cons_succ]
                    refine wpAnyD_take (i := 6) (v := ?_) rfl (by kernel_rfl) (by kernel_rfl) (by kernel_rfl) (by kernel_rfl) (by kernel_rfl) (fun _ _ _ h => h) hS (Or.inl ⟨by rfl, ?_⟩) ?_
                    rotate_left
                    · intro w hSw; obtain ⟨hSw, hSw2, hSw3⟩ := hSw; go_simp
                      try with_reducible rfl
                    try simp only [Act.put, List.setIfInBounds_toArray, List.set_cons_zero, List.set_cons_succ]
                    clear hS
                    refine wpAnyD_one (i := 7) rfl (by kernel_rfl) rfl (fun K hK => ?_)
                    go_simp
                    refine hK _ _ (Or.inr ⟨(HV.out.1.g.kb.alloc _).get 0 _ rfl, by rw [← HV.out.2.2.2.1]; exact (HV.out.2.1.alloc _).get c _ (by simp [HV.out.2.2.1]), (HV.out.1.kn.alloc _).get 0 _ rfl⟩) ?_
                    clear hK K
                    try simp only [Act.put, List.setIfInBounds_toArray, List.set_cons_zero, List.set_cons_succ]
                    refine wpAnyD_one (i := 8) rfl (by kernel_rfl) rfl (fun K hK => ?_)
                    refine wp_append_lies _ (.tmp 59) (.tmp 61) 25 rfl w.heap.size 3 i0 (I 0) 1 8 Try.underlying25 HI.out.1 HI.out.2.1 HI.out.2.2.1 HI.out.2.2.2 rfl (by decide) (.slice s5 m5 k5) r5.length (ints r5) rfl (by rw [← HV.out.2.2.2.1]; exact HV.out.2.2.2.2.1.alloc _) ⟨W6.heap.size, 0, none⟩ 1 1 [I (b : Int)] rfl rfl (cell_one_new _ _ _) (by simp [Value.oneCell']) (by decide) (by have := HV.out.2.2.2.2.2.2.1; unfold maxLen; omega) (by have := HV.out.2.2.2.2.2.2.1; omega) (by have := HV.out.1.g.be.size; simp; omega) _ rfl ?_
                    intro gg cg w4 hown hgrow hat hlt4
                    have hgr' : (W6.alloc (.cells #[I (b : Int)] 3)).grownBy w4 vs[c].ownBlock := by rw [HV.out.2.2.2.1]; exact hgrow
                    have kb4 := (HV.out.1.g.kb.alloc (.cells #[I (b : Int)] 3)).other hgr' (HV.out.1.g.ap vs HV.out.2.1 c hcv)
                    have kl4 := (HV.out.2.1.alloc (.cells #[I (b : Int)] 3)).other hgr' (HV.out.2.2.2.2.2.2.2.2 c hcv)
                    have kn4 := (HV.out.1.kn.alloc (.cells #[I (b : Int)] 3)).other hgr' (HV.out.1.an vs HV.out.2.1 c hcv)
                    have x9 := kl4.get c (.slice s5 m5 k5) (by rw [← HV.out.2.2.2.1]; simp [hcv])
                    have f9 := kl4.free c
                    have hS4 : w4.cell? ⟨bb, 0, none⟩ = some (.slice (some ⟨bl, 0, none⟩) N N) ∧ w4.cell? ⟨bl, c, none⟩ = some (.slice s5 m5 k5) ∧ w4.cell? ⟨nb, 0, none⟩ = some (I (b : Int)) := ⟨kb4.get 0 _ rfl, x9, kn4.get 0 _ rfl⟩
                    obtain ⟨W9, hW9⟩ : ∃ W9, W9 = w4.setCell ⟨bl, c, none⟩ (.slice (some ⟨gg, 0, none⟩) (r5.length + 1) cg) := ⟨_, rfl⟩
                    have hN9 : BdN w bl bb nb b N (fun a => if a = c then T a ++ [b] else T a) W9 := by
                      rw [hW9]
                      refine HV.out.1.app HV.out.2.1 hcv hgr' ?_ ?_
                      · rw [← HV.out.2.2.2.2.2.1]
                        show World.ownsRow _ _ _ _ _ _ _
                        rw [List.length_append]
                        simpa using hown
                      · rcases hat with e | e
                        · exact Or.inl (by rw [HV.out.2.2.2.1, e]; rfl)
                        · exact Or.inr (by rw [e]; rfl)
                    obtain ⟨Y2, hY2⟩ : ∃ Y, Y = (abvL G).getD c 0 := ⟨_, rfl⟩
                    have hcG : c < G.length := by rw [HH.out.1.nm]; exact HU.out.2.2.2.2.1
                    have u0 := cell_below hN9.g.be HH.out.2.1.lt (HH.out.2.1.get c (I ((abvL G).getD c 0)) (arrZ_getD (abvL G) c 0 (by rw [(abv_facts HH.out.2.2.1 HH.out.2.2.2.1).1.1]; exact hcG)))
                    rw [← hY2] at u0
                    have FIN := Lib.hid (show B3 w bl bb nb N b f G (F.take j) (I Y2) W9 from ⟨Y2, _, fun a => H a ∨ a = c, rfl, by rw [hY2]; exact upB_step HH.out.2.2.1 HH.out.2.2.2.1 HX.out.1 HU.out.1 HU.out.2.2.2.2.2.2, rowB_app HU.out.2.1 HV.out.2.2.2.2.2.2.2.1, hN9⟩)
                    have HM := Lib.hid (show (if intOf (I Y2) < 0 then 0 else depB G (intOf (I Y2)).toNat + 1) < (if intOf (I (c : Int)) < 0 then 0 else depB G (intOf (I (c : Int))).toNat + 1) by
                      have h1 := abv_at HH.out.2.2.1 HH.out.2.2.2.1 hcG
                      rw [← hY2] at h1
                      rcases h1 with ⟨e, _⟩ | ⟨d, e, _⟩
                      · rw [e]
                        show (if (-1 : Int) < 0 then 0 else _) < (if (c : Int) < 0 then 0 else depB G (c : Int).toNat + 1)
                        rw [if_pos (by decide), if_neg (by omega)]
                        omega
                      · have h2 := depB_up HH.out.2.2.1 HH.out.2.2.2.1 HU.out.2.2.2.2.2.1.1 (by rw [← hY2]; exact e)
                        rw [e]
                        show (if (d : Int) < 0 then 0 else depB G (d : Int).toNat + 1) < (if (c : Int) < 0 then 0 else depB G (c : Int).toNat + 1)
                        rw [if_neg (by omega), if_neg (by omega), Int.toNat_natCast, Int.toNat_natCast]
                        omega)
                    have HW9 := Lib.hid hW9
                    clear hown hgrow hat hlt4 hgr' kb4 kl4 kn4 hN9 hY2 hcG hW9
                    refine hK _ _ (Or.inr hS4) ?_
                    clear hK K
                    try simp only [Act.put, List.setIfInBounds_toArray, List.set_cons_zero, List.set_cons_succ]
                    refine wpAnyD_one (i := 9) rfl (by kernel_rfl) rfl (fun K hK => ?_)
                    go_simp
                    refine hK _ _ (Or.inr hS4) ?_
                    clear hK K hS4
                    try simp only [Act.put, List.setIfInBounds_toArray, List.set_cons_zero, List.set_cons_succ]
                    refine wpAnyD_one (i := 10) rfl (by kernel_rfl) rfl (fun K hK => ?_)
                    go_simp
                    refine hK _ _ (Or.inl rfl) ?_
                    clear hK K x9 f9
                    rw [← HW9.out]
                    refine wpAnyD_done (by kernel_rfl) ?_ _
                    go_wp2_with fail
                    exact ⟨FIN.out, HM.out⟩
                  · have HN := Lib.hid (HNX.out T H V HU.out.2.1 hNV (fun a => by rw [HJ.out.2.2.2.2.1, had_snoc]; exact upB_had HH.out.2.2.1 HH.out.2.2.2.1 HU.out.1 (HU.out.2.2.2.1.1 rfl) a))
                    clear hNV
                    go_wp2_with fail
                    exact ⟨HN.out, by have := HJ.out.1; simp [intOf]; omega⟩
        · have e0 : decide (j < L) = false := by simpa using hjl
          have HN := Lib.hid (show B1 w bl bb N G (I ((b : Int) + 1)) wr from ⟨b + 1, T, by have := HX.out.2.2.2.2.2; omega, rfl, by
            refine rowB_next HH.out.2.2.1 HH.out.2.2.2.1 (hR.iff fun a => ?_)
            rw [← HX.out.2.1, List.take_of_length_le (by have := HX.out.2.2.1; omega)], hN.g⟩)
          clear hjl hR hN hj
          go_wp2_with fail
          exact ⟨HN.out, by have := HX.out.2.2.2.2.2; simp [intOf]; omega⟩
    · have d0 : decide (b < N) = false := by simpa using hbn
      obtain rfl : b = N := by omega
      have x7 := hG.kb.get 0 (.slice (some ⟨bl, 0, none⟩) b b) rfl
      have FIN := Lib.hid (show BrdW w G b wo (.returned (.slice (some ⟨bl, 0, none⟩) b b)) from ⟨bl, rfl, hG.iw.ext (fun t ht => by
        show brdT G b t = T t
        exact (rowB_done hR (by rw [HH.out.1.nm]; exact ht)).symm), hG.be⟩)
      clear hG hR hbn hb HST
      go_wp2_with fail
      go_ret
      exact FIN.out
end Go.Proofs.Ytomfmkddfgpmkaa
