/-
  Joined: KP, CMade, KM.
-/
import Derived.Test.YtjlmkcamefaodaaJ05
import Derived.Test.YtjlmkcamefaodaaJ13
import Derived.Test.YtjlmkcamefaodaaJ01
import Derived.Maps.OwnSet
/-! KP: What right code is, plainly. -/

namespace Go.Proofs.Ytjlmkcamefaodaa
open Go Go.RowKit Cd Fl

namespace Cd
def shI (op : Int) : Int × Bool × Bool := shapeF op.toNat
/-- A function's ways. -/
def gN (f : FunP) : List (List Nat) := natG (f.blocks.map waysB)
def intoN (f : FunP) (i : Nat) : List Nat := rowSt (gN f) (gN f).length 0 i
def SizesOk (f : FunP) : Prop := (0 ≤ f.params ∧ f.params ≤ 6) ∧ (0 ≤ f.vars ∧ f.vars ≤ 255) ∧ (0 ≤ f.vals ∧ f.vals ≤ 60000) ∧ 1 ≤ f.blocks.length ∧ f.blocks.length ≤ 60000
def EndOk (n : Nat) (b : BlockP) : Prop := (b.fin = 1 ∧ 1 ≤ b.to ∧ b.to ≤ (n : Int) - 1) ∨ (b.fin = 2 ∧ (1 ≤ b.to ∧ b.to ≤ (n : Int) - 1) ∧ (1 ≤ b.els ∧ b.els ≤ (n : Int) - 1) ∧ b.to ≠ b.els) ∨ b.fin = 3 ∨ b.fin = 4
def EndsOk (f : FunP) : Prop := ∀ i (h : i < f.blocks.length), EndOk f.blocks.length f.blocks[i]
def WaysOk (f : FunP) : Prop := EndsOk f ∧ ∀ i, i < f.blocks.length → Rch (gN f) i
def ImmOk (c : CodeP) (f : FunP) (b : Int) (x : InstP) : Prop :=
  (x.op = 32 → b = 0 ∧ 0 ≤ x.imm ∧ x.imm < f.params) ∧ (x.op = 36 → 1 ≤ x.imm ∧ x.imm ≤ 256) ∧ (x.op = 39 → 0 ≤ x.imm ∧ x.imm < (c.funs.length : Int)) ∧ (x.op = 43 ∨ x.op = 44 → 0 ≤ x.imm ∧ x.imm < f.vars)
def DbgOk (vars frames : Int) (d : DbgP) : Prop := (0 ≤ d.dep ∧ d.dep ≤ frames - 1) ∧ (1 ≤ d.kind ∧ d.kind ≤ 3) ∧ (d.kind = 3 → 0 ≤ d.arg ∧ d.arg ≤ vars - 1)
def dKey (d : DbgP) : Int × Int := (d.dep, d.var)
def KnownOk (vars frames : Int) (l : List DbgP) : Prop := (∀ i (h : i < l.length), DbgOk vars frames l[i]) ∧ (l.map dKey).Nodup
def Tells (x : InstP) : Prop := x.op = 42 ∨ x.op = 39
def framesN (c : CodeP) (x : InstP) : Int := ((c.stops.getD x.site.toNat []).length : Int)
def SiteOk (c : CodeP) (f : FunP) (x : InstP) : Prop := (Tells x ∨ trapsB x.op.toNat = true → 0 ≤ x.site ∧ x.site < (c.stops.length : Int)) ∧ (Tells x → KnownOk f.vars (framesN c x) x.dbg)
def paramsN (c : CodeP) (x : InstP) : Int := match c.funs[x.imm.toNat]? with | some g => g.params | none => 0
def argsN (c : CodeP) (x : InstP) : Int := if x.op = 39 then paramsN c x else (shI x.op).1
def makesB (x : InstP) : Bool := if x.op = 39 then x.dst != -1 else (shI x.op).2.1
def InstOk (c : CodeP) (f : FunP) (b : Int) (x : InstP) : Prop := ((shI x.op).2.2 = true ∧ x.op ≠ 45 ∧ ImmOk c f b x ∧ SiteOk c f x) ∧ (x.args.length : Int) = argsN c x ∧ (makesB x = true ↔ x.dst ≠ -1)
def PhiOk (f : FunP) (i : Nat) (x : InstP) : Prop := i ≠ 0 ∧ x.op = 45 ∧ x.args.length = (intoN f i).length
/-- Who makes what: the value, the block, the place (a phi's is -1). -/
abbrev Mk := Int × Int × Int
def mkPh (i : Int) (l : List InstP) : List Mk := l.map fun x => (x.dst, i, -1)
def mk1 (i k : Int) (x : InstP) : List Mk := if x.dst = -1 then [] else [(x.dst, i, k)]
def mkIn (i : Int) (l : List InstP) : Nat → List Mk
  | 0 => []
  | k + 1 => mkIn i l k ++ (match l[k]? with | some x => mk1 i k x | none => [])
def mkB (i : Int) (b : BlockP) : List Mk := mkPh i b.phis ++ mkIn i b.insts b.insts.length
def mkBl (f : FunP) : Nat → List Mk
  | 0 => []
  | k + 1 => mkBl f k ++ (match f.blocks[k]? with | some b => mkB k b | none => [])
def mks (f : FunP) : List Mk := mkBl f f.blocks.length
def DOk (vals : Int) (L : List Mk) : Prop := (L.map (·.1)).Nodup ∧ ∀ p ∈ L, 0 ≤ p.1 ∧ p.1 ≤ vals - 1
def mapOf (L : List Mk) : Int → Option (Int × Int) := L.foldl (fun g p u => if u = p.1 then some p.2 else g u) (fun _ => none)
def ShapesOk (c : CodeP) (f : FunP) : Prop := (∀ i (h : i < f.blocks.length), (∀ x ∈ f.blocks[i].phis, PhiOk f i x) ∧ ∀ x ∈ f.blocks[i].insts, InstOk c f i x) ∧ DOk f.vals (mks f)
/-- May a value be used at a place? -/
def UseOk (f : FunP) (L : List Mk) (v b at' : Int) : Prop := ∃ pb pa, (v, pb, pa) ∈ L ∧ ((pb = b ∧ pa < at') ∨ (pb ≠ b ∧ DomG (gN f) pb.toNat b.toNat))
def ComeOk (f : FunP) (L : List Mk) (v : Int) (fr : Nat) : Prop := ∃ pb pa, (v, pb, pa) ∈ L ∧ DomG (gN f) pb.toNat fr
def PhiUse (f : FunP) (L : List Mk) (i : Nat) (x : InstP) : Prop := ∀ k (h : k < x.args.length) (h' : k < (intoN f i).length), ComeOk f L x.args[k] (intoN f i)[k]
def InUse (f : FunP) (L : List Mk) (i k : Int) (x : InstP) : Prop := (∀ v ∈ x.args, UseOk f L v i k) ∧ (Tells x → ∀ d ∈ x.dbg, d.kind = 2 → UseOk f L d.arg i k)
def EndUse (f : FunP) (L : List Mk) (i : Int) (b : BlockP) : Prop := b.fin = 2 ∨ b.fin = 3 → UseOk f L b.arg i b.insts.length
def BlockUse (f : FunP) (L : List Mk) (i : Nat) (b : BlockP) : Prop := (∀ x ∈ b.phis, PhiUse f L i x) ∧ (∀ k (h : k < b.insts.length), InUse f L i k b.insts[k]) ∧ EndUse f L i b
def UsesOk (f : FunP) : Prop := ∀ i (h : i < f.blocks.length), BlockUse f (mks f) i f.blocks[i]
def FunOk (c : CodeP) (f : FunP) : Prop := SizesOk f ∧ WaysOk f ∧ ShapesOk c f ∧ UsesOk f
def MainOk (c : CodeP) : Prop := 0 ≤ c.main ∧ c.main < (c.funs.length : Int) ∧ ∀ (h : c.main.toNat < c.funs.length), c.funs[c.main.toNat].params = 0
def RightC (c : CodeP) : Prop := MainOk c ∧ (∀ i (h : i < c.stops.length), c.stops[i] ≠ []) ∧ ∀ i (h : i < c.funs.length), FunOk c c.funs[i]
def Asks (x : InstP) : Prop := x.op = 43 ∨ x.op = 44 ∨ (Tells x ∧ ∃ d ∈ x.dbg, d.kind = 3)
def PlainC (c : CodeP) : Prop := RightC c ∧ ∀ i (h : i < c.funs.length), ∀ b ∈ c.funs[i].blocks, ∀ x ∈ b.insts, ¬ Asks x
/-- Numbers that are numbers. -/
def i64ok (v : Int) : Prop := (Lit.int .i64 v).wf = true
def WfD (d : DbgP) : Prop := i64ok d.dep ∧ i64ok d.var ∧ (0 ≤ d.kind ∧ d.kind ≤ 255) ∧ i64ok d.arg
def WfI (x : InstP) : Prop := (0 ≤ x.op ∧ x.op ≤ 255) ∧ i64ok x.dst ∧ i64ok x.imm ∧ i64ok x.site ∧ (∀ v ∈ x.args, i64ok v) ∧ ∀ d ∈ x.dbg, WfD d
def WfB (b : BlockP) : Prop := (∀ x ∈ b.phis, WfI x) ∧ (∀ x ∈ b.insts, WfI x) ∧ (0 ≤ b.fin ∧ b.fin ≤ 255) ∧ i64ok b.arg ∧ i64ok b.to ∧ i64ok b.els
def WfF (f : FunP) : Prop := (i64ok f.params ∧ i64ok f.vars ∧ i64ok f.vals) ∧ ∀ b ∈ f.blocks, WfB b
def WfC (c : CodeP) : Prop := i64ok c.main ∧ ∀ f ∈ c.funs, WfF f
theorem i64ok_iff {v : Int} : i64ok v ↔ -9223372036854775808 ≤ v ∧ v ≤ 9223372036854775807 := by
  have h1 : IntKind.i64.min = -9223372036854775808 := rfl
  have h2 : IntKind.i64.max = 9223372036854775807 := rfl
  unfold i64ok
  simp [Lit.wf, h1, h2]

theorem rev_ind {α : Type} {P : List α → Prop} (h0 : P []) (h1 : ∀ l x, P l → P (l ++ [x])) (l : List α) : P l := by
  have h : ∀ m : List α, P m.reverse := fun m => by
    induction m with
    | nil => exact h0
    | cons a m ih => rw [List.reverse_cons]; exact h1 _ _ ih
  have := h l.reverse
  rwa [List.reverse_reverse] at this
theorem mapOf_nil : mapOf [] = fun _ => none := rfl
theorem mapOf_app (L : List Mk) (p : Mk) : mapOf (L ++ [p]) = fun u => if u = p.1 then some p.2 else mapOf L u := by
  unfold mapOf
  rw [List.foldl_append]
  rfl
theorem mapOf_some {L : List Mk} {v : Int} {p : Int × Int} (h : mapOf L v = some p) : (v, p) ∈ L := by
  revert h
  refine rev_ind (P := fun L => mapOf L v = some p → (v, p) ∈ L) (fun h => by simp [mapOf_nil] at h) (fun L q ih h => ?_) L
  rw [mapOf_app] at h
  dsimp only at h
  by_cases e : v = q.1
  · rw [if_pos e] at h
    cases h
    rw [e]; simp
  · rw [if_neg e] at h
    exact List.mem_append_left _ (ih h)
theorem mapOf_none {L : List Mk} {v : Int} : mapOf L v = none ↔ v ∉ L.map (·.1) := by
  refine rev_ind (P := fun L => mapOf L v = none ↔ v ∉ L.map (·.1)) (by simp [mapOf_nil]) (fun L q ih => ?_) L
  rw [mapOf_app]
  by_cases e : v = q.1
  · simp [e]
  · simp only [e, if_false, ih, List.map_append, List.mem_append, List.map_cons, List.map_nil, List.mem_singleton, or_false]
theorem mapOf_mem {L : List Mk} (hd : (L.map (·.1)).Nodup) {v : Int} {p : Int × Int} (h : (v, p) ∈ L) : mapOf L v = some p := by
  cases e : mapOf L v with
  | none => exact absurd (List.mem_map.2 ⟨_, h, rfl⟩) (mapOf_none.1 e)
  | some q =>
    have h2 := mapOf_some e
    congr 1
    obtain ⟨i, hi, e1⟩ := List.getElem_of_mem h
    obtain ⟨j, hj, e2⟩ := List.getElem_of_mem h2
    have hij : i = j := by
      have q1 := List.Nodup.idxOf_getElem hd i (by simpa using hi)
      have q2 := List.Nodup.idxOf_getElem hd j (by simpa using hj)
      rw [List.getElem_map, e1] at q1
      rw [List.getElem_map, e2] at q2
      exact q1.symm.trans q2
    subst hij
    rw [e1] at e2
    injection e2 with _ e3
    exact e3.symm
theorem mapOf_isSome {L : List Mk} {v : Int} : (mapOf L v).isSome = true ↔ v ∈ L.map (·.1) := by
  cases e : mapOf L v with
  | none => simpa using mapOf_none.1 e
  | some p =>
    have := mapOf_some e
    simp only [Option.isSome_some, true_iff]
    exact List.mem_map.2 ⟨_, this, rfl⟩
theorem mkIn_succ (i : Int) (l : List InstP) {k : Nat} (h : k < l.length) : mkIn i l (k + 1) = mkIn i l k ++ mk1 i k l[k] := by
  show mkIn i l k ++ _ = _
  rw [List.getElem?_eq_getElem h]
theorem mkBl_succ (f : FunP) {k : Nat} (h : k < f.blocks.length) : mkBl f (k + 1) = mkBl f k ++ mkB k f.blocks[k] := by
  show mkBl f k ++ _ = _
  rw [List.getElem?_eq_getElem h]
theorem mkPh_take (i : Int) (l : List InstP) {k : Nat} (h : k < l.length) : mkPh i (l.take (k + 1)) = mkPh i (l.take k) ++ [(l[k].dst, i, -1)] := by
  unfold mkPh
  rw [List.take_succ_eq_append_getElem h, List.map_append]
  rfl
theorem mkIn_pre (i : Int) (l : List InstP) {k m : Nat} (h : k ≤ m) : ∃ R, mkIn i l m = mkIn i l k ++ R := by
  induction m with
  | zero => obtain rfl : k = 0 := by omega
            exact ⟨[], by simp⟩
  | succ m ih =>
    by_cases e : k = m + 1
    · exact ⟨[], by rw [e]; simp⟩
    · obtain ⟨R, hR⟩ := ih (by omega)
      exact ⟨R ++ _, by show mkIn i l m ++ _ = _; rw [hR, List.append_assoc]⟩
theorem mkBl_pre (f : FunP) {k m : Nat} (h : k ≤ m) : ∃ R, mkBl f m = mkBl f k ++ R := by
  induction m with
  | zero => obtain rfl : k = 0 := by omega
            exact ⟨[], by simp⟩
  | succ m ih =>
    by_cases e : k = m + 1
    · exact ⟨[], by rw [e]; simp⟩
    · obtain ⟨R, hR⟩ := ih (by omega)
      exact ⟨R ++ _, by show mkBl f m ++ _ = _; rw [hR, List.append_assoc]⟩
theorem DOk.left {vals : Int} {L R : List Mk} (h : DOk vals (L ++ R)) : DOk vals L :=
  ⟨by have := h.1; rw [List.map_append, List.nodup_append] at this; exact this.1, fun p hp => h.2 p (List.mem_append_left _ hp)⟩
theorem DOk.nil (vals : Int) : DOk vals [] := ⟨by simp, by simp⟩
theorem DOk.snoc {vals : Int} {L : List Mk} {p : Mk} : DOk vals (L ++ [p]) ↔ DOk vals L ∧ p.1 ∉ L.map (·.1) ∧ 0 ≤ p.1 ∧ p.1 ≤ vals - 1 := by
  unfold DOk
  rw [List.map_append, List.nodup_append]
  constructor
  · rintro ⟨⟨h1, _, h3⟩, h4⟩
    exact ⟨⟨h1, fun q hq => h4 q (List.mem_append_left _ hq)⟩, fun hm => h3 _ hm p.1 (by simp) rfl, h4 p (by simp)⟩
  · rintro ⟨⟨h1, h2⟩, h3, h4⟩
    refine ⟨⟨h1, by simp, fun a ha b hb e => ?_⟩, fun q hq => ?_⟩
    · obtain rfl : b = p.1 := by simpa using hb
      exact h3 (by rw [← e]; exact ha)
    · rcases List.mem_append.1 hq with h | h
      · exact h2 q h
      · rw [List.mem_singleton.1 h]; exact h4
/-- The prefix of the makers ahead of block i's phi number k; ahead of its instruction number k. -/
def preP (f : FunP) (i : Nat) (b : BlockP) (k : Nat) : List Mk := mkBl f i ++ mkPh i (b.phis.take k)
def preI (f : FunP) (i : Nat) (b : BlockP) (k : Nat) : List Mk := mkBl f i ++ mkPh i b.phis ++ mkIn i b.insts k
theorem preP_zero (f : FunP) (i : Nat) (b : BlockP) : preP f i b 0 = mkBl f i := by simp [preP, mkPh]
theorem preP_succ (f : FunP) (i : Nat) (b : BlockP) {k : Nat} (h : k < b.phis.length) : preP f i b (k + 1) = preP f i b k ++ [(b.phis[k].dst, (i : Int), -1)] := by
  unfold preP
  rw [mkPh_take _ _ h, List.append_assoc]
theorem preP_all (f : FunP) (i : Nat) (b : BlockP) {k : Nat} (h : b.phis.length ≤ k) : preP f i b k = preI f i b 0 := by
  unfold preP preI
  rw [List.take_of_length_le h]
  simp [mkIn]
theorem preI_succ (f : FunP) (i : Nat) (b : BlockP) {k : Nat} (h : k < b.insts.length) : preI f i b (k + 1) = preI f i b k ++ mk1 i k b.insts[k] := by
  unfold preI
  rw [mkIn_succ _ _ h]
  simp only [List.append_assoc]
theorem preI_all (f : FunP) {i : Nat} (h : i < f.blocks.length) : preI f i f.blocks[i] f.blocks[i].insts.length = mkBl f (i + 1) := by
  rw [mkBl_succ f h]
  unfold preI mkB
  rw [List.append_assoc]
theorem pre_mks (f : FunP) {i : Nat} (h : i < f.blocks.length) : ∃ R, mks f = mkBl f (i + 1) ++ R := mkBl_pre f h
theorem preI_mks (f : FunP) {i : Nat} (h : i < f.blocks.length) {k : Nat} (hk : k ≤ f.blocks[i].insts.length) : ∃ R, mks f = preI f i f.blocks[i] k ++ R := by
  obtain ⟨R, hR⟩ := pre_mks f h
  obtain ⟨R2, hR2⟩ := mkIn_pre i f.blocks[i].insts hk
  refine ⟨R2 ++ R, ?_⟩
  rw [hR, ← preI_all f h]
  unfold preI
  rw [hR2]
  simp only [List.append_assoc]
theorem preP_mks (f : FunP) {i : Nat} (h : i < f.blocks.length) {k : Nat} : ∃ R, mks f = preP f i f.blocks[i] k ++ R := by
  obtain ⟨R, hR⟩ := preI_mks f h (Nat.zero_le _)
  have e : mkPh (i : Int) f.blocks[i].phis = mkPh i (f.blocks[i].phis.take k) ++ mkPh i (f.blocks[i].phis.drop k) := by
    unfold mkPh
    rw [← List.map_append, List.take_append_drop]
  refine ⟨mkPh i (f.blocks[i].phis.drop k) ++ R, ?_⟩
  rw [hR]
  unfold preI preP
  rw [e]
  simp only [mkIn, List.append_assoc, List.append_nil, List.nil_append]
theorem gN_len (f : FunP) : (gN f).length = f.blocks.length := by simp [gN, natG]
end Cd
end Go.Proofs.Ytjlmkcamefaodaa

/-! CMade: The map in which a checker notes where values are made. -/

namespace Go.Proofs.Ytjlmkcamefaodaa
open Go Go.RowKit Go.Maps Cd

/-- A place reads as its two numbers. -/
def placeD (b a : Int) : DataW Unit := .agg [.lit (.int .i64 b), .lit (.int .i64 a)]
def placeL : List Value → Option (DataW Unit × List MemPlace)
  | [.int .i64 b, .int .i64 a] => some (placeD b a, [])
  | _ => none
def placeR : Value → Option (DataW Unit × List MemPlace)
  | .agg cs => placeL cs.toList
  | _ => none
abbrev placeV (b a : Int) : Value := .agg #[I b, I a]
theorem placeR_mk (b a : Int) : placeR (placeV b a) = some (placeD b a, []) := rfl
theorem placeL_inv {l : List Value} {b a : Int} {ps : List MemPlace} (h : placeL l = some (placeD b a, ps)) : l = [I b, I a] := by
  unfold placeL at h
  split at h
  · have h1 := congrArg Prod.fst (Option.some.inj h)
    simp [placeD] at h1
    obtain ⟨rfl, rfl⟩ := h1
    rfl
  · exact absurd h (by simp)
theorem placeR_inv {v : Value} {b a : Int} {ps : List MemPlace} (h : placeR v = some (placeD b a, ps)) : v = placeV b a := by
  cases v
  case agg cs =>
    have h2 := placeL_inv (show placeL cs.toList = some (placeD b a, ps) from h)
    have h3 : cs = #[I b, I a] := by rw [← Array.toArray_toList (xs := cs), h2]
    rw [h3]
  all_goals exact absurd h (by simp [placeR])

theorem key_int : Keyed Try.prog 3 := int_keyed Try.underlying3
theorem place_zero (w : World) : (zeroValue 91).run Try.prog w = .ok (placeV 0 0) w := by kernel_rfl

/-- What is noted, as a function. -/
def MadeIs (D : DataW Unit) (f : Int → Option (Int × Int)) : Prop := IsMap D ∧ ∀ v : Int, Maps.has D (.int .i64 v) = (f v).isSome ∧ D.atKey (.int .i64 v) (placeD 0 0) = placeD ((f v).getD (0, 0)).1 ((f v).getD (0, 0)).2
theorem MadeIs.none : MadeIs (.map []) (fun _ => none) := ⟨⟨[], rfl⟩, fun v => ⟨rfl, rfl⟩⟩
theorem MadeIs.put {D : DataW Unit} {f : Int → Option (Int × Int)} (h : MadeIs D f) {v : Int} (hv : (Lit.int .i64 v).wf = true) (b a : Int) : MadeIs (D.put (.int .i64 v) (placeD b a)) (fun u => if u = v then some (b, a) else f u) := by
  refine ⟨h.1.put _ _, fun u => ?_⟩
  by_cases hu : u = v
  · subst hu
    simp only [if_true]
    exact ⟨Maps.has_put_same h.1 (by simp [WideAt.IsKeyLit]) _, Maps.atKey_put_same h.1 (by simp [WideAt.IsKeyLit]) _ _⟩
  · simp only [hu, if_false]
    have hne : (Lit.int .i64 u) ≠ (Lit.int .i64 v) := fun e => hu (by cases e; rfl)
    exact ⟨(Maps.has_put_other hne _).trans (h.2 u).1, (Maps.atKey_put_other hne _ _).trans (h.2 u).2⟩

/-- The map in memory. -/
def MadeW (bm : Nat) (f : Int → Option (Int × Int)) (n : Nat) (w : World) : Prop := ∃ D, w.ownsMap Try.prog 3 placeR bm n D ∧ MadeIs D f

/-- A checker in memory: its function and its code, what it knows, its map. -/
abbrev CkB (bk bm : Nat) (c0 c1 c2 c3 c4 c5 c6 c7 c8 c9 : Value) (w : World) : Prop := Blk bk #[c0, c1, c2, c3, c4, c5, c6, c7, c8, c9, .map (some bm)] 66 w

set_option maxRecDepth 100000 in
set_option maxHeartbeats 800000 in
theorem isMade_near (bk bm : Nat) (c0 c1 c2 c3 c4 c5 c6 c7 c8 c9 : Value) (f : Int → Option (Int × Int)) (n : Nat) (v hb ha : Int) (hv : (Lit.int .i64 v).wf = true) (w : World) (h : CkB bk bm c0 c1 c2 c3 c4 c5 c6 c7 c8 c9 w) (hm : MadeW bm f n w) (pb pa : Int) (hp : (f v).getD (0, 0) = (pb, pa)) (hn : pb = hb) :
    Calls Try.prog 51 #[.pointer (some ⟨bk, 0, none⟩), I v, placeV hb ha] w fun e w' => e = .returned (.bool ((f v).isSome && decide (pa < ha))) ∧ Below w.heap.size w w' := by
  obtain ⟨D, ho, hD⟩ := hm
  have c10 := h.get 10 (.map (some bm)) rfl
  have hkey := keyOf_int_mk Try.underlying3 hv
  have HO := Lib.hid (And.intro ho (And.intro hD hkey))
  have HN := Lib.hid (And.intro hp hn)
  have hlt : bk < w.heap.size := h.lt
  have hne : ¬ bk = w.heap.size := by omega
  clear h ho hD hp hn hkey
  go_enter Try.func51, Try.ntmps51
  go_wp2_with (at_lookup; refine Hid.out ?_)
  unfold Hid
  refine wpList_lookup_own_ok _ rfl _ _ 61 rfl 3 91 key_int Try.underlying61 placeR (place_zero _) (placeD 0 0) [] (placeR_mk 0 0) bm n D rfl (HO.out.1.alloc _) _ _ rfl HO.out.2.2 ?_
  intro u ps hu
  obtain rfl : u = placeV pb pa := placeR_inv (ps := ps) (by have := (HO.out.2.1.2 v).2; rw [HN.out.1] at this; rw [← this]; exact hu)
  rw [(HO.out.2.1.2 v).1]
  clear hu
  have hq := HN.out.2
  clear HN
  subst hq
  obtain ⟨ok, hok⟩ : ∃ ok, ok = (f v).isSome := ⟨_, rfl⟩
  rw [← hok]
  have HOK := Lib.hid hok
  have HB := Lib.hid (((Below.refl w.heap.size w).alloc (Nat.le_refl _) (.cells #[I pb, I ha] 91)).alloc (by simp) (.cells #[I pb, I pa] 91))
  clear hok HO
  go_wp2_with fail
  all_goals go_ret
  all_goals exact ⟨ret_bool (by rw [← HOK.out]; simp_all), HB.out⟩

/-- What noting a value leaves. -/
def Noted (bk bm : Nat) (c0 c1 c2 c3 c4 c5 c6 c7 c8 c9 : Value) (f : Int → Option (Int × Int)) (n : Nat) (v hb ha : Int) (w w' : World) : Prop :=
  MadeW bm (fun u => if u = v then some (hb, ha) else f u) (n + 1) w' ∧ w.grownBy w' (some bm)

set_option maxRecDepth 100000 in
set_option maxHeartbeats 800000 in
theorem makes_any (bk bm : Nat) (c0 c1 c3 c4 c5 c6 c7 c8 c9 : Value) (vals : Int) (f : Int → Option (Int × Int)) (n : Nat) (hn : n < 1000000) (v hb ha : Int) (hvs : 0 ≤ vals ∧ vals ≤ 60000) (hv : (Lit.int .i64 v).wf = true) (w : World) (h : CkB bk bm c0 c1 (I vals) c3 c4 c5 c6 c7 c8 c9 w) (hm : MadeW bm f n w) (hbk : bk ≠ bm) :
    Calls Try.prog 47 #[.pointer (some ⟨bk, 0, none⟩), I v, placeV hb ha] w fun e w' => e = .returned (.bool (!(f v).isSome && decide (0 ≤ v ∧ v ≤ vals - 1))) ∧ Noted bk bm c0 c1 (I vals) c3 c4 c5 c6 c7 c8 c9 f n v hb ha w w' := by
  obtain ⟨D, ho, hD⟩ := hm
  have c10 := h.get 10 (.map (some bm)) rfl
  have c2 := h.get 2 (I vals) rfl
  have hlt : bk < w.heap.size := h.lt
  have hne : ¬ bk = w.heap.size := by omega
  have hkey := keyOf_int_mk Try.underlying3 hv
  have HO := Lib.hid (And.intro ho (And.intro hD (And.intro hkey (And.intro (show n < maxLen by unfold maxLen; omega) (And.intro h hbk)))))
  obtain ⟨hv1, hv2⟩ := hvs
  clear h ho hD hkey hn hbk
  go_enter Try.func47, Try.ntmps47
  go_wp2_with (at_lookup; refine Hid.out ?_)
  unfold Hid
  refine wpList_lookup_own_ok _ rfl _ _ 61 rfl 3 91 key_int Try.underlying61 placeR (place_zero _) (placeD 0 0) [] (placeR_mk 0 0) bm n D rfl (HO.out.1.alloc _) _ _ rfl HO.out.2.2.1 ?_
  intro u ps hu
  obtain ⟨pb, pa, hpp⟩ : ∃ pb pa, (f v).getD (0, 0) = (pb, pa) := ⟨_, _, rfl⟩
  obtain rfl : u = placeV pb pa := placeR_inv (ps := ps) (by have := (HO.out.2.1.2 v).2; rw [hpp] at this; rw [← this]; exact hu)
  rw [(HO.out.2.1.2 v).1]
  clear hu hpp
  obtain ⟨ok, hok⟩ : ∃ ok, ok = (f v).isSome := ⟨_, rfl⟩
  rw [← hok]
  have HOK := Lib.hid hok
  clear hok
  go_upto_region 2 with (fail)
  obtain ⟨W, hW⟩ : ∃ W, W = (w.alloc (.cells #[I hb, I ha] 91)).alloc (.cells #[I pb, I pa] 91) := ⟨_, rfl⟩
  have hb1 : Below w.heap.size w W := by rw [hW]; exact ((Below.refl w.heap.size w).alloc (Nat.le_refl _) _).alloc (by simp) _
  have ho1 : W.ownsMap Try.prog 3 placeR bm n D := by rw [hW]; exact (HO.out.1.alloc _).alloc _
  have k1 := HO.out.2.2.2.2.1.below hb1 hlt
  obtain ⟨b5, hb5⟩ : ∃ b5, b5 = w.heap.size := ⟨_, rfl⟩
  have hk5 : Blk b5 #[I hb, I ha] 91 W := by rw [hb5, hW]; exact (Blk.new _ _ _).alloc _
  have x10 := k1.get 10 (.map (some bm)) rfl
  have x2 := k1.get 2 (I vals) rfl
  have y0 := hk5.get 0 (I hb) rfl
  have y1 := hk5.get 1 (I ha) rfl
  change Code.wp _ _ _ _ ((w.alloc (.cells #[I hb, I ha] 91)).alloc (.cells #[I pb, I pa] 91))
  rw [← hW, ← hb5]
  have H1 := Lib.hid (And.intro hb1 (And.intro ho1 k1))
  have HW := Lib.hid (And.intro hW hb5)
  clear c10 c2 hW hb5 hb1 ho1 k1 hk5 hlt hne
  go_still_tail 6, (by kernel_rfl)
  change wpList _ _ _ _ _ W.drew
  refine wpList_mapUpdate_own _ rfl _ _ _ 61 rfl 3 91 key_int Try.underlying61 placeR bm n D rfl H1.out.2.1.drew HO.out.2.2.2.1 _ (placeV hb ha) _ rfl rfl HO.out.2.2.1 (placeD hb ha) [] (placeR_mk hb ha) ?_
  intro w2 hown hgr
  have k2 := H1.out.2.2.drewN 1 |>.other hgr (by have := HO.out.2.2.2.2.2; simpa using this)
  have z2 := k2.get 2 (I vals) rfl
  have FIN := Lib.hid (show Noted bk bm c0 c1 (I vals) c3 c4 c5 c6 c7 c8 c9 f n v hb ha w w2 from ⟨⟨_, hown, HO.out.2.1.put hv hb ha⟩,
    ⟨hgr.os.trans H1.out.1.os, hgr.tape.trans H1.out.1.tape, hgr.output.trans H1.out.1.output, Nat.le_trans H1.out.1.size hgr.size, fun i hi hne => (hgr.block i (Nat.lt_of_lt_of_le hi H1.out.1.size) hne).trans (H1.out.1.block i hi)⟩⟩)
  clear hown hgr k2 x10 x2 y0 y1
  go_wp2_with (go_at_call 40; refine (within_any _ _ _ _).mono ?_; rintro e w' ⟨rfl, rfl⟩)
  all_goals go_ret
  all_goals exact ⟨ret_bool (by rw [← HOK.out]; simp_all), FIN.out⟩
end Go.Proofs.Ytjlmkcamefaodaa

/-! KM: A checker in memory; an instruction's Imm. -/

namespace Go.Proofs.Ytjlmkcamefaodaa
open Go Go.RowKit Go.Maps Cd

theorem grownOf {w w' : World} (h : Below w.heap.size w w') (m : Nat) : w.grownBy w' (some m) := ⟨h.os, h.tape, h.output, h.size, fun k hk _ => h.block k hk⟩
theorem grownTr {w w' w2 : World} {m : Nat} (h : w.grownBy w' (some m)) (h2 : w'.grownBy w2 (some m)) : w.grownBy w2 (some m) :=
  ⟨h2.os.trans h.os, h2.tape.trans h.tape, h2.output.trans h.output, Nat.le_trans h.size h2.size, fun k hk hne => (h2.block k (Nat.lt_of_lt_of_le hk h.size) hne).trans (h.block k hk hne)⟩
/-- A checker of function f of code c; all that it looks at lies below B. -/
structure CkZ (B bk bm : Nat) (bv fv sv c7 c8 c9 : Value) (c : CodeP) (f : FunP) (w : World) : Prop where
  ck : CkB bk bm (I f.params) (I f.vars) (I f.vals) bv fv sv (I c.main) c7 c8 c9 w
  fb : SlS (fun k => k < B) 6 BlockV w bv f.blocks
  ff : SlS (fun k => k < B) 4 FunV w fv c.funs
  fs : SlS (fun k => k < B) 1 StopV w sv c.stops
  lo : B ≤ bk ∧ B ≤ bm ∧ bk ≠ bm
  hB : B ≤ w.heap.size
section
variable {B bk bm : Nat} {bv fv sv c7 c8 c9 : Value} {c : CodeP} {f : FunP} {w w' : World}
theorem CkZ.grown (h : CkZ B bk bm bv fv sv c7 c8 c9 c f w) (hg : w.grownBy w' (some bm)) : CkZ B bk bm bv fv sv c7 c8 c9 c f w' := by
  have he : ∀ k, k < B → w'.heap[k]? = w.heap[k]? := fun k hk => hg.block k (Nat.lt_of_lt_of_le hk h.hB) (by have := h.lo.2.1; simp; omega)
  exact ⟨(hg.block bk h.ck.lt (by have := h.lo.2.2; simpa using this)).trans h.ck, h.fb.keep blockV_stays he (fun _ h => h), h.ff.keep funV_stays he (fun _ h => h), h.fs.keep stopV_stays he (fun _ h => h), h.lo, Nat.le_trans h.hB hg.size⟩
theorem CkZ.below (h : CkZ B bk bm bv fv sv c7 c8 c9 c f w) (hb : Below w.heap.size w w') : CkZ B bk bm bv fv sv c7 c8 c9 c f w' := h.grown (grownOf hb bm)
end
theorem slB_grown {B bm k : Nat} {α : Type} {V : (Nat → Prop) → World → List Value → α → Prop} {w w' : World} {v : Value} {l : List α} (hV : StaysV V) (h : SlS (fun k => k < B) k V w v l) (hg : w.grownBy w' (some bm)) (hB : B ≤ w.heap.size) (hm : B ≤ bm) : SlS (fun k => k < B) k V w' v l :=
  h.keep hV (fun j hj => hg.block j (Nat.lt_of_lt_of_le hj hB) (by simp; omega)) (fun _ h => h)
theorem MadeW.kept' {bm : Nat} {f : Int → Option (Int × Int)} {n : Nat} {w w' : World} (h : MadeW bm f n w) (hb : Below w.heap.size w w') : MadeW bm f n w' := by
  obtain ⟨D, h1, h2⟩ := h
  exact ⟨D, h1.kept (grown_of_below hb) (by simp), h2⟩
theorem MadeW.mono' {bm : Nat} {f : Int → Option (Int × Int)} {n n' : Nat} {w : World} (h : MadeW bm f n w) (hn : n ≤ n') : MadeW bm f n' w := by
  obtain ⟨D, h1, h2⟩ := h
  exact ⟨D, h1.mono hn, h2⟩
/-- An instruction by value. -/
abbrev instZ (x : InstP) (av dv : Value) : Value := .agg #[U8 x.op, I x.dst, av, I x.imm, I x.site, dv]
abbrev instO (x : InstP) (av dv : Value) : Obj := .cells #[U8 x.op, I x.dst, av, I x.imm, I x.site, dv] 44

set_option maxRecDepth 100000 in
set_option maxHeartbeats 800000 in
theorem cloImm_any (p : Nat) (n imm : Int) (w : World) (y : w.cell? ⟨p, 3, none⟩ = some (I imm)) :
    Calls Try.prog 67 #[I n, .pointer (some ⟨p, 0, none⟩)] w fun e w' => e = .returned (.bool (decide (0 ≤ imm ∧ imm < n))) ∧ w = w' := by
  go_enter Try.func67, Try.ntmps67
  go_wp2_with fail
  all_goals go_ret
  all_goals refine ⟨ret_bool ?_, rfl⟩
  all_goals (rw [Bool.eq_iff_iff]; simp; try omega)

/-- A bool is answered that tells whether P holds. -/
def TellB (P : Prop) (w : World) (e : Ending) (w' : World) : Prop := ∃ v, e = .returned (.bool v) ∧ (v = true ↔ P) ∧ Below w.heap.size w w'

set_option maxRecDepth 100000 in
set_option maxHeartbeats 1600000 in
theorem hasImm_at (bk F : Nat) (fa : Option Addr) (fc : Nat) (params vars op dst imm site b : Int) (av dv : Value) (w : World) (c0 : w.cell? ⟨bk, 0, none⟩ = some (I params)) (c1 : w.cell? ⟨bk, 1, none⟩ = some (I vars)) (c4 : w.cell? ⟨bk, 4, none⟩ = some (.slice fa F fc)) (hlt : bk < w.heap.size) :
    Calls Try.prog 58 #[.pointer (some ⟨bk, 0, none⟩), .agg #[U8 op, I dst, av, I imm, I site, dv], I b] w fun e w' => TellB ((op = 32 → b = 0 ∧ 0 ≤ imm ∧ imm < params) ∧ (op = 36 → 1 ≤ imm ∧ imm ≤ 256) ∧ (op = 39 → 0 ≤ imm ∧ imm < (F : Int)) ∧ (op = 43 ∨ op = 44 → 0 ≤ imm ∧ imm < vars)) w e w' := by
  have hne : ¬ bk = w.heap.size := by omega
  have HB := Lib.hid ((Below.refl w.heap.size w).alloc (Nat.le_refl _) (.cells #[U8 op, I dst, av, I imm, I site, dv] 44))
  have y3 : (w.alloc (.cells #[U8 op, I dst, av, I imm, I site, dv] 44)).cell? ⟨w.heap.size, 3, none⟩ = some (I imm) := (Blk.new w _ _).get 3 _ rfl
  have HY := Lib.hid y3
  clear y3
  go_enter Try.func58, Try.ntmps58
  go_wp2_with fail
  all_goals first | (refine (cloImm_any _ _ imm _ HY.out).mono ?_; rintro e w' ⟨rfl, rfl⟩; go_wp2_with fail) | skip
  all_goals go_ret
  all_goals refine ⟨_, rfl, ?_, HB.out⟩
  all_goals simp only [beq_iff_eq, beq_eq_false_iff_ne, ne_eq, decide_eq_true_eq, Bool.and_eq_true, Bool.false_eq_true, eq_self_iff_true, true_iff, false_iff] at *
  all_goals omega
theorem hasImm_any (B bk bm : Nat) (bv fv sv c7 c8 c9 : Value) (c : CodeP) (f : FunP) (x : InstP) (av dv : Value) (b : Int) (w : World) (h : CkZ B bk bm bv fv sv c7 c8 c9 c f w) :
    Calls Try.prog 58 #[.pointer (some ⟨bk, 0, none⟩), instZ x av dv, I b] w fun e w' => TellB (ImmOk c f b x) w e w' := by
  obtain ⟨fa, fc, rfl⟩ := h.ff.size
  exact hasImm_at bk c.funs.length fa fc f.params f.vars x.op x.dst x.imm x.site b av dv w (h.ck.get 0 (I f.params) rfl) (h.ck.get 1 (I f.vars) rfl) (h.ck.get 4 (.slice fa c.funs.length fc) rfl) h.ck.lt

set_option maxRecDepth 100000 in
set_option maxHeartbeats 1600000 in
theorem hasSizes_any (B bk bm : Nat) (bv fv sv c7 c8 c9 : Value) (c : CodeP) (f : FunP) (w : World) (h : CkZ B bk bm bv fv sv c7 c8 c9 c f w) :
    Calls Try.prog 25 #[.pointer (some ⟨bk, 0, none⟩)] w fun e w' => TellB (SizesOk f) w e w' := by
  obtain ⟨ba, bc, rfl⟩ := h.fb.size
  obtain ⟨L, hL⟩ : ∃ L, L = f.blocks.length := ⟨_, rfl⟩
  have c0 := h.ck.get 0 (I f.params) rfl
  have c1 := h.ck.get 1 (I f.vars) rfl
  have c2 := h.ck.get 2 (I f.vals) rfl
  have c3 := h.ck.get 3 (.slice ba f.blocks.length bc) rfl
  rw [← hL] at c3
  obtain ⟨p, hp⟩ : ∃ p, p = f.params := ⟨_, rfl⟩
  obtain ⟨q, hq⟩ : ∃ p, p = f.vars := ⟨_, rfl⟩
  obtain ⟨r, hr⟩ : ∃ p, p = f.vals := ⟨_, rfl⟩
  have HI : Hid (SizesOk f ↔ (0 ≤ p ∧ p ≤ 6) ∧ (0 ≤ q ∧ q ≤ 255) ∧ (0 ≤ r ∧ r ≤ 60000) ∧ 1 ≤ (L : Int) ∧ (L : Int) ≤ 60000) := by
    unfold Hid SizesOk
    rw [hp, hq, hr, hL]
    omega
  rw [← hp] at c0
  rw [← hq] at c1
  rw [← hr] at c2
  clear h hL hp hq hr
  go_enter Try.func25, Try.ntmps25
  go_wp2_with (go_at_call 40; refine (within_any _ _ _ _).mono ?_; rintro e w' ⟨rfl, rfl⟩)
  all_goals go_ret
  all_goals refine ⟨_, rfl, ?_, Below.refl _ _⟩
  all_goals rw [HI.out]
  all_goals try simp only [decide_eq_true_eq, decide_eq_false_iff_not, Bool.and_eq_true, Bool.and_eq_false_iff, Bool.false_eq_true, false_iff] at *
  all_goals omega

set_option maxRecDepth 100000 in
set_option maxHeartbeats 1600000 in
theorem isEnd_at (bk L : Nat) (hL : L ≤ 1000000) (ba : Option Addr) (bc : Nat) (pv iv : Value) (fin arg tt els : Int) (w : World) (c3 : w.cell? ⟨bk, 3, none⟩ = some (.slice ba L bc)) (hlt : bk < w.heap.size) :
    Calls Try.prog 41 #[.pointer (some ⟨bk, 0, none⟩), .agg #[pv, iv, U8 fin, I arg, I tt, I els]] w fun e w' => TellB ((fin = 1 ∧ 1 ≤ tt ∧ tt ≤ (L : Int) - 1) ∨ (fin = 2 ∧ (1 ≤ tt ∧ tt ≤ (L : Int) - 1) ∧ (1 ≤ els ∧ els ≤ (L : Int) - 1) ∧ tt ≠ els) ∨ fin = 3 ∨ fin = 4) w e w' := by
  have hne : ¬ bk = w.heap.size := by omega
  have hLi : (L : Int) ≤ 1000000 := by omega
  have HB := Lib.hid ((Below.refl w.heap.size w).alloc (Nat.le_refl _) (.cells #[pv, iv, U8 fin, I arg, I tt, I els] 40))
  go_enter Try.func41, Try.ntmps41
  go_wp2_with (go_at_call 40; refine (within_any _ _ _ _).mono ?_; rintro e w' ⟨rfl, rfl⟩)
  all_goals go_ret
  all_goals refine ⟨_, rfl, ?_, HB.out⟩
  all_goals simp only [beq_iff_eq, beq_eq_false_iff_ne, ne_eq, decide_eq_true_eq, decide_eq_false_iff_not, Bool.and_eq_true, Bool.and_eq_false_iff, Bool.false_eq_true, true_iff, false_iff, bne_iff_ne] at *
  all_goals omega
end Go.Proofs.Ytjlmkcamefaodaa
