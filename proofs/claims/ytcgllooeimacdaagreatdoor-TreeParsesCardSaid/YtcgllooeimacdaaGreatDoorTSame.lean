/-
  Joined: TLike, TSameP, TSameE, TSameS, TSame.
-/
import Derived.Test.YtcgllooeimacdaaGreatDoorTBal
import Derived.Test.YtcgllooeimacdaaGreatDoorTNum
import Derived.Deep.CutRange
/-! What is read depends on the tokens' kinds, texts and numbers; their places come out in places alone. -/

namespace Go.Proofs.YtcgllooeimacdaaGreatDoor.Px
open Lx (Tok)

mutual
/-- An expression without its places. -/
def stE : Ex → Ex
  | .mk k op nm n _ args => .mk k op nm n 0 (stEs args)
def stEs : List Ex → List Ex
  | [] => []
  | x :: l => stE x :: stEs l
end
mutual
def stS : Sm → Sm
  | .mk k id nm t n _ ex b e => .mk k id nm t n 0 (stEs ex) (stSs b) (stSs e)
def stSs : List Sm → List Sm
  | [] => []
  | x :: l => stS x :: stSs l
end
def stP (p : Pm) : Pm := ⟨p.name, p.typ, 0⟩
def stF (f : Fu) : Fu := ⟨f.name, f.params.map stP, f.result, stSs f.body, 0⟩
theorem stEs_map : ∀ l, stEs l = l.map stE
  | [] => by rw [stEs]; rfl
  | x :: l => by rw [stEs, stEs_map l]; rfl
theorem stSs_map : ∀ l, stSs l = l.map stS
  | [] => by rw [stSs]; rfl
  | x :: l => by rw [stSs, stSs_map l]; rfl

/-- Tokens that are alike but for their places. -/
structure LikeT (ts ts' : List Tok) : Prop where
  kind : ∀ i, (tk ts' i).kind = (tk ts i).kind
  text : ∀ i, (tk ts' i).text = (tk ts i).text
  num : ∀ i, (tk ts' i).num = (tk ts i).num
def TkL (t t' : Tok) : Prop := t'.kind = t.kind ∧ t'.text = t.text ∧ t'.num = t.num
def Rl {α : Type} (Q : α → α → Prop) (r r' : R α) : Prop := match r, r' with
  | .error e, .error e' => e'.2 = e.2
  | .ok (x, s), .ok (x', s') => s' = s ∧ Q x x'
  | _, _ => False
section
variable {α β : Type} {ts ts' : List Tok} {s : St} {Q : α → α → Prop} {P : β → β → Prop} {r r' : R α}
inductive Ls {α : Type} (Q : α → α → Prop) : List α → List α → Prop
  | nil : Ls Q [] []
  | cons {x x' : α} {l l' : List α} (h : Q x x') (hl : Ls Q l l') : Ls Q (x :: l) (x' :: l')
end
def LE (x x' : Ex) : Prop := stE x' = stE x
def LS (x x' : Sm) : Prop := stS x' = stS x
def LP (x x' : Pm) : Prop := stP x' = stP x
def LF (x x' : Fu) : Prop := stF x' = stF x


section
variable {ts ts' : List Tok} {f id pos pos' : Nat} {s : St}
end
end Go.Proofs.YtcgllooeimacdaaGreatDoor.Px

/-! Trees that are alike, places aside or not: plainly. -/

namespace Go.Proofs.YtcgllooeimacdaaGreatDoor.Px

def eqE (pl : Bool) (a b : Ex) : Prop := stE a = stE b ∧ (pl = true → a = b)
def eqEs (pl : Bool) (a b : List Ex) : Prop := stEs a = stEs b ∧ (pl = true → a = b)
def eqS (pl : Bool) (a b : Sm) : Prop := stS a = stS b ∧ (pl = true → a = b)
def eqSs (pl : Bool) (a b : List Sm) : Prop := stSs a = stSs b ∧ (pl = true → a = b)
def eqP (pl : Bool) (a b : Pm) : Prop := stP a = stP b ∧ (pl = true → a = b)
def eqF (pl : Bool) (a b : Fu) : Prop := stF a = stF b ∧ (pl = true → a = b)
def eqFs (pl : Bool) (a b : List Fu) : Prop := a.map stF = b.map stF ∧ (pl = true → a = b)

theorem eqEs_len {pl : Bool} {a b : List Ex} (h : eqEs pl a b) : a.length = b.length := by
  have := congrArg List.length h.1
  rwa [stEs_map, stEs_map, List.length_map, List.length_map] at this
theorem eqEs_cons {pl : Bool} {x : Ex} {l b : List Ex} (h : eqEs pl (x :: l) b) : ∃ y m, b = y :: m ∧ eqE pl x y ∧ eqEs pl l m := by
  have hl := eqEs_len h
  match b, hl with
  | y :: m, _ =>
    obtain ⟨h1, h2⟩ := h
    rw [stEs, stEs] at h1
    injection h1 with h3 h4
    exact ⟨y, m, rfl, ⟨h3, fun hp => by have := h2 hp; injection this⟩, ⟨h4, fun hp => by have := h2 hp; injection this⟩⟩
theorem eqE_mk {pl : Bool} {k op n p k' op' n' p' : Nat} {nm nm' : Bytes} {a a' : List Ex} (h : eqE pl (.mk k op nm n p a) (.mk k' op' nm' n' p' a')) :
    k' = k ∧ op' = op ∧ nm' = nm ∧ n' = n ∧ (pl = true → p' = p) ∧ eqEs pl a a' := by
  obtain ⟨h1, h2⟩ := h
  rw [stE, stE] at h1
  injection h1 with e1 e2 e3 e4 e5 e6
  exact ⟨e1.symm, e2.symm, e3.symm, e4.symm, (fun hp => by have := h2 hp; injection this with _ _ _ _ q _; exact q.symm), ⟨e6, fun hp => by have := h2 hp; injection this⟩⟩

theorem eqSs_len {pl : Bool} {a b : List Sm} (h : eqSs pl a b) : a.length = b.length := by
  have := congrArg List.length h.1
  rwa [stSs_map, stSs_map, List.length_map, List.length_map] at this
theorem eqSs_cons {pl : Bool} {x : Sm} {l b : List Sm} (h : eqSs pl (x :: l) b) : ∃ y m, b = y :: m ∧ eqS pl x y ∧ eqSs pl l m := by
  have hl := eqSs_len h
  match b, hl with
  | y :: m, _ =>
    obtain ⟨h1, h2⟩ := h
    rw [stSs, stSs] at h1
    injection h1 with h3 h4
    exact ⟨y, m, rfl, ⟨h3, fun hp => by have := h2 hp; injection this⟩, ⟨h4, fun hp => by have := h2 hp; injection this⟩⟩
theorem eqS_mk {pl : Bool} {k id t n p k' id' t' n' p' : Nat} {nm nm' : Bytes} {a a' : List Ex} {b b' c c' : List Sm} (h : eqS pl (.mk k id nm t n p a b c) (.mk k' id' nm' t' n' p' a' b' c')) :
    k' = k ∧ id' = id ∧ nm' = nm ∧ t' = t ∧ n' = n ∧ (pl = true → p' = p) ∧ eqEs pl a a' ∧ eqSs pl b b' ∧ eqSs pl c c' := by
  obtain ⟨h1, h2⟩ := h
  rw [stS, stS] at h1
  injection h1 with e1 e2 e3 e4 e5 e6 e7 e8 e9
  exact ⟨e1.symm, e2.symm, e3.symm, e4.symm, e5.symm, (fun hp => by have := h2 hp; injection this with _ _ _ _ _ q _ _ _; exact q.symm), ⟨e7, fun hp => by have := h2 hp; injection this⟩, ⟨e8, fun hp => by have := h2 hp; injection this⟩, ⟨e9, fun hp => by have := h2 hp; injection this⟩⟩

theorem eqFs_len {pl : Bool} {a b : List Fu} (h : eqFs pl a b) : a.length = b.length := by
  have := congrArg List.length h.1
  rwa [List.length_map, List.length_map] at this
theorem eqFs_cons {pl : Bool} {x : Fu} {l b : List Fu} (h : eqFs pl (x :: l) b) : ∃ y m, b = y :: m ∧ eqF pl x y ∧ eqFs pl l m := by
  have hl := eqFs_len h
  match b, hl with
  | y :: m, _ =>
    obtain ⟨h1, h2⟩ := h
    rw [List.map_cons, List.map_cons] at h1
    injection h1 with h3 h4
    exact ⟨y, m, rfl, ⟨h3, fun hp => by have := h2 hp; injection this⟩, ⟨h4, fun hp => by have := h2 hp; injection this⟩⟩
theorem eqF_is {pl : Bool} {x y : Fu} (h : eqF pl x y) : y.name = x.name ∧ y.result = x.result ∧ (pl = true → y.pos = x.pos) ∧ x.params.map stP = y.params.map stP ∧ (pl = true → x.params = y.params) ∧ eqSs pl x.body y.body := by
  obtain ⟨h1, h2⟩ := h
  unfold stF at h1
  injection h1 with e1 e2 e3 e4 e5
  exact ⟨e1.symm, e3.symm, (fun hp => by rw [h2 hp]), e2, (fun hp => by rw [h2 hp]), ⟨e4, fun hp => by rw [h2 hp]⟩⟩
def eqPs (pl : Bool) (a b : List Pm) : Prop := a.map stP = b.map stP ∧ (pl = true → a = b)
theorem eqPs_len {pl : Bool} {a b : List Pm} (h : eqPs pl a b) : a.length = b.length := by
  have := congrArg List.length h.1
  rwa [List.length_map, List.length_map] at this
theorem eqPs_cons {pl : Bool} {x : Pm} {l b : List Pm} (h : eqPs pl (x :: l) b) : ∃ y m, b = y :: m ∧ (y.name = x.name ∧ y.typ = x.typ ∧ (pl = true → y.pos = x.pos)) ∧ eqPs pl l m := by
  have hl := eqPs_len h
  match b, hl with
  | y :: m, _ =>
    obtain ⟨h1, h2⟩ := h
    rw [List.map_cons, List.map_cons] at h1
    injection h1 with h3 h4
    unfold stP at h3
    injection h3 with e1 e2 _
    exact ⟨y, m, rfl, ⟨e1.symm, e2.symm, fun hp => by have := h2 hp; injection this with h5 _; rw [h5]⟩, ⟨h4, fun hp => by have := h2 hp; injection this⟩⟩

mutual
/-- How much there is of an expression. -/
def szE : Ex → Nat
  | .mk _ _ _ _ _ args => 1 + szEs args
def szEs : List Ex → Nat
  | [] => 0
  | x :: l => szE x + szEs l
end
mutual
def szS : Sm → Nat
  | .mk _ _ _ _ _ _ ex b e => 1 + szEs ex + szSs b + szSs e
def szSs : List Sm → Nat
  | [] => 0
  | x :: l => szS x + szSs l
end
theorem szEs_append : ∀ (a b : List Ex), szEs (a ++ b) = szEs a + szEs b
  | [], b => by rw [List.nil_append, szEs, Nat.zero_add]
  | x :: a, b => by rw [List.cons_append, szEs, szEs, szEs_append a b, Nat.add_assoc]
theorem szSs_append : ∀ (a b : List Sm), szSs (a ++ b) = szSs a + szSs b
  | [], b => by rw [List.nil_append, szSs, Nat.zero_add]
  | x :: a, b => by rw [List.cons_append, szSs, szSs, szSs_append a b, Nat.add_assoc]
end Go.Proofs.YtcgllooeimacdaaGreatDoor.Px

/-! The statement's own SameExpr: true of expressions that are alike. -/

namespace Go.Proofs.YtcgllooeimacdaaGreatDoor
open Go Go.RowKit Px
open Lx (Tok)

theorem ExC_len {w : World} {ok : Nat → Prop} : ∀ {x : Ex} {cs : List Value}, ExC w ok x cs → cs.length = 6
  | .mk _ _ _ _ _ _, cs, h => by
    simp only [ExC] at h
    obtain ⟨v1, rfl, _⟩ := h
    rfl
theorem ExsC_at {w : World} {ok : Nat → Prop} {x : Ex} {r : List Ex} : ∀ (d : List Ex) {xs : List Value}, ExsC w ok (d ++ x :: r) xs → ∃ cs, ExC w ok x cs ∧ ∀ j, j < 6 → xs[d.length * 6 + j]? = cs[j]?
  | [], xs, h => by
    simp only [List.nil_append, ExsC] at h
    obtain ⟨c, e, rfl, h1, _⟩ := h
    refine ⟨c, h1, fun j hj => ?_⟩
    rw [List.getElem?_append_left (by rw [ExC_len h1]; simpa using hj)]
    simp
  | y :: d, xs, h => by
    simp only [List.cons_append, ExsC] at h
    obtain ⟨c, e, rfl, h1, h2⟩ := h
    obtain ⟨cs, h3, h4⟩ := ExsC_at d h2
    have hl := ExC_len h1
    refine ⟨cs, h3, fun j hj => ?_⟩
    rw [List.getElem?_append_right (by rw [hl]; simp only [List.length_cons]; omega), hl, ← h4 j hj]
    congr 1
    simp only [List.length_cons]; omega
theorem ex_at {w : World} {ok : Nat → Prop} {d r : List Ex} {k op : Nat} {nm : Bytes} {n pos : Nat} {args : List Ex} {sv : Value} (h : ExRow w ok (d ++ .mk k op nm n pos args :: r) sv) :
    ∃ (g cap : Nat) (a1 : Option Addr) (c1 : Nat), sv = .slice (some ⟨g, 0, none⟩) (d ++ .mk k op nm n pos args :: r).length cap ∧ g < w.heap.size ∧
      ExRow w ok args (.slice a1 args.length c1) ∧ ∀ j u, (exCells k op nm n pos a1 args.length c1).toList[j]? = some u → w.cell? ⟨g, d.length * 6 + j, none⟩ = some u := by
  rcases h with ⟨h, _⟩ | ⟨g, cap, xs, rfl, hg, ho, hxs⟩
  · simp at h
  obtain ⟨cs, h1, h2⟩ := ExsC_at d hxs
  simp only [ExC] at h1
  obtain ⟨v1, rfl, e1⟩ := h1
  have e1 : ExRow w ok args v1 := e1
  have form : ∃ (a : Option Addr) (c : Nat), v1 = .slice a args.length c := by
    rcases e1 with ⟨rfl, rfl⟩ | ⟨_, _, _, rfl, _⟩
    · exact ⟨_, _, rfl⟩
    · exact ⟨_, _, rfl⟩
  obtain ⟨a1, c1, rfl⟩ := form
  refine ⟨g, cap, a1, c1, rfl, owns_lt ho, e1, ?_⟩
  intro j u hu
  have hj : j < 6 := by
    have := (List.getElem?_eq_some_iff.1 hu).1
    simpa using this
  have hadd : ∀ j, (⟨g, 0, none⟩ : Addr).add j = ⟨g, j, none⟩ := by intro j; unfold Addr.add; split <;> simp_all
  have := ho.cells (g := g) rfl (d.length * 6 + j) u (by rw [h2 j hj]; exact hu)
  rwa [hadd] at this
theorem ex_form {w : World} {ok : Nat → Prop} {l : List Ex} {sv : Value} (h : ExRow w ok l sv) : ∃ (a : Option Addr) (c : Nat), sv = .slice a l.length c := by
  rcases h with ⟨rfl, rfl⟩ | ⟨_, _, _, rfl, _⟩
  · exact ⟨_, _, rfl⟩
  · exact ⟨_, _, rfl⟩

theorem Blk.alloc {b : Nat} {cs : Array Value} {T : TypeId} {w : World} (h : Blk b cs T w) (o : Obj) : Blk b cs T (w.alloc o) := h.below (B := w.heap.size) ((Below.refl _ _).alloc (Nat.le_refl _) o) h.lt
theorem cellB {w w' : World} (h : Below w.heap.size w w') {g i : Nat} (hg : g < w.heap.size) {v : Value} (hc : w.cell? ⟨g, i, none⟩ = some v) : w'.cell? ⟨g, i, none⟩ = some v := by
  unfold World.cell? at hc ⊢
  rw [h.block g hg]
  exact hc
theorem row_max {α : Type} {w : World} {ok : Nat → Prop} {E size : Nat} {P : List α → List Value → Prop} {l : List α} {sv : Value} (h : RowW w ok E size P l sv) : (l.length : Int) ≤ (maxLen : Int) := by
  rcases h with ⟨rfl, _⟩ | ⟨g, cap, xs, rfl, _, ho, _⟩
  · exact Int.natCast_nonneg _
  · obtain ⟨_, h2⟩ := ho
    rcases h2 with ⟨h2, _⟩ | ⟨g', cap', cur, hv, _, _, h3, h4, _⟩
    · cases h2
    · have : l.length ≤ maxLen := Nat.le_trans h3 h4
      exact_mod_cast this
/-- Two new blocks. -/
def TwoC (w : World) (cs ds : Array Value) (E : TypeId) (p q : Value) (W : World) : Prop := ∃ a b, p = .pointer (some ⟨a, 0, none⟩) ∧ q = .pointer (some ⟨b, 0, none⟩) ∧ Blk a cs E W ∧ Blk b ds E W ∧ Below w.heap.size w W
theorem two_one (w : World) (cs ds : Array Value) (E : TypeId) : TwoC w cs ds E (.pointer (some ⟨w.heap.size, 0, none⟩)) (.pointer (some ⟨w.heap.size + 1, 0, none⟩)) ((w.alloc (.cells cs E)).alloc (.cells ds E)).drew :=
  ⟨_, _, rfl, rfl, Blk.alloc (Blk.new _ _ _) _, Blk.new' _ _ _ (by simp), (((Below.refl _ _).alloc (Nat.le_refl _) _).alloc (by simp) _).drew⟩
theorem two_two (w : World) (cs ds : Array Value) (E : TypeId) : TwoC w cs ds E (.pointer (some ⟨w.heap.size + 1, 0, none⟩)) (.pointer (some ⟨w.heap.size, 0, none⟩)) ((w.alloc (.cells ds E)).alloc (.cells cs E)).drew :=
  ⟨_, _, rfl, rfl, Blk.new' _ _ _ (by simp), Blk.alloc (Blk.new _ _ _) _, (((Below.refl _ _).alloc (Nat.le_refl _) _).alloc (by simp) _).drew⟩

def ok0 (_ : Nat) : Prop := True
theorem ok0_stays {w w' : World} (hb : Below w.heap.size w w') : Stays w ok0 w' ok0 := fun g _ hl => ⟨hb.block g hl, trivial⟩

def SameP (w : World) (e : Ending) (w' : World) : Prop := e = .returned (.bool true) ∧ Below w.heap.size w w'
def SameEC (K : Nat) : Prop := ∀ (pl : Bool) (l l' : List Ex) (sv sv' : Value) (w : World), szEs l ≤ K → eqEs pl l l' → ExRow w ok0 l sv → ExRow w ok0 l' sv' → Calls Tryz.prog 44 #[sv, sv', .bool pl] w (SameP w)
def SameERel (pl : Bool) (l l' : List Ex) (w : World) (gk : Nat) (v : Value) (wr : World) : Prop := ∃ (d r d' r' : List Ex), l = d ++ r ∧ l' = d' ++ r' ∧ d'.length = d.length ∧ r.length = gk ∧ v = .int .i64 (d.length : Int) ∧ eqEs pl r r' ∧ Below w.heap.size w wr

set_option maxRecDepth 100000 in
set_option maxHeartbeats 4000000 in
theorem sameE_step (K : Nat) (IH : ∀ K', K' < K → SameEC K') : SameEC K := by
  intro pl l l' sv sv' w hK heq hrow hrow'
  obtain ⟨av, cv, rfl⟩ := ex_form hrow
  obtain ⟨av', cv', rfl⟩ := ex_form hrow'
  have hlen := eqEs_len heq
  rw [← hlen]
  rw [← hlen] at hrow'
  have HIH := Lib.hid IH
  have HROW := Lib.hid (And.intro hrow hrow')
  have HREL := Lib.hid (show SameERel pl l l' w l.length (.int .i64 0) w from ⟨[], l, [], l', rfl, rfl, rfl, rfl, rfl, heq, Below.refl _ _⟩)
  have HMX := Lib.hid (row_max hrow)
  have hne : ((l.length : Int) != (l.length : Int)) = false := by simp
  have HK := Lib.hid (And.intro hK hlen)
  clear IH hrow hrow' heq hlen hK
  go_enter Tryz.func44, Tryz.ntmps44
  go_wp2_with fail
  go_loopg [17] l.length (fun gk v wr => SameERel pl l l' w gk v wr)
  case atStart => exact HREL.out
  case round =>
    obtain ⟨d, r, d', r', hl, hl', hdd, hgk, rfl, heq, hb⟩ := hrel
    have hll : l.length = d.length + r.length := by rw [hl, List.length_append]
    cases r with
    | nil =>
      have hge : ¬ (d.length : Int) < (l.length : Int) := by rw [hll]; simp
      have FIN := Lib.hid hb
      clear heq hb hll
      go_wp2
      go_ret
      exact ⟨rfl, FIN.out⟩
    | cons x r =>
      obtain ⟨y, r'', rfl, hxy, heq2⟩ := eqEs_cons heq
      obtain ⟨xk, xop, xnm, xn, xpos, xa⟩ := x
      obtain ⟨yk, yop, ynm, yn, ypos, ya⟩ := y
      obtain ⟨rfl, rfl, rfl, rfl, hpos, hargs⟩ := eqE_mk hxy
      have hrow := HROW.out.1
      rw [hl] at hrow
      obtain ⟨g, cap, b1, c1, hsv, hgl, hra, hcell⟩ := ex_at hrow
      rw [← hl] at hsv
      cases hsv
      have hrow' := HROW.out.2
      rw [hl'] at hrow'
      obtain ⟨g', cap', b1', c1', hsv', hgl', hra', hcell'⟩ := ex_at hrow'
      injection hsv' with e1 e2 e3
      subst e1
      subst e3
      rw [hdd] at hcell'
      have hcr : ∀ j u, (exCells yk yop ynm yn xpos b1 xa.length c1).toList[j]? = some u → wr.cell? ⟨g, d.length * 6 + j, none⟩ = some u := fun j u hu => cellB hb hgl (hcell j u hu)
      have hcr' : ∀ j u, (exCells yk yop ynm yn ypos b1' ya.length c1').toList[j]? = some u → wr.cell? ⟨g', d.length * 6 + j, none⟩ = some u := fun j u hu => cellB hb hgl' (hcell' j u hu)
      have k0 := hcr 0 _ rfl
      have k1 := hcr 1 _ rfl
      have k2 := hcr 2 _ rfl
      have k3 := hcr 3 _ rfl
      have k4 := hcr 4 _ rfl
      have k5 := hcr 5 _ rfl
      have j0 := hcr' 0 _ rfl
      have j1 := hcr' 1 _ rfl
      have j2 := hcr' 2 _ rfl
      have j3 := hcr' 3 _ rfl
      have j4 := hcr' 4 _ rfl
      have j5 := hcr' 5 _ rfl
      rw [Nat.add_zero] at k0 j0
      have hidx : (d.length : Int) < (l.length : Int) := by rw [hll]; simp; omega
      have hlb : (l.length : Int) ≤ 9223372036854775807 := HMX.out
      have y1 : g < wr.heap.size := by have := hb.size; omega
      have y2 : ¬ g = wr.heap.size := by omega
      have y3 : g < wr.heap.size + 1 := by omega
      have y4 : ¬ g = wr.heap.size + 1 := by omega
      have z1 : g' < wr.heap.size := by have := hb.size; omega
      have z2 : ¬ g' = wr.heap.size := by omega
      have z3 : g' < wr.heap.size + 1 := by omega
      have z4 : ¬ g' = wr.heap.size + 1 := by omega
      have hsz : szEs xa < K := by
        have := HK.out.1
        rw [hl, szEs_append, szEs, szE] at this
        omega
      have HX := Lib.hid (And.intro hra (And.intro hra' (And.intro hargs (And.intro hb hsz))))
      have HREST := Lib.hid (And.intro hl (And.intro hl' (And.intro hdd heq2)))
      clear hrow hrow' hcell hcell' hcr hcr' hra hra' hargs hb hsz heq heq2 hl hl' hdd hxy e2 hll
      go_upto_region 6 with (fail)
      go_cut [8, 9, 17] from 17 to 73 (fun p q c W => c = .int .i64 (d.length : Int) ∧ TwoC wr (exCells yk yop ynm yn xpos b1 xa.length c1) (exCells yk yop ynm yn ypos b1' ya.length c1') 36 p q W)
      case first =>
        go_region
        all_goals (go_wp2_with fail; go_meet; case rel => first | exact ⟨rfl, two_one _ _ _ _⟩ | exact ⟨rfl, two_two _ _ _ _⟩)
      case rest =>
        obtain ⟨rfl, p, q, rfl, rfl, h1, h2, h3⟩ := hcut
        have p0 := h1.get 0 (.int .u8 (yk : Int)) rfl
        have p1 := h1.get 1 (.int .u8 (yop : Int)) rfl
        have p2 := h1.get 2 (.string ⟨ynm.toArray⟩) rfl
        have p3 := h1.get 3 (.int .i64 (yn : Int)) rfl
        have p4 := h1.get 4 (.int .i64 (xpos : Int)) rfl
        have p5 := h1.get 5 (.slice b1 xa.length c1) rfl
        have q0 := h2.get 0 (.int .u8 (yk : Int)) rfl
        have q1 := h2.get 1 (.int .u8 (yop : Int)) rfl
        have q2 := h2.get 2 (.string ⟨ynm.toArray⟩) rfl
        have q3 := h2.get 3 (.int .i64 (yn : Int)) rfl
        have q4 := h2.get 4 (.int .i64 (ypos : Int)) rfl
        have q5 := h2.get 5 (.slice b1' ya.length c1') rfl
        have n0 : ((yk : Int) != (yk : Int)) = false := by simp
        have n1 : ((yop : Int) != (yop : Int)) = false := by simp
        have n3 : ((yn : Int) != (yn : Int)) = false := by simp
        obtain ⟨T, hT⟩ : ∃ T : ByteArray, T = ⟨ynm.toArray⟩ := ⟨_, rfl⟩
        rw [← hT] at p2 q2
        have n2 : (T.toList != T.toList) = false := by simp
        have n4 : (T.toList == T.toList) = true := by simp
        have hbw := HX.out.2.2.2.1.trans (h3.mono HX.out.2.2.2.1.size)
        have HC := Lib.hid (HIH.out (szEs xa) HX.out.2.2.2.2 pl xa ya _ _ wc (Nat.le_refl _) HX.out.2.2.1 (HX.out.1.stays (ok0_stays hbw)) (HX.out.2.1.stays (ok0_stays hbw)))
        have HBW := Lib.hid hbw
        clear h1 h2 h3 hT hbw k0 k1 k2 k3 k4 k5 j0 j1 j2 j3 j4 j5 y1 y2 y3 y4 z1 z2 z3 z4 hgl hgl'
        cases pl with
        | false =>
          clear hpos
          go_wp2_with fail
          refine HC.out.mono ?_
          rintro e w5 ⟨rfl, hb5⟩
          have FIN := Lib.hid (show SameERel false l l' w r.length (.int .i64 ((d.length : Int) + 1)) w5 from ⟨d ++ [.mk yk yop ynm yn xpos xa], r, d' ++ [.mk yk yop ynm yn ypos ya], r'', by rw [HREST.out.1]; simp, by rw [HREST.out.2.1]; simp, by simp [HREST.out.2.2.1], rfl, by simp, HREST.out.2.2.2, HBW.out.trans (hb5.mono HBW.out.size)⟩)
          clear hb5
          go_wp2
          go_roundg r.length
          case measure => simp only [List.length_cons] at hgk; omega
          case rel => exact FIN.out
        | true =>
          obtain rfl := hpos rfl
          have n5 : ((ypos : Int) != (ypos : Int)) = false := by simp
          clear hpos
          go_wp2_with fail
          refine HC.out.mono ?_
          rintro e w5 ⟨rfl, hb5⟩
          have FIN := Lib.hid (show SameERel true l l' w r.length (.int .i64 ((d.length : Int) + 1)) w5 from ⟨d ++ [.mk yk yop ynm yn ypos xa], r, d' ++ [.mk yk yop ynm yn ypos ya], r'', by rw [HREST.out.1]; simp, by rw [HREST.out.2.1]; simp, by simp [HREST.out.2.2.1], rfl, by simp, HREST.out.2.2.2, HBW.out.trans (hb5.mono HBW.out.size)⟩)
          clear hb5
          go_wp2
          go_roundg r.length
          case measure => simp only [List.length_cons] at hgk; omega
          case rel => exact FIN.out
theorem sameE_any : ∀ K, SameEC K := by
  have h : ∀ n K, K < n → SameEC K := by
    intro n
    induction n with
    | zero => intro K h; omega
    | succ n ih => intro K h; exact sameE_step K fun K' h' => ih K' (by omega)
  exact fun K => h (K + 1) K (by omega)
end Go.Proofs.YtcgllooeimacdaaGreatDoor

/-! The statement's own SameStmt: true of statements that are alike. -/

namespace Go.Proofs.YtcgllooeimacdaaGreatDoor
open Go Go.RowKit Px
open Lx (Tok)

theorem sm_at2 {w : World} {ok : Nat → Prop} {d r : List Sm} {k id : Nat} {nm : Bytes} {t n pos : Nat} {ex : List Ex} {body els : List Sm} {sv : Value} (h : SmRow w ok (d ++ .mk k id nm t n pos ex body els :: r) sv) :
    ∃ (g cap : Nat) (a1 : Option Addr) (m1 c1 : Nat) (a2 : Option Addr) (m2 c2 : Nat) (a3 : Option Addr) (m3 c3 : Nat), sv = .slice (some ⟨g, 0, none⟩) (d ++ .mk k id nm t n pos ex body els :: r).length cap ∧ g < w.heap.size ∧
      ExRow w ok ex (.slice a1 m1 c1) ∧ SmRow w ok body (.slice a2 m2 c2) ∧ SmRow w ok els (.slice a3 m3 c3) ∧ ∀ j u, (smCells k id nm t n pos (.slice a1 m1 c1) (.slice a2 m2 c2) (.slice a3 m3 c3)).toList[j]? = some u → w.cell? ⟨g, d.length * 9 + j, none⟩ = some u := by
  rcases h with ⟨h, _⟩ | ⟨g, cap, xs, rfl, hg, ho, hxs⟩
  · simp at h
  obtain ⟨cs, h1, h2⟩ := SmsC_at d hxs
  simp only [SmC] at h1
  obtain ⟨v1, v2, v3, rfl, e1, e2, e3⟩ := h1
  have form : ∀ {α : Type} {E size : Nat} {P : List α → List Value → Prop} {l : List α} {v : Value}, RowW w ok E size P l v → ∃ (a : Option Addr) (m c : Nat), v = .slice a m c := by
    intro α E size P l v h
    rcases h with ⟨_, rfl⟩ | ⟨_, _, _, rfl, _⟩
    · exact ⟨_, _, _, rfl⟩
    · exact ⟨_, _, _, rfl⟩
  have e1 : ExRow w ok ex v1 := e1
  have e2 : SmRow w ok body v2 := e2
  have e3 : SmRow w ok els v3 := e3
  obtain ⟨a1, m1, c1, rfl⟩ := form e1
  obtain ⟨a2, m2, c2, rfl⟩ := form e2
  obtain ⟨a3, m3, c3, rfl⟩ := form e3
  refine ⟨g, cap, a1, m1, c1, a2, m2, c2, a3, m3, c3, rfl, owns_lt ho, e1, e2, e3, ?_⟩
  intro j u hu
  have hj : j < 9 := by
    have := (List.getElem?_eq_some_iff.1 hu).1
    simpa using this
  have hadd : ∀ j, (⟨g, 0, none⟩ : Addr).add j = ⟨g, j, none⟩ := by intro j; unfold Addr.add; split <;> simp_all
  have := ho.cells (g := g) rfl (d.length * 9 + j) u (by rw [h2 j hj]; exact hu)
  rwa [hadd] at this

def SameSC (K : Nat) : Prop := ∀ (pl : Bool) (l l' : List Sm) (sv sv' : Value) (w : World), szSs l ≤ K → eqSs pl l l' → SmRow w ok0 l sv → SmRow w ok0 l' sv' → Calls Tryz.prog 25 #[sv, sv', .bool pl] w (SameP w)
def SameSRel (pl : Bool) (l l' : List Sm) (w : World) (gk : Nat) (v : Value) (wr : World) : Prop := ∃ (d r d' r' : List Sm), l = d ++ r ∧ l' = d' ++ r' ∧ d'.length = d.length ∧ r.length = gk ∧ v = .int .i64 (d.length : Int) ∧ eqSs pl r r' ∧ Below w.heap.size w wr

set_option maxRecDepth 100000 in
set_option maxHeartbeats 4000000 in
theorem sameS_step (K : Nat) (IH : ∀ K', K' < K → SameSC K') : SameSC K := by
  intro pl l l' sv sv' w hK heq hrow hrow'
  obtain ⟨av, cv, rfl⟩ := sm_form hrow
  obtain ⟨av', cv', rfl⟩ := sm_form hrow'
  have hlen := eqSs_len heq
  rw [← hlen]
  rw [← hlen] at hrow'
  have HIH := Lib.hid IH
  have HROW := Lib.hid (And.intro hrow hrow')
  have HREL := Lib.hid (show SameSRel pl l l' w l.length (.int .i64 0) w from ⟨[], l, [], l', rfl, rfl, rfl, rfl, rfl, heq, Below.refl _ _⟩)
  have HMX := Lib.hid (row_max hrow)
  have hne : ((l.length : Int) != (l.length : Int)) = false := by simp
  have HK := Lib.hid (And.intro hK hlen)
  clear IH hrow hrow' heq hlen hK
  go_enter Tryz.func25, Tryz.ntmps25
  go_wp2_with fail
  go_loopg [17] l.length (fun gk v wr => SameSRel pl l l' w gk v wr)
  case atStart => exact HREL.out
  case round =>
    obtain ⟨d, r, d', r', hl, hl', hdd, hgk, rfl, heq, hb⟩ := hrel
    have hll : l.length = d.length + r.length := by rw [hl, List.length_append]
    cases r with
    | nil =>
      have hge : ¬ (d.length : Int) < (l.length : Int) := by rw [hll]; simp
      have FIN := Lib.hid hb
      clear heq hb hll
      go_wp2
      go_ret
      exact ⟨rfl, FIN.out⟩
    | cons x r =>
      obtain ⟨y, r'', rfl, hxy, heq2⟩ := eqSs_cons heq
      obtain ⟨xk, xid, xnm, xt, xn, xpos, xe, xb, xc⟩ := x
      obtain ⟨yk, yid, ynm, yt, yn, ypos, ye, yb, yc⟩ := y
      obtain ⟨rfl, rfl, rfl, rfl, rfl, hpos, hE, hB, hC⟩ := eqS_mk hxy
      have hrow := HROW.out.1
      rw [hl] at hrow
      obtain ⟨g, cap, b1, m1, c1, b2, m2, c2, b3, m3, c3, hsv, hgl, r1, r2, r3, hcell⟩ := sm_at2 hrow
      rw [← hl] at hsv
      cases hsv
      have hrow' := HROW.out.2
      rw [hl'] at hrow'
      obtain ⟨g', cap', b1', m1', c1', b2', m2', c2', b3', m3', c3', hsv', hgl', r1', r2', r3', hcell'⟩ := sm_at2 hrow'
      injection hsv' with e1 e2 e3
      subst e1
      subst e3
      rw [hdd] at hcell'
      have hcr : ∀ j u, (smCells yk yid ynm yt yn xpos (.slice b1 m1 c1) (.slice b2 m2 c2) (.slice b3 m3 c3)).toList[j]? = some u → wr.cell? ⟨g, d.length * 9 + j, none⟩ = some u := fun j u hu => cellB hb hgl (hcell j u hu)
      have hcr' : ∀ j u, (smCells yk yid ynm yt yn ypos (.slice b1' m1' c1') (.slice b2' m2' c2') (.slice b3' m3' c3')).toList[j]? = some u → wr.cell? ⟨g', d.length * 9 + j, none⟩ = some u := fun j u hu => cellB hb hgl' (hcell' j u hu)
      have k0 := hcr 0 _ rfl
      have k1 := hcr 1 _ rfl
      have k2 := hcr 2 _ rfl
      have k3 := hcr 3 _ rfl
      have k4 := hcr 4 _ rfl
      have k5 := hcr 5 _ rfl
      have k6 := hcr 6 _ rfl
      have k7 := hcr 7 _ rfl
      have k8 := hcr 8 _ rfl
      have j0 := hcr' 0 _ rfl
      have j1 := hcr' 1 _ rfl
      have j2 := hcr' 2 _ rfl
      have j3 := hcr' 3 _ rfl
      have j4 := hcr' 4 _ rfl
      have j5 := hcr' 5 _ rfl
      have j6 := hcr' 6 _ rfl
      have j7 := hcr' 7 _ rfl
      have j8 := hcr' 8 _ rfl
      rw [Nat.add_zero] at k0 j0
      have hidx : (d.length : Int) < (l.length : Int) := by rw [hll]; simp; omega
      have hlb : (l.length : Int) ≤ 9223372036854775807 := HMX.out
      have y1 : g < wr.heap.size := by have := hb.size; omega
      have y2 : ¬ g = wr.heap.size := by omega
      have y3 : g < wr.heap.size + 1 := by omega
      have y4 : ¬ g = wr.heap.size + 1 := by omega
      have z1 : g' < wr.heap.size := by have := hb.size; omega
      have z2 : ¬ g' = wr.heap.size := by omega
      have z3 : g' < wr.heap.size + 1 := by omega
      have z4 : ¬ g' = wr.heap.size + 1 := by omega
      have hsz : szSs xb < K ∧ szSs xc < K := by
        have := HK.out.1
        rw [hl, szSs_append, szSs, szS] at this
        omega
      have HX := Lib.hid (And.intro (And.intro r1 (And.intro r2 r3)) (And.intro (And.intro r1' (And.intro r2' r3')) (And.intro (And.intro hE (And.intro hB hC)) (And.intro hb hsz))))
      have HREST := Lib.hid (And.intro hl (And.intro hl' (And.intro hdd heq2)))
      clear hrow hrow' hcell hcell' hcr hcr' r1 r2 r3 r1' r2' r3' hE hB hC hb hsz heq heq2 hl hl' hdd hxy e2 hll
      go_upto_region 6 with (fail)
      go_cut [8, 9, 17] from 17 to 96 (fun p q c W => c = .int .i64 (d.length : Int) ∧ TwoC wr (smCells yk yid ynm yt yn xpos (.slice b1 m1 c1) (.slice b2 m2 c2) (.slice b3 m3 c3)) (smCells yk yid ynm yt yn ypos (.slice b1' m1' c1') (.slice b2' m2' c2') (.slice b3' m3' c3')) 39 p q W)
      case first =>
        go_region
        all_goals (go_wp2_with fail; go_meet; case rel => first | exact ⟨rfl, two_one _ _ _ _⟩ | exact ⟨rfl, two_two _ _ _ _⟩)
      case rest =>
        obtain ⟨rfl, p, q, rfl, rfl, h1, h2, h3⟩ := hcut
        have p0 := h1.get 0 (.int .u8 (yk : Int)) rfl
        have p1 := h1.get 1 (.int .i64 (yid : Int)) rfl
        have p2 := h1.get 2 (.string ⟨ynm.toArray⟩) rfl
        have p3 := h1.get 3 (.int .u8 (yt : Int)) rfl
        have p4 := h1.get 4 (.int .i64 (yn : Int)) rfl
        have p5 := h1.get 5 (.int .i64 (xpos : Int)) rfl
        have q0 := h2.get 0 (.int .u8 (yk : Int)) rfl
        have q1 := h2.get 1 (.int .i64 (yid : Int)) rfl
        have q2 := h2.get 2 (.string ⟨ynm.toArray⟩) rfl
        have q3 := h2.get 3 (.int .u8 (yt : Int)) rfl
        have q4 := h2.get 4 (.int .i64 (yn : Int)) rfl
        have q5 := h2.get 5 (.int .i64 (ypos : Int)) rfl
        have p6 := h1.get 6 (.slice b1 m1 c1) rfl
        have q6 := h2.get 6 (.slice b1' m1' c1') rfl
        have n0 : ((yk : Int) != (yk : Int)) = false := by simp
        have n1 : ((yid : Int) != (yid : Int)) = false := by simp
        have n3 : ((yt : Int) != (yt : Int)) = false := by simp
        have n4 : ((yn : Int) != (yn : Int)) = false := by simp
        obtain ⟨T, hT⟩ : ∃ T : ByteArray, T = ⟨ynm.toArray⟩ := ⟨_, rfl⟩
        rw [← hT] at p2 q2
        have n2 : (T.toList != T.toList) = false := by simp
        have n6 : (T.toList == T.toList) = true := by simp
        have hbw := HX.out.2.2.2.1.trans (h3.mono HX.out.2.2.2.1.size)
        have HC := Lib.hid (sameE_any (szEs xe) pl xe ye _ _ wc (Nat.le_refl _) HX.out.2.2.1.1 (HX.out.1.1.stays (ok0_stays hbw)) (HX.out.2.1.1.stays (ok0_stays hbw)))
        have HBW := Lib.hid (And.intro hbw (And.intro h1 h2))
        have KEY : ∀ (wq : World), Below wc.heap.size wc wq → Hid (Calls Tryz.prog 25 #[.slice b2 m2 c2, .slice b2' m2' c2', .bool pl] wq (SameP wq)) := fun wq hq =>
          HIH.out (szSs xb) HX.out.2.2.2.2.1 pl xb yb _ _ wq (Nat.le_refl _) HX.out.2.2.1.2.1 (HX.out.1.2.1.stays (ok0_stays (hbw.trans (hq.mono hbw.size)))) (HX.out.2.1.2.1.stays (ok0_stays (hbw.trans (hq.mono hbw.size))))
        have KEY2 : ∀ (wq : World), Below wc.heap.size wc wq → Hid (Calls Tryz.prog 25 #[.slice b3 m3 c3, .slice b3' m3' c3', .bool pl] wq (SameP wq)) := fun wq hq =>
          HIH.out (szSs xc) HX.out.2.2.2.2.2 pl xc yc _ _ wq (Nat.le_refl _) HX.out.2.2.1.2.2 (HX.out.1.2.2.stays (ok0_stays (hbw.trans (hq.mono hbw.size)))) (HX.out.2.1.2.2.stays (ok0_stays (hbw.trans (hq.mono hbw.size))))
        have HKEY := Lib.hid (And.intro KEY KEY2)
        have FINL : ∀ (wq : World), Below wc.heap.size wc wq → Hid (SameSRel pl l l' w r.length (.int .i64 ((d.length : Int) + 1)) wq) := fun wq hq =>
          ⟨d ++ [.mk yk yid ynm yt yn xpos xe xb xc], r, d' ++ [.mk yk yid ynm yt yn ypos ye yb yc], r'', by rw [HREST.out.1]; simp, by rw [HREST.out.2.1]; simp, by simp [HREST.out.2.2.1], rfl, by simp, HREST.out.2.2.2, hbw.trans (hq.mono hbw.size)⟩
        have HFIN := Lib.hid FINL
        clear h1 h2 h3 hT hbw KEY KEY2 FINL k0 k1 k2 k3 k4 k5 k6 k7 k8 j0 j1 j2 j3 j4 j5 j6 j7 j8 y1 y2 y3 y4 z1 z2 z3 z4 hgl hgl'
        cases pl with
        | false =>
          clear hpos
          go_wp2_with fail
          refine HC.out.mono ?_
          rintro e w5 ⟨rfl, hb5⟩
          have HC2 := HKEY.out.1 w5 hb5
          have p7 := (HBW.out.2.1.below hb5 HBW.out.2.1.lt).get 7 (.slice b2 m2 c2) rfl
          have q7 := (HBW.out.2.2.below hb5 HBW.out.2.2.lt).get 7 (.slice b2' m2' c2') rfl
          have HB5 := Lib.hid hb5
          clear hb5
          go_wp2_with fail
          refine HC2.out.mono ?_
          rintro e w6 ⟨rfl, hb6⟩
          have hb6' := HB5.out.trans (hb6.mono HB5.out.size)
          have HC3 := HKEY.out.2 w6 hb6'
          have p8 := (HBW.out.2.1.below hb6' HBW.out.2.1.lt).get 8 (.slice b3 m3 c3) rfl
          have q8 := (HBW.out.2.2.below hb6' HBW.out.2.2.lt).get 8 (.slice b3' m3' c3') rfl
          have HB6 := Lib.hid hb6'
          clear hb6 hb6' p7 q7
          go_wp2_with fail
          refine HC3.out.mono ?_
          rintro e w7 ⟨rfl, hb7⟩
          have FIN := HFIN.out w7 (HB6.out.trans (hb7.mono HB6.out.size))
          clear hb7 p8 q8
          go_wp2
          go_roundg r.length
          case measure => simp only [List.length_cons] at hgk; omega
          case rel => exact FIN.out
        | true =>
          obtain rfl := hpos rfl
          have n5 : ((ypos : Int) != (ypos : Int)) = false := by simp
          clear hpos
          go_wp2_with fail
          refine HC.out.mono ?_
          rintro e w5 ⟨rfl, hb5⟩
          have HC2 := HKEY.out.1 w5 hb5
          have p7 := (HBW.out.2.1.below hb5 HBW.out.2.1.lt).get 7 (.slice b2 m2 c2) rfl
          have q7 := (HBW.out.2.2.below hb5 HBW.out.2.2.lt).get 7 (.slice b2' m2' c2') rfl
          have HB5 := Lib.hid hb5
          clear hb5
          go_wp2_with fail
          refine HC2.out.mono ?_
          rintro e w6 ⟨rfl, hb6⟩
          have hb6' := HB5.out.trans (hb6.mono HB5.out.size)
          have HC3 := HKEY.out.2 w6 hb6'
          have p8 := (HBW.out.2.1.below hb6' HBW.out.2.1.lt).get 8 (.slice b3 m3 c3) rfl
          have q8 := (HBW.out.2.2.below hb6' HBW.out.2.2.lt).get 8 (.slice b3' m3' c3') rfl
          have HB6 := Lib.hid hb6'
          clear hb6 hb6' p7 q7
          go_wp2_with fail
          refine HC3.out.mono ?_
          rintro e w7 ⟨rfl, hb7⟩
          have FIN := HFIN.out w7 (HB6.out.trans (hb7.mono HB6.out.size))
          clear hb7 p8 q8
          go_wp2
          go_roundg r.length
          case measure => simp only [List.length_cons] at hgk; omega
          case rel => exact FIN.out
theorem sameS_any : ∀ K, SameSC K := by
  have h : ∀ n K, K < n → SameSC K := by
    intro n
    induction n with
    | zero => intro K h; omega
    | succ n ih => intro K h; exact sameS_step K fun K' h' => ih K' (by omega)
  exact fun K => h (K + 1) K (by omega)
end Go.Proofs.YtcgllooeimacdaaGreatDoor

/-! The statement's own Same: true of programs that are alike. -/

namespace Go.Proofs.YtcgllooeimacdaaGreatDoor
open Go Go.RowKit Px
open Lx (Tok)

theorem fu_at2 {w : World} {ok : Nat → Prop} {d r : List Fu} {x : Fu} {sv : Value} (h : FuRow w ok (d ++ x :: r) sv) :
    ∃ (g cap : Nat) (a1 : Option Addr) (c1 : Nat) (a2 : Option Addr) (m2 c2 : Nat), sv = .slice (some ⟨g, 0, none⟩) (d ++ x :: r).length cap ∧ g < w.heap.size ∧
      PmRow w ok x.params (.slice a1 x.params.length c1) ∧ SmRow w ok x.body (.slice a2 m2 c2) ∧ ∀ j u, (fuCells x.name (.slice a1 x.params.length c1) (.int .u8 (x.result : Int)) (.slice a2 m2 c2) x.pos).toList[j]? = some u → w.cell? ⟨g, d.length * 5 + j, none⟩ = some u := by
  rcases h with ⟨h, _⟩ | ⟨g, cap, xs, rfl, hg, ho, hxs⟩
  · simp at h
  obtain ⟨cs, h1, h2⟩ := FusC_at d hxs
  obtain ⟨v1, v2, rfl, e1, e2⟩ := h1
  have f1 : ∃ (a : Option Addr) (c : Nat), v1 = .slice a x.params.length c := by
    rcases e1 with ⟨h, rfl⟩ | ⟨_, _, _, rfl, _⟩
    · rw [h]; exact ⟨_, _, rfl⟩
    · exact ⟨_, _, rfl⟩
  have f2 : ∃ (a : Option Addr) (m c : Nat), v2 = .slice a m c := by
    rcases e2 with ⟨_, rfl⟩ | ⟨_, _, _, rfl, _⟩
    · exact ⟨_, _, _, rfl⟩
    · exact ⟨_, _, _, rfl⟩
  obtain ⟨a1, c1, rfl⟩ := f1
  obtain ⟨a2, m2, c2, rfl⟩ := f2
  refine ⟨g, cap, a1, c1, a2, m2, c2, rfl, owns_lt ho, e1, e2, ?_⟩
  intro j u hu
  have hj : j < 5 := by
    have := (List.getElem?_eq_some_iff.1 hu).1
    simpa using this
  have hadd : ∀ j, (⟨g, 0, none⟩ : Addr).add j = ⟨g, j, none⟩ := by intro j; unfold Addr.add; split <;> simp_all
  have := ho.cells (g := g) rfl (d.length * 5 + j) u (by rw [h2 j hj]; exact hu)
  rwa [hadd] at this
theorem PmsC_at {x : Pm} {r : List Pm} : ∀ (d : List Pm), ∀ j, j < 3 → ((d ++ x :: r).flatMap PmC)[d.length * 3 + j]? = (PmC x)[j]?
  | [], j, hj => by
    rw [List.nil_append, List.flatMap_cons, List.getElem?_append_left (by simpa [PmC] using hj)]
    simp
  | y :: d, j, hj => by
    have := PmsC_at (x := x) (r := r) d j hj
    rw [List.cons_append, List.flatMap_cons, List.getElem?_append_right (by simp only [PmC, List.length_cons, List.length_nil]; omega), ← this]
    congr 1
    simp only [PmC, List.length_cons, List.length_nil]; omega
theorem pm_at {w : World} {ok : Nat → Prop} {d r : List Pm} {x : Pm} {sv : Value} (h : PmRow w ok (d ++ x :: r) sv) :
    ∃ (g cap : Nat), sv = .slice (some ⟨g, 0, none⟩) (d ++ x :: r).length cap ∧ g < w.heap.size ∧ ∀ j u, (PmC x)[j]? = some u → w.cell? ⟨g, d.length * 3 + j, none⟩ = some u := by
  rcases h with ⟨h, _⟩ | ⟨g, cap, xs, rfl, hg, ho, hxs⟩
  · simp at h
  subst hxs
  refine ⟨g, cap, rfl, owns_lt ho, ?_⟩
  intro j u hu
  have hj : j < 3 := by
    have := (List.getElem?_eq_some_iff.1 hu).1
    simpa [PmC] using this
  have hadd : ∀ j, (⟨g, 0, none⟩ : Addr).add j = ⟨g, j, none⟩ := by intro j; unfold Addr.add; split <;> simp_all
  have := ho.cells (g := g) rfl (d.length * 3 + j) u (by rw [PmsC_at d j hj]; exact hu)
  rwa [hadd] at this
theorem fu_form {w : World} {ok : Nat → Prop} {l : List Fu} {sv : Value} (h : FuRow w ok l sv) : ∃ (a : Option Addr) (c : Nat), sv = .slice a l.length c := by
  rcases h with ⟨rfl, rfl⟩ | ⟨_, _, _, rfl, _⟩
  · exact ⟨_, _, rfl⟩
  · exact ⟨_, _, rfl⟩

def SameFRel (pl : Bool) (l l' : List Fu) (w : World) (gk : Nat) (v : Value) (wr : World) : Prop := ∃ (d r d' r' : List Fu), l = d ++ r ∧ l' = d' ++ r' ∧ d'.length = d.length ∧ r.length = gk ∧ v = .int .i64 (d.length : Int) ∧ eqFs pl r r' ∧ Below w.heap.size w wr
def SamePRel (pl : Bool) (l l' : List Pm) (w : World) (gk : Nat) (v : Value) (wr : World) : Prop := ∃ (d r d' r' : List Pm), l = d ++ r ∧ l' = d' ++ r' ∧ d'.length = d.length ∧ r.length = gk ∧ v = .int .i64 (d.length : Int) ∧ eqPs pl r r' ∧ Below w.heap.size w wr

set_option maxRecDepth 100000 in
set_option maxHeartbeats 4000000 in
theorem same_any (pl : Bool) (l l' : List Fu) (a a' : Option Addr) (m m' c c' : Nat) (w : World) (heq : eqFs pl l l') (hrow : FuRow w ok0 l (.slice a m c)) (hrow' : FuRow w ok0 l' (.slice a' m' c')) :
    Calls Tryz.prog 12 #[.agg #[.slice a m c], .agg #[.slice a' m' c'], .bool pl] w (SameP w) := by
  obtain ⟨av, cv, h1⟩ := fu_form hrow
  obtain ⟨av', cv', h2⟩ := fu_form hrow'
  have hlen := eqFs_len heq
  rw [← hlen] at h2
  cases h1
  cases h2
  obtain ⟨W, hW⟩ : ∃ W, W = (w.alloc (.cells #[.slice a l.length c] 24)).alloc (.cells #[.slice a' l.length c'] 24) := ⟨_, rfl⟩
  have hbW : Below w.heap.size w W := by rw [hW]; exact ((Below.refl _ _).alloc (Nat.le_refl _) _).alloc (by simp) _
  have hkA : Blk w.heap.size #[.slice a l.length c] 24 W := by rw [hW]; exact Blk.alloc (Blk.new _ _ _) _
  have hkB : Blk (w.heap.size + 1) #[.slice a' l.length c'] 24 W := by rw [hW]; exact Blk.new' _ _ _ (by simp)
  have hWs : W.heap.size = w.heap.size + 2 := by rw [hW]; simp
  have HROW := Lib.hid (And.intro (FuRow.stays (ok0_stays hbW) hrow) (FuRow.stays (ok0_stays hbW) hrow'))
  have HREL := Lib.hid (show SameFRel pl l l' W l.length (.int .i64 0) W from ⟨[], l, [], l', rfl, rfl, rfl, rfl, rfl, heq, Below.refl _ _⟩)
  have HMX := Lib.hid (row_max hrow)
  have hne : ((l.length : Int) != (l.length : Int)) = false := by simp
  have HW := Lib.hid (And.intro hWs (And.intro hkA (And.intro hkB hWs)))
  have HWW := Lib.hid hW
  have HB0 := Lib.hid hbW
  clear hrow hrow' heq hlen hW hbW hkA hkB hWs
  go_enter Tryz.func12, Tryz.ntmps12
  go_upto_region 4 with (fail)
  rw [← HWW.out]
  clear HWW
  obtain ⟨N, hN⟩ : ∃ N, N = w.heap.size := ⟨_, rfl⟩
  rw [← hN] at HW ⊢
  clear hN
  go_loopg [23] l.length (fun gk v wr => SameFRel pl l l' W gk v wr)
  case atStart => exact HREL.out
  case round =>
    obtain ⟨d, r, d', r', hl, hl', hdd, hgk, rfl, heq, hb⟩ := hrel
    have hll : l.length = d.length + r.length := by rw [hl, List.length_append]
    cases r with
    | nil =>
      have hge : ¬ (d.length : Int) < (l.length : Int) := by rw [hll]; simp
      have FIN := Lib.hid (HB0.out.trans (hb.mono HB0.out.size))
      clear heq hb hll
      go_wp2
      go_ret
      exact ⟨rfl, FIN.out⟩
    | cons x r =>
      obtain ⟨y, r'', rfl, hxy, heq2⟩ := eqFs_cons heq
      obtain ⟨en, er, hpos, hP1, hP2, hB⟩ := eqF_is hxy
      have hrow := HROW.out.1
      rw [hl] at hrow
      obtain ⟨g, cap, b1, c1, b2, m2, c2, hsv, hgl, r1, r2, hcell⟩ := fu_at2 hrow
      rw [← hl] at hsv
      cases hsv
      have hrow' := HROW.out.2
      rw [hl'] at hrow'
      obtain ⟨g', cap', b1', c1', b2', m2', c2', hsv', hgl', r1', r2', hcell'⟩ := fu_at2 hrow'
      injection hsv' with e1 e2 e3
      subst e1
      subst e3
      rw [hdd, en, er] at hcell'
      have hpl : x.params.length = y.params.length := eqPs_len (pl := pl) ⟨hP1, hP2⟩
      rw [← hpl] at hcell' r1'
      have hcr : ∀ j u, (fuCells x.name (.slice b1 x.params.length c1) (.int .u8 (x.result : Int)) (.slice b2 m2 c2) x.pos).toList[j]? = some u → wr.cell? ⟨g, d.length * 5 + j, none⟩ = some u := fun j u hu => cellB hb hgl (hcell j u hu)
      have hcr' : ∀ j u, (fuCells x.name (.slice b1' x.params.length c1') (.int .u8 (x.result : Int)) (.slice b2' m2' c2') y.pos).toList[j]? = some u → wr.cell? ⟨g', d.length * 5 + j, none⟩ = some u := fun j u hu => cellB hb hgl' (hcell' j u hu)
      have k0 := hcr 0 _ rfl
      have k1 := hcr 1 _ rfl
      have k2 := hcr 2 _ rfl
      have k3 := hcr 3 _ rfl
      have k4 := hcr 4 _ rfl
      have j0 := hcr' 0 _ rfl
      have j1 := hcr' 1 _ rfl
      have j2 := hcr' 2 _ rfl
      have j3 := hcr' 3 _ rfl
      have j4 := hcr' 4 _ rfl
      rw [Nat.add_zero] at k0 j0
      have hNA := HW.out.2.1.below hb HW.out.2.1.lt
      have hNB := HW.out.2.2.1.below hb HW.out.2.2.1.lt
      have i0 := hNA.get 0 (.slice (some ⟨g, 0, none⟩) l.length c) rfl
      have i1 := hNB.get 0 (.slice (some ⟨g', 0, none⟩) l.length c') rfl
      have hidx : (d.length : Int) < (l.length : Int) := by rw [hll]; simp; omega
      have hlb : (l.length : Int) ≤ 9223372036854775807 := HMX.out
      have y1 : g < wr.heap.size := by have := hb.size; omega
      have y2 : ¬ g = wr.heap.size := by omega
      have y3 : g < wr.heap.size + 1 := by omega
      have y4 : ¬ g = wr.heap.size + 1 := by omega
      have z1 : g' < wr.heap.size := by have := hb.size; omega
      have z2 : ¬ g' = wr.heap.size := by omega
      have z3 : g' < wr.heap.size + 1 := by omega
      have z4 : ¬ g' = wr.heap.size + 1 := by omega
      have x1 : N < wr.heap.size := by have := hNA.lt; omega
      have x2 : ¬ N = wr.heap.size := by omega
      have x3 : N < wr.heap.size + 1 := by omega
      have x4 : ¬ N = wr.heap.size + 1 := by omega
      have t1 : N + 1 < wr.heap.size := by have := hNB.lt; omega
      have t2 : ¬ N + 1 = wr.heap.size := by omega
      have t3 : N + 1 < wr.heap.size + 1 := by omega
      have t4 : ¬ N + 1 = wr.heap.size + 1 := by omega
      obtain ⟨fn, fp, fr, fb, fpos⟩ := x
      obtain ⟨gn, gp, gr, gb, gpos⟩ := y
      obtain rfl : gn = fn := en
      obtain rfl : gr = fr := er
      have HX := Lib.hid (And.intro (And.intro r1 r2) (And.intro (And.intro r1' r2') (And.intro (And.intro (show eqPs pl fp gp from ⟨hP1, hP2⟩) hB) hb)))
      have HREST := Lib.hid (And.intro hl (And.intro hl' (And.intro hdd heq2)))
      have hpos : pl = true → gpos = fpos := hpos
      clear hrow hrow' hcell hcell' hcr hcr' r1 r2 r1' r2' hB hb heq heq2 hl hl' hdd hxy e2 hll hP1 hP2 hpl hNA hNB
      go_upto_region 6 with (fail)
      go_cut [8, 9, 23] from 23 to 115 (fun p q c W => c = .int .i64 (d.length : Int) ∧ TwoC wr (fuCells gn (.slice b1 fp.length c1) (.int .u8 (gr : Int)) (.slice b2 m2 c2) fpos) (fuCells gn (.slice b1' fp.length c1') (.int .u8 (gr : Int)) (.slice b2' m2' c2') gpos) 42 p q W)
      case first =>
        go_region
        all_goals (go_wp2_with fail; go_meet; case rel => first | exact ⟨rfl, two_one _ _ _ _⟩ | exact ⟨rfl, two_two _ _ _ _⟩)
      case rest =>
        obtain ⟨rfl, p, q, rfl, rfl, h1, h2, h3⟩ := hcut
        have p0 := h1.get 0 (.string ⟨gn.toArray⟩) rfl
        have p1 := h1.get 1 (.slice b1 fp.length c1) rfl
        have p2 := h1.get 2 (.int .u8 (gr : Int)) rfl
        have p3 := h1.get 3 (.slice b2 m2 c2) rfl
        have p4 := h1.get 4 (.int .i64 (fpos : Int)) rfl
        have q0 := h2.get 0 (.string ⟨gn.toArray⟩) rfl
        have q1 := h2.get 1 (.slice b1' fp.length c1') rfl
        have q2 := h2.get 2 (.int .u8 (gr : Int)) rfl
        have q3 := h2.get 3 (.slice b2' m2' c2') rfl
        have q4 := h2.get 4 (.int .i64 (gpos : Int)) rfl
        have n0 : ((gr : Int) != (gr : Int)) = false := by simp
        have n1 : ((fp.length : Int) != (fp.length : Int)) = false := by simp
        obtain ⟨T, hT⟩ : ∃ T : ByteArray, T = ⟨gn.toArray⟩ := ⟨_, rfl⟩
        rw [← hT] at p0 q0
        have n2 : (T.toList != T.toList) = false := by simp
        have n6 : (T.toList == T.toList) = true := by simp
        have hbw := HX.out.2.2.2.trans (h3.mono HX.out.2.2.2.size)
        have HC := Lib.hid (sameS_any (szSs fb) pl fb gb _ _ wc (Nat.le_refl _) HX.out.2.2.1.2 (HX.out.1.2.stays (ok0_stays hbw)) (HX.out.2.1.2.stays (ok0_stays hbw)))
        have HBW := Lib.hid (And.intro hbw (And.intro h1 h2))
        have HFIN := Lib.hid (show ∀ (wq : World), Below wc.heap.size wc wq → Hid (SameFRel pl l l' W r.length (.int .i64 ((d.length : Int) + 1)) wq) from fun wq hq =>
          ⟨d ++ [⟨gn, fp, gr, fb, fpos⟩], r, d' ++ [⟨gn, gp, gr, gb, gpos⟩], r'', by rw [HREST.out.1]; simp, by rw [HREST.out.2.1]; simp, by simp [HREST.out.2.2.1], rfl, by simp, HREST.out.2.2.2, hbw.trans (hq.mono hbw.size)⟩)
        obtain ⟨pl2, hpl2⟩ : ∃ pl2, pl2 = pl := ⟨_, rfl⟩
        have HP := Lib.hid (And.intro (PmRow.stays (ok0_stays hbw) HX.out.1.1) (And.intro (PmRow.stays (ok0_stays hbw) HX.out.2.1.1) (show eqPs pl2 fp gp by rw [hpl2]; exact HX.out.2.2.1.1)))
        have HMP := Lib.hid (row_max HX.out.1.1)
        have n5 : pl = true → ((fpos : Int) != (gpos : Int)) = false := fun h => by rw [hpos h]; simp
        clear h1 h2 h3 hT hbw k0 k1 k2 k3 k4 j0 j1 j2 j3 j4 y1 y2 y3 y4 z1 z2 z3 z4 x1 x2 x3 x4 t1 t2 t3 t4 i0 i1 hgl hgl' hpos
        cases pl
        all_goals (try (have n5 := n5 rfl))
        all_goals (
          go_wp2_with fail
          refine HC.out.mono ?_
          rintro e w5 ⟨rfl, hb5⟩
          obtain ⟨V, rfl⟩ : ∃ V, V = w5 := ⟨_, rfl⟩
          have hP := HBW.out.2.1.below hb5 HBW.out.2.1.lt
          have hQ := HBW.out.2.2.below hb5 HBW.out.2.2.lt
          have p1 := hP.get 1 (.slice b1 fp.length c1) rfl
          have HB5 := Lib.hid (And.intro hb5 (And.intro hP hQ))
          have HPV := Lib.hid (And.intro (PmRow.stays (ok0_stays hb5) HP.out.1) (And.intro (PmRow.stays (ok0_stays hb5) HP.out.2.1) HP.out.2.2))
          clear hb5 hP hQ
          go_upto_region 10 with (fail)
          go_loopg [79] fp.length (fun gk v wr => SamePRel pl2 fp gp V gk v wr)
          case atStart => exact ⟨[], fp, [], gp, rfl, rfl, rfl, rfl, rfl, HPV.out.2.2, Below.refl _ _⟩
          case round =>
            obtain ⟨e, s, e', s', hl, hl', hdd, hgk2, rfl, heq, hb⟩ := hrel
            have hll : fp.length = e.length + s.length := by rw [hl, List.length_append]
            cases s with
            | nil =>
              have hge : ¬ (e.length : Int) < (fp.length : Int) := by rw [hll]; simp
              have FIN := HFIN.out _ (HB5.out.1.trans (hb.mono HB5.out.1.size))
              clear heq hb hll
              go_wp2_with fail
              go_roundg r.length
              case measure => simp only [List.length_cons] at hgk; omega
              case rel => exact FIN.out
            | cons x s =>
              obtain ⟨y, s'', rfl, ⟨en, et, ep⟩, heq2⟩ := eqPs_cons heq
              obtain ⟨xn, xt, xp⟩ := x
              obtain ⟨yn, yt, yp⟩ := y
              obtain rfl : yn = xn := en
              obtain rfl : yt = xt := et
              have HEP : Hid (pl2 = true → yp = xp) := ep
              clear ep
              have hrow := HPV.out.1
              rw [hl] at hrow
              obtain ⟨g1, cap1, hsv, hgl, hcell⟩ := pm_at hrow
              rw [← hl] at hsv
              injection hsv with e1 e2 e3
              subst e1
              subst e3
              have hrow' := HPV.out.2.1
              rw [hl'] at hrow'
              obtain ⟨g2, cap2, hsv', hgl', hcell'⟩ := pm_at hrow'
              injection hsv' with e1 e4 e3
              subst e1
              subst e3
              rw [hdd] at hcell'
              have hcr : ∀ j u, (PmC ⟨yn, yt, xp⟩)[j]? = some u → wr.cell? ⟨g1, e.length * 3 + j, none⟩ = some u := fun j u hu => cellB hb hgl (hcell j u hu)
              have hcr' : ∀ j u, (PmC ⟨yn, yt, yp⟩)[j]? = some u → wr.cell? ⟨g2, e.length * 3 + j, none⟩ = some u := fun j u hu => cellB hb hgl' (hcell' j u hu)
              have k0 := hcr 0 _ rfl
              have k1 := hcr 1 _ rfl
              have k2 := hcr 2 _ rfl
              have j0 := hcr' 0 _ rfl
              have j1 := hcr' 1 _ rfl
              have j2 := hcr' 2 _ rfl
              rw [Nat.add_zero] at k0 j0
              have hP := HB5.out.2.1.below hb HB5.out.2.1.lt
              have hQ := HB5.out.2.2.below hb HB5.out.2.2.lt
              have i0 := hP.get 1 _ rfl
              have i1 := hQ.get 1 _ rfl
              have hidx : (e.length : Int) < (fp.length : Int) := by rw [hll]; simp; omega
              have hlb : (fp.length : Int) ≤ 9223372036854775807 := HMP.out
              have y1 : g1 < wr.heap.size := by have := hb.size; omega
              have y2 : ¬ g1 = wr.heap.size := by omega
              have y3 : g1 < wr.heap.size + 1 := by omega
              have y4 : ¬ g1 = wr.heap.size + 1 := by omega
              have z1 : g2 < wr.heap.size := by have := hb.size; omega
              have z2 : ¬ g2 = wr.heap.size := by omega
              have z3 : g2 < wr.heap.size + 1 := by omega
              have z4 : ¬ g2 = wr.heap.size + 1 := by omega
              have x1 : p < wr.heap.size := hP.lt
              have x2 : ¬ p = wr.heap.size := by omega
              have x3 : p < wr.heap.size + 1 := by omega
              have x4 : ¬ p = wr.heap.size + 1 := by omega
              have t1 : q < wr.heap.size := hQ.lt
              have t2 : ¬ q = wr.heap.size := by omega
              have t3 : q < wr.heap.size + 1 := by omega
              have t4 : ¬ q = wr.heap.size + 1 := by omega
              have HBR := Lib.hid hb
              have HREST2 := Lib.hid (And.intro hl (And.intro hl' (And.intro hdd heq2)))
              clear hrow hrow' hcell hcell' hcr hcr' hb heq heq2 hl hl' hdd e2 e4 hll hP hQ
              obtain ⟨T, hT⟩ : ∃ T : ByteArray, T = ⟨yn.toArray⟩ := ⟨_, rfl⟩
              rw [← hT] at k0 j0
              have HT := Lib.hid hT
              clear hT
              go_upto_region 12 with (fail)
              go_cut [11, 12, 79] from 79 to 114 (fun u v c W => c = .int .i64 (e.length : Int) ∧ TwoC wr #[.string T, .int .u8 (yt : Int), .int .i64 (xp : Int)] #[.string T, .int .u8 (yt : Int), .int .i64 (yp : Int)] 76 u v W)
              case first =>
                go_region
                all_goals (go_wp2_with fail; go_meet; case rel => first | exact ⟨rfl, two_one _ _ _ _⟩ | exact ⟨rfl, two_two _ _ _ _⟩)
              case rest =>
                obtain ⟨rfl, u, v, rfl, rfl, h1, h2, h3⟩ := hcut
                have p0 := h1.get 0 (.string T) rfl
                have p1 := h1.get 1 (.int .u8 (yt : Int)) rfl
                have p2 := h1.get 2 (.int .i64 (xp : Int)) rfl
                have q0 := h2.get 0 (.string T) rfl
                have q1 := h2.get 1 (.int .u8 (yt : Int)) rfl
                have q2 := h2.get 2 (.int .i64 (yp : Int)) rfl
                have m0 : ((yt : Int) != (yt : Int)) = false := by simp
                have m2 : (T.toList != T.toList) = false := by simp
                have m6 : (T.toList == T.toList) = true := by simp
                have n9 : pl2 = true → ((xp : Int) != (yp : Int)) = false := fun h => by rw [HEP.out h]; simp
                have FIN := Lib.hid (show SamePRel pl2 fp gp V s.length (.int .i64 ((e.length : Int) + 1)) wc from ⟨e ++ [⟨yn, yt, xp⟩], s, e' ++ [⟨yn, yt, yp⟩], s'', by rw [HREST2.out.1]; simp, by rw [HREST2.out.2.1]; simp, by simp [HREST2.out.2.2.1], rfl, by simp, HREST2.out.2.2.2, HBR.out.trans (h3.mono HBR.out.size)⟩)
                try (have n9 := n9 hpl2)
                clear h1 h2 h3 k0 k1 k2 j0 j1 j2 i0 i1 y1 y2 y3 y4 z1 z2 z3 z4 x1 x2 x3 x4 t1 t2 t3 t4 hgl hgl'
                go_wp2_with fail
                go_roundg s.length
                case measure => simp only [List.length_cons] at hgk2; omega
                case rel => exact FIN.out)
end Go.Proofs.YtcgllooeimacdaaGreatDoor
