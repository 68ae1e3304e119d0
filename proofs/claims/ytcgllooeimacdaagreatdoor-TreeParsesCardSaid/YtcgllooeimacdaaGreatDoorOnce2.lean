/-
  The once of the words, first asked and asked again; and the asking itself.
-/
import Derived.Test.YtcgllooeimacdaaGreatDoorOnce
namespace Go.Proofs.YtcgllooeimacdaaGreatDoor
open Go Go.RowKit Lx Go.Maps Go.WideMaps Go.WideShapes

def Fresh (b : Nat) (T : TypeId) (rest : Array Value) (z : Value) (w : World) : Prop := Wd b T rest (.int .u32 0) (.int .i32 0) z (.map none) w
def Ready (b : Nat) (T : TypeId) (rest : Array Value) (z : Value) (w : World) : Prop := ∃ mb, mb ≠ b ∧ Wd b T rest (.int .u32 1) (.int .i32 0) z (.map (some mb)) w ∧ w.ownsMap Tryz.prog 9 unitElem mb 14 (wordsD 14)
theorem drew_block {w : World} {row : Option Nat} : w.grownBy w.drew row := ⟨rfl, rfl, rfl, Nat.le_refl _, fun _ _ _ => rfl⟩

set_option maxRecDepth 100000 in
set_option maxHeartbeats 1600000 in
theorem slow_any (B b : Nat) (T : TypeId) (rest : Array Value) (z : Value) (w : World) (hB : B ≤ b) (hBs : B ≤ w.heap.size) (hT : Tabs B w) (hw : Fresh b T rest z w) :
    Calls Tryz.prog 112 #[.pointer (some ⟨b, 0, none⟩), .func (.func 95) #[.pointer (some ⟨b, 0, none⟩)] #[]] w fun e w' => e = .returned (.tuple #[]) ∧ Ready b T rest z w' ∧ w.grownBy w' (some b) := by
  have c0 := Wd.c0 hw
  have c1 := Wd.c1 hw
  have f1 := Wd.free hw 1
  have h1 : Wd b T rest (.int .u32 0) (.int .i32 1) z (.map none) (w.setCell ⟨b, 1, none⟩ (.int .i32 1)) := Wd.set1 hw _
  have g1 : w.grownBy (w.setCell ⟨b, 1, none⟩ (.int .i32 1)) (some b) := Lib.grownBy_setCell _ _ _ _
  have hl := run_call_load (P := Tryz.prog) Tryz.func130 (by kernel_rfl) (by kernel_rfl) (by kernel_rfl) .u32 (by kernel_rfl) h1.c0
  have HL := Lib.hid (learn_any B b T rest _ _ _ _ _ hB (by simpa using hBs) (hT.grown hB hBs g1) h1)
  have HG := Lib.hid g1
  have hlt := h1.lt
  have hnot : ∀ (x : Bool) (w : World), (Op.unary .not (.bool x)).run Tryz.prog w = .ok (.bool (!x)) w := fun _ _ => rfl
  clear hw h1 g1 hT
  go_enter_defers Tryz.func112, Tryz.ntmps112
  go_wp2_with (first | (go_at_call 131; refine (lock_free ⟨b, 1, none⟩ _ c1 f1).mono ?_; rintro e w' ⟨rfl, rfl⟩) | (go_at_call 111; go_in) | (go_at_call 95; refine HL.out.mono ?_; rintro e w2 ⟨rfl, mb, hmb, hwd, hown, hgr⟩))
  -- THE DOOR: two deferred calls, the last laid first
  have hne : mb ≠ b := by have : (w.setCell ⟨b, 1, none⟩ (.int .i32 1)).heap.size = w.heap.size := by simp
                          omega
  refine leaves_cons (f := 133) (args := #[.pointer (some ⟨b, 0, none⟩), .bool true]) (by simp) (by simp [go_sem]) ?_
  refine (store_deferred ⟨b, 0, none⟩ _ .returning _ hwd.c0 (hwd.free 0)).mono ?_
  rintro e u' w'' ⟨rfl, rfl, rfl⟩
  have h2 : Wd b T rest (.int .u32 0) (.int .i32 1) z (.map (some mb)) w2.drew := hwd
  have h3 := h2.set0 (.int .u32 1)
  refine leaves_cons (f := 132) (args := #[.pointer (some ⟨b, 1, none⟩)]) (by simp [settle]) (by simp [go_sem]) ?_
  refine (unlock_deferred ⟨b, 1, none⟩ _ _ h3.c1 (h3.free 1)).mono ?_
  rintro e u' w'' ⟨rfl, rfl, rfl⟩
  have h4 := h3.set1 (.int .i32 0)
  have g2 : w2.grownBy ((w2.drew.setCell ⟨b, 0, none⟩ (.int .u32 1)).setCell ⟨b, 1, none⟩ (.int .i32 0)) (some b) := grown_trans (grown_trans drew_block (Lib.grownBy_setCell _ _ _ _)) (Lib.grownBy_setCell _ _ _ _)
  have o4 := hown.kept g2 (by simpa using hne)
  have fin : Ready b T rest z ((w2.drew.setCell ⟨b, 0, none⟩ (.int .u32 1)).setCell ⟨b, 1, none⟩ (.int .i32 0)) ∧ w.grownBy ((w2.drew.setCell ⟨b, 0, none⟩ (.int .u32 1)).setCell ⟨b, 1, none⟩ (.int .i32 0)) (some b) :=
    ⟨⟨mb, hne, h4, o4⟩, grown_trans (grown_trans HG.out hgr) g2⟩
  have FIN := Lib.hid fin
  clear fin hwd hown hgr h2 h3 h4 g2 o4 hl HL c0 c1 f1
  simp [Leaves, settle, results, Tryz.results112]
  exact FIN.out

set_option maxRecDepth 100000 in
/-- The first asking makes the words. -/
theorem do_first (B b : Nat) (T : TypeId) (rest : Array Value) (z : Value) (w : World) (hB : B ≤ b) (hBs : B ≤ w.heap.size) (hT : Tabs B w) (hw : Fresh b T rest z w) :
    Calls Tryz.prog 94 #[.pointer (some ⟨b, 0, none⟩), .func (.func 95) #[.pointer (some ⟨b, 0, none⟩)] #[]] w fun e w' => e = .returned (.tuple #[]) ∧ Ready b T rest z w' ∧ w.grownBy w' (some b) := by
  have hl := run_call_load (P := Tryz.prog) Tryz.func130 (by kernel_rfl) (by kernel_rfl) (by kernel_rfl) .u32 (by kernel_rfl) (Wd.c0 hw)
  have hnot : ∀ (x : Bool) (w : World), (Op.unary .not (.bool x)).run Tryz.prog w = .ok (.bool (!x)) w := fun _ _ => rfl
  have HS := Lib.hid (slow_any B b T rest z w hB hBs hT hw)
  clear hw hT
  go_enter Tryz.func94, Tryz.ntmps94
  go_wp2_with (first | (go_at_call 112; refine HS.out.mono ?_; rintro e w2 ⟨rfl, h1, h2⟩) | (go_at_call 111; go_in))
  go_end0
  exact ⟨rfl, h1, h2⟩

set_option maxRecDepth 100000 in
/-- A later asking finds them. -/
theorem do_done (a : Addr) (fv : Value) (w : World) (h0 : w.cell? a = some (.int .u32 1)) :
    Calls Tryz.prog 94 #[.pointer (some a), fv] w fun e w' => e = .returned (.tuple #[]) ∧ w = w' := by
  have hl := run_call_load (P := Tryz.prog) Tryz.func130 (by kernel_rfl) (by kernel_rfl) (by kernel_rfl) .u32 (by kernel_rfl) h0
  have hnot : ∀ (x : Bool) (w : World), (Op.unary .not (.bool x)).run Tryz.prog w = .ok (.bool (!x)) w := fun _ _ => rfl
  go_enter Tryz.func94, Tryz.ntmps94
  go_wp2
  go_end0
  exact ⟨rfl, rfl⟩

def Asked (b : Nat) (T : TypeId) (rest : Array Value) (z : Value) (w : World) : Prop := Fresh b T rest z w ∨ Ready b T rest z w

theorem do_any (B b : Nat) (T : TypeId) (rest : Array Value) (z : Value) (w : World) (hB : B ≤ b) (hBs : B ≤ w.heap.size) (hT : Tabs B w) (hw : Asked b T rest z w) :
    Calls Tryz.prog 94 #[.pointer (some ⟨b, 0, none⟩), .func (.func 95) #[.pointer (some ⟨b, 0, none⟩)] #[]] w fun e w' => e = .returned (.tuple #[]) ∧ Ready b T rest z w' ∧ w.grownBy w' (some b) := by
  rcases hw with hw | ⟨mb, h1, h2, h3⟩
  · exact do_first B b T rest z w hB hBs hT hw
  · refine (do_done ⟨b, 0, none⟩ _ w h2.c0).mono ?_
    rintro e w' ⟨rfl, rfl⟩
    exact ⟨rfl, ⟨mb, h1, h2, h3⟩, World.grownBy.refl _ _⟩

set_option maxRecDepth 100000 in
theorem has_any (B b : Nat) (T : TypeId) (rest : Array Value) (z : Value) (text : ByteArray) (ht : text.size ≤ maxLen) (w : World) (hB : B ≤ b) (hBs : B ≤ w.heap.size) (hT : Tabs B w) (hw : Asked b T rest z w) :
    Calls Tryz.prog 80 #[.pointer (some ⟨b, 0, none⟩), .string text] w fun e w' => e = .returned (.bool (wordB (Bs text))) ∧ Ready b T rest z w' ∧ w.grownBy w' (some b) := by
  have HD := Lib.hid (do_any B b T rest z w hB hBs hT hw)
  have hkey := Lib.hid (keyOf_string_mk Tryz.underlying9 ht)
  clear hw hT ht
  go_enter Tryz.func80, Tryz.ntmps80
  go_wp2_with fail
  refine HD.out.mono ?_
  rintro e w2 ⟨rfl, ⟨mb, h1, h2, h3⟩, h4⟩
  have c3 := h2.c3
  have HR := Lib.hid (And.intro h1 (And.intro h2 (And.intro h3 h4)))
  clear h1 h2 h3 h4
  go_wp2_with (at_lookup; refine wpList_lookup_own_unit _ rfl _ _ 96 rfl 9 84 law_str Tryz.underlying96 (zero_unit _) mb 14 _ rfl HR.out.2.2.1 _ _ rfl hkey.out ?_)
  go_ret
  obtain ⟨h1, h2, h3, h4⟩ := HR.out
  exact ⟨ret_bool (has_wordsD _), ⟨mb, h1, h2.other (World.grownBy_alloc _ _ none) (by simp), h3.alloc _⟩, grown_trans h4 (World.grownBy_alloc _ _ _)⟩

end Go.Proofs.YtcgllooeimacdaaGreatDoor
