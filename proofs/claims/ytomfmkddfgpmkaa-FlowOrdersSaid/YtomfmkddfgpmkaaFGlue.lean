/-
  A walk and the ways into nodes, as above reads them.
-/
import Derived.Test.YtomfmkddfgpmkaaFOver
import Derived.Test.YtomfmkddfgpmkaaFOrd
import Derived.Test.YtomfmkddfgpmkaaFFault
namespace Go.Proofs.Ytomfmkddfgpmkaa
open Go Go.RowKit Fl

theorem abvR_of {base base' bw bf br bn bl g cap : Nat} {G : List (List Nat)} {s : Ws} {v1 : Value} {W : World} (h : WalkS base bw bf br bn G s (.slice (some ⟨g, 0, none⟩) s.ent.length cap) v1 W) (hi : IntoW base' bl G.length (fun t => Fl.rowSt G G.length 0 t) W) :
    AbvR W bw g s.ent.length cap bf br G.length bl G s :=
  ⟨h.wk.blk.get 0 _ rfl, h.wk.blk.get 2 _ rfl, h.wk.blk.get 3 _ rfl, fun i hi => nums_get h.en rfl i hi,
    fun a ha => h.wk.frm.get a _ (arrZ_getD _ _ _ (by rw [h.wk.fl]; exact ha)), fun a ha => h.wk.rch.get a _ (arrB_getD _ _ _ (by rw [h.wk.rl]; exact ha)),
    into_gr hi, h.wk.blk.lt, h.wk.frm.lt, h.wk.rch.lt, (h.en.lt g rfl).2, rfl, rfl⟩
end Go.Proofs.Ytomfmkddfgpmkaa
