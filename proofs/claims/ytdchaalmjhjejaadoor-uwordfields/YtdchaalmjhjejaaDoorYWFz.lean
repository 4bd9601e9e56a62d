/- Contract of Fields. -/
import Derived.Test.YtdchaalmjhjejaaDoorYWs
namespace Go.Proofs.YtdchaalmjhjejaaDoor.Cs
open Go.RowKit Go.ChangeShapes Go.WideShapes Tl Tl.Ia
set_option linter.unusedVariables false
set_option linter.unusedSimpArgs false

def fz : List Value := [Value.string { data := #[] }, Value.int IntKind.i64 0, Value.string { data := #[] }, Value.int IntKind.i64 0, Value.string { data := #[] }, Value.int IntKind.i64 0, Value.string { data := #[] }, Value.int IntKind.i64 0, Value.string { data := #[] }, Value.int IntKind.i64 0, Value.string { data := #[] }, Value.int IntKind.i64 0, Value.string { data := #[] }, Value.int IntKind.i64 0, Value.string { data := #[] }, Value.int IntKind.i64 0, Value.string { data := #[] }, Value.int IntKind.i64 0, Value.string { data := #[] }, Value.int IntKind.i64 0, Value.string { data := #[] }, Value.int IntKind.i64 0, Value.string { data := #[] }, Value.int IntKind.i64 0]
theorem fc_all : fc.toArray.all (·.oneCell') = true := all_oneCell_toArray fc_one
theorem fc_size : (Tryd.prog.info? 51).map (·.size) = some fc.toArray.size := by kernel_rfl
theorem fz_len : fz.length = 24 := rfl
theorem fc_len : fc.length = 24 := rfl
set_option maxHeartbeats 1600000 in
set_option maxRecDepth 100000 in
theorem fields_gen (l : List Value) (hl : l.length = 24) (ha : l.toArray.all (·.oneCell') = true) (hs : (Tryd.prog.info? 51).map (·.size) = some l.toArray.size) (hz : (Tryd.prog.info? 51).map (·.size) = some l.length)
    (w : World) (hr : w.rangeAt 0 0 l) : Calls Tryd.prog 10 #[] w (Lr 51 l w) := by
  have HR := Lib.hid hr
  have HB : Hid (Bk (w.alloc (.cells #[Value.string { data := #[] }, Value.int IntKind.i64 0, Value.string { data := #[] }, Value.int IntKind.i64 0, Value.string { data := #[] }, Value.int IntKind.i64 0, Value.string { data := #[] }, Value.int IntKind.i64 0, Value.string { data := #[] }, Value.int IntKind.i64 0, Value.string { data := #[] }, Value.int IntKind.i64 0, Value.string { data := #[] }, Value.int IntKind.i64 0, Value.string { data := #[] }, Value.int IntKind.i64 0, Value.string { data := #[] }, Value.int IntKind.i64 0, Value.string { data := #[] }, Value.int IntKind.i64 0, Value.string { data := #[] }, Value.int IntKind.i64 0, Value.string { data := #[] }, Value.int IntKind.i64 0] 51)) w.heap.size 51 fz) := Bk.new w _ fz
  have HT : Hid ((w.alloc (.cells #[Value.string { data := #[] }, Value.int IntKind.i64 0, Value.string { data := #[] }, Value.int IntKind.i64 0, Value.string { data := #[] }, Value.int IntKind.i64 0, Value.string { data := #[] }, Value.int IntKind.i64 0, Value.string { data := #[] }, Value.int IntKind.i64 0, Value.string { data := #[] }, Value.int IntKind.i64 0, Value.string { data := #[] }, Value.int IntKind.i64 0, Value.string { data := #[] }, Value.int IntKind.i64 0, Value.string { data := #[] }, Value.int IntKind.i64 0, Value.string { data := #[] }, Value.int IntKind.i64 0, Value.string { data := #[] }, Value.int IntKind.i64 0, Value.string { data := #[] }, Value.int IntKind.i64 0] 51)).there w.heap.size 0 l.toArray.size) := by
    have e : l.toArray.size = 24 := by rw [List.size_toArray]; exact hl
    have := HB.out.there 0 24 (by rw [fz_len]; omega)
    rw [← e] at this
    exact this
  have HN : Hid (Below w.heap.size w (w.alloc (.cells #[Value.string { data := #[] }, Value.int IntKind.i64 0, Value.string { data := #[] }, Value.int IntKind.i64 0, Value.string { data := #[] }, Value.int IntKind.i64 0, Value.string { data := #[] }, Value.int IntKind.i64 0, Value.string { data := #[] }, Value.int IntKind.i64 0, Value.string { data := #[] }, Value.int IntKind.i64 0, Value.string { data := #[] }, Value.int IntKind.i64 0, Value.string { data := #[] }, Value.int IntKind.i64 0, Value.string { data := #[] }, Value.int IntKind.i64 0, Value.string { data := #[] }, Value.int IntKind.i64 0, Value.string { data := #[] }, Value.int IntKind.i64 0, Value.string { data := #[] }, Value.int IntKind.i64 0] 51))) := al1 _ _
  have HS := Lib.hid hs
  have HZ := Lib.hid hz
  have HA := Lib.hid ha
  have HL : Hid (l.length = fz.length) := hl.trans fz_len.symm
  clear hr hs hz ha hl
  go_enter Tryd.func10, Tryd.ntmps10
  go_wp2_with (first
    | (refine wpList_load_mid rfl 51 _ rfl 0 0 rfl l _ HR.out fa_under rfl HZ.out ?_)
    | (refine wpList_store_mid rfl 51 _ _ rfl w.heap.size 0 l.toArray rfl rfl HT.out HS.out HA.out ?_; generalize w.alloc (.cells #[Value.string { data := #[] }, Value.int IntKind.i64 0, Value.string { data := #[] }, Value.int IntKind.i64 0, Value.string { data := #[] }, Value.int IntKind.i64 0, Value.string { data := #[] }, Value.int IntKind.i64 0, Value.string { data := #[] }, Value.int IntKind.i64 0, Value.string { data := #[] }, Value.int IntKind.i64 0, Value.string { data := #[] }, Value.int IntKind.i64 0, Value.string { data := #[] }, Value.int IntKind.i64 0, Value.string { data := #[] }, Value.int IntKind.i64 0, Value.string { data := #[] }, Value.int IntKind.i64 0, Value.string { data := #[] }, Value.int IntKind.i64 0, Value.string { data := #[] }, Value.int IntKind.i64 0] 51) = W at *)
    | fail)
  go_ret
  exact ⟨w.heap.size, rfl, Nat.le_refl _, HB.out.whole l HL.out, below_cells _ _ HN.out (Nat.le_refl _)⟩
theorem fields_any (w : World) (hg : Gl w) : Calls Tryd.prog 10 #[] w (Lr 51 fc w) := fields_gen fc fc_len fc_all fc_size fa_sz w hg.fl

end Go.Proofs.YtdchaalmjhjejaaDoor.Cs
