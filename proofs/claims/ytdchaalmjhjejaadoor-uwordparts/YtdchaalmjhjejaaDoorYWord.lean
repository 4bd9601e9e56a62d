/- Contract of the document's Word. -/
import Derived.Test.YtdchaalmjhjejaaDoorYLeaf
import Derived.StillTailTactics
namespace Go.Proofs.YtdchaalmjhjejaaDoor.Cs
open Go.RowKit Tl Tl.Ia
set_option linter.unusedVariables false
set_option linter.unusedSimpArgs false

set_option maxHeartbeats 3200000 in
set_option maxRecDepth 100000 in
theorem word_any (p : Nat → Int) (r cap : Nat) (w : World) (h : ∀ k, k < 12 → w.cell? ⟨r, k, none⟩ = some (.int .i64 (p k))) :
    Calls Tryd.prog 29 #[.slice (some ⟨r, 0, none⟩) 12 cap] w fun e w' => e = .returned (.agg (cw p).toArray) ∧ Below w.heap.size w w' := by
  have H : Hid (∀ k, k < 12 → (w.alloc (.cells #[Value.int IntKind.i64 0, Value.int IntKind.i64 0, Value.int IntKind.i64 0, Value.int IntKind.i64 0, Value.int IntKind.i64 0, Value.int IntKind.i64 0, Value.int IntKind.i64 0, Value.int IntKind.i64 0, Value.int IntKind.i64 0, Value.int IntKind.i64 0, Value.int IntKind.i64 0, Value.int IntKind.i64 0] 23)).cell? ⟨r, k, none⟩ = some (.int .i64 (p k))) := Lib.hid fun k hk => ((al1 w _).cell (p := ⟨r, k, none⟩) (lt_of_cell (h k hk))).trans (h k hk)
  have HB : Hid (Below w.heap.size w (w.alloc (.cells #[Value.int IntKind.i64 0, Value.int IntKind.i64 0, Value.int IntKind.i64 0, Value.int IntKind.i64 0, Value.int IntKind.i64 0, Value.int IntKind.i64 0, Value.int IntKind.i64 0, Value.int IntKind.i64 0, Value.int IntKind.i64 0, Value.int IntKind.i64 0, Value.int IntKind.i64 0, Value.int IntKind.i64 0] 23)).drew) := (al1 w _).drew
  have HN : Hid (Bk (w.alloc (.cells #[Value.int IntKind.i64 0, Value.int IntKind.i64 0, Value.int IntKind.i64 0, Value.int IntKind.i64 0, Value.int IntKind.i64 0, Value.int IntKind.i64 0, Value.int IntKind.i64 0, Value.int IntKind.i64 0, Value.int IntKind.i64 0, Value.int IntKind.i64 0, Value.int IntKind.i64 0, Value.int IntKind.i64 0] 23)).drew w.heap.size 23 (cw fun _ => 0)) := Bk.new w _ (cw fun _ => 0)
  have HC := Lib.hid (cw_one p)
  clear h
  go_enter Tryd.func29, Tryd.ntmps29
  go_wp2
  generalize w.alloc (.cells #[Value.int IntKind.i64 0, Value.int IntKind.i64 0, Value.int IntKind.i64 0, Value.int IntKind.i64 0, Value.int IntKind.i64 0, Value.int IntKind.i64 0, Value.int IntKind.i64 0, Value.int IntKind.i64 0, Value.int IntKind.i64 0, Value.int IntKind.i64 0, Value.int IntKind.i64 0, Value.int IntKind.i64 0] 23) = W at *
  have c0 := H.out 0 (by omega)
  have c1 := H.out 1 (by omega)
  have c2 := H.out 2 (by omega)
  have c3 := H.out 3 (by omega)
  have c4 := H.out 4 (by omega)
  have c5 := H.out 5 (by omega)
  have c6 := H.out 6 (by omega)
  have c7 := H.out 7 (by omega)
  have c8 := H.out 8 (by omega)
  have c9 := H.out 9 (by omega)
  have c10 := H.out 10 (by omega)
  have c11 := H.out 11 (by omega)
  go_still_tail 37, (by kernel_rfl)
  change wpList _ _ _ _ _ W.drew
  clear c0 c1 c2 c3 c4 c5 c6 c7 c8 c9 c10 c11 H
  generalize W.drew = v at *
  have HT := Lib.hid (HN.out.there 0 12 (by decide))
  go_wp2_with (refine wpList_store_mid rfl 23 _ _ rfl w.heap.size 0 (cw p).toArray rfl rfl HT.out wd_size (all_oneCell_toArray HC.out) ?_)
  have HW := HN.out.whole (cw p) rfl
  have hld := word_load HW
  refine bodyPost_ret (v := .agg (cw p).toArray) ?_ rfl ⟨rfl, below_cells _ _ HB.out (Nat.le_refl _)⟩
  simp [results, Tryd.results29, asAddr, Act.put, hld]
end Go.Proofs.YtdchaalmjhjejaaDoor.Cs
