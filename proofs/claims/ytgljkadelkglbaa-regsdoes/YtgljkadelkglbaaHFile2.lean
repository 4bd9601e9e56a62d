/- Contracts of package regs: SetStack, Forget, Step, Set. -/
import Derived.Test.YtgljkadelkglbaaHFile1
import Derived.Test.YtgljkadelkglbaaGBit
import Derived.StillTailTactics
namespace Go.Proofs.Ytgljkadelkglbaa.Cs
open Go.RowKit Ps Tl

def One (g : Nat) : Nat → Prop := fun k => k = g

set_option maxHeartbeats 400000 in
theorem setstack_any (w : World) (g : Nat) (e : Re) (ss : List Int) (n : Int) (h : Fi w g e ss n) (u : Bool) (x : Int) (hx : U x) :
    Calls Try.prog 20 #[.pointer (some ⟨g, 0, none⟩), .bool u, .int .u32 x] w fun r w' => r = .returned (.tuple #[]) ∧ Fi w' g (e.to (pe e.p u) x) ss n ∧ Mods (One g) w w' := by
  have c := h.c_at (pe_lt e.p u)
  have f := h.free (pe e.p u)
  have C := Lib.hid (end_any w g e ss n h u)
  have HF := Lib.hid (h.to (pe_lt e.p u) hx)
  generalize pe e.p u = q at *
  generalize e.at q = y at *
  generalize e.to q x = e' at *
  clear h
  go_enter Try.func20, Try.ntmps20
  go_wp2_with (go_at_call 39; refine C.out.mono ?_; rintro _ w' ⟨rfl, rfl⟩)
  go_end0
  exact ⟨rfl, HF.out, (Mods.refl _ _).set _ (.inl rfl)⟩
set_option maxHeartbeats 400000 in
theorem setstack_nil (w : World) (u : Bool) (x : Int) :
    Calls Try.prog 20 #[.pointer none, .bool u, .int .u32 x] w fun r w' => r = .returned (.tuple #[]) ∧ w = w' := by
  go_enter Try.func20, Try.ntmps20
  go_wp2
  first | go_end0 | (refine bodyPost_ret (results_none rfl _ _ _) rfl ?_)
  exact ⟨rfl, rfl⟩

set_option maxHeartbeats 400000 in
theorem forget_any (w : World) (g : Nat) (e : Re) (ss : List Int) (n : Int) (h : Fi w g e ss n) :
    Calls Try.prog 16 #[.pointer (some ⟨g, 0, none⟩)] w fun r w' => r = .returned (.tuple #[]) ∧ Fi w' g e zs 0 ∧ Mods (One g) w w' := by
  have ht := Lib.hid (h.bk.there 19 16 (by rw [Re.length h.ok, h.tail]; omega))
  have hz : Hid ((Try.prog.info? 24).map (·.size) = some (c1 zs).toArray.size) := by show _ = _; kernel_rfl
  have ho := Lib.hid (all_oneCell_toArray (c1_one zs))
  have HB := Lib.hid build_zero
  have HF : Hid (Fi (w.setCells g 19 (c1 zs)) g e zs n) := by
    refine ⟨?_, h.ok, zs_len, zs_num⟩
    rcases Bk.setCells (c1 zs) 19 h.bk with k | k
    · have e1 : (e.cells (c1 ss ++ [Value.int .i64 n])).take 19 ++ c1 zs ++ (e.cells (c1 ss ++ [Value.int .i64 n])).drop (19 + (c1 zs).length) = e.cells (c1 zs ++ [Value.int .i64 n]) := by
        rw [← List.drop_drop, Re.drop_t h.ok, show (c1 zs).length = (c1 ss).length by rw [c1_length, c1_length, h.sl]; rfl, List.drop_left]
        unfold Re.cells
        rw [List.take_append, c1_length, h.ok.len, List.take_of_length_le (by rw [c1_length, h.ok.len]; omega)]
        simp
      rw [e1] at k; exact k
    · rw [Re.length h.ok, h.tail] at k
      have : (c1 zs).length = 16 := rfl
      omega
  have HM := Lib.hid (mods_setCells (One g) (c1 zs) 19 (Mods.refl (One g) w) (.inl rfl))
  clear h
  go_enter Try.func16, Try.ntmps16
  go_upto_region 2 with (first
    | refine wl_build rfl 24 _ rfl #[] (by simp) (.agg (c1 zs).toArray) (HB.out _) ?_
    | refine wpList_store_mid rfl 24 _ _ rfl g 19 (c1 zs).toArray rfl rfl ht.out hz.out ho.out ?_)
  generalize w.setCells g 19 (c1 zs) = W at *
  have c := HF.out.c_n
  have f := HF.out.free 35
  go_wp2
  go_end0
  exact ⟨rfl, HF.out.set_n 0, HM.out.set _ (.inl rfl)⟩
set_option maxHeartbeats 400000 in
theorem forget_nil (w : World) :
    Calls Try.prog 16 #[.pointer none] w fun r w' => r = .returned (.tuple #[]) ∧ w = w' := by
  go_enter Try.func16, Try.ntmps16
  go_wp2
  first | go_end0 | (refine bodyPost_ret (results_none rfl _ _ _) rfl ?_)
  exact ⟨rfl, rfl⟩

/-- a sum modulo 2^32 -/
def ad (a b : Int) : Int := (a + b) % 4294967296
theorem ad_U (a b : Int) : U (ad a b) := U_mod _

set_option maxHeartbeats 1000000 in
theorem step_in (w : World) (g : Nat) (e : Re) (ss : List Int) (n : Int) (h : Fi w g e ss n) (k : Nat) (hk : k < 16) (d : Int) (hd : U d) (h0 : 0 ≤ n) (h1 : n < 1000000) :
    Calls Try.prog 12 #[.pointer (some ⟨g, 0, none⟩), .int .i64 k, .int .u32 d] w fun r w' =>
      r = .returned (.int .i64 0) ∧ Fi w' g (e.reg k (ad (e.r.getD k 0) d)) (ss.set k (ad (ss.getD k 0) d)) (n + 1) ∧ Mods (One g) w w' := by
  have c := h.c_r hk
  have hk' : (k : Int) < 16 := by omega
  obtain ⟨d0, d1⟩ := hd
  obtain ⟨y0, y1⟩ := h.ok.num k
  obtain ⟨z0, z1⟩ := h.sn k
  have HF := Lib.hid h.drew
  have HM := Lib.hid (Mods.refl (One g) w).drew
  have HA := Lib.hid (show ad (e.r.getD k 0) d = (e.r.getD k 0 + d) % 4294967296 from rfl)
  have HC := Lib.hid (show ad (ss.getD k 0) d = (ss.getD k 0 + d) % 4294967296 from rfl)
  have HX := Lib.hid (ad_U (e.r.getD k 0) d)
  have HY := Lib.hid (ad_U (ss.getD k 0) d)
  obtain ⟨z, hz⟩ : ∃ z, ss.getD k 0 = z := ⟨_, rfl⟩
  have HE := Lib.hid hz
  rw [hz] at HC HY z0 z1 ⊢
  generalize e.r.getD k 0 = y at *
  clear h hz
  go_enter Try.func12, Try.ntmps12
  go_wp2_with (go_at_call 30; refine (isreg_in k hk _).mono ?_; rintro _ w' ⟨rfl, rfl⟩)
  go_still_tail 11, (by kernel_rfl)
  change wpList _ _ _ _ _ w.drew
  have c' : w.drew.cell? ⟨g, k, none⟩ = some (.int .u32 y) := c
  clear c
  have f := HF.out.free k
  generalize w.drew = v at *
  go_wp2
  have e1 : (y + d) % 4294967296 = ad y d := HA.out.symm
  rw [e1]
  have HF2 := Lib.hid (HF.out.set_r hk HX.out)
  have HM2 := Lib.hid (HM.out.set (p := ⟨g, k, none⟩) (.int .u32 (ad y d)) (.inl rfl))
  clear HF HM c' f
  generalize v.setCell ⟨g, k, none⟩ (.int .u32 (ad y d)) = v1 at *
  have c := HF2.out.c_s hk
  rw [HE.out] at c
  have c1 : v1.drew.cell? ⟨g, 19 + k, none⟩ = some (.int .u32 z) := c
  go_still_tail 11, (by kernel_rfl)
  change wpList _ _ _ _ _ v1.drew
  have HF3 := Lib.hid HF2.out.drew
  have HM3 := Lib.hid HM2.out.drew
  clear HF2 HM2 c
  have f := HF3.out.free (19 + k)
  generalize v1.drew = v2 at *
  have e2 : (z + d) % 4294967296 = ad z d := HC.out.symm
  go_upto_region 7 with fail
  rw [e2]
  have HF4 := Lib.hid (HF3.out.set_s hk HY.out)
  have HM4 := Lib.hid (HM3.out.set (p := ⟨g, 19 + k, none⟩) (.int .u32 (ad z d)) (.inl rfl))
  clear HF3 HM3 c1 f
  generalize v2.setCell ⟨g, 19 + k, none⟩ (.int .u32 (ad z d)) = v3 at *
  have c := HF4.out.c_n
  have f := HF4.out.free 35
  go_wp2
  go_ret
  exact ⟨rfl, HF4.out.set_n _, HM4.out.set _ (.inl rfl)⟩
end Go.Proofs.Ytgljkadelkglbaa.Cs
