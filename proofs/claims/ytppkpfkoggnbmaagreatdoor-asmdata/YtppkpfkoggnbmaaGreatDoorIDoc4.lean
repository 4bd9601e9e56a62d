/- The document's own reckoning of layer 10: read. -/
import Derived.Test.YtppkpfkoggnbmaaGreatDoorIDoc3
import Derived.Outline
import Derived.Deep.RegionLaw
import Derived.Deep.RegionWith
namespace Go.Proofs.YtppkpfkoggnbmaaGreatDoor.Cs.Ia
open Go.RowKit

/-- An end in one frame and one world. -/
def OneEnd (F : Act) (W : World) : Exit → Act → World → Prop
  | .normal, a, w => a = F ∧ w = W
  | _, _, _ => False
/-- A region all of whose ways end in one frame and one world: what follows is walked once. -/
theorem wp_one {P : Program} {c : Code} {Q : Exit → Act → World → Prop} {a : Act} {w : World} (F : Act) (W : World) (h : c.wp P (OneEnd F W) a w) (k : Q .normal F W) : c.wp P Q a w :=
  Code.wp_mono (fun x _ _ h => by
    cases x <;> first | (obtain ⟨rfl, rfl⟩ := h; exact k) | exact h.elim) h

/-- What stands behind the first lines of read. -/
theorem Rx.first {w w1 : World} {v : Value} {ws : List (List UInt8)} (x : Oq) (hx : x.ops = []) (h : Ctd (w.alloc (.cells #[.int .i64 0, .string ⟨#[]⟩, .int .i64 0, .int .i64 0, .slice none 0 0] 41)) ws v w1) :
    Rx w v ws w.heap.size w1.heap.size x (.slice none 0 0) (w1.alloc (.cells (x.cells (.slice none 0 0)).toArray 41)).drew := by
  have hs : (w.alloc (.cells #[.int .i64 0, .string ⟨#[]⟩, .int .i64 0, .int .i64 0, .slice none 0 0] 41)).heap.size = w.heap.size + 1 := by show (w.heap.push _).size = _; rw [Array.size_push]
  have h1 := h.bel.size
  have b0 : Below w.heap.size w (w.alloc (.cells #[.int .i64 0, .string ⟨#[]⟩, .int .i64 0, .int .i64 0, .slice none 0 0] 41)) := (Below.refl _ _).alloc (Nat.le_refl _) _
  have b1 : Below w.heap.size w w1 := bel2 b0 h.bel
  have b2 : Below w1.heap.size w1 (w1.alloc (.cells (x.cells (.slice none 0 0)).toArray 41)).drew := ((Below.refl _ _).alloc (Nat.le_refl _) _).drew
  have nb : ∀ k, ¬ Bl (.slice none 0 0) k := fun k hk => by simp [Bl, Value.ownBlock] at hk
  exact ⟨((Bk.new w _ [.int .i64 0, .string ⟨#[]⟩, .int .i64 0, .int .i64 0, .slice none 0 0]).below h.bel).below b2, (Bk.new w1 _ _).drew, by omega,
    ⟨⟨by rw [hx]; simp [cop], .inl ⟨rfl, by rw [hx]; rfl⟩⟩, fun k hk => absurd hk (nb k)⟩, nb _, nb _, own_below h.row b2, fun hb => by have := own_lo h.row _ hb; omega, fun k hk => absurd hk (nb k), Nat.le_refl _, by omega, bel2 b1 b2⟩

/-- The cells of both variables. -/
theorem Rx.cells {w W : World} {v u : Value} {ws : List (List UInt8)} {q g : Nat} {x : Oq} (h : Rx w v ws q g x u W) :
    W.cell? ⟨g, 0, none⟩ = some (.int .i64 x.code) ∧ W.cell? ⟨g, 1, none⟩ = some (.string (sb x.name)) ∧ W.cell? ⟨g, 2, none⟩ = some (.int .i64 x.cls) ∧ W.cell? ⟨g, 3, none⟩ = some (.int .i64 x.alu) ∧ W.cell? ⟨g, 4, none⟩ = some u ∧
    W.cell? ⟨q, 0, none⟩ = some (.int .i64 0) ∧ W.cell? ⟨q, 1, none⟩ = some (.string ⟨#[]⟩) ∧ W.cell? ⟨q, 2, none⟩ = some (.int .i64 0) ∧ W.cell? ⟨q, 3, none⟩ = some (.int .i64 0) ∧ W.cell? ⟨q, 4, none⟩ = some (.slice none 0 0) ∧ (∀ i, W.frozen? ⟨q, i, none⟩ = false) ∧ ∀ i, W.frozen? ⟨g, i, none⟩ = false :=
  ⟨h.var.cell 0 _ rfl, h.var.cell 1 _ rfl, h.var.cell 2 _ rfl, h.var.cell 3 _ rfl, h.var.cell 4 _ rfl, h.res.cell 0 _ rfl, h.res.cell 1 _ rfl, h.res.cell 2 _ rfl, h.res.cell 3 _ rfl, h.res.cell 4 _ rfl, h.res.free, h.var.free⟩
/-- What is answered. -/
theorem Rx.fin {w W : World} {v u : Value} {ws : List (List UInt8)} {q g : Nat} {x : Oq} (h : Rx w v ws q g x u W) (a0 a1 a2 a3 a4 : Value) :
    Op1 w.heap.size (((((W.setCell ⟨q, 0, none⟩ a0).setCell ⟨q, 1, none⟩ a1).setCell ⟨q, 2, none⟩ a2).setCell ⟨q, 3, none⟩ a3).setCell ⟨q, 4, none⟩ a4) x u ∧
      Below w.heap.size w (((((W.setCell ⟨q, 0, none⟩ a0).setCell ⟨q, 1, none⟩ a1).setCell ⟨q, 2, none⟩ a2).setCell ⟨q, 3, none⟩ a3).setCell ⟨q, 4, none⟩ a4) :=
  ⟨⟨own_set (own_set (own_set (own_set (own_set h.ops.1 h.nq _ _) h.nq _ _) h.nq _ _) h.nq _ _) h.nq _ _, h.ops.2⟩,
   ((((h.bel.setCell h.q0 _).setCell h.q0 _).setCell h.q0 _).setCell h.q0 _).setCell h.q0 _⟩

/-- The next operand. -/
theorem Rx.next {w W : World} {v u : Value} {ws : List (List UInt8)} {q y k : Nat} {C L U : Int} {N : List UInt8} {s g : UInt8} (h : Rx w v ws q y ⟨C, N, L, U, (ws.take k).map (opt s g)⟩ u W) (hk : k < ws.length) (hl : ws.length ≤ 1000000) (a z : Int) (ha : opt s g (ws.getD k []) = (a, z)) :
    ∃ r' cap' w', (Builtin.append_ #[39, 39] 39 #[u, .slice (some ⟨W.heap.size, 0, none⟩) 1 1]).run Tryz.prog (W.drew.alloc (.cells #[.int .u8 a, .int .i64 z] 45)) = .ok (.slice (some ⟨r', 0, none⟩) (k + 1) cap') w' ∧
      w'.cell? ⟨y, 4, none⟩ = some u ∧ w'.frozen? ⟨y, 4, none⟩ = false ∧
      Hid (Rx w v ws q y ⟨C, N, L, U, (ws.take (k + 1)).map (opt s g)⟩ (.slice (some ⟨r', 0, none⟩) (k + 1) cap') (w'.setCell ⟨y, 4, none⟩ (.slice (some ⟨r', 0, none⟩) (k + 1) cap'))) := by
  have e1 : ((ws.take k).map (opt s g)).length = k := by simp; omega
  have e2 : (ws.take (k + 1)).map (opt s g) = (ws.take k).map (opt s g) ++ [(a, z)] := by
    rw [List.take_succ_eq_append_getElem hk, List.map_append, ← ha]
    simp [List.getD, hk]
  have := h.drew.app a z (by rw [e1]; omega)
  simp only [e1] at this
  rw [e2]
  exact this

/-- A word of the line. -/
theorem Rx.word {w W : World} {r n c : Nat} {u : Value} {ws : List (List UInt8)} {q g : Nat} {x : Oq} (h : Rx w (.slice (some ⟨r, 0, none⟩) n c) ws q g x u W) (k : Nat) (hk : k < ws.length) :
    W.cell? ⟨r, k, none⟩ = some (.string (sb (ws.getD k []))) := by
  rcases own_shape h.wds with ⟨h, _⟩ | ⟨r', cap', e1, _, _, _, hc, _⟩
  · cases h
  · injection e1 with e1 _ _
    injection e1 with e1
    injection e1 with e1
    subst e1
    exact hc k _ (cst_get ws k hk)
theorem bl_some (r n c : Nat) : Bl (.slice (some ⟨r, 0, none⟩) n c) r := by simp [Bl, Value.ownBlock]
/-- While read puts the size's letter into the name: a row of the name's bytes. -/
structure Nx (w : World) (v : Value) (ws : List (List UInt8)) (q g : Nat) (x : Oq) (u : Value) (bb : Nat) (l : List UInt8) (W : World) : Prop where
  rx : Rx w v ws q g x u W
  by_ : By W bb l
  nq : q ≠ bb
  ng : g ≠ bb
  nu : ¬ Bl u bb
  nv : ¬ Bl v bb
  b0 : w.heap.size ≤ bb
section
variable {w W W' : World} {v u : Value} {ws : List (List UInt8)} {q g bb : Nat} {x : Oq} {l : List UInt8}
theorem Nx.drew (h : Nx w v ws q g x u bb l W) : Nx w v ws q g x u bb l W.drew := ⟨h.rx.drew, h.by_, h.nq, h.ng, h.nu, h.nv, h.b0⟩
theorem Nx.set (h : Nx w v ws q g x u bb l W) (j : Nat) (y : UInt8) : Nx w v ws q g x u bb (l.set j y) (W.setCell ⟨bb, j, none⟩ (.int .u8 (y.toNat : Int))) :=
  ⟨⟨h.rx.res.other h.nq _ _, h.rx.var.other h.ng _ _, h.rx.ne, ⟨own_set h.rx.ops.1 h.nu _ _, h.rx.ops.2⟩, h.rx.nq, h.rx.ng, own_set h.rx.wds h.nv _ _, h.rx.vg, h.rx.uv, h.rx.q0, h.rx.g0, h.rx.bel.setCell h.b0 _⟩,
   h.by_.set j y, h.nq, h.ng, h.nu, h.nv, h.b0⟩
theorem Nx.first (h : Rx w v ws q g x u W) (hb : By W' W.heap.size l ∧ Below W.heap.size W W' ∧ W.heap.size < W'.heap.size) : Nx w v ws q g x u W.heap.size l W' := by
  refine ⟨h.below hb.2.1, hb.1, ?_, ?_, ?_, ?_, h.bel.size⟩
  · have := h.res.lt; omega
  · have := h.var.lt; omega
  · intro k; have := own_lo h.ops.1 _ k; omega
  · intro k; have := own_lo h.wds _ k; omega
end

/-- What a line must be: five words, the first, the third and the last of digits; operands of two signs at least. -/
structure Ln (line a b c d e : List UInt8) : Prop where
  len : line.length ≤ 1000
  cut : cut line 32 = [a, b, c, d, e]
  da : Dig a
  dc : Dig c
  de : Dig e
  ld : d.length ≤ 1000
  lb : b.length ≤ 1000
  two : d ≠ [45] → ∀ o ∈ Ia.cut d 44, 2 ≤ o.length ∧ o.length ≤ 1000

set_option maxHeartbeats 3200000 in
set_option maxRecDepth 100000 in
theorem read_any (line a b c d e : List UInt8) (base : Int) (hb0 : 0 ≤ base) (hb1 : base ≤ 1000) (s g : UInt8) (h : Ln line a b c d e) (hs : s ≠ 0 → d ≠ [45] ∧ ∃ p, Lx b p) (w : World) :
    Calls Tryz.prog 60 #[.string (sb line), .int .i64 base, .int .u8 (s.toNat : Int), .int .u8 (g.toNat : Int)] w fun r w' =>
      ∃ u, r = .returned ((rd base s g a b c d e).val u) ∧ Op1 w.heap.size w' (rd base s g a b c d e) u ∧ Below w.heap.size w w' := by
  have HL := Lib.hid h
  have na := fun W => number_any a W h.da
  have nc := fun W => number_any c W h.dc
  have ne := fun W => number_any e W h.de
  have ba := dg_bd a h.da a.length (Nat.le_refl _)
  have pa := pow9 a.length h.da.1
  have hcut := fun W => cut_any line 32 W h.len
  simp only [h.cut] at hcut
  have ba0 := ba.1
  have ba1 : dg a a.length ≤ 1000000000 := by omega
  have HR : Hid (rd base s g a b c d e = ⟨base + dg a a.length, if s = 0 then b else lx b g b.length, dg c c.length, dg e e.length, if d = [45] then [] else (cut d 44).map (opt s g)⟩) := rfl
  have hw : IntKind.i64.wrap (base + dg a a.length) = base + dg a a.length := by unfold IntKind.wrap; simp [IntKind.signed, IntKind.bits]; omega
  have NA := Lib.hid na
  have NC := Lib.hid nc
  have NE := Lib.hid ne
  have HC := Lib.hid hcut
  have HS := Lib.hid hs
  have HW := Lib.hid hw
  clear ba pa na nc ne hcut h hs hw
  generalize rd base s g a b c d e = X at *
  generalize dg a a.length = ga at *
  generalize dg c c.length = gc at *
  generalize dg e e.length = ge at *
  generalize sb line = sl at *
  generalize hsi : (s.toNat : Int) = si at *
  generalize hgi : (g.toNat : Int) = gi at *
  have HSI := Lib.hid hsi
  have HGI := Lib.hid hgi
  clear hsi hgi
  go_enter Tryz.func60, Tryz.ntmps60
  go_wp2_with (go_at_call 88; refine (HC.out _).mono ?_; rintro r0 w1 ⟨v, rfl, hc1⟩)
  have HC1 := Lib.hid hc1
  obtain ⟨r, cap, rfl, k0, k1, k2, k3, k4⟩ : ∃ r cap, v = .slice (some ⟨r, 0, none⟩) 5 cap ∧ w1.cell? ⟨r, 0, none⟩ = some (.string (sb a)) ∧ w1.cell? ⟨r, 1, none⟩ = some (.string (sb b)) ∧ w1.cell? ⟨r, 2, none⟩ = some (.string (sb c)) ∧
      w1.cell? ⟨r, 3, none⟩ = some (.string (sb d)) ∧ w1.cell? ⟨r, 4, none⟩ = some (.string (sb e)) := by
    rcases own_shape hc1.row with ⟨_, h0⟩ | ⟨r, cap, rfl, _, _, _, hc, _⟩
    · cases h0
    · exact ⟨r, cap, rfl, hc 0 _ rfl, hc 1 _ rfl, hc 2 _ rfl, hc 3 _ rfl, hc 4 _ rfl⟩
  clear hc1
  generalize sb a = sa at *
  generalize sb c = sc at *
  generalize sb e = se at *
  apply wp_one
  case h =>
   go_region_held3 (fun w' => w'.cell? ⟨r, 0, none⟩ = some (.string sa) ∧ w'.cell? ⟨r, 1, none⟩ = some (.string (sb b)) ∧ w'.cell? ⟨r, 2, none⟩ = some (.string sc) ∧ w'.cell? ⟨r, 4, none⟩ = some (.string se))
    (first | go_keep | exact ⟨k0, k1, k2, k4⟩)
    (first | (go_at_call_of 89 (Value.string sa); refine (NA.out _).mono ?_; rintro r9 w9 ⟨rfl, rfl⟩) | (go_at_call_of 89 (Value.string sc); refine (NC.out _).mono ?_; rintro r9 w9 ⟨rfl, rfl⟩) | (go_at_call_of 89 (Value.string se); refine (NE.out _).mono ?_; rintro r9 w9 ⟨rfl, rfl⟩))
   all_goals exact ⟨rfl, rfl⟩
  case k =>
   rw [HW.out]
   have HX : Hid (Rx w (.slice (some ⟨r, 0, none⟩) 5 cap) [a, b, c, d, e] w.heap.size w1.heap.size ⟨base + ga, b, gc, ge, []⟩ (.slice none 0 0)
     (w1.alloc (Obj.cells #[.int .i64 (base + ga), .string (sb b), .int .i64 gc, .int .i64 ge, .slice none 0 0] 41)).drew) := Rx.first ⟨base + ga, b, gc, ge, []⟩ rfl HC1.out
   clear NA NC NE HC HC1 HW k0 k1 k2 k3 k4
   generalize (w1.alloc (Obj.cells #[.int .i64 (base + ga), .string (sb b), .int .i64 gc, .int .i64 ge, .slice none 0 0] 41)).drew = W at *
   have hq := HX.out.res.lt
   have hg := HX.out.var.lt
   have hne := HX.out.ne
   generalize w1.heap.size = y at *
   obtain ⟨q, hqe⟩ : ∃ q, w.heap.size = q := ⟨_, rfl⟩
   have HQ := Lib.hid hqe
   rw [hqe] at hq hne HX
   rw [hqe]
   have hc1 := HX.out.var.cell 1 _ rfl
   have hc4 := HX.out.var.cell 4 _ rfl
   have kd : W.cell? ⟨r, 3, none⟩ = some (.string (sb d)) := by
     rcases own_shape HX.out.wds with ⟨h, _⟩ | ⟨r', cap', e1, _, _, _, hc, _⟩
     · cases h
     · injection e1 with e1 _ _
       injection e1 with e1
       injection e1 with e1
       subst e1
       exact hc 3 _ rfl
   clear hqe w1
   by_cases h0 : s = 0
   · have e0 : si = 0 := by rw [← HSI.out, h0]; rfl
     subst e0
     by_cases hd : d = [45]
     · subst hd
       rw [if_pos h0, if_pos rfl] at HR
       obtain ⟨x0, x1, x2, x3, x4, y0, y1, y2, y3, y4, fq, fg⟩ := HX.out.cells
       go_wp2
       refine bodyPost_ret (v := (⟨base + ga, b, gc, ge, []⟩ : Oq).val (.slice none 0 0)) (by simp [results, Tryz.results60, go_sem, y0, y1, y2, y3, y4]) rfl ⟨_, by rw [HR.out], ?_⟩
       rw [HR.out, ← HQ.out]
       have hf := HX.out
       rw [← HQ.out] at hf
       exact hf.fin _ _ _ _ _
     · have hb1 : (d == [45]) = false := by simpa using hd
       have hb2 : (d != [45]) = true := by simpa using hd
       rw [if_pos h0, if_neg hd] at HR
       have hw2 := HL.out.two hd
       have HCd := Lib.hid fun W' => cut_at d 44 W' HL.out.ld
       have hlp : (cut d 44).length ≤ 1000000 := by have := (ct_le d 44 (d.length + 1)).2; have := HL.out.ld; unfold cut; omega
       have hpo := cut_pos d 44
       generalize cut d 44 = ps at *
       generalize hn : ps.length = n at *
       have HN := Lib.hid hn
       clear hn
       have HW2 := Lib.hid hw2
       clear hw2
       go_wp2_with (go_at_call 88; refine (HCd.out _).mono ?_; rintro r0 w2 ⟨r2, c2, rfl, hc2⟩)
       have HX2 := Lib.hid (HX.out.words hc2)
       clear hc2 HX hc1 hc4 kd
       go_loopw [69] (fun i wr => ∃ (k : Nat) (u : Value), k ≤ n ∧ i = .int .i64 k ∧ Rx w (.slice (some ⟨r2, 0, none⟩) n c2) ps q y ⟨base + ga, b, gc, ge, (ps.take k).map (opt s g)⟩ u wr) (fun i _ => n - (intOf i).toNat)
       case atStart => exact ⟨0, _, Nat.zero_le _, rfl, HX2.out⟩
       case round =>
         clear HX2
         obtain ⟨k, u, hk, rfl, hx⟩ := hrel
         have HX := Lib.hid hx
         by_cases hlt : k < n
         · have hkp : k < ps.length := by rw [HN.out]; exact hlt
           have ko : wr.cell? ⟨r2, k, none⟩ = some (.string (sb (ps.getD k []))) := by
             rcases own_shape hx.wds with ⟨_, h0⟩ | ⟨r3, cap', e1, _, _, _, hc, _⟩
             · omega
             · injection e1 with e1 _ _
               injection e1 with e1
               injection e1 with e1
               subst e1
               exact hc k _ (cst_get ps k hkp)
           have h2 := HW2.out (ps.getD k []) (by simp [List.getD, hkp])
           obtain ⟨z0, z1, hz0, hz1, ho⟩ : ∃ z0 z1 : UInt8, (ot s g (ps.getD k [])).getD 0 0 = z0 ∧ (ot s g (ps.getD k [])).getD 1 0 = z1 ∧ opt s g (ps.getD k []) = ((z0.toNat : Int), sz z1) := ⟨_, _, rfl, rfl, rfl⟩
           have hlo : 2 ≤ (ot s g (ps.getD k [])).length := by unfold ot; split <;> first | exact h2.1 | (rw [List.length_map]; exact h2.1)
           have HNX : Hid (∀ (W' : World), Rx w (.slice (some ⟨r2, 0, none⟩) n c2) ps q y ⟨base + ga, b, gc, ge, (ps.take k).map (opt s g)⟩ u W' → _) := Lib.hid fun (W' : World) hW' => Rx.next (W := W') hW' hkp (by rw [HN.out]; exact hlp) (z0.toNat : Int) (sz z1) ho
           rw [show ps.getD k [] = ot s g (ps.getD k []) by unfold ot; rw [if_pos h0]] at ko
           have HO := Lib.hid ho
           have HK := Lib.hid hkp
           clear hx h2 ho hkp
           have hs2 : 2 ≤ (sb (ot s g (ps.getD k []))).size := by rw [sb_size]; exact hlo
           have g0 : ∀ h : 0 < (sb (ot s g (ps.getD k []))).size, (sb (ot s g (ps.getD k [])))[0] = z0 := fun h => by rw [sb_get, hz0]
           have g1 : ∀ h : 1 < (sb (ot s g (ps.getD k []))).size, (sb (ot s g (ps.getD k [])))[1] = z1 := fun h => by rw [sb_get, hz1]
           clear hz0 hz1 hlo
           generalize sb (ot s g (ps.getD k [])) = so at *
           generalize hzi : (z1.toNat : Int) = zi at *
           have HZ : Hid (z1.toNat = zi) := hzi
           have hx1 : ∀ h : 1 < so.size, (so[1].toNat : Int) = zi := fun h => by rw [g1 h]; exact hzi
           generalize hz0 : (z0.toNat : Int) = za at *
           have hx0 : ∀ h : 0 < so.size, (so[0].toNat : Int) = za := fun h => by rw [g0 h]; exact hz0
           have hs0 : 0 < so.size := by omega
           have hs0' : (0 : Int) < (so.size : Int) := by omega
           have g0' := hx0 (by omega)
           have g1' := hx1 (by omega)
           clear hx0 hx1 g0 g1 hzi hz0
           by_cases e1 : zi = 119
           · have hsz : sz z1 = 2 := by
               have e : z1 = 119 := by rw [← UInt8.toNat_inj]; have := HZ.out; simp; omega
               subst e; rfl
             have b1 : (zi == 119) = true := by simpa using e1
             have b2 : (zi == 108) = false := by subst e1; rfl
             clear HZ HO HK
             have HX3 := HX
             clear HX
             generalize hw3 : wr = w3 at *
             clear hw3
             have c4 : w3.cell? ⟨y, 4, none⟩ = some u := HX3.out.var.cell 4 _ rfl
             have hy3 := HX3.out.var.lt
             have c4' : ∀ o, (w3.alloc o).cell? ⟨y, 4, none⟩ = some u := fun o => by rw [World.cell?_alloc_lt _ _ _ hy3]; exact c4
             obtain ⟨r', cap', w', hrun, hcell, hfr, HNN⟩ := HNX.out _ HX3.out
             rw [hsz] at hrun
             clear HNX
             go_wp2
             apply wp_one
             case h =>
               go_region_law (first | (refine step_append_run rfl (.tmp 86) (.tmp 91) _ _ rfl u (.slice (some ⟨w3.heap.size, 0, none⟩) 1 1) (by simp [Act.eval]) (by simp [Act.eval]) hrun ?_))
               all_goals exact ⟨rfl, rfl⟩
             case k =>
               go_wp2
               go_roundw
               case rel => exact ⟨k + 1, _, by omega, by go_num, HNN.out⟩
               case measure => first | (simp [intOf]; done) | (simp [intOf]; omega)
           · by_cases e2 : zi = 108
             · have hsz : sz z1 = 4 := by
                 have e : z1 = 108 := by rw [← UInt8.toNat_inj]; have := HZ.out; simp; omega
                 subst e; rfl
               have b1 : (zi == 119) = false := by subst e2; rfl
               have b2 : (zi == 108) = true := by simpa using e2
               clear HZ HO HK
               have HX3 := HX
               clear HX
               generalize hw3 : wr = w3 at *
               clear hw3
               have c4 : w3.cell? ⟨y, 4, none⟩ = some u := HX3.out.var.cell 4 _ rfl
               have hy3 := HX3.out.var.lt
               have c4' : ∀ o, (w3.alloc o).cell? ⟨y, 4, none⟩ = some u := fun o => by rw [World.cell?_alloc_lt _ _ _ hy3]; exact c4
               obtain ⟨r', cap', w', hrun, hcell, hfr, HNN⟩ := HNX.out _ HX3.out
               rw [hsz] at hrun
               clear HNX
               go_wp2
               apply wp_one
               case h =>
                 go_region_law (first | (refine step_append_run rfl (.tmp 86) (.tmp 91) _ _ rfl u (.slice (some ⟨w3.heap.size, 0, none⟩) 1 1) (by simp [Act.eval]) (by simp [Act.eval]) hrun ?_))
                 all_goals exact ⟨rfl, rfl⟩
               case k =>
                 go_wp2
                 go_roundw
                 case rel => exact ⟨k + 1, _, by omega, by go_num, HNN.out⟩
                 case measure => first | (simp [intOf]; done) | (simp [intOf]; omega)
             · have hsz : sz z1 = 1 := by
                 have h1 : z1 ≠ 119 := fun h => e1 (by rw [← HZ.out, h]; rfl)
                 have h2 : z1 ≠ 108 := fun h => e2 (by rw [← HZ.out, h]; rfl)
                 simp [sz, h1, h2]
               have b1 : (zi == 119) = false := by simpa using e1
               have b2 : (zi == 108) = false := by simpa using e2
               clear HZ HO HK
               have HX3 := HX
               clear HX
               generalize hw3 : wr = w3 at *
               clear hw3
               have c4 : w3.cell? ⟨y, 4, none⟩ = some u := HX3.out.var.cell 4 _ rfl
               have hy3 := HX3.out.var.lt
               have c4' : ∀ o, (w3.alloc o).cell? ⟨y, 4, none⟩ = some u := fun o => by rw [World.cell?_alloc_lt _ _ _ hy3]; exact c4
               obtain ⟨r', cap', w', hrun, hcell, hfr, HNN⟩ := HNX.out _ HX3.out
               rw [hsz] at hrun
               clear HNX
               go_wp2
               apply wp_one
               case h =>
                 go_region_law (first | (refine step_append_run rfl (.tmp 86) (.tmp 91) _ _ rfl u (.slice (some ⟨w3.heap.size, 0, none⟩) 1 1) (by simp [Act.eval]) (by simp [Act.eval]) hrun ?_))
                 all_goals exact ⟨rfl, rfl⟩
               case k =>
                 go_wp2
                 go_roundw
                 case rel => exact ⟨k + 1, _, by omega, by go_num, HNN.out⟩
                 case measure => first | (simp [intOf]; done) | (simp [intOf]; omega)
         · obtain rfl : k = n := by omega
           obtain ⟨ru, nu, cu, rfl⟩ : ∃ ru nu cu, u = .slice (some ⟨ru, 0, none⟩) nu cu := by
             rcases own_shape hx.ops.1 with ⟨_, h9⟩ | ⟨r3, cap', e1, _⟩
             · exfalso
               have h8 := HN.out
               simp only [List.length_map, List.length_take] at h9
               omega
             · exact ⟨_, _, _, e1⟩
           obtain ⟨x0, x1, x2, x3, x4, y0, y1, y2, y3, y4, fq, fg⟩ := hx.cells
           have HT : Hid ((ps.take k).map (opt s g) = ps.map (opt s g)) := by show _ = _; rw [List.take_of_length_le (by rw [HN.out]; omega)]
           have hq' := hx.res.lt
           have hy' := hx.var.lt
           clear hx
           go_wp2
           refine bodyPost_ret (v := (⟨base + ga, b, gc, ge, (ps.take k).map (opt s g)⟩ : Oq).val (.slice (some ⟨ru, 0, none⟩) nu cu)) (by simp [results, Tryz.results60, go_sem, y0, y1, y2, y3, y4]) rfl ?_
           refine ⟨_, by rw [HR.out, HT.out], ?_⟩
           rw [HR.out, ← HT.out, ← HQ.out]
           have hf := HX.out
           rw [← HQ.out] at hf
           exact hf.fin _ _ _ _ _
   · obtain ⟨hd, p, hp⟩ := HS.out h0
     have hb1 : (d == [45]) = false := by simpa using hd
     have hb2 : (d != [45]) = true := by simpa using hd
     have hsi : si ≠ 0 := by rw [← HSI.out]; intro e; exact h0 (by rw [← UInt8.toNat_inj]; simpa using e)
     have hsi1 : (si == 0) = false := by simpa using hsi
     have hsi2 : (si != 0) = true := by simpa using hsi
     rw [if_neg h0, if_neg hd, lx_at b g p hp] at HR
     obtain ⟨cb, w2, hcv, HB⟩ := run_bytes b W
     have HNX := Lib.hid (Nx.first HX.out HB.out)
     have HP := Lib.hid hp
     have hpl := hp.lt
     have hmb := HL.out.lb
     clear HB hp HX HS
     generalize W.heap.size = bb at *
     generalize hnb : b.length = nb at *
     obtain ⟨mb, rfl⟩ : ∃ m, nb = m + 1 := ⟨nb - 1, by omega⟩
     have HNB := Lib.hid hnb
     clear hnb hsi
     go_wp2
     go_loopw [12] (fun i wr => ∃ j : Nat, p ≤ j ∧ j < mb + 1 ∧ i = .int .i64 j ∧ Nx w (.slice (some ⟨r, 0, none⟩) 5 cap) [a, b, c, d, e] q y ⟨base + ga, b, gc, ge, []⟩ (.slice none 0 0) bb b wr) (fun i _ => (intOf i).toNat)
     case atStart => exact ⟨mb, by omega, by omega, by go_num, HNX.out⟩
     case round =>
       clear HNX
       obtain ⟨j, hj0, hj1, rfl, hnx⟩ := hrel
       have HN0 := Lib.hid hnx
       have hjb : j < b.length := by rw [HNB.out]; exact hj1
       have hcj := hnx.by_.cell hjb
       have hfj := hnx.by_.free hjb
       clear hnx
       by_cases hjp : j = p
       · subst hjp
         have e88 := HP.out.at_
         rw [e88] at hcj
         have HN1 := Lib.hid (HN0.out.set j g)
         have hstr := HN1.out.by_.string cb
         rw [List.length_set, HNB.out] at hstr
         have hstr' := HN1.out.drew.by_.string cb
         rw [List.length_set, HNB.out] at hstr'
         clear HN0 hjb e88
         rw [HGI.out] at HN1 hstr hstr'
         generalize b.set j g = b' at *
         have HN2 := Lib.hid (HN1.out.rx.name b')
         have HN2' := Lib.hid (HN1.out.drew.rx.name b')
         obtain ⟨x0, x1, x2, x3, x4, y0, y1, y2, y3, y4, fq, fg⟩ := HN1.out.rx.cells
         have hry : r ≠ y := fun h => HN1.out.rx.vg (h ▸ bl_some _ _ _)
         have hrb : r ≠ bb := fun h => HN1.out.nv (h ▸ bl_some _ _ _)
         have kd := HN1.out.rx.word 3 (by show 3 < 5; omega)
         simp only [List.getD_cons_succ, List.getD_cons_zero] at kd
         clear HN1
         have hw2 := HL.out.two hd
         have HCd := Lib.hid fun W' => cut_at d 44 W' HL.out.ld
         have hlp : (cut d 44).length ≤ 1000000 := by have := (ct_le d 44 (d.length + 1)).2; have := HL.out.ld; unfold cut; omega
         have hpo := cut_pos d 44
         generalize cut d 44 = ps at *
         generalize hn : ps.length = n at *
         have HN := Lib.hid hn
         have HW2 := Lib.hid hw2
         clear hn hw2 HN2'
         go_wp2_with (go_at_call 88; refine (HCd.out _).mono ?_; rintro r0 w4 ⟨r2, c2, rfl, hc2⟩)
         have HX2 := Lib.hid (HN2.out.words hc2)
         clear hc2 HN2 kd x0 x1 x2 x3 x4 y0 y1 y2 y3 y4 fq fg hstr hstr' hcj hfj hry hrb
         go_loopw [69] (fun i wr => ∃ (k : Nat) (u : Value), k ≤ n ∧ i = .int .i64 k ∧ Rx w (.slice (some ⟨r2, 0, none⟩) n c2) ps q y ⟨base + ga, b', gc, ge, (ps.take k).map (opt s g)⟩ u wr) (fun i _ => n - (intOf i).toNat)
         case atStart => exact ⟨0, _, Nat.zero_le _, rfl, HX2.out⟩
         case round =>
           clear HX2
           obtain ⟨k, u, hk, rfl, hx⟩ := hrel
           have HX := Lib.hid hx
           by_cases hlt : k < n
           · have hkp : k < ps.length := by rw [HN.out]; exact hlt
             have ko := hx.word k hkp
             have h2 := HW2.out (ps.getD k []) (by simp [List.getD, hkp])
             have HPU : Hid (∀ W', Calls Tryz.prog 90 #[.string (sb (ps.getD k [])), .int .u8 si, .int .u8 gi] W' fun e w' => e = .returned (.string (sb (ot s g (ps.getD k [])))) ∧ Below W'.heap.size W' w') := Lib.hid fun W' => by
               have := put_any (ps.getD k []) s g W' h2.2
               rw [HSI.out, HGI.out] at this
               unfold ot
               rw [if_neg h0]
               exact this
             obtain ⟨z0, z1, hz0, hz1, ho⟩ : ∃ z0 z1 : UInt8, (ot s g (ps.getD k [])).getD 0 0 = z0 ∧ (ot s g (ps.getD k [])).getD 1 0 = z1 ∧ opt s g (ps.getD k []) = ((z0.toNat : Int), sz z1) := ⟨_, _, rfl, rfl, rfl⟩
             have hlo : 2 ≤ (ot s g (ps.getD k [])).length := by unfold ot; split <;> first | exact h2.1 | (rw [List.length_map]; exact h2.1)
             have HNX : Hid (∀ (W' : World), Rx w (.slice (some ⟨r2, 0, none⟩) n c2) ps q y ⟨base + ga, b', gc, ge, (ps.take k).map (opt s g)⟩ u W' → _) := Lib.hid fun (W' : World) hW' => Rx.next (W := W') hW' hkp (by rw [HN.out]; exact hlp) (z0.toNat : Int) (sz z1) ho
             have HO := Lib.hid ho
             have HK := Lib.hid hkp
             clear hx h2 ho hkp
             have hs2 : 2 ≤ (sb (ot s g (ps.getD k []))).size := by rw [sb_size]; exact hlo
             have g0 : ∀ h : 0 < (sb (ot s g (ps.getD k []))).size, (sb (ot s g (ps.getD k [])))[0] = z0 := fun h => by rw [sb_get, hz0]
             have g1 : ∀ h : 1 < (sb (ot s g (ps.getD k []))).size, (sb (ot s g (ps.getD k [])))[1] = z1 := fun h => by rw [sb_get, hz1]
             clear hz0 hz1 hlo
             generalize sb (ot s g (ps.getD k [])) = so at *
             generalize sb (ps.getD k []) = so0 at *
             generalize hzi : (z1.toNat : Int) = zi at *
             have HZ : Hid (z1.toNat = zi) := hzi
             have hx1 : ∀ h : 1 < so.size, (so[1].toNat : Int) = zi := fun h => by rw [g1 h]; exact hzi
             generalize hz0 : (z0.toNat : Int) = za at *
             have hx0 : ∀ h : 0 < so.size, (so[0].toNat : Int) = za := fun h => by rw [g0 h]; exact hz0
             have hs0 : 0 < so.size := by omega
             have hs0' : (0 : Int) < (so.size : Int) := by omega
             have g0' := hx0 (by omega)
             have g1' := hx1 (by omega)
             clear hx0 hx1 g0 g1 hzi hz0
             by_cases e1 : zi = 119
             · have hsz : sz z1 = 2 := by
                 have e : z1 = 119 := by rw [← UInt8.toNat_inj]; have := HZ.out; simp; omega
                 subst e; rfl
               have b1 : (zi == 119) = true := by simpa using e1
               have b2 : (zi == 108) = false := by subst e1; rfl
               clear HZ HO HK
               go_wp2_with (go_at_call 90; refine (HPU.out _).mono ?_; rintro r9 w3 ⟨rfl, hb3⟩)
               have HX3 := Lib.hid (HX.out.below hb3)
               clear HX hb3
               have c4 : w3.cell? ⟨y, 4, none⟩ = some u := HX3.out.var.cell 4 _ rfl
               have hy3 := HX3.out.var.lt
               have c4' : ∀ o, (w3.alloc o).cell? ⟨y, 4, none⟩ = some u := fun o => by rw [World.cell?_alloc_lt _ _ _ hy3]; exact c4
               obtain ⟨r', cap', w', hrun, hcell, hfr, HNN⟩ := HNX.out _ HX3.out
               rw [hsz] at hrun
               clear HNX
               apply wp_one
               case h =>
                 go_region_law (first | (refine step_append_run rfl (.tmp 86) (.tmp 91) _ _ rfl u (.slice (some ⟨w3.heap.size, 0, none⟩) 1 1) (by simp [Act.eval]) (by simp [Act.eval]) hrun ?_))
                 all_goals exact ⟨rfl, rfl⟩
               case k =>
                 go_wp2
                 go_roundw
                 case rel => exact ⟨k + 1, _, by omega, by go_num, HNN.out⟩
                 case measure => first | (simp [intOf]; done) | (simp [intOf]; omega)
             · by_cases e2 : zi = 108
               · have hsz : sz z1 = 4 := by
                   have e : z1 = 108 := by rw [← UInt8.toNat_inj]; have := HZ.out; simp; omega
                   subst e; rfl
                 have b1 : (zi == 119) = false := by subst e2; rfl
                 have b2 : (zi == 108) = true := by simpa using e2
                 clear HZ HO HK
                 go_wp2_with (go_at_call 90; refine (HPU.out _).mono ?_; rintro r9 w3 ⟨rfl, hb3⟩)
                 have HX3 := Lib.hid (HX.out.below hb3)
                 clear HX hb3
                 have c4 : w3.cell? ⟨y, 4, none⟩ = some u := HX3.out.var.cell 4 _ rfl
                 have hy3 := HX3.out.var.lt
                 have c4' : ∀ o, (w3.alloc o).cell? ⟨y, 4, none⟩ = some u := fun o => by rw [World.cell?_alloc_lt _ _ _ hy3]; exact c4
                 obtain ⟨r', cap', w', hrun, hcell, hfr, HNN⟩ := HNX.out _ HX3.out
                 rw [hsz] at hrun
                 clear HNX
                 apply wp_one
                 case h =>
                   go_region_law (first | (refine step_append_run rfl (.tmp 86) (.tmp 91) _ _ rfl u (.slice (some ⟨w3.heap.size, 0, none⟩) 1 1) (by simp [Act.eval]) (by simp [Act.eval]) hrun ?_))
                   all_goals exact ⟨rfl, rfl⟩
                 case k =>
                   go_wp2
                   go_roundw
                   case rel => exact ⟨k + 1, _, by omega, by go_num, HNN.out⟩
                   case measure => first | (simp [intOf]; done) | (simp [intOf]; omega)
               · have hsz : sz z1 = 1 := by
                   have h1 : z1 ≠ 119 := fun h => e1 (by rw [← HZ.out, h]; rfl)
                   have h2 : z1 ≠ 108 := fun h => e2 (by rw [← HZ.out, h]; rfl)
                   simp [sz, h1, h2]
                 have b1 : (zi == 119) = false := by simpa using e1
                 have b2 : (zi == 108) = false := by simpa using e2
                 clear HZ HO HK
                 go_wp2_with (go_at_call 90; refine (HPU.out _).mono ?_; rintro r9 w3 ⟨rfl, hb3⟩)
                 have HX3 := Lib.hid (HX.out.below hb3)
                 clear HX hb3
                 have c4 : w3.cell? ⟨y, 4, none⟩ = some u := HX3.out.var.cell 4 _ rfl
                 have hy3 := HX3.out.var.lt
                 have c4' : ∀ o, (w3.alloc o).cell? ⟨y, 4, none⟩ = some u := fun o => by rw [World.cell?_alloc_lt _ _ _ hy3]; exact c4
                 obtain ⟨r', cap', w', hrun, hcell, hfr, HNN⟩ := HNX.out _ HX3.out
                 rw [hsz] at hrun
                 clear HNX
                 apply wp_one
                 case h =>
                   go_region_law (first | (refine step_append_run rfl (.tmp 86) (.tmp 91) _ _ rfl u (.slice (some ⟨w3.heap.size, 0, none⟩) 1 1) (by simp [Act.eval]) (by simp [Act.eval]) hrun ?_))
                   all_goals exact ⟨rfl, rfl⟩
                 case k =>
                   go_wp2
                   go_roundw
                   case rel => exact ⟨k + 1, _, by omega, by go_num, HNN.out⟩
                   case measure => first | (simp [intOf]; done) | (simp [intOf]; omega)
           · obtain rfl : k = n := by omega
             obtain ⟨ru, nu, cu, rfl⟩ : ∃ ru nu cu, u = .slice (some ⟨ru, 0, none⟩) nu cu := by
               rcases own_shape hx.ops.1 with ⟨_, h9⟩ | ⟨r3, cap', e1, _⟩
               · exfalso
                 have h8 := HN.out
                 simp only [List.length_map, List.length_take] at h9
                 omega
               · exact ⟨_, _, _, e1⟩
             obtain ⟨x0, x1, x2, x3, x4, y0, y1, y2, y3, y4, fq, fg⟩ := hx.cells
             have HT : Hid ((ps.take k).map (opt s g) = ps.map (opt s g)) := by show _ = _; rw [List.take_of_length_le (by rw [HN.out]; omega)]
             have hq' := hx.res.lt
             have hy' := hx.var.lt
             clear hx
             go_wp2
             refine bodyPost_ret (v := (⟨base + ga, b', gc, ge, (ps.take k).map (opt s g)⟩ : Oq).val (.slice (some ⟨ru, 0, none⟩) nu cu)) (by simp [results, Tryz.results60, go_sem, y0, y1, y2, y3, y4]) rfl ?_
             refine ⟨_, by rw [HR.out, HT.out], ?_⟩
             rw [HR.out, ← HT.out, ← HQ.out]
             have hf := HX.out
             rw [← HQ.out] at hf
             exact hf.fin _ _ _ _ _
       · have hne8 := HP.out.no j (by omega) hjb
         have bne : (((b.getD j 0).toNat : Int) == 88) = false := by
           have : (b.getD j 0).toNat ≠ 88 := fun h => hne8 (by rw [← UInt8.toNat_inj]; exact h)
           apply beq_false_of_ne; omega
         obtain ⟨j', rfl⟩ : ∃ j', j = j' + 1 := ⟨j - 1, by omega⟩
         clear hne8 hjb
         generalize ((b.getD (j' + 1) 0).toNat : Int) = bj at *
         go_wp2
         go_roundw
         case rel => exact ⟨j', by omega, by omega, by go_num, HN0.out⟩
         case measure => first | (simp [intOf]; done) | (simp [intOf]; omega)

end Go.Proofs.YtppkpfkoggnbmaaGreatDoor.Cs.Ia
