/- The document's Number; tables and bytes that come in. -/
import Derived.Test.YtfpdemlcmfaieaaMCoh
import Derived.ChangeSame
namespace Go.Proofs.Ytfpdemlcmfaieaa.Cs
open Go.RowKit Go.ChangeShapes Go.WideShapes

theorem num_bound {l : List Int} (h : Rm.Byt l) : 0 ≤ Rm.num l ∧ Rm.num l < 256 ^ l.length := by
  have := Rm.val_bound l 0 h l.length (by omega)
  unfold Rm.val at this
  rw [List.drop_zero, List.take_length] at this
  exact this
theorem num_drop (ys : List Int) (k : Nat) (h : k < ys.length) : Rm.num (ys.drop k) = ys.getD k 0 + 256 * Rm.num (ys.drop (k + 1)) := by
  rw [List.drop_eq_getElem_cons h, Rm.num]
  simp [List.getD, h]

set_option maxHeartbeats 400000 in
theorem number_any (A : Option Addr) (n c : Nat) (ys : List Int) (w : World) (hn : ys.length = n) (h4 : n ≤ 4) (hb : Rm.Byt ys) (h : R8 w (.slice A n c) ys) :
    Calls Try.prog 32 #[.slice A n c] w fun e w' => e = .returned (.int .u32 (Rm.num ys)) ∧ w = w' := by
  obtain ⟨A', c', e, HC⟩ := h.open_
  injection e with e1 e2 e3
  clear e2
  subst e1 e3
  rw [hn] at HC
  have HN := Lib.hid hn
  have HB := Lib.hid hb
  clear h hn hb
  go_enter Try.func32, Try.ntmps32
  go_wp2
  go_loop [3, 4] (fun x i => ∃ k : Nat, k ≤ n ∧ i = .int .i64 ((k : Int) - 1) ∧ x = .int .u32 (Rm.num (ys.drop k))) (fun _ i => (intOf i + 1).toNat)
  case atStart => exact ⟨n, Nat.le_refl _, rfl, by rw [List.drop_of_length_le (by rw [HN.out]; exact Nat.le_refl _)]; rfl⟩
  case round =>
    obtain ⟨k, hk, rfl, rfl⟩ := hrel
    by_cases h0 : 0 < k
    · obtain ⟨j, rfl⟩ : ∃ j, k = j + 1 := ⟨k - 1, by omega⟩
      have e1 : ((j + 1 : Nat) : Int) - 1 = j := by omega
      rw [e1]
      obtain ⟨b, rfl, hbl, hcl⟩ := HC.out j (by omega)
      have hx := HB.out.at_ j
      have HD := Lib.hid (num_drop ys j (by rw [HN.out]; omega))
      have hq : 0 ≤ Rm.num (ys.drop (j + 1)) ∧ Rm.num (ys.drop (j + 1)) < 16777216 := by
        have h1 := num_bound (HB.out.drop (j + 1))
        have hl : (ys.drop (j + 1)).length ≤ 3 := by rw [List.length_drop, HN.out]; omega
        generalize (ys.drop (j + 1)).length = m at h1 hl
        have : m = 0 ∨ m = 1 ∨ m = 2 ∨ m = 3 := by omega
        rcases this with rfl | rfl | rfl | rfl <;> omega
      obtain ⟨q0, q1⟩ := hq
      obtain ⟨y0, y1⟩ := hx
      generalize Rm.num (ys.drop (j + 1)) = q at q0 q1 HD ⊢
      generalize ys.getD j 0 = y at y0 y1 hcl HD
      clear e1
      go_wp2
      go_round
      case rel => exact ⟨j, by omega, by go_num, by rw [HD.out]; first | rfl | exact congrArg _ (by omega)⟩
      case measure => simp [intOf]
    · obtain rfl : k = 0 := by omega
      go_wp2
      go_ret
      exact ⟨rfl, rfl⟩

set_option maxRecDepth 100000 in
theorem tabs_of {H : Type} {enc : TypeId × Value → H} {w : World} {base b0 : Nat} {r : Reach} {spare : Nat → Bool} {held : Bool} {v : Value} {d : DataW H} {ps : List MemPlace}
    (hval : Value.okWide Try.prog w r b0 25 v) (hd : DataW.Trod enc Try.prog w base spare held 25 v d ps) : ∃ t : Tabs, v = (Value.agg #[Value.int .u32 (Tabs.pb t), Value.int .u32 (Tabs.pn t), Value.int .u32 (Tabs.sb t), Value.int .u32 (Tabs.sn t), Value.int .u32 (Tabs.me t)]) ∧ t.Ok := by
  have hc : Try.prog.cellsOf 25 = 5 := by kernel_rfl
  have hu : Try.prog.cellsOf 23 = 1 := by kernel_rfl
  obtain ⟨cs, rfl, hsz⟩ := okWide_struct Try.underlying25 hval
  obtain ⟨fuel, hf⟩ := hd
  obtain ⟨ys, n', _, _, _, hyl, hf⟩ := DataW.trod_struct Try.underlying25 hf
  rw [hc] at hsz
  obtain ⟨l⟩ := cs
  match l, hsz, ys, hyl with
  | [v0, v1, v2, v3, v4], _, [y0, y1, y2, y3, y4], _ =>
    have g0 := hf 0 _ rfl
    have g1 := hf 1 _ rfl
    have g2 := hf 2 _ rfl
    have g3 := hf 3 _ rfl
    have g4 := hf 4 _ rfl
    simp [hu, Value.cells] at g0 g1 g2 g3 g4
    obtain ⟨a0, e0, _, h0⟩ := DataW.trod_int Try.underlying23 g0
    obtain ⟨a1, e1, _, h1⟩ := DataW.trod_int Try.underlying23 g1
    obtain ⟨a2, e2, _, h2⟩ := DataW.trod_int Try.underlying23 g2
    obtain ⟨a3, e3, _, h3⟩ := DataW.trod_int Try.underlying23 g3
    obtain ⟨a4, e4, _, h4⟩ := DataW.trod_int Try.underlying23 g4
    simp at e0 e1 e2 e3 e4
    subst e0 e1 e2 e3 e4
    have b0 := bounds_u32 h0
    have b1 := bounds_u32 h1
    have b2 := bounds_u32 h2
    have b3 := bounds_u32 h3
    have b4 := bounds_u32 h4
    have u0 : U a0 := ⟨by omega, by omega⟩
    have u1 : U a1 := ⟨by omega, by omega⟩
    have u2 : U a2 := ⟨by omega, by omega⟩
    have u3 : U a3 := ⟨by omega, by omega⟩
    have u4 : U a4 := ⟨by omega, by omega⟩
    exact ⟨⟨a0, a1, a2, a3, a4⟩, rfl, u0, u1, u2, u3, u4⟩

/-- Bytes that came in. -/
structure In (w : World) (A : Option Addr) (n c : Nat) (ys : List Int) : Prop where
  len : ys.length = n
  byt : Rm.Byt ys
  src : Rm.Src w A ys
  cap : n ≤ c
  max : c ≤ 9223372036854775807
theorem in_of {w : World} {A : Option Addr} {len cap : Nat} {zs : List Int}
    (h : (A = none ∧ len = 0 ∧ cap = 0 ∧ zs = []) ∨ ∃ x : Addr, A = some x ∧ len ≤ cap ∧ cap ≤ maxLen ∧ zs.length = cap ∧ (∀ i, i < zs.length → w.cell? (x.add i) = some (.int .u8 (zs.getD i 0))) ∧ ∀ n ∈ zs, (Lit.int .u8 n).wf = true) : ∃ ys, In w A len cap ys := by
  obtain ⟨ys, h1, h2, h3⟩ := Rm.src_of_row h
  refine ⟨ys, h1, h2, h3, ?_, ?_⟩
  · rcases h with ⟨_, rfl, rfl, _⟩ | ⟨x, _, h, _⟩
    · omega
    · exact h
  · rcases h with ⟨_, _, rfl, _⟩ | ⟨x, _, _, h, _⟩
    · omega
    · simpa [maxLen] using h
theorem In.below {w W : World} {A : Option Addr} {n c : Nat} {ys : List Int} (h : In w A n c ys) (b : Below w.heap.size w W) : In W A n c ys :=
  ⟨h.len, h.byt, h.src.below b, h.cap, h.max⟩
theorem In.sl {w W : World} {T : Nat → Prop} {A : Option Addr} {n c : Nat} {ys : List Int} (h : In w A n c ys) (b : Below w.heap.size w W) (ha : Tl.Ab w.heap.size T) : Sl W T A c ys :=
  ⟨h.src.below b, h.byt, by rw [h.len]; exact h.cap, h.max, fun h0 ad e => by
    obtain ⟨ad', e', hl, _⟩ := h.src h0
    rw [e] at e'
    injection e' with e'
    subst e'
    exact ⟨fun ht => by have := ha _ ht; omega, Nat.lt_of_lt_of_le hl b.size⟩⟩

end Go.Proofs.Ytfpdemlcmfaieaa.Cs
