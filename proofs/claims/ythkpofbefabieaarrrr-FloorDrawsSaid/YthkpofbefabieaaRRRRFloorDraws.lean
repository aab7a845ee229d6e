/-
  FloorDraws: each thread draws by itself: the draws in order, behind the last one the first one again, and nothing of no thread; for any draws, and any list of threads.
  Conditions: none (of more than 200 draws, or threads, the law says nothing by itself).
-/
import Derived.Test.YthkpofbefabieaaRRRRRows
import Derived.Test.YthkpofbefabieaaRRRRAlive13
import Derived.Test.YthkpofbefabieaaRRRROpenB
namespace Go.Proofs.YthkpofbefabieaaRRRR.floorDraws
open Go.ChangeShapes Go.WideShapes Go.ChangeAt Go.RowKit Go.Proofs.YthkpofbefabieaaRRRR.base Go.Proofs.YthkpofbefabieaaRRRR.fl
set_option linter.unusedVariables false

/-- At the head of a round: k threads drew; thread t drew d t times, its next draw is the number nx t. -/
def Rel (bb : Bas) (fb cb : Nat) (z : Nat → Int) (len0 len1 : Nat) (C : Core) (iv : Value) (wr : World) : Prop :=
  ∃ (k : Nat) (nx d : Nat → Nat), k ≤ len1 ∧ iv = .int .i64 k ∧ (∀ t, nx t = d t % len0 ∨ len0 = 0) ∧ (∀ t, d t ≤ k) ∧ Flo bb wr fb 3 (drawn z len0) nx [] C [(cb, 32, vals (fun j => (d j : Int)) 3)]

theorem castV (d : Nat → Nat) (T n : Nat) : vals (fun j => (((fun j => if j = T then d T + 1 else d j : Nat → Nat) j : Nat) : Int)) n = vals (fun j => if j = T then ((d T : Nat) : Int) + 1 else (d j : Int)) n := by
  congr 1
  funext j
  dsimp only
  split <;> simp

theorem walk_out (a0 : Option Addr) (len0 cap0 : Nat) (a1 : Option Addr) (len1 cap1 : Nat) (w : World) (h : 200 < (len1 : Int)) : Calls Try.prog 3 #[.slice a0 len0 cap0, .slice a1 len1 cap1] w fun e w' => e = .returned (.bool true) ∧ Below w.heap.size w w' := by
  go_enter Try.func3, Try.ntmps3
  go_wp2_with fail
  refine (alive_any _).mono ?_
  rintro e v1 ⟨rfl, g1⟩
  go_wp2
  go_ret
  exact ⟨rfl, gb_below g1.out⟩

theorem walk_out2 (a0 : Option Addr) (len0 cap0 : Nat) (a1 : Option Addr) (len1 cap1 : Nat) (w : World) (h1 : ¬ 200 < (len1 : Int)) (h : 200 < (len0 : Int)) : Calls Try.prog 3 #[.slice a0 len0 cap0, .slice a1 len1 cap1] w fun e w' => e = .returned (.bool true) ∧ Below w.heap.size w w' := by
  go_enter Try.func3, Try.ntmps3
  go_wp2_with fail
  refine (alive_any _).mono ?_
  rintro e v1 ⟨rfl, g1⟩
  go_wp2
  go_ret
  exact ⟨rfl, gb_below g1.out⟩

set_option maxRecDepth 100000 in
set_option maxHeartbeats 4000000 in
theorem walkIn (a0 : Option Addr) (len0 cap0 : Nat) (z0 : Nat → Int) (a1 : Option Addr) (len1 cap1 : Nat) (z1 : Nat → Int) (w : World) (w0 : IsRow .u8 w a0 len0 cap0 z0) (w1 : IsRow .u8 w a1 len1 cap1 z1) (h1 : ¬ 200 < (len1 : Int)) (h0 : ¬ 200 < (len0 : Int)) : Calls Try.prog 3 #[.slice a0 len0 cap0, .slice a1 len1 cap1] w fun e w' => e = .returned (.bool true) ∧ Below w.heap.size w w' := by
  have W0 := Lib.hid w0
  have W1 := Lib.hid w1
  have HL := Lib.hid (show len0 ≤ 200 ∧ len1 ≤ 200 by omega)
  have NN := Lib.hid (fun (u : World) (b1 : Option Addr) (h1 : IsRow .i64 u b1 2 2 (fun i => [1, 2].getD i 0)) (h2 : IsRow .u8 u a0 len0 cap0 z0) => new_plain 3 (by omega) a0 len0 cap0 z0 (by omega) u b1 h1 h2)
  clear w0 w1
  go_enter Try.func3, Try.ntmps3
  go_wp2_with fail
  refine (alive_any _).mono ?_
  rintro e v1 ⟨rfl, g1⟩
  go_wp2_with fail
  refine (plain_any 3 _).mono ?_
  rintro e v2 ⟨rfl, g2⟩
  have A2 : Hid (IsRow .i64 ((v2.alloc (.cells #[.int .i64 1, .int .i64 2] 2))) (some ⟨v2.heap.size, 0, none⟩) 2 2 (fun i => [1, 2].getD i 0)) := isRow_lit .i64 v2 [1, 2] 2 (by simp; decide) (by decide)
  have G2 : Hid (w.grownBy ((v2.alloc (.cells #[.int .i64 1, .int .i64 2] 2))) none) := gb_alloc (gb_trans g1.out g2.out) _
  clear g1 g2
  go_wp2_with fail
  generalize v2.alloc _ = u at *
  generalize v2.heap.size = b1 at *
  refine (NN.out _ _ A2.out (W0.out.below (gb_below G2.out))).mono ?_
  rintro e v3 ⟨fb, ab, tb, cb', tk, gg, b0, X, rfl, hX, H⟩
  obtain ⟨bb, hb, F⟩ := flo_of firm_cel hX.out H.out
  generalize (⟨ab, tb, cb', tk, gg, 2, 100, 9, 4, 3, 0, false, 0, 0, fun _ => 0, 0⟩ : Core) = C at *
  have F4 := Lib.hid (F.alloc 32 (vals (fun j => (((fun _ => 0 : Nat → Nat) j : Nat) : Int)) 3))
  have HB := Lib.hid hb
  clear hX H hb A2 F NN
  go_wp2_with fail
  rw [show (Obj.cells #[.int .i64 0, .int .i64 0, .int .i64 0] 32) = Obj.cells ⟨vals (fun j => (((fun _ => 0 : Nat → Nat) j : Nat) : Int)) 3⟩ 32 from rfl]
  generalize v3.alloc _ = v4 at *
  generalize v3.heap.size = cb at *
  have GW := Lib.hid (show ∀ wr : World, bb.wd.grownBy wr none → w.grownBy wr none from fun wr h => by rw [HB.out] at h; exact gb_trans G2.out h)
  clear HB G2
  go_loopw [8] (fun iv wr => Rel bb fb cb z0 len0 len1 C iv wr) (fun iv _ => (len1 - intOf iv).toNat)
  case atStart => exact ⟨0, fun _ => 0, fun _ => 0, by omega, rfl, fun _ => .inl (by simp), fun _ => Nat.le_refl _, F4.out⟩
  case round =>
    obtain ⟨k, nx, d, hk, rfl, hnx, hd, M0⟩ := hrel
    have M := Lib.hid M0
    have HN := Lib.hid hnx
    have HD := Lib.hid hd
    clear M0 F4 hnx hd
    by_cases hlt : k < len1
    · obtain ⟨_, _, hx | ⟨b2, off2, rfl, hb2, hz2⟩⟩ := W1.out
      · exfalso; omega
      have G := Lib.hid (GW.out wr M.out.grow)
      have he : wr.cell? ⟨b2, off2 + k, none⟩ = some (.int .u8 (z1 k)) := G.out.cell (hz2 k hlt).1 (by simp)
      have hlt' : (k : Int) < (len1 : Int) := by omega
      have hb := bounds_u8 (hz2 k hlt).2
      have hcv : IntKind.i64.wrap (z1 k) = z1 k := IntWalk.i64_in _ (by omega)
      obtain ⟨T, hT, hT4⟩ : ∃ T : Nat, (z1 k).tmod 4 = (T : Int) ∧ T < 4 := by
        rw [Int.tmod_eq_emod_of_nonneg hb.1]
        exact ⟨(z1 k % 4).toNat, by omega, by omega⟩
      generalize z1 k = n at *
      clear hz2
      by_cases hT3 : T < 3
      · have hTi : (T : Int) < 3 := by omega
        by_cases hz : 0 < len0
        · have hzi : (0 : Int) < (len0 : Int) := by omega
          have hl0 : ((len0 : Int) == 0) = false := by simp; omega
          have hl1 : ¬ (len0 : Int) = 0 := by omega
          have hnT := Lib.hid ((HN.out T).resolve_right (by omega))
          have hnl : nx T < len0 := by rw [hnT.out]; exact Nat.mod_lt _ hz
          obtain ⟨_, _, hx0 | ⟨b3, off3, rfl, hb3, hz3⟩⟩ := W0.out
          · exfalso; omega
          have hq := (hz3 (nx T) hnl)
          have hq8 := bounds_u8 hq.2
          have cq : wr.cell? ⟨b3, off3 + nx T, none⟩ = some (.int .u8 (z0 (nx T))) := G.out.cell hq.1 (by simp)
          have hcq : IntKind.i64.wrap (z0 (nx T)) = z0 (nx T) := IntWalk.i64_in _ (by omega)
          have DR := Lib.hid (fun (u : World) (h : Flo bb u fb 3 (drawn z0 len0) nx [] C [(cb, 32, vals (fun j => if j = T then ((d T : Nat) : Int) + 1 else (d j : Int)) 3)]) => draw_eq T T rfl hT3 (z0 (nx T)) _ (drawn_get z0 len0 _ hnl) hq8 rfl h)
          have hm : ((d T : Nat) : Int).tmod (len0 : Int) = (nx T : Int) := by
            rw [hnT.out, Int.tmod_eq_emod_of_nonneg (by omega)]
            simp
          have hdT := HD.out T
          have hw : IntKind.i64.wrap (((d T : Nat) : Int) + 1) = ((d T : Nat) : Int) + 1 := IntWalk.i64_in _ (by omega)
          have hni : (nx T : Int) < (len0 : Int) := by omega
          have ct := M.out.cell 0 T rfl (vals_get (fun j => (d j : Int)) 3 T hT3)
          have cf := M.out.free 0 T rfl
          have ES := Lib.hid (gate.vals_set (fun j => (d j : Int)) 3 T (((d T : Nat) : Int) + 1))
          have M7 := Lib.hid (M.out.set 0 T (.int .i64 (((d T : Nat) : Int) + 1)) rfl)
          generalize z0 (nx T) = x at *
          clear hq hz3
          go_upto_region 17 with fail
          simp only [List.set_cons_zero] at M7
          rw [ES.out] at M7
          generalize wr.setCell ⟨cb, T, none⟩ _ = v5 at *
          clear M ct cf he cq
          go_wp2_with fail
          refine (DR.out _ M7.out).mono ?_
          rintro e v6 ⟨rfl, M8⟩
          go_wp2
          go_roundw
          case rel =>
            refine ⟨k + 1, fun j => if j = T then (nx T + 1) % (drawn z0 len0).length else nx j, fun j => if j = T then d T + 1 else d j, by omega, by go_num, fun t => ?_, fun t => ?_, ?_⟩
            · left
              dsimp only
              rw [drawn_length]
              by_cases e : t = T
              · rw [if_pos e, if_pos e, hnT.out, Nat.mod_add_mod]
              · rw [if_neg e, if_neg e]
                exact (HN.out t).resolve_right (by omega)
            · have := HD.out t
              have := HD.out T
              dsimp only
              split <;> omega
            · rw [castV]
              exact M8.out
          case measure => simp [intOf]; omega
        · have hzi : ¬ (0 : Int) < (len0 : Int) := by omega
          have HZ := Lib.hid (show len0 = 0 by omega)
          have DR := Lib.hid (draw_out (T : Int) (.inr (.inr (by rw [drawn_length]; exact HZ.out))) M.out)
          clear hz
          go_wp2_with fail
          refine DR.out.mono ?_
          rintro e v6 ⟨rfl, rfl⟩
          go_wp2
          go_roundw
          case rel => exact ⟨k + 1, nx, d, by omega, by go_num, fun t => .inr HZ.out, fun t => by have := HD.out t; omega, M.out⟩
          case measure => simp [intOf]; omega
      · have hTi : ¬ (T : Int) < 3 := by omega
        have DR := Lib.hid (draw_out (T : Int) (.inr (.inl (by omega))) M.out)
        go_wp2_with fail
        refine DR.out.mono ?_
        rintro e v6 ⟨rfl, rfl⟩
        go_wp2
        go_roundw
        case rel => exact ⟨k + 1, nx, d, by omega, by go_num, HN.out, fun t => by have := HD.out t; omega, M.out⟩
        case measure => simp [intOf]; omega
    · have G := Lib.hid (GW.out wr M.out.grow)
      have DR := Lib.hid (draw_out (-1) (.inl (by omega)) M.out)
      go_wp2_with fail
      refine DR.out.mono ?_
      rintro e v6 ⟨rfl, rfl⟩
      go_wp2
      go_ret
      exact ⟨rfl, gb_below G.out⟩

theorem walk (a0 : Option Addr) (len0 cap0 : Nat) (z0 : Nat → Int) (a1 : Option Addr) (len1 cap1 : Nat) (z1 : Nat → Int) (w : World) (w0 : IsRow .u8 w a0 len0 cap0 z0) (w1 : IsRow .u8 w a1 len1 cap1 z1) : Calls Try.prog 3 #[.slice a0 len0 cap0, .slice a1 len1 cap1] w fun e w' => e = .returned (.bool true) ∧ Below w.heap.size w w' := by
  by_cases h1 : 200 < (len1 : Int)
  · exact walk_out _ _ _ _ _ _ w h1
  · by_cases h0 : 200 < (len0 : Int)
    · exact walk_out2 _ _ _ _ _ _ w h1 h0
    · exact walkIn _ _ _ z0 _ _ _ z1 w w0 w1 h1 h0

theorem own : ownKnob Try.prog.godebug = none := by kernel_rfl
theorem laidOut : laidOutB Try.prog = true := by kernel_rfl

/-! ### THE ROW's STEP, as the guide has it -/
set_option maxRecDepth 100000 in
theorem lifted (os : Os) (started : os.Started) (H : Type) (enc : TypeId × Value → H) :
    ReturnsInHanded {} Try.checked os 3 .any (Rows.floorDrawsSpec.pre6 enc Try.prog Try.f3 Rows.floorDrawsRow.domain false) (Rows.floorDrawsSpec.post enc Try.prog Try.f3 false true false false) := by
  refine returnsInHanded_of_change (C := Try.checked) own started (by kernel_rfl) Try.func3
    (ChangeSpec.witness6 (enc := enc) (C := Try.checked) false ⟨#[], #[.slice none 0 0, .slice none 0 0], []⟩ 8 (by kernel_rfl) (by kernel_rfl) (by kernel_rfl) (by kernel_rfl)) ?_
  intro W base args ds gs before hval0 hW hcnd _
  have hval : ∀ (j : Nat) t v, Try.f3.params[j]? = some t → args[j]? = some v → Value.okWide Try.prog W .any base t v := hval0
  have hW' := hW
  obtain ⟨p, q, hA0, hV, rfl, hfz, hnd⟩ := hW
  have hA : DataW.TrodAll enc Try.prog W 0 (fun _ => true) true Try.f3.params.toList args.toList ds p := hA0
  rw [Try.params3] at hA hval
  obtain ⟨v0, vs0, d0, ds0, p0, q0, hargs, rfl, rfl, h0, r0⟩ := trodAll_cons hA
  obtain ⟨v1, vs1, d1, ds1, p1, q1, rfl, rfl, rfl, h1, r1⟩ := trodAll_cons r0
  obtain ⟨rfl, rfl, rfl⟩ := trodAll_nil r1
  obtain rfl : args = #[v0, v1] := by cases args; simp_all
  obtain ⟨rfl, rfl⟩ := trodVars_none hV
  obtain ⟨a0, len0, cap0, rfl⟩ := okWide_slice Try.underlying22 (hval 0 22 v0 rfl rfl)
  have k0 := h0
  have lt0 : ∀ x ∈ p0, x.block < W.heap.size := by obtain ⟨m, hm⟩ := k0; exact DataW.trod_lt m _ _ _ hm
  obtain ⟨z0, w0⟩ : ∃ z, IsRow .u8 W a0 len0 cap0 z := by
    obtain ⟨fuel, hf⟩ := h0
    exact isRow_of Try.underlying22 Try.underlying5 (by kernel_rfl) hf
  obtain ⟨a1, len1, cap1, rfl⟩ := okWide_slice Try.underlying22 (hval 1 22 v1 rfl rfl)
  have k1 := h1
  have lt1 : ∀ x ∈ p1, x.block < W.heap.size := by obtain ⟨m, hm⟩ := k1; exact DataW.trod_lt m _ _ _ hm
  obtain ⟨z1, w1⟩ : ∃ z, IsRow .u8 W a1 len1 cap1 z := by
    obtain ⟨fuel, hf⟩ := h1
    exact isRow_of Try.underlying22 Try.underlying5 (by kernel_rfl) hf
  clear hA0 hval0
  refine (walk a0 len0 cap0 z0 a1 len1 cap1 z1 W w0 w1).mono fun e W' ⟨he, bel⟩ => ?_
  subst he
  exact ⟨_, rfl, _, _, _, [], _, [], hW', trodAll_mk1 (shut_bool Try.underlying4 _), (trodAll_cons_mk (Below.trod laidOut (by kernel_rfl) (of_decide_eq_true (by kernel_rfl)) k0 bel lt0) (trodAll_cons_mk (Below.trod laidOut (by kernel_rfl) (of_decide_eq_true (by kernel_rfl)) k1 bel lt1) trodAll_mk0)), rfl, bel.frame _, fun h => by cases h⟩

theorem over : Rows.floorDrawsRow.holds Try.pinned (OpenSpec.ofChange Rows.floorDrawsSpec) :=
  OpenClaim.holds_of_wide 3 Try.f3 rfl rfl rfl rfl rfl rfl rfl ⟨rfl, rfl, rfl, rfl, rfl⟩ rfl rfl rfl rfl rfl (by kernel_rfl) Try.func3 (by kernel_rfl)
    (of_decide_eq_true (by kernel_rfl)) (by unfold Func.isWrapper; first | (rw [if_pos (by decide +kernel)]; kernel_rfl) | (rw [if_neg (by decide +kernel)]; exact ⟨rfl, rfl⟩))
    (fun os started H enc _ => lifted os started H enc)

theorem proved : Rows.FloorDrawsSaid := over
#print axioms proved
end Go.Proofs.YthkpofbefabieaaRRRR.floorDraws
