/-
  GateFalls: of seniors that come by what is to be done, one behind the other, none is elder than one that comes later, as long as nobody leaves, and who is the senior goes; for any list of stamps.
  Conditions: none (of a list of more than 100 stamps the law says nothing by itself).
-/
import Derived.Test.YtelapiabniabkaaRows
import Derived.Test.YtelapiabniabkaaOpen
import Derived.Test.YtelapiabniabkaaOpenB
import Derived.Test.YtelapiabniabkaaGtC
import Derived.Deep.CutRange
import Derived.Deep.DeepCutAuto
namespace Go.Proofs.Ytelapiabniabkaa.gateFalls
open Go.ChangeShapes Go.WideShapes Go.ChangeAt Go.RowKit Go.Proofs.Ytelapiabniabkaa.base Go.Proofs.Ytelapiabniabkaa.ch Go.Proofs.Ytelapiabniabkaa.gate
set_option linter.unusedVariables false

/-- The senior's stamp, or 1000. -/
def Least (b : Bool) (s L : Int) : Prop := 0 ≤ s ∧ s ≤ 255 ∧ ((b = false ∧ L = 1000) ∨ (b = true ∧ L = s))

/-- At the head of a round: k stamps came by. -/
def Rel (w : World) (g : Nat) (len : Nat) (lv iv : Value) (wr : World) : Prop :=
  ∃ (k : Nat) (b : Bool) (s t L : Int), k ≤ len ∧ iv = .int .i64 k ∧ lv = .int .i64 L ∧ Least b s L ∧ Gt w wr g 6 b s t (fun _ => 0) (4 * (k : Int)) []

/-- Behind the claim, or none: there is a senior, of the least stamp. -/
def Claimed (w : World) (g : Nat) (k : Nat) (lv : Value) (wr : World) : Prop :=
  ∃ (s t : Int), lv = .int .i64 s ∧ 0 ≤ s ∧ s ≤ 255 ∧ Gt w wr g 6 true s t (fun _ => 0) (4 * (k : Int) + 3) []

theorem pU_zero (b : Bool) (t : Int) : pU b t (fun _ => 0) = 0 := by unfold pU; split <;> rfl

theorem see0 {w0 : World} {g : Nat} {b : Bool} {s t A : Int} {R : List (Nat × TypeId × List Value)} (w : World) (h : Gt w0 w g 6 b s t (fun _ => 0) A R) (hA : A ≤ 999999) :
    Calls Try.prog 17 #[.pointer (some ⟨g, 0, none⟩)] w fun e w' => e = .returned (.agg #[.bool b, .int .i64 s, .int .i64 t, .int .i64 0]) ∧ Hid (Gt w0 w' g 6 b s t (fun _ => 0) (A + 1) R) := by
  have X := see_any w h hA
  rw [pU_zero] at X
  exact X

/-- What one of stamp n does that has met nobody. -/
theorem what_least (b : Bool) (s t L n : Int) (hL : Least b s L) (hn : 0 ≤ n) (hn1 : n ≤ 255) : ∃ (K c0 c1 c2 c3 c4 : Int), (K == 1) = decide (n < L) ∧ (K == 3) = decide (L < n) ∧
    ∀ w, Calls Try.prog 19 #[.agg #[.int .i64 (-1), .int .i64 0, .int .i64 0, .int .i64 0, .int .i64 0], .agg #[.bool b, .int .i64 s, .int .i64 t, .int .i64 0], .int .i64 n, .int .i64 9, .bool true] w fun e w' => e = .returned (.tuple #[.int .i64 K, .agg #[.int .i64 c0, .int .i64 c1, .int .i64 c2, .int .i64 c3, .int .i64 c4]]) ∧ Hid (w.grownBy w' none) := by
  obtain ⟨h0, h1, ⟨rfl, rfl⟩ | ⟨rfl, rfl⟩⟩ := hL
  · refine ⟨fi true, -1, 0, 0, 0, 0, ?_, ?_, fun w => what_none _ _ _ _ _ s t 0 n 9 true w⟩
    · simp [fi]; omega
    · simp [fi]; omega
  · refine ⟨wK true L n true 9 1, wI true L n L (-1), wI true L n 1 0, 0, wI true L n 0 0, wI true L n 1 0, ?_, ?_, fun w => what_new L t 0 n 9 true h0 w⟩
    · unfold wK fi
      by_cases e1 : L < n
      · simp [e1]; omega
      · by_cases e2 : L = n
        · simp [e2]
        · simp [e1, e2]; omega
    · unfold wK fi
      by_cases e1 : L < n
      · simp [e1]
      · by_cases e2 : L = n
        · simp [e2]
        · simp [e1, e2]

theorem walk_out (a0 : Option Addr) (len0 cap0 : Nat) (w : World) (h : 100 < (len0 : Int)) : Calls Try.prog 7 #[.slice a0 len0 cap0] w fun e w' => e = .returned (.bool true) ∧ Below w.heap.size w w' := by
  go_enter Try.func7, Try.ntmps7
  go_wp2_with fail
  refine (alive_any _).mono ?_
  rintro e v1 ⟨rfl, g1⟩
  go_wp2
  go_ret
  exact ⟨rfl, gb_below g1.out⟩

set_option maxRecDepth 100000 in
set_option maxHeartbeats 4000000 in
theorem walkIn (a0 : Option Addr) (len0 cap0 : Nat) (z0 : Nat → Int) (w : World) (w0 : IsRow .u8 w a0 len0 cap0 z0) (h : ¬ 100 < (len0 : Int)) : Calls Try.prog 7 #[.slice a0 len0 cap0] w fun e w' => e = .returned (.bool true) ∧ Below w.heap.size w w' := by
  have W0 := Lib.hid w0
  clear w0
  go_enter Try.func7, Try.ntmps7
  go_wp2_with fail
  refine (alive_any _).mono ?_
  rintro e v1 ⟨rfl, g1⟩
  have M1 := Lib.hid ((Own.start w).grown g1.out)
  clear g1
  go_wp2_with fail
  refine (new_any 6 (by omega) (by omega) w _ [] M1.out).mono ?_
  rintro e v2 ⟨g, rfl, M2⟩
  clear M1
  go_wp2
  go_loopw [5, 6] (fun lv iv wr => Rel w g len0 lv iv wr) (fun _ iv _ => (len0 - intOf iv).toNat)
  case atStart => exact ⟨0, false, 0, 0, 1000, by omega, rfl, rfl, ⟨by omega, by omega, .inl ⟨rfl, rfl⟩⟩, M2.out.le (by omega)⟩
  case round =>
    obtain ⟨k, b, s, t, L, hk, rfl, rfl, hL, M0⟩ := hrel
    have M3 := Lib.hid M0
    clear M0 M2
    by_cases hlt : k < len0
    · obtain ⟨_, _, hx | ⟨b2, off2, rfl, hb2, hz2⟩⟩ := W0.out
      · exfalso; omega
      have he : wr.cell? ⟨b2, off2 + k, none⟩ = some (.int .u8 (z0 k)) := M3.out.old (hz2 k hlt).1
      have hlt' : (k : Int) < (len0 : Int) := by omega
      have hb := bounds_u8 (hz2 k hlt).2
      generalize z0 k = n at *
      obtain ⟨K, c0, c1, c2, c3, c4, hK1, hK3, HD⟩ := what_least b s t L n hL hb.1 hb.2
      have HD := Lib.hid HD
      have HL := Lib.hid hL
      have HB := Lib.hid hb
      clear hL
      go_wp2_with fail
      refine (fresh_any _).mono ?_
      rintro e v3 ⟨rfl, g3⟩
      have M4 := Lib.hid (M3.out.grown g3.out)
      clear g3 M3 he
      go_wp2_with fail
      refine (see0 _ M4.out (by omega)).mono ?_
      rintro e v4 ⟨rfl, M5⟩
      clear M4
      go_wp2_with fail
      refine (HD.out _).mono ?_
      rintro e v5 ⟨rfl, g5⟩
      have M6 := Lib.hid ((M5.out.grown g5.out).skip (.cells #[.int .i64 c0, .int .i64 c1, .int .i64 c2, .int .i64 c3, .int .i64 c4] 45))
      clear g5 M5 HD
      go_upto_if 62 with fail
      go_cut [5] from 28 to 89 (fun lv wx => Claimed w g k lv wx)
      case first =>
        by_cases hn : n < L
        · have d1 : decide (n < L) = true := by simpa using hn
          go_wp2_with fail
          refine (see0 _ M6.out (by omega)).mono ?_
          rintro e v6 ⟨rfl, M7⟩
          clear M6
          go_wp2_with fail
          refine (swap_hits 0 n ((k : Int) % 6) hb.1 (by omega) (by omega) (by omega) (by omega) _ M7.out).mono ?_
          rintro e v7 ⟨rfl, M8⟩
          go_wp2
          go_meet
          exact ⟨n, (k : Int) % 6, rfl, hb.1, hb.2, M8.out.le (by omega)⟩
        · have d1 : decide (n < L) = false := by simpa using hn
          obtain ⟨h0, h1, ⟨_, h2⟩ | ⟨rfl, rfl⟩⟩ := HL.out
          · exfalso; omega
          · go_wp2
            go_meet
            exact ⟨_, t, rfl, h0, h1, M6.out.le (by omega)⟩
      case rest =>
        obtain ⟨sn, tn, rfl, hs0, hs1, M0⟩ := hcut
        have M7 := Lib.hid M0
        clear M0 M6 HL HB
        have HD := Lib.hid (fun u => what_same (-1) 0 0 0 0 sn tn 0 9 true u)
        go_wp2_with fail
        refine (see0 _ M7.out (by omega)).mono ?_
        rintro e v6 ⟨rfl, M8⟩
        have M9 := Lib.hid (M8.out.alloc 36 [.bool true, .int .i64 sn, .int .i64 tn, .int .i64 0])
        clear M7 M8
        go_upto_region 21 with fail
        generalize v6.heap.size = xb at *
        generalize v6.alloc _ = v7 at *
        go_cut [11] from 28 to 89 (fun nv wx => nv = .int .i64 2 ∧ Gt w wx g 6 true sn tn (fun _ => 0) (4 * (k : Int) + 3 + 1) [(xb, 36, [.bool true, .int .i64 sn, .int .i64 tn, .int .i64 0])])
        case first =>
          have s0 := M9.out.cell 0 0 rfl rfl; have s1 := M9.out.cell 0 1 rfl rfl; have s2 := M9.out.cell 0 2 rfl rfl; have s3 := M9.out.cell 0 3 rfl rfl
          have e1 := World.new_ne v7 _ s0
          go_region_held3 (fun w' => w'.cell? ⟨xb, 0, none⟩ = some (.bool true) ∧ w'.cell? ⟨xb, 1, none⟩ = some (.int .i64 sn) ∧ w'.cell? ⟨xb, 2, none⟩ = some (.int .i64 tn) ∧ w'.cell? ⟨xb, 3, none⟩ = some (.int .i64 0)) (go_keep) (first | (go_at_call 22; refine (fresh_any _).mono ?_; rintro e v5 ⟨rfl, g5⟩; (first | (have M5 := Lib.hid (((M9.out.alloc 45 [.int .i64 0, .int .i64 0, .int .i64 0, .int .i64 0, .int .i64 0]).drew).grown g5.out)) | (have M5 := Lib.hid ((M9.out.drew).grown g5.out))); (try simp only [size_alloc] at M5); clear g5; (first | (have qx0 := M5.out.cell 0 0 rfl rfl; have qx1 := M5.out.cell 0 1 rfl rfl; have qx2 := M5.out.cell 0 2 rfl rfl; have qx3 := M5.out.cell 0 3 rfl rfl; have qx4 := M5.out.cell 0 4 rfl rfl; have qxf0 := M5.out.free 0 0 rfl; have qxf1 := M5.out.free 0 1 rfl; have qxf2 := M5.out.free 0 2 rfl; have qxf3 := M5.out.free 0 3 rfl; have qxf4 := M5.out.free 0 4 rfl; have qe3 := World.new_ne v5 _ qx0; have qo0 := M5.out.cell 1 0 rfl rfl; have qo1 := M5.out.cell 1 1 rfl rfl; have qo2 := M5.out.cell 1 2 rfl rfl; have qo3 := M5.out.cell 1 3 rfl rfl; have qe1 := World.new_ne v5 _ qo0; obtain ⟨qea, qeb⟩ := M5.out.ne' 0 1 rfl rfl (by decide)) | (have qo0 := M5.out.cell 0 0 rfl rfl; have qo1 := M5.out.cell 0 1 rfl rfl; have qo2 := M5.out.cell 0 2 rfl rfl; have qo3 := M5.out.cell 0 3 rfl rfl; have qe1 := World.new_ne v5 _ qo0))) | (go_at_call 19; refine (HD.out _).mono ?_; rintro e v6 ⟨rfl, g6⟩; (first | (have M6 := Lib.hid ((M5.out.alloc _ _).grown g6.out)) | (have M6 := Lib.hid (M5.out.grown g6.out))); (try simp only [size_alloc] at M6); clear g6; (first | (have rx0 := M6.out.cell 0 0 rfl rfl; have rx1 := M6.out.cell 0 1 rfl rfl; have rx2 := M6.out.cell 0 2 rfl rfl; have rx3 := M6.out.cell 0 3 rfl rfl; have rx4 := M6.out.cell 0 4 rfl rfl; have rxf0 := M6.out.free 0 0 rfl; have rxf1 := M6.out.free 0 1 rfl; have rxf2 := M6.out.free 0 2 rfl; have rxf3 := M6.out.free 0 3 rfl; have rxf4 := M6.out.free 0 4 rfl; have re3 := World.new_ne v6 _ rx0; have ro0 := M6.out.cell 1 0 rfl rfl; have ro1 := M6.out.cell 1 1 rfl rfl; have ro2 := M6.out.cell 1 2 rfl rfl; have ro3 := M6.out.cell 1 3 rfl rfl; have re1 := World.new_ne v6 _ ro0; obtain ⟨rea, reb⟩ := M6.out.ne' 0 1 rfl rfl (by decide)) | (have ro0 := M6.out.cell 0 0 rfl rfl; have ro1 := M6.out.cell 0 1 rfl rfl; have ro2 := M6.out.cell 0 2 rfl rfl; have ro3 := M6.out.cell 0 3 rfl rfl; have re1 := World.new_ne v6 _ ro0))))
          all_goals go_wp2
          all_goals go_meet
          all_goals refine ⟨rfl, ?_⟩
          all_goals ((try simp only [size_alloc, size_setCell]); first | (have X := (M6.out.alloc 45 [.int .i64 (-1), .int .i64 0, .int .i64 0, .int .i64 0, .int .i64 0]).drop (List.Sublist.cons _ (List.Sublist.refl _)); with_reducible exact X) | (have X := (((((M6.out.set 0 0 (.int .i64 (-1)) rfl).set 0 1 (.int .i64 0) rfl).set 0 2 (.int .i64 0) rfl).set 0 3 (.int .i64 0) rfl).set 0 4 (.int .i64 0) rfl).drop (List.Sublist.cons _ (List.Sublist.refl _)); (try simp only [size_alloc, size_setCell, List.set_cons_zero, List.set_cons_succ] at X); with_reducible exact X))
        case rest =>
          obtain ⟨rfl, M0⟩ := hcut
          have M10 := Lib.hid M0
          clear M0 M9 HD
          have x0 := M10.out.cell 0 0 rfl rfl; have x1 := M10.out.cell 0 1 rfl rfl; have x2 := M10.out.cell 0 2 rfl rfl; have x3 := M10.out.cell 0 3 rfl rfl
          go_wp2
          go_roundw
          case rel => exact ⟨k + 1, true, sn, tn, sn, by omega, by go_num, rfl, ⟨hs0, hs1, .inr ⟨rfl, rfl⟩⟩, (M10.out.drop (List.Sublist.cons _ (List.Sublist.refl _))).le (by omega)⟩
          case measure => simp [intOf]; omega
    · go_wp2
      go_ret
      exact ⟨rfl, M3.out.below⟩

theorem walk (a0 : Option Addr) (len0 cap0 : Nat) (z0 : Nat → Int) (w : World) (w0 : IsRow .u8 w a0 len0 cap0 z0) : Calls Try.prog 7 #[.slice a0 len0 cap0] w fun e w' => e = .returned (.bool true) ∧ Below w.heap.size w w' := by
  by_cases h : 100 < (len0 : Int)
  · exact walk_out _ _ _ w h
  · exact walkIn _ _ _ z0 w w0 h

theorem own : ownKnob Try.prog.godebug = none := by kernel_rfl
theorem laidOut : laidOutB Try.prog = true := by kernel_rfl

/-! ### THE ROW's STEP, as the guide has it -/
set_option maxRecDepth 100000 in
theorem lifted (os : Os) (started : os.Started) (H : Type) (enc : TypeId × Value → H) :
    ReturnsInHanded {} Try.checked os 7 .any (Rows.gateFallsSpec.pre6 enc Try.prog Try.f7 Rows.gateFallsRow.domain false) (Rows.gateFallsSpec.post enc Try.prog Try.f7 false true false false) := by
  refine returnsInHanded_of_change (C := Try.checked) own started (by kernel_rfl) Try.func7
    (ChangeSpec.witness6 (enc := enc) (C := Try.checked) false ⟨#[], #[.slice none 0 0], []⟩ 8 (by kernel_rfl) (by kernel_rfl) (by kernel_rfl) (by kernel_rfl)) ?_
  intro W base args ds gs before hval0 hW hcnd _
  have hval : ∀ (j : Nat) t v, Try.f7.params[j]? = some t → args[j]? = some v → Value.okWide Try.prog W .any base t v := hval0
  have hW' := hW
  obtain ⟨p, q, hA0, hV, rfl, hfz, hnd⟩ := hW
  have hA : DataW.TrodAll enc Try.prog W 0 (fun _ => true) true Try.f7.params.toList args.toList ds p := hA0
  rw [Try.params7] at hA hval
  obtain ⟨v0, vs0, d0, ds0, p0, q0, hargs, rfl, rfl, h0, r0⟩ := trodAll_cons hA
  obtain ⟨rfl, rfl, rfl⟩ := trodAll_nil r0
  obtain rfl : args = #[v0] := by cases args; simp_all
  obtain ⟨rfl, rfl⟩ := trodVars_none hV
  obtain ⟨a0, len0, cap0, rfl⟩ := okWide_slice Try.underlying57 (hval 0 57 v0 rfl rfl)
  have k0 := h0
  have lt0 : ∀ x ∈ p0, x.block < W.heap.size := by obtain ⟨m, hm⟩ := k0; exact DataW.trod_lt m _ _ _ hm
  obtain ⟨z0, w0⟩ : ∃ z, IsRow .u8 W a0 len0 cap0 z := by
    obtain ⟨fuel, hf⟩ := h0
    exact isRow_of Try.underlying57 Try.underlying5 (by kernel_rfl) hf
  clear hA0 hval0
  refine (walk a0 len0 cap0 z0 W w0).mono fun e W' ⟨he, bel⟩ => ?_
  subst he
  exact ⟨_, rfl, _, _, _, [], _, [], hW', trodAll_mk1 (shut_bool Try.underlying4 _), (trodAll_cons_mk (Below.trod laidOut (by kernel_rfl) (of_decide_eq_true (by kernel_rfl)) k0 bel lt0) trodAll_mk0), rfl, bel.frame _, fun h => by cases h⟩

theorem over : Rows.gateFallsRow.holds Try.pinned (OpenSpec.ofChange Rows.gateFallsSpec) :=
  OpenClaim.holds_of_wide 7 Try.f7 rfl rfl rfl rfl rfl rfl rfl ⟨rfl, rfl, rfl, rfl, rfl⟩ rfl rfl rfl rfl rfl (by kernel_rfl) Try.func7 (by kernel_rfl)
    (of_decide_eq_true (by kernel_rfl)) (by unfold Func.isWrapper; first | (rw [if_pos (by decide +kernel)]; kernel_rfl) | (rw [if_neg (by decide +kernel)]; exact ⟨rfl, rfl⟩))
    (fun os started H enc _ => lifted os started H enc)

theorem proved : Rows.GateFallsSaid := over
#print axioms proved
end Go.Proofs.Ytelapiabniabkaa.gateFalls
