/-
  HistBegins: each beginning of a right trace is right, and has the tries that began there; as many tries committed as there are commits; for any list of events and any length.
  Conditions: none (of more than 120 events, and of what isn't right, the law says nothing by itself).
-/
import Derived.Test.YtgnakcahmmdncaaRows
import Derived.Test.YtgnakcahmmdncaaHb
import Derived.Test.YtgnakcahmmdncaaHp
import Derived.Test.YtgnakcahmmdncaaOpenB
import Derived.Deep.QuietTactic
import Derived.BigQuiet
namespace Go.Proofs.Ytgnakcahmmdncaa.histBegins
open Go.ChangeShapes Go.WideShapes Go.ChangeAt Go.RowKit Go.Proofs.Ytgnakcahmmdncaa.base Go.Proofs.Ytgnakcahmmdncaa.hs
set_option linter.unusedVariables false
set_option maxRecDepth 100000

theorem walk_out (a0 : Option Addr) (len0 cap0 : Nat) (a1 : Int) (w : World) (h : 120 < (len0 : Int)) : Calls Try.prog 5 #[.slice a0 len0 cap0, .int .u8 a1] w fun e w' => e = .returned (.bool true) ∧ Below w.heap.size w w' := by
  go_enter Try.func5, Try.ntmps5
  go_wp2_with fail
  refine (alive_any _).mono ?_
  rintro e v1 ⟨rfl, g1⟩
  go_wp2
  go_ret
  exact ⟨rfl, gb_below g1.out⟩

theorem walk_wrong (a0 : Option Addr) (len0 cap0 : Nat) (e : Evs) (a1 : Int) (w : World) (h : len0 ≤ 120) (hl : IsEvs w a0 len0 e) (hr : right e len0 = false) : Calls Try.prog 5 #[.slice a0 len0 cap0, .int .u8 a1] w fun e w' => e = .returned (.bool true) ∧ Below w.heap.size w w' := by
  have HL := Lib.hid hl
  have h120 : (len0 : Int) ≤ 120 := by omega
  clear hl
  go_enter Try.func5, Try.ntmps5
  go_wp2_with fail
  refine (alive_any _).mono ?_
  rintro r v1 ⟨rfl, g1⟩
  go_wp2_with fail
  refine (right_any a0 len0 cap0 e _ (HL.out.grown g1.out) (by omega)).mono ?_
  rw [hr]
  rintro r v2 ⟨rfl, g2⟩
  go_wp2
  go_ret
  exact ⟨rfl, gb_below (gb_trans g1.out g2.out)⟩

/-- A beginning of a trace's events. -/
theorem evs_pre {w : World} {a : Option Addr} {len : Nat} {e : Evs} (h : IsEvs w a len e) {m : Nat} (hm : m ≤ len) : IsEvs w a m e := by
  rcases h with h | ⟨b, off, h1, h2, h3⟩
  · exact .inl (by omega)
  · exact .inr ⟨b, off, h1, h2, fun i hi => h3 i (by omega)⟩

/-- Where the field of a try lies. -/
theorem tries_at {w : World} {a : Option Addr} {ys : List (Tr × Value)} (h : IsTries w a ys) (h0 : 0 < ys.length) : ∃ g, a = some ⟨g, 0, none⟩ ∧ g < w.heap.size ∧ ∀ i x, ys[i]? = some x → ∃ va vc, x.2 = .slice va x.1.ac.length vc ∧ w.cell? ⟨g, i * 9 + 4, none⟩ = some (.int .i64 x.1.b) ∧ w.cell? ⟨g, i * 9 + 5, none⟩ = some (.int .i64 x.1.en) ∧ w.cell? ⟨g, i * 9 + 8, none⟩ = some (.slice va x.1.ac.length vc) := by
  obtain ⟨h1, h2⟩ := h
  rcases h1 with h1 | ⟨g, h1, hg, hc⟩
  · simp [h1] at h0
  · refine ⟨g, h1, hg, fun i x hx => ?_⟩
    obtain ⟨va, vc, hv⟩ := owns_slice (h2 x (List.mem_of_getElem? hx))
    exact ⟨va, vc, hv, hc i x hx 4 _ rfl, hc i x hx 5 _ rfl, by rw [← hv]; exact hc i x hx 8 _ rfl⟩

set_option maxHeartbeats 2000000 in
theorem walk (a0 : Option Addr) (len0 cap0 : Nat) (z0 : Nat → Nat → Int) (a1 : Int) (w : World) (w0 : IsInts 7 w a0 len0 cap0 z0) (w1 : (Lit.int .u8 a1).wf = true) : Calls Try.prog 5 #[.slice a0 len0 cap0, .int .u8 a1] w fun e w' => e = .returned (.bool true) ∧ Below w.heap.size w w' := by
  by_cases hbig : 120 < (len0 : Int)
  · exact walk_out a0 len0 cap0 a1 w hbig
  have hle : len0 ≤ 120 := by omega
  have h120 : (len0 : Int) ≤ 120 := by omega
  have HE := Lib.hid (isEvs_of w0)
  have hlc : (len0 : Int) ≤ (cap0 : Int) := by have := w0.1; omega
  generalize (fun i => (⟨z0 i 0, z0 i 1, z0 i 2, z0 i 3, z0 i 4, z0 i 5, z0 i 6⟩ : Ev)) = e at *
  clear w0 hbig
  cases hr : right e len0 with
  | false => exact walk_wrong a0 len0 cap0 e a1 w hle HE.out hr
  | true =>
  have HR := Lib.hid hr
  clear hr
  have hu := bounds_u8 w1
  clear w1
  obtain ⟨hu0, hu1⟩ := hu
  obtain ⟨m, hm⟩ : ∃ m : Nat, a1.tmod ((len0 : Int) + 1) = m := ⟨(a1.tmod ((len0 : Int) + 1)).toNat, by have := Int.tmod_nonneg ((len0 : Int) + 1) hu0; omega⟩
  have hml : (m : Int) ≤ (len0 : Int) := by have := Int.tmod_lt_of_pos a1 (show 0 < (len0 : Int) + 1 by omega); omega
  have hml2 : m ≤ len0 := by omega
  have HRM := Lib.hid (right_le e HR.out m hml2)
  go_enter Try.func5, Try.ntmps5
  go_wp2_with fail
  refine (alive_any _).mono ?_
  rintro r v1 ⟨rfl, g1⟩
  have HE1 := Lib.hid (HE.out.grown g1.out)
  go_wp2_with fail
  refine (right_any a0 len0 cap0 e _ HE1.out (by omega)).mono ?_
  rw [HR.out]
  rintro r v2 ⟨rfl, g2⟩
  have HE2 := Lib.hid (HE1.out.grown g2.out)
  go_wp2_with fail
  refine (tries_right _ a0 m cap0 e (evs_pre HE2.out hml2) HRM.out (by omega)).mono ?_
  rintro r v3 ⟨ax, cx, xs, rfl, X1, X2, X3, g3⟩
  have HE3 := Lib.hid (HE2.out.grown g3.out)
  go_wp2_with fail
  refine (tries_right _ a0 len0 cap0 e HE3.out HR.out (by omega)).mono ?_
  rintro r v4 ⟨ay, cy, yl, rfl, Y1, Y2, Y3, g4⟩
  have HE4 := Lib.hid (HE3.out.grown g4.out)
  have EX := Lib.hid (sorted_tries e X2.out X3.out)
  have EY := Lib.hid (sorted_tries e Y2.out Y3.out)
  clear X2 X3 Y2 Y3
  have hxy : xs.length ≤ yl.length := by
    have h1 := congrArg List.length EX.out
    have h2 := congrArg List.length EY.out
    have h3 := tries_len e hml2
    rw [List.length_map] at h1 h2
    omega
  have hy : yl.length ≤ 120 := by
    have h2 := congrArg List.length EY.out
    have h3 := tries_n e len0
    rw [List.length_map] at h2
    omega
  have hxy2 : (xs.length : Int) ≤ (yl.length : Int) := by omega
  have hy2 : (yl.length : Int) ≤ 120 := by omega
  have q1 : decide (yl.length < xs.length) = false := by simpa using hxy
  go_wp2_with fail
  refine (right_any a0 m cap0 e _ (evs_pre HE4.out hml2) (by omega)).mono ?_
  rw [HRM.out]
  rintro r v5 ⟨rfl, g5⟩
  have HE5 := Lib.hid (HE4.out.grown g5.out)
  have HX := Lib.hid (X1.out.grown (gb_trans g4.out g5.out))
  have HY := Lib.hid (Y1.out.grown g5.out)
  have G := Lib.hid (gb_trans (gb_trans (gb_trans (gb_trans g1.out g2.out) g3.out) g4.out) g5.out)
  clear X1 Y1 g1 g2 g3 g4 g5 HE1 HE2 HE3 HE4
  go_wp2
  go_loopw [8] (fun iv wr => ∃ k : Nat, k ≤ xs.length ∧ iv = .int .i64 k ∧ Hid (v5.grownBy wr none)) (fun iv _ => (xs.length - intOf iv).toNat)
  case atStart => exact ⟨0, by omega, rfl, gb_refl _ _⟩
  case round =>
    obtain ⟨k, hk, rfl, G6⟩ := hrel
    by_cases hlt : k < xs.length
    · have hlt' : (k : Int) < (xs.length : Int) := by omega
      have hlt2 : (k : Int) < (yl.length : Int) := by omega
      obtain ⟨gx, rfl, hgx, fx⟩ := tries_at (HX.out.grown G6.out) (show 0 < xs.length by omega)
      obtain ⟨gy, rfl, hgy, fy⟩ := tries_at (HY.out.grown G6.out) (show 0 < yl.length by omega)
      obtain ⟨vx, dx, _, x4, x5, x8⟩ := fx k xs[k] (List.getElem?_eq_getElem hlt)
      obtain ⟨vy, dy, _, y4, y5, y8⟩ := fy k yl[k] (List.getElem?_eq_getElem (show k < yl.length by omega))
      have hp := tries_pre e hml2 (i := k) (x := xs[k].1) (y := yl[k].1) (by rw [← EX.out, List.getElem?_map, List.getElem?_eq_getElem hlt]; rfl) (by rw [← EY.out, List.getElem?_map, List.getElem?_eq_getElem (show k < yl.length by omega)]; rfl)
      clear fx fy
      generalize xs[k].1 = x at *
      generalize yl[k].1 = y at *
      obtain ⟨p1, p2, p3⟩ := hp
      rw [← p1] at y4
      have p4 : decide (y.ac.length < x.ac.length) = false := by simpa using p3
      by_cases h0 : 0 ≤ x.en
      · rw [← p2 h0] at y5
        clear p1 p2 p3
        go_wp2_with fail
        go_quiet (fail)
        go_wp2
        case roundEnd => exact ⟨⟨k + 1, by omega, by go_num, gb_drewN G6.out _⟩, by simp [intOf]; omega⟩
      · have p5 : decide (0 ≤ x.en) = false := by simpa using h0
        clear p1 p2 p3
        go_wp2_with fail
        go_quiet (fail)
        go_wp2
        case roundEnd => exact ⟨⟨k + 1, by omega, by go_num, gb_drewN G6.out _⟩, by simp [intOf]; omega⟩
    · obtain rfl : k = xs.length := by omega
      have HE6 := Lib.hid (HE5.out.grown G6.out)
      go_wp2_with fail
      refine (commits_right _ a0 len0 cap0 e HE6.out HR.out (by omega)).mono ?_
      rintro r v7 ⟨ac, cc, cs, rfl, C1, C2, C3, g7⟩
      have HN := Lib.hid (show cs.length = before e len0 by
        have h1 := C2.out.length_eq
        rw [List.length_map, comms_before e HR.out] at h1
        exact h1)
      have HE7 := Lib.hid (HE6.out.grown g7.out)
      go_wp2_with fail
      refine (before_any _ a0 len0 cap0 e len0 (WalkArith.wf_i64 (by omega)) HE7.out (by omega) (by omega)).mono ?_
      rintro r v8 ⟨rfl, g8⟩
      rw [Int.toNat_natCast, Nat.min_self, ← HN.out]
      go_wp2
      go_ret
      exact ⟨by simp, gb_below (gb_trans (gb_trans (gb_trans G.out G6.out) g7.out) g8.out)⟩

theorem own : ownKnob Try.prog.godebug = none := by kernel_rfl
theorem laidOut : laidOutB Try.prog = true := by kernel_rfl

/-! ### THE ROW's STEP, as the guide has it -/
set_option maxRecDepth 100000 in
theorem lifted (os : Os) (started : os.Started) (H : Type) (enc : TypeId × Value → H) :
    ReturnsInHanded {} Try.checked os 5 .any (Rows.histBeginsSpec.pre6 enc Try.prog Try.f5 Rows.histBeginsRow.domain false) (Rows.histBeginsSpec.post enc Try.prog Try.f5 false true false false) := by
  refine returnsInHanded_of_change (C := Try.checked) own started (by kernel_rfl) Try.func5
    (ChangeSpec.witness6 (enc := enc) (C := Try.checked) false ⟨#[], #[.slice none 0 0, .int .u8 0], []⟩ 8 (by kernel_rfl) (by kernel_rfl) (by kernel_rfl) (by kernel_rfl)) ?_
  intro W base args ds gs before hval0 hW hcnd _
  have hval : ∀ (j : Nat) t v, Try.f5.params[j]? = some t → args[j]? = some v → Value.okWide Try.prog W .any base t v := hval0
  have hW' := hW
  obtain ⟨p, q, hA0, hV, rfl, hfz, hnd⟩ := hW
  have hA : DataW.TrodAll enc Try.prog W 0 (fun _ => true) true Try.f5.params.toList args.toList ds p := hA0
  rw [Try.params5] at hA hval
  obtain ⟨v0, vs0, d0, ds0, p0, q0, hargs, rfl, rfl, h0, r0⟩ := trodAll_cons hA
  obtain ⟨v1, vs1, d1, ds1, p1, q1, rfl, rfl, rfl, h1, r1⟩ := trodAll_cons r0
  obtain ⟨rfl, rfl, rfl⟩ := trodAll_nil r1
  obtain rfl : args = #[v0, v1] := by cases args; simp_all
  obtain ⟨rfl, rfl⟩ := trodVars_none hV
  obtain ⟨a0, len0, cap0, rfl⟩ := okWide_slice Try.underlying22 (hval 0 22 v0 rfl rfl)
  have k0 := h0
  have lt0 : ∀ x ∈ p0, x.block < W.heap.size := by obtain ⟨m, hm⟩ := k0; exact DataW.trod_lt m _ _ _ hm
  obtain ⟨z0, w0⟩ : ∃ z, IsInts 7 W a0 len0 cap0 z := by
    obtain ⟨fuel, hf⟩ := h0
    exact isMixed_of Try.underlying22 Try.underlying36 Try.underlying3 Try.underlying2 (by kernel_rfl) (by kernel_rfl) (by kernel_rfl) (by decide) (by decide) hf
  obtain ⟨a1, rfl, rfl, rfl, w1⟩ := open_int Try.underlying5 (hval 1 5 v1 rfl rfl) h1
  clear hA0 hval0
  refine (walk a0 len0 cap0 z0 a1 W w0 w1).mono fun e W' ⟨he, bel⟩ => ?_
  subst he
  exact ⟨_, rfl, _, _, _, [], _, [], hW', trodAll_mk1 (shut_bool Try.underlying4 _), (trodAll_cons_mk (Below.trod laidOut (by kernel_rfl) (of_decide_eq_true (by kernel_rfl)) k0 bel lt0) (trodAll_cons_mk (shut_int Try.underlying5 w1) trodAll_mk0)), rfl, bel.frame _, fun h => by cases h⟩

theorem over : Rows.histBeginsRow.holds Try.pinned (OpenSpec.ofChange Rows.histBeginsSpec) :=
  OpenClaim.holds_of_wide 5 Try.f5 rfl rfl rfl rfl rfl rfl rfl ⟨rfl, rfl, rfl, rfl, rfl⟩ rfl rfl rfl rfl rfl (by kernel_rfl) Try.func5 (by kernel_rfl)
    (of_decide_eq_true (by kernel_rfl)) (by unfold Func.isWrapper; first | (rw [if_pos (by decide +kernel)]; kernel_rfl) | (rw [if_neg (by decide +kernel)]; exact ⟨rfl, rfl⟩))
    (fun os started H enc _ => lifted os started H enc)

theorem proved : Rows.HistBeginsSaid := over
#print axioms proved
end Go.Proofs.Ytgnakcahmmdncaa.histBegins
