/-
  ModelFits: the values behind any try, and whether it read what it should, are the document's; for any values and any try.
  Conditions: none (of more than 20 values, and of more than 50 accesses, the law says nothing by itself).
-/
import Derived.Test.YtdohepenmejcaaaRows
import Derived.Test.YtdohepenmejcaaaMb
import Derived.Test.YtdohepenmejcaaaMf
import Derived.Test.YtdohepenmejcaaaMp
import Derived.Test.YtdohepenmejcaaaMr
import Derived.Deep.QuietTactic
import Derived.Deep.RegionHeld3
import Derived.BigQuiet
namespace Go.Proofs.Ytdohepenmejcaaa.modelFits
open Go.ChangeShapes Go.WideShapes Go.ChangeAt Go.RowKit Go.Proofs.Ytdohepenmejcaaa.base Go.Proofs.Ytdohepenmejcaaa.hs Go.Proofs.Ytdohepenmejcaaa.lg Go.Proofs.Ytdohepenmejcaaa.md
set_option linter.unusedVariables false
set_option maxRecDepth 100000

theorem walk_out (a0 : Option Addr) (len0 cap0 : Nat) (t1 : Tr) (va1 : Option Addr) (vc1 : Nat) (w : World) (h : 20 < (len0 : Int) ∨ 50 < (t1.ac.length : Int)) : Calls Try.prog 4 #[.slice a0 len0 cap0, .agg ⟨trC t1 (.slice va1 t1.ac.length vc1)⟩] w fun e w' => e = .returned (.bool true) ∧ Below w.heap.size w w' := by
  show Calls Try.prog 4 #[.slice a0 len0 cap0, .agg #[.int .i64 t1.th, .int .i64 t1.tx, .int .i64 t1.at_, .int .i64 t1.st, .int .i64 t1.b, .int .i64 t1.en, .int .i64 t1.re, .bool t1.co, .slice va1 t1.ac.length vc1]] w _
  by_cases h1 : 20 < (len0 : Int)
  · have O0 := Lib.hid ((base.Own.start w).alloc 33 [.int .i64 t1.th, .int .i64 t1.tx, .int .i64 t1.at_, .int .i64 t1.st, .int .i64 t1.b, .int .i64 t1.en, .int .i64 t1.re, .bool t1.co, .slice va1 t1.ac.length vc1]); go_enter Try.func4, Try.ntmps4; go_wp2_with fail; refine (alive_any _).mono ?_; rintro e v1 ⟨rfl, g1⟩; have O1 := Lib.hid (O0.out.grown g1.out); clear O0; have p0 := O1.out.cell 0 0 rfl rfl; have p1 := O1.out.cell 0 1 rfl rfl; have p2 := O1.out.cell 0 2 rfl rfl; have p3 := O1.out.cell 0 3 rfl rfl; have p4 := O1.out.cell 0 4 rfl rfl; have p5 := O1.out.cell 0 5 rfl rfl; have p6 := O1.out.cell 0 6 rfl rfl; have p7 := O1.out.cell 0 7 rfl rfl; have p8 := O1.out.cell 0 8 rfl rfl; go_wp2; go_ret; exact ⟨rfl, O1.out.below⟩
  have q1 : (len0 : Int) ≤ 20 := by omega
  have h2 : 50 < (t1.ac.length : Int) := by omega
  have O0 := Lib.hid ((base.Own.start w).alloc 33 [.int .i64 t1.th, .int .i64 t1.tx, .int .i64 t1.at_, .int .i64 t1.st, .int .i64 t1.b, .int .i64 t1.en, .int .i64 t1.re, .bool t1.co, .slice va1 t1.ac.length vc1]); go_enter Try.func4, Try.ntmps4; go_wp2_with fail; refine (alive_any _).mono ?_; rintro e v1 ⟨rfl, g1⟩; have O1 := Lib.hid (O0.out.grown g1.out); clear O0; have p0 := O1.out.cell 0 0 rfl rfl; have p1 := O1.out.cell 0 1 rfl rfl; have p2 := O1.out.cell 0 2 rfl rfl; have p3 := O1.out.cell 0 3 rfl rfl; have p4 := O1.out.cell 0 4 rfl rfl; have p5 := O1.out.cell 0 5 rfl rfl; have p6 := O1.out.cell 0 6 rfl rfl; have p7 := O1.out.cell 0 7 rfl rfl; have p8 := O1.out.cell 0 8 rfl rfl; go_wp2; go_ret; exact ⟨rfl, O1.out.below⟩

set_option maxHeartbeats 4000000 in
theorem walk (a0 : Option Addr) (len0 cap0 : Nat) (z0 : Nat → Int) (t1 : Tr) (va1 : Option Addr) (vc1 : Nat) (w : World) (w0 : IsRow .i64 w a0 len0 cap0 z0) (w1 : t1.ac.length ≤ vc1 ∧ vc1 ≤ maxLen ∧ IsL accC w va1 t1.ac ∧ ∀ y ∈ t1.ac, AccWf y) : Calls Try.prog 4 #[.slice a0 len0 cap0, .agg ⟨trC t1 (.slice va1 t1.ac.length vc1)⟩] w fun e w' => e = .returned (.bool true) ∧ Below w.heap.size w w' := by
  by_cases hbig : 20 < (len0 : Int) ∨ 50 < (t1.ac.length : Int)
  · exact walk_out a0 len0 cap0 t1 va1 vc1 w hbig
  have l0 : (len0 : Int) ≤ 20 := by omega
  have l1 : (t1.ac.length : Int) ≤ 50 := by omega
  have HZ := Lib.hid (IsNums.of_row w0)
  have HA := Lib.hid w1.2.2.1
  have HW := Lib.hid w1.2.2.2
  clear w0 w1 hbig
  show Calls Try.prog 4 #[.slice a0 len0 cap0, .agg #[.int .i64 t1.th, .int .i64 t1.tx, .int .i64 t1.at_, .int .i64 t1.st, .int .i64 t1.b, .int .i64 t1.en, .int .i64 t1.re, .bool t1.co, .slice va1 t1.ac.length vc1]] w _
  have O0 := Lib.hid ((base.Own.start w).alloc 33 [.int .i64 t1.th, .int .i64 t1.tx, .int .i64 t1.at_, .int .i64 t1.st, .int .i64 t1.b, .int .i64 t1.en, .int .i64 t1.re, .bool t1.co, .slice va1 t1.ac.length vc1])
  go_enter Try.func4, Try.ntmps4
  go_wp2_with fail
  refine (alive_any _).mono ?_
  rintro e v1 ⟨rfl, g1⟩
  have O1 := Lib.hid (O0.out.grown g1.out)
  clear O0 g1
  have p0 := O1.out.cell 0 0 rfl rfl; have p1 := O1.out.cell 0 1 rfl rfl; have p2 := O1.out.cell 0 2 rfl rfl; have p3 := O1.out.cell 0 3 rfl rfl; have p4 := O1.out.cell 0 4 rfl rfl; have p5 := O1.out.cell 0 5 rfl rfl; have p6 := O1.out.cell 0 6 rfl rfl; have p7 := O1.out.cell 0 7 rfl rfl; have p8 := O1.out.cell 0 8 rfl rfl
  go_wp2_with fail
  refine (plain_any t1 va1 vc1 _ (HA.out.grown O1.out.grow) (by omega)).mono ?_
  rintro r v2 ⟨va, vc, hr, hb, g2⟩
  have hr' : r = .returned (.agg #[.int .i64 t1.th, .int .i64 t1.tx, .int .i64 t1.at_, .int .i64 t1.st, .int .i64 t1.b, .int .i64 t1.en, .int .i64 t1.re, .bool t1.co, .slice va t1.ac.length vc]) := hr
  subst hr'
  clear hr
  have O2 := Lib.hid ((O1.out.grown g2.out).alloc 36 [.int .i64 t1.th, .int .i64 t1.tx, .int .i64 t1.at_, .int .i64 t1.st, .int .i64 t1.b, .int .i64 t1.en, .int .i64 t1.re, .bool t1.co, .slice va t1.ac.length vc])
  have HZ2 := Lib.hid (HZ.out.grown O2.out.grow)
  have HA2 := Lib.hid (HA.out.grown O2.out.grow)
  have HB2 := Lib.hid (hb.out.grown (World.grownBy_alloc v2 (.cells #[.int .i64 t1.th, .int .i64 t1.tx, .int .i64 t1.at_, .int .i64 t1.st, .int .i64 t1.b, .int .i64 t1.en, .int .i64 t1.re, .bool t1.co, .slice va t1.ac.length vc] 36) none))
  clear O1 HZ HA hb g2 p0 p1 p2 p3 p4 p5 p6 p7 p8
  go_wp2
  generalize v2.alloc _ = u3 at *
  generalize v2.heap.size = bq at *
  have p0 := O2.out.cell 1 0 rfl rfl; have p1 := O2.out.cell 1 1 rfl rfl; have p2 := O2.out.cell 1 2 rfl rfl; have p3 := O2.out.cell 1 3 rfl rfl; have p4 := O2.out.cell 1 4 rfl rfl; have p5 := O2.out.cell 1 5 rfl rfl; have p6 := O2.out.cell 1 6 rfl rfl; have p7 := O2.out.cell 1 7 rfl rfl; have p8 := O2.out.cell 1 8 rfl rfl; have q0 := O2.out.cell 0 0 rfl rfl; have q1 := O2.out.cell 0 1 rfl rfl; have q2 := O2.out.cell 0 2 rfl rfl; have q3 := O2.out.cell 0 3 rfl rfl; have q4 := O2.out.cell 0 4 rfl rfl; have q5 := O2.out.cell 0 5 rfl rfl; have q6 := O2.out.cell 0 6 rfl rfl; have q7 := O2.out.cell 0 7 rfl rfl; have q8 := O2.out.cell 0 8 rfl rfl
  have hws := O2.out.lt 1 rfl
  have hwq := O2.out.lt 0 rfl
  have K0 : Hid (u3.grownBy u3.drew none) := Lib.hid (gb_drew (gb_refl u3 none))
  obtain ⟨X, hX⟩ : ∃ X, fits len0 z0 t1.ac = X := ⟨_, rfl⟩
  have HX := Lib.hid hX
  clear hX
  go_region_held3 (fun w' => Hid (u3.grownBy w' none) ∧ w'.cell? ⟨w.heap.size, 0, none⟩ = some (.int .i64 t1.th) ∧ w'.cell? ⟨w.heap.size, 1, none⟩ = some (.int .i64 t1.tx) ∧ w'.cell? ⟨w.heap.size, 2, none⟩ = some (.int .i64 t1.at_) ∧ w'.cell? ⟨w.heap.size, 3, none⟩ = some (.int .i64 t1.st) ∧ w'.cell? ⟨w.heap.size, 4, none⟩ = some (.int .i64 t1.b) ∧ w'.cell? ⟨w.heap.size, 5, none⟩ = some (.int .i64 t1.en) ∧ w'.cell? ⟨w.heap.size, 6, none⟩ = some (.int .i64 t1.re) ∧ w'.cell? ⟨w.heap.size, 7, none⟩ = some (.bool t1.co) ∧ w'.cell? ⟨w.heap.size, 8, none⟩ = some (.slice va1 t1.ac.length vc1) ∧ w'.cell? ⟨bq, 0, none⟩ = some (.int .i64 t1.th) ∧ w'.cell? ⟨bq, 1, none⟩ = some (.int .i64 t1.tx) ∧ w'.cell? ⟨bq, 2, none⟩ = some (.int .i64 t1.at_) ∧ w'.cell? ⟨bq, 3, none⟩ = some (.int .i64 t1.st) ∧ w'.cell? ⟨bq, 4, none⟩ = some (.int .i64 t1.b) ∧ w'.cell? ⟨bq, 5, none⟩ = some (.int .i64 t1.en) ∧ w'.cell? ⟨bq, 6, none⟩ = some (.int .i64 t1.re) ∧ w'.cell? ⟨bq, 7, none⟩ = some (.bool t1.co) ∧ w'.cell? ⟨bq, 8, none⟩ = some (.slice va t1.ac.length vc)) (go_keep) (first
    | (go_at_call 13; refine (vals_yes _ _ len0 _ _ (app z0 t1.ac) _ N5.out N6.out (by omega)).mono ?_; rintro r u7 ⟨rfl, g7⟩; have K7 : Hid (u3.grownBy u7 none) := Lib.hid (gb_trans (by refine Hid.out ?_; assumption) g7.out); have p70 := K7.out.cell p0 (by simp); have p71 := K7.out.cell p1 (by simp); have p72 := K7.out.cell p2 (by simp); have p73 := K7.out.cell p3 (by simp); have p74 := K7.out.cell p4 (by simp); have p75 := K7.out.cell p5 (by simp); have p76 := K7.out.cell p6 (by simp); have p77 := K7.out.cell p7 (by simp); have p78 := K7.out.cell p8 (by simp); have q70 := K7.out.cell q0 (by simp); have q71 := K7.out.cell q1 (by simp); have q72 := K7.out.cell q2 (by simp); have q73 := K7.out.cell q3 (by simp); have q74 := K7.out.cell q4 (by simp); have q75 := K7.out.cell q5 (by simp); have q76 := K7.out.cell q6 (by simp); have q77 := K7.out.cell q7 (by simp); have q78 := K7.out.cell q8 (by simp))
    | (go_at_call 16; refine (apply_any a0 len0 cap0 z0 t1 va1 vc1 _ (HZ2.out.grown (by refine Hid.out ?_; assumption)) (HA2.out.grown (by refine Hid.out ?_; assumption)) (by omega) (by omega)).mono ?_; rintro r u5 ⟨a5, c5, rfl, hr5, g5⟩; have N5 := Lib.hid (show IsNums .i64 u5 a5 len0 (app z0 t1.ac) from IsNums.of_own hr5.out); (try replace N6 := Lib.hid (N6.out.grown g5.out)); have K5 : Hid (u3.grownBy u5 none) := Lib.hid (gb_trans (by refine Hid.out ?_; assumption) g5.out); have p50 := K5.out.cell p0 (by simp); have p51 := K5.out.cell p1 (by simp); have p52 := K5.out.cell p2 (by simp); have p53 := K5.out.cell p3 (by simp); have p54 := K5.out.cell p4 (by simp); have p55 := K5.out.cell p5 (by simp); have p56 := K5.out.cell p6 (by simp); have p57 := K5.out.cell p7 (by simp); have p58 := K5.out.cell p8 (by simp); have q50 := K5.out.cell q0 (by simp); have q51 := K5.out.cell q1 (by simp); have q52 := K5.out.cell q2 (by simp); have q53 := K5.out.cell q3 (by simp); have q54 := K5.out.cell q4 (by simp); have q55 := K5.out.cell q5 (by simp); have q56 := K5.out.cell q6 (by simp); have q57 := K5.out.cell q7 (by simp); have q58 := K5.out.cell q8 (by simp))
    | (go_at_call 17; refine (refapply_any a0 len0 cap0 z0 t1 va vc _ (HZ2.out.grown (by refine Hid.out ?_; assumption)) (HB2.out.grown (by refine Hid.out ?_; assumption)) (by omega) (by omega)).mono ?_; rintro r u6 ⟨a6, c6, rfl, hr6, g6⟩; have N6 := Lib.hid (show IsNums .i64 u6 a6 len0 (app z0 t1.ac) from IsNums.of_own hr6.out); (try replace N5 := Lib.hid (N5.out.grown g6.out)); have K6 : Hid (u3.grownBy u6 none) := Lib.hid (gb_trans (by refine Hid.out ?_; assumption) g6.out); have p60 := K6.out.cell p0 (by simp); have p61 := K6.out.cell p1 (by simp); have p62 := K6.out.cell p2 (by simp); have p63 := K6.out.cell p3 (by simp); have p64 := K6.out.cell p4 (by simp); have p65 := K6.out.cell p5 (by simp); have p66 := K6.out.cell p6 (by simp); have p67 := K6.out.cell p7 (by simp); have p68 := K6.out.cell p8 (by simp); have q60 := K6.out.cell q0 (by simp); have q61 := K6.out.cell q1 (by simp); have q62 := K6.out.cell q2 (by simp); have q63 := K6.out.cell q3 (by simp); have q64 := K6.out.cell q4 (by simp); have q65 := K6.out.cell q5 (by simp); have q66 := K6.out.cell q6 (by simp); have q67 := K6.out.cell q7 (by simp); have q68 := K6.out.cell q8 (by simp))
    | (go_at_call 18; refine (fits_any a0 len0 cap0 z0 t1 va1 vc1 _ (HZ2.out.grown (by refine Hid.out ?_; assumption)) (HA2.out.grown (by refine Hid.out ?_; assumption)) HW.out (by omega)).mono ?_; rw [HX.out]; rintro r u8 ⟨rfl, g8⟩; have K8 : Hid (u3.grownBy u8 none) := Lib.hid (gb_trans (by refine Hid.out ?_; assumption) g8.out); have p80 := K8.out.cell p0 (by simp); have p81 := K8.out.cell p1 (by simp); have p82 := K8.out.cell p2 (by simp); have p83 := K8.out.cell p3 (by simp); have p84 := K8.out.cell p4 (by simp); have p85 := K8.out.cell p5 (by simp); have p86 := K8.out.cell p6 (by simp); have p87 := K8.out.cell p7 (by simp); have p88 := K8.out.cell p8 (by simp); have q80 := K8.out.cell q0 (by simp); have q81 := K8.out.cell q1 (by simp); have q82 := K8.out.cell q2 (by simp); have q83 := K8.out.cell q3 (by simp); have q84 := K8.out.cell q4 (by simp); have q85 := K8.out.cell q5 (by simp); have q86 := K8.out.cell q6 (by simp); have q87 := K8.out.cell q7 (by simp); have q88 := K8.out.cell q8 (by simp))
    | (go_at_call 19; refine (reffits_any a0 len0 cap0 z0 t1 va vc _ (HZ2.out.grown (by refine Hid.out ?_; assumption)) (HB2.out.grown (by refine Hid.out ?_; assumption)) (by omega) (by omega)).mono ?_; rw [HX.out]; rintro r u9 ⟨rfl, g9⟩; have K9 : Hid (u3.grownBy u9 none) := Lib.hid (gb_trans (by refine Hid.out ?_; assumption) g9.out); have p90 := K9.out.cell p0 (by simp); have p91 := K9.out.cell p1 (by simp); have p92 := K9.out.cell p2 (by simp); have p93 := K9.out.cell p3 (by simp); have p94 := K9.out.cell p4 (by simp); have p95 := K9.out.cell p5 (by simp); have p96 := K9.out.cell p6 (by simp); have p97 := K9.out.cell p7 (by simp); have p98 := K9.out.cell p8 (by simp); have q90 := K9.out.cell q0 (by simp); have q91 := K9.out.cell q1 (by simp); have q92 := K9.out.cell q2 (by simp); have q93 := K9.out.cell q3 (by simp); have q94 := K9.out.cell q4 (by simp); have q95 := K9.out.cell q5 (by simp); have q96 := K9.out.cell q6 (by simp); have q97 := K9.out.cell q7 (by simp); have q98 := K9.out.cell q8 (by simp)))
  all_goals
    go_wp2
    go_ret
    first | exact ⟨by simp, bl_none O2.out.below K8.out⟩ | exact ⟨by simp, bl_none O2.out.below K9.out⟩

theorem own : ownKnob Try.prog.godebug = none := by kernel_rfl
theorem laidOut : laidOutB Try.prog = true := by kernel_rfl

/-! ### THE ROW's STEP, as the guide has it -/
set_option maxRecDepth 100000 in
theorem lifted (os : Os) (started : os.Started) (H : Type) (enc : TypeId × Value → H) :
    ReturnsInHanded {} Try.checked os 4 .any (Rows.modelFitsSpec.pre6 enc Try.prog Try.f4 Rows.modelFitsRow.domain false) (Rows.modelFitsSpec.post enc Try.prog Try.f4 false true false false) := by
  refine returnsInHanded_of_change (C := Try.checked) own started (by kernel_rfl) Try.func4
    (ChangeSpec.witness6 (enc := enc) (C := Try.checked) false ⟨#[], #[.slice none 0 0, .agg #[.int .i64 0, .int .i64 0, .int .i64 0, .int .i64 0, .int .i64 0, .int .i64 0, .int .i64 0, .bool false, .slice none 0 0]], []⟩ 8 (by kernel_rfl) (by kernel_rfl) (by kernel_rfl) (by kernel_rfl)) ?_
  intro W base args ds gs before hval0 hW hcnd _
  have hval : ∀ (j : Nat) t v, Try.f4.params[j]? = some t → args[j]? = some v → Value.okWide Try.prog W .any base t v := hval0
  have hW' := hW
  obtain ⟨p, q, hA0, hV, rfl, hfz, hnd⟩ := hW
  have hA : DataW.TrodAll enc Try.prog W 0 (fun _ => true) true Try.f4.params.toList args.toList ds p := hA0
  rw [Try.params4] at hA hval
  obtain ⟨v0, vs0, d0, ds0, p0, q0, hargs, rfl, rfl, h0, r0⟩ := trodAll_cons hA
  obtain ⟨v1, vs1, d1, ds1, p1, q1, rfl, rfl, rfl, h1, r1⟩ := trodAll_cons r0
  obtain ⟨rfl, rfl, rfl⟩ := trodAll_nil r1
  obtain rfl : args = #[v0, v1] := by cases args; simp_all
  obtain ⟨rfl, rfl⟩ := trodVars_none hV
  obtain ⟨a0, len0, cap0, rfl⟩ := okWide_slice Try.underlying22 (hval 0 22 v0 rfl rfl)
  have k0 := h0
  have lt0 : ∀ x ∈ p0, x.block < W.heap.size := by obtain ⟨m, hm⟩ := k0; exact DataW.trod_lt m _ _ _ hm
  obtain ⟨z0, w0⟩ : ∃ z, IsRow .i64 W a0 len0 cap0 z := by
    obtain ⟨fuel, hf⟩ := h0
    exact isRow_of Try.underlying22 Try.underlying2 (by kernel_rfl) hf
  obtain ⟨cs1, rfl, sz1⟩ := okWide_struct Try.underlying33 (hval 1 33 v1 rfl rfl)
  have k1 := h1
  have lt1 : ∀ x ∈ p1, x.block < W.heap.size := by obtain ⟨m, hm⟩ := k1; exact DataW.trod_lt m _ _ _ hm
  obtain ⟨t1, va1, vc1, rfl, w1⟩ : ∃ (t : Tr) (va : Option Addr) (vc : Nat), cs1 = ⟨trC t (.slice va t.ac.length vc)⟩ ∧ t.ac.length ≤ vc ∧ vc ≤ maxLen ∧ IsL accC W va t.ac ∧ ∀ y ∈ t.ac, AccWf y := by
    obtain ⟨fuel, hf⟩ := h1
    exact try_of (sz1.trans (by kernel_rfl)) hf
  clear hA0 hval0
  refine (walk a0 len0 cap0 z0 t1 va1 vc1 W w0 w1).mono fun e W' ⟨he, bel⟩ => ?_
  subst he
  exact ⟨_, rfl, _, _, _, [], _, [], hW', trodAll_mk1 (shut_bool Try.underlying4 _), (trodAll_cons_mk (Below.trod laidOut (by kernel_rfl) (of_decide_eq_true (by kernel_rfl)) k0 bel lt0) (trodAll_cons_mk (Below.trod laidOut (by kernel_rfl) (of_decide_eq_true (by kernel_rfl)) k1 bel lt1) trodAll_mk0)), rfl, bel.frame _, fun h => by cases h⟩

theorem over : Rows.modelFitsRow.holds Try.pinned (OpenSpec.ofChange Rows.modelFitsSpec) :=
  OpenClaim.holds_of_wide 4 Try.f4 rfl rfl rfl rfl rfl rfl rfl ⟨rfl, rfl, rfl, rfl, rfl⟩ rfl rfl rfl rfl rfl (by kernel_rfl) Try.func4 (by kernel_rfl)
    (of_decide_eq_true (by kernel_rfl)) (by unfold Func.isWrapper; first | (rw [if_pos (by decide +kernel)]; kernel_rfl) | (rw [if_neg (by decide +kernel)]; exact ⟨rfl, rfl⟩))
    (fun os started H enc _ => lifted os started H enc)

theorem proved : Rows.ModelFitsSaid := over
#print axioms proved
end Go.Proofs.Ytdohepenmejcaaa.modelFits
