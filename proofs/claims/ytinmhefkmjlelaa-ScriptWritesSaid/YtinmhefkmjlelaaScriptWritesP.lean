/-
  ScriptWrites: whether any script may be, and its bytes, or the error, are the document's; for any script.
  Conditions: none (of more than the law goes through, it says nothing by itself).
-/
import Derived.Test.YtinmhefkmjlelaaPw
import Derived.Test.YtinmhefkmjlelaaRows
import Derived.Deep.QuietTactic
import Derived.BigQuiet
import Derived.Deep.RegionHeld3
import Derived.Deep.RegionHeldLaw
namespace Go.Proofs.Ytinmhefkmjlelaa.scriptWrites
open Go.ChangeShapes Go.WideShapes Go.ChangeAt Go.RowKit Go.Proofs.Ytinmhefkmjlelaa.base Go.Proofs.Ytinmhefkmjlelaa.lg Go.Proofs.Ytinmhefkmjlelaa.md Go.Proofs.Ytinmhefkmjlelaa.sc
set_option linter.unusedVariables false
set_option maxRecDepth 100000
set_option linter.unusedSimpArgs false

set_option maxHeartbeats 4000000 in
theorem walkIn (co ct cr ck cm cw : Int) (f d p : List Int) (A : List (List (List Op3))) (fa : Option Addr) (fc : Nat) (da : Option Addr) (dc : Nat) (aa : Option Addr) (ac : Nat) (pa : Option Addr) (pc : Nat) (w : World) (hs : ScrAt w ⟨⟨co, ct, cr, ck, cm, cw⟩, f, d, A, p⟩ (.slice fa f.length fc) (.slice da d.length dc) (.slice aa A.length ac) (.slice pa p.length pc)) (hd : Bytes d) : Calls Try.prog 4 #[.agg #[.int .i64 co, .int .i64 ct, .int .i64 cr, .int .i64 ck, .int .i64 cm, .int .i64 cw, .slice fa f.length fc, .slice da d.length dc, .slice aa A.length ac, .slice pa p.length pc]] w fun e w' => e = .returned (.bool true) ∧ Below w.heap.size w w' := by
  have HD := Lib.hid hd
  clear hd
  have O1 : Hid (Own w (w.alloc (.cells #[.int .i64 co, .int .i64 ct, .int .i64 cr, .int .i64 ck, .int .i64 cm, .int .i64 cw, .slice fa f.length fc, .slice da d.length dc, .slice aa A.length ac, .slice pa p.length pc] 34)) [(w.heap.size, 34, [.int .i64 co, .int .i64 ct, .int .i64 cr, .int .i64 ck, .int .i64 cm, .int .i64 cw, .slice fa f.length fc, .slice da d.length dc, .slice aa A.length ac, .slice pa p.length pc])]) := (Own.start w).alloc 34 [.int .i64 co, .int .i64 ct, .int .i64 cr, .int .i64 ck, .int .i64 cm, .int .i64 cw, .slice fa f.length fc, .slice da d.length dc, .slice aa A.length ac, .slice pa p.length pc]; have HS := Lib.hid hs; clear hs; go_enter Try.func4, Try.ntmps4; go_wp2_with fail; generalize w.alloc _ = v at *; (obtain ⟨sb, hsb⟩ : ∃ sb, sb = w.heap.size := ⟨_, rfl⟩); rw [← hsb] at O1 ⊢; have HSB := Lib.hid hsb; clear hsb; refine (alive_any v).mono ?_; rintro r u ⟨rfl, g⟩; have O2 := Lib.hid (O1.out.grown g.out); clear O1 g; have d0 := O2.out.cell 0 0 rfl rfl; have d1 := O2.out.cell 0 1 rfl rfl; have d2 := O2.out.cell 0 2 rfl rfl; have d3 := O2.out.cell 0 3 rfl rfl; have d4 := O2.out.cell 0 4 rfl rfl; have d5 := O2.out.cell 0 5 rfl rfl; have d6 := O2.out.cell 0 6 rfl rfl; have d7 := O2.out.cell 0 7 rfl rfl; have d8 := O2.out.cell 0 8 rfl rfl; have d9 := O2.out.cell 0 9 rfl rfl; go_wp2_with fail; refine (great_lit co ct cr ck cm cw f d p A fa fc da dc aa ac pa pc u (HS.out.grown O2.out.grow)).mono ?_; rintro r u2 ⟨rfl, g⟩; have O3 := Lib.hid (O2.out.grown g.out); clear O2 g; clear d0 d1 d2 d3 d4 d5 d6 d7 d8 d9; have d0 := O3.out.cell 0 0 rfl rfl; have d1 := O3.out.cell 0 1 rfl rfl; have d2 := O3.out.cell 0 2 rfl rfl; have d3 := O3.out.cell 0 3 rfl rfl; have d4 := O3.out.cell 0 4 rfl rfl; have d5 := O3.out.cell 0 5 rfl rfl; have d6 := O3.out.cell 0 6 rfl rfl; have d7 := O3.out.cell 0 7 rfl rfl; have d8 := O3.out.cell 0 8 rfl rfl; have d9 := O3.out.cell 0 9 rfl rfl
  cases hfit : fits ⟨⟨co, ct, cr, ck, cm, cw⟩, f, d, A, p⟩ with
  | false =>
    go_wp2
    go_ret
    exact ⟨rfl, gb_below O3.out.grow⟩
  | true =>
  obtain ⟨q1, q2, q3, q4, q5, q6⟩ := fits_at hfit
  dsimp only at q1 q2 q3 q4 q5 q6
  have Q5 := Lib.hid q5
  have Q6 := Lib.hid q6
  clear hfit q5 q6
  go_wp2_with fail
  refine (refok_lit co ct cr ck cm cw f d p A fa fc da dc aa ac pa pc u2 (HS.out.grown O3.out.grow) HD.out (by omega) (by omega) (by omega) (by omega) (fun t ht => by have := Q5.out t ht; omega) (fun t ht x hx => by have := Q6.out t ht x hx; unfold maxLen; omega)).mono ?_
  rintro r u3 ⟨rfl, g⟩
  have O4 := Lib.hid (O3.out.grown g.out)
  clear O3 g Q5 Q6
  clear d0 d1 d2 d3 d4 d5 d6 d7 d8 d9
  have d0 := O4.out.cell 0 0 rfl rfl; have d1 := O4.out.cell 0 1 rfl rfl; have d2 := O4.out.cell 0 2 rfl rfl; have d3 := O4.out.cell 0 3 rfl rfl; have d4 := O4.out.cell 0 4 rfl rfl; have d5 := O4.out.cell 0 5 rfl rfl; have d6 := O4.out.cell 0 6 rfl rfl; have d7 := O4.out.cell 0 7 rfl rfl; have d8 := O4.out.cell 0 8 rfl rfl; have d9 := O4.out.cell 0 9 rfl rfl
  go_wp2_with fail
  refine (of_lit co ct cr ck cm cw f d p A fa fc da dc aa ac pa pc _).mono ?_
  rintro r u4 ⟨rfl, g⟩
  have O5 := Lib.hid (O4.out.grown g.out)
  clear O4 g
  clear d0 d1 d2 d3 d4 d5 d6 d7 d8 d9
  go_wp2_with fail
  cases hok : Scr.ok ⟨⟨co, ct, cr, ck, cm, cw⟩, f, d, A, p⟩ with
  | false =>
    refine (put_err_any co ct cr ck cm cw f d p A fa fc da dc aa ac pa pc u4 (HS.out.grown O5.out.grow) HD.out (by omega) (by omega) (by omega) (by omega) hok).mono ?_
    rintro r u5 ⟨rfl, g⟩
    have O6 := Lib.hid (O5.out.grown g.out)
    clear O5 g
    have d0 := O6.out.cell 0 0 rfl rfl; have d1 := O6.out.cell 0 1 rfl rfl; have d2 := O6.out.cell 0 2 rfl rfl; have d3 := O6.out.cell 0 3 rfl rfl; have d4 := O6.out.cell 0 4 rfl rfl; have d5 := O6.out.cell 0 5 rfl rfl; have d6 := O6.out.cell 0 6 rfl rfl; have d7 := O6.out.cell 0 7 rfl rfl; have d8 := O6.out.cell 0 8 rfl rfl; have d9 := O6.out.cell 0 9 rfl rfl
    go_wp2_with fail
    refine (of_lit co ct cr ck cm cw f d p A fa fc da dc aa ac pa pc _).mono ?_
    rintro r u6 ⟨rfl, g⟩
    have O7 := Lib.hid (O6.out.grown g.out)
    clear O6 g
    clear d0 d1 d2 d3 d4 d5 d6 d7 d8 d9
    go_wp2_with fail
    refine (ok_lit co ct cr ck cm cw f d p A fa fc da dc aa ac pa pc u6 (HS.out.grown O7.out.grow) HD.out (by omega) (by omega) (by omega) (by omega)).mono ?_
    rw [hok]
    rintro r u7 ⟨rfl, g⟩
    have G8 := Lib.hid (gb_trans O7.out.grow g.out)
    clear O7 g
    go_wp2
    go_ret
    exact ⟨rfl, gb_below G8.out⟩
  | true =>
    refine (put_ok_any co ct cr ck cm cw f d p A fa fc da dc aa ac pa pc u4 (HS.out.grown O5.out.grow) HD.out (by omega) (by omega) (by omega) (by omega) hok).mono ?_
    rintro r u5 ⟨b, m, c, rfl, g, hm, R⟩
    have O6 := Lib.hid (O5.out.grown g.out)
    have R6 := R
    clear O5 g R hm
    have d0 := O6.out.cell 0 0 rfl rfl; have d1 := O6.out.cell 0 1 rfl rfl; have d2 := O6.out.cell 0 2 rfl rfl; have d3 := O6.out.cell 0 3 rfl rfl; have d4 := O6.out.cell 0 4 rfl rfl; have d5 := O6.out.cell 0 5 rfl rfl; have d6 := O6.out.cell 0 6 rfl rfl; have d7 := O6.out.cell 0 7 rfl rfl; have d8 := O6.out.cell 0 8 rfl rfl; have d9 := O6.out.cell 0 9 rfl rfl
    go_wp2_with fail
    refine (of_lit co ct cr ck cm cw f d p A fa fc da dc aa ac pa pc _).mono ?_
    rintro r u6 ⟨rfl, g⟩
    have O7 := Lib.hid (O6.out.grown g.out)
    have R7 := Lib.hid ((KeepT.grown (P := fun _ => True) g.out).own R6.out trivial)
    clear O6 g R6
    clear d0 d1 d2 d3 d4 d5 d6 d7 d8 d9
    go_wp2_with fail
    refine (ok_lit co ct cr ck cm cw f d p A fa fc da dc aa ac pa pc u6 (HS.out.grown O7.out.grow) HD.out (by omega) (by omega) (by omega) (by omega)).mono ?_
    rw [hok]
    rintro r u7 ⟨rfl, g⟩
    have O8 := Lib.hid (O7.out.grown g.out)
    have R8 := Lib.hid ((KeepT.grown (P := fun _ => True) g.out).own R7.out trivial)
    clear O7 g R7
    have d0 := O8.out.cell 0 0 rfl rfl; have d1 := O8.out.cell 0 1 rfl rfl; have d2 := O8.out.cell 0 2 rfl rfl; have d3 := O8.out.cell 0 3 rfl rfl; have d4 := O8.out.cell 0 4 rfl rfl; have d5 := O8.out.cell 0 5 rfl rfl; have d6 := O8.out.cell 0 6 rfl rfl; have d7 := O8.out.cell 0 7 rfl rfl; have d8 := O8.out.cell 0 8 rfl rfl; have d9 := O8.out.cell 0 9 rfl rfl
    have HP := Lib.hid (fun (u : World) (g : World.grownBy w u none) => refput_lit co ct cr ck cm cw f d p A fa fc da dc aa ac pa pc u (HS.out.grown g) hok (by omega))
    have hl := owns_len R8.out
    have HV := Lib.hid (fun (u : World) (g : World.grownBy u7 u none) => conv_str u b m c (at0 (putS ⟨⟨co, ct, cr, ck, cm, cw⟩, f, d, A, p⟩)) (by
      have h := (KeepT.grown (P := fun _ => True) g).own R8.out trivial
      rw [hl] at h ⊢
      exact IsNums.of_own (numsC_eq .u8 _ ▸ h)))
    have HV2 := Lib.hid (fun (u : World) (base m2 c2 : Nat) (b2 : Option Addr) (h : u.ownsRow base 5 1 (.slice b2 m2 c2) m2 (numsC .u8 (putS ⟨⟨co, ct, cr, ck, cm, cw⟩, f, d, A, p⟩))) => (show (convert 22 9 (.slice b2 m2 c2)).run Try.prog u = .ok (.string (bs (at0 (putS ⟨⟨co, ct, cr, ck, cm, cw⟩, f, d, A, p⟩)) m)) u from by
      have hl2 := (owns_len h).trans hl.symm
      rw [hl2] at h ⊢
      refine conv_str u b2 m c2 _ ?_
      rw [hl] at h ⊢
      exact IsNums.of_own (numsC_eq .u8 _ ▸ h)))
    clear hl hok
    generalize bs (at0 (putS ⟨⟨co, ct, cr, ck, cm, cw⟩, f, d, A, p⟩)) m = X at *
    have hcv0 := HV.out u7 (gb_refl _ _)
    have hcv := HV.out u7.drew (gb_drew (gb_refl _ _))
    go_upto_region 11 with fail
    go_region_held_law (fun w' => (convert 22 9 (.slice b m c)).run Try.prog w' = .ok (.string X) w' ∧ w'.cell? ⟨sb, 0, none⟩ = some (.int .i64 co) ∧ w'.cell? ⟨sb, 1, none⟩ = some (.int .i64 ct) ∧ w'.cell? ⟨sb, 2, none⟩ = some (.int .i64 cr) ∧ w'.cell? ⟨sb, 3, none⟩ = some (.int .i64 ck) ∧ w'.cell? ⟨sb, 4, none⟩ = some (.int .i64 cm) ∧ w'.cell? ⟨sb, 5, none⟩ = some (.int .i64 cw) ∧ w'.cell? ⟨sb, 6, none⟩ = some (.slice fa f.length fc) ∧ w'.cell? ⟨sb, 7, none⟩ = some (.slice da d.length dc) ∧ w'.cell? ⟨sb, 8, none⟩ = some (.slice aa A.length ac) ∧ w'.cell? ⟨sb, 9, none⟩ = some (.slice pa p.length pc)) (go_keep) ((go_at_call 18; refine (HP.out u7.drew (gb_drew O8.out.grow)).mono ?_; rintro r u9 ⟨b9, m9, c9, rfl, g, R9⟩; have G9 := Lib.hid (show World.grownBy u7 u9 none from gb_trans (gb_drew (gb_refl u7 none)) g.out); have hcv := HV.out u9 G9.out; have hcp := HV2.out u9 _ m9 c9 b9 R9.out; have O9 := Lib.hid (O8.out.grown G9.out); have d0 := O9.out.cell 0 0 rfl rfl; have d1 := O9.out.cell 0 1 rfl rfl; have d2 := O9.out.cell 0 2 rfl rfl; have d3 := O9.out.cell 0 3 rfl rfl; have d4 := O9.out.cell 0 4 rfl rfl; have d5 := O9.out.cell 0 5 rfl rfl; have d6 := O9.out.cell 0 6 rfl rfl; have d7 := O9.out.cell 0 7 rfl rfl; have d8 := O9.out.cell 0 8 rfl rfl; have d9 := O9.out.cell 0 9 rfl rfl))
    have G10 := Lib.hid O9.out.grow
    clear O9 O8 G9 R9 R8 HP HV HV2
    go_wp2
    go_ret
    exact ⟨rfl, gb_below (by first | exact G10.out | exact gb_drewN G10.out _ | exact gb_drew G10.out)⟩

theorem walk (s : Scr) (fv dv av pv : Value) (w : World) (c0 : s.c.Wf) (w0 : ScrAt w s fv dv av pv) (y0 : Bytes s.draws) :
    Calls Try.prog 4 #[.agg ⟨cfC s.c ++ [fv, dv, av, pv]⟩] w fun e w' => e = .returned (.bool true) ∧ Below w.heap.size w w' := by
  obtain ⟨⟨co, ct, cr, ck, cm, cw⟩, f, d, A, p⟩ := s
  have h0 := w0
  obtain ⟨⟨fa, fc, rfl, _⟩, ⟨da, dc, rfl, _⟩, ⟨aa, ac, rfl, _⟩, ⟨pa, pc, rfl, _⟩⟩ := h0
  exact walkIn co ct cr ck cm cw f d p A fa fc da dc aa ac pa pc w w0 y0

theorem own : ownKnob Try.prog.godebug = none := by kernel_rfl
theorem laidOut : laidOutB Try.prog = true := by kernel_rfl

/-! ### THE ROW's STEP, as the guide has it -/
set_option maxRecDepth 100000 in
theorem lifted (os : Os) (started : os.Started) (H : Type) (enc : TypeId × Value → H) :
    ReturnsInHanded {} Try.checked os 4 .any (Rows.scriptWritesSpec.pre6 enc Try.prog Try.f4 Rows.scriptWritesRow.domain false) (Rows.scriptWritesSpec.post enc Try.prog Try.f4 false true false false) := by
  refine returnsInHanded_of_change (C := Try.checked) own started (by kernel_rfl) Try.func4
    (ChangeSpec.witness6 (enc := enc) (C := Try.checked) false ⟨#[], #[.agg #[.int .i64 0, .int .i64 0, .int .i64 0, .int .i64 0, .int .i64 0, .int .i64 0, .slice none 0 0, .slice none 0 0, .slice none 0 0, .slice none 0 0]], []⟩ 8 (by kernel_rfl) (by kernel_rfl) (by kernel_rfl) (by kernel_rfl)) ?_
  intro W base args ds gs before hval0 hW hcnd _
  have hval : ∀ (j : Nat) t v, Try.f4.params[j]? = some t → args[j]? = some v → Value.okWide Try.prog W .any base t v := hval0
  have hW' := hW
  obtain ⟨p, q, hA0, hV, rfl, hfz, hnd⟩ := hW
  have hA : DataW.TrodAll enc Try.prog W 0 (fun _ => true) true Try.f4.params.toList args.toList ds p := hA0
  rw [Try.params4] at hA hval
  obtain ⟨v0, vs0, d0, ds0, p0, q0, hargs, rfl, rfl, h0, r0⟩ := trodAll_cons hA
  obtain ⟨rfl, rfl, rfl⟩ := trodAll_nil r0
  obtain rfl : args = #[v0] := by cases args; simp_all
  obtain ⟨rfl, rfl⟩ := trodVars_none hV
  obtain ⟨cs0, rfl, sz0⟩ := okWide_struct Try.underlying34 (hval 0 34 v0 rfl rfl)
  have k0 := h0
  have lt0 : ∀ x ∈ p0, x.block < W.heap.size := by obtain ⟨m, hm⟩ := k0; exact DataW.trod_lt m _ _ _ hm
  obtain ⟨s0, fv0, dv0, av0, pv0, rfl, c0, w0, y0⟩ : ∃ (s : Scr) (fv dv av pv : Value), cs0 = ⟨cfC s.c ++ [fv, dv, av, pv]⟩ ∧ s.c.Wf ∧ ScrAt W s fv dv av pv ∧ Bytes s.draws := by
    obtain ⟨fuel, hf⟩ := h0
    exact script_arg (sz0.trans (by kernel_rfl)) hf
  clear hA0 hval0
  refine (walk s0 fv0 dv0 av0 pv0 W c0 w0 y0).mono fun e W' ⟨he, bel⟩ => ?_
  subst he
  exact ⟨_, rfl, _, _, _, [], _, [], hW', trodAll_mk1 (shut_bool Try.underlying4 _), (trodAll_cons_mk (Below.trod laidOut (by kernel_rfl) (of_decide_eq_true (by kernel_rfl)) k0 bel lt0) trodAll_mk0), rfl, bel.frame _, fun h => by cases h⟩

theorem over : Rows.scriptWritesRow.holds Try.pinned (OpenSpec.ofChange Rows.scriptWritesSpec) :=
  OpenClaim.holds_of_wide 4 Try.f4 rfl rfl rfl rfl rfl rfl rfl ⟨rfl, rfl, rfl, rfl, rfl⟩ rfl rfl rfl rfl rfl (by kernel_rfl) Try.func4 (by kernel_rfl)
    (of_decide_eq_true (by kernel_rfl)) (by unfold Func.isWrapper; first | (rw [if_pos (by decide +kernel)]; kernel_rfl) | (rw [if_neg (by decide +kernel)]; exact ⟨rfl, rfl⟩))
    (fun os started H enc _ => lifted os started H enc)

theorem proved : Rows.ScriptWritesSaid := over
#print axioms proved
end Go.Proofs.Ytinmhefkmjlelaa.scriptWrites
