/-
  ScriptReads: the script of any bytes, or the place and the error, are the document's; for any bytes.
  Conditions: none (of more than the law goes through, it says nothing by itself).
-/
import Derived.Test.YtinmhefkmjlelaaPr
import Derived.Test.YtinmhefkmjlelaaRows
import Derived.Deep.QuietTactic
import Derived.BigQuiet
namespace Go.Proofs.Ytinmhefkmjlelaa.scriptReads
open Go.ChangeShapes Go.WideShapes Go.ChangeAt Go.RowKit Go.Proofs.Ytinmhefkmjlelaa.base Go.Proofs.Ytinmhefkmjlelaa.lg Go.Proofs.Ytinmhefkmjlelaa.md Go.Proofs.Ytinmhefkmjlelaa.sc
set_option linter.unusedVariables false
set_option maxRecDepth 100000
set_option linter.unusedSimpArgs false

/-- A script that was got is no longer than its bytes. -/
theorem got_small {s : Scr} (h : s.ok = true) : (∀ t ∈ s.all, t.length ≤ 6) ∧ ∀ t ∈ s.all, ∀ x ∈ t, x.length ≤ 8 := by
  unfold Scr.ok at h
  simp only [Bool.and_eq_true, decide_eq_true_eq, List.all_eq_true] at h
  obtain ⟨⟨⟨⟨_, h6⟩, _⟩, _⟩, _⟩ := h
  have key : ∀ t ∈ s.all, t.length ≤ 6 ∧ ∀ x ∈ t, x.length ≤ 8 := fun t ht => by
    have := h6 t ht
    unfold thOk at this
    simp only [Bool.and_eq_true, decide_eq_true_eq, List.all_eq_true] at this
    exact ⟨this.1, fun x hx => by
      have h1 := this.2 x hx
      unfold txOk at h1
      simp only [Bool.and_eq_true, decide_eq_true_eq] at h1
      omega⟩
  exact ⟨fun t ht => (key t ht).1, fun t ht => (key t ht).2⟩

set_option maxHeartbeats 4000000 in
theorem walkIn (a1 : Option Addr) (cap1 : Nat) (M : List Int) (w : World) (hM : IsB w a1 M) (hc : M.length ≤ cap1 ∧ cap1 ≤ maxLen) : Calls Try.prog 3 #[.slice a1 M.length cap1] w fun e w' => e = .returned (.bool true) ∧ Below w.heap.size w w' := by
  have HM := Lib.hid hM
  have HC := Lib.hid hc
  clear hM hc
  go_enter Try.func3, Try.ntmps3
  go_wp2_with fail
  refine (alive_any w).mono ?_
  rintro r u ⟨rfl, g⟩
  have G1 := g
  clear g
  by_cases hm3 : 3000 < M.length
  · have hm3I : (3000 : Int) < (M.length : Int) := by omega
    go_wp2
    go_ret
    exact ⟨rfl, gb_below G1.out⟩
  have hm3d : decide ((3000 : Int) < (M.length : Int)) = false := by simp; omega
  have HS := Lib.hid (NumsAt.src (HM.out.1.grown (gb_alloc G1.out (.cells #[] 5))))
  go_wp2_with (at_builtin; go_loud (refine appendU8 _ rfl (.tmp 15) (.tmp 16) rfl u.heap.size _ 0 [] rfl (ownsRow_empty u _ 1) a1 M.length cap1 (numsC .u8 M) rfl (by rw [numsC_len]; omega) HS.out (one_numsC _ _) (by omega) (by simp) ?_); intro b6 c6 w6 ho hg hv; simp only [Nat.zero_add, List.nil_append] at ho; have H6 := Lib.hid (show World.grownBy u w6 none from gb_overO (gb_alloc (gb_refl _ none) _) hg (by intro i e; cases e; exact Nat.le_refl _)); have Y6 := Lib.hid ho; clear ho hg hv)
  have G6 := Lib.hid (gb_trans G1.out H6.out)
  clear HS G1 H6 hm3d
  cases hg : getS M with
  | error e =>
    obtain ⟨pl, er⟩ := e
    refine (get_err_own Y6.out HM.out.2 (by omega) pl pl er rfl hg).mono ?_
    rintro r u8 ⟨rfl, g⟩
    have G8 := Lib.hid (gb_trans G6.out g.out)
    clear G6 g Y6
    have O8 : Hid (Own w (u8.alloc (.cells #[.int .i64 0, .int .i64 0, .int .i64 0, .int .i64 0, .int .i64 0, .int .i64 0, .slice none 0 0, .slice none 0 0, .slice none 0 0, .slice none 0 0] 30)) [(u8.heap.size, 30, [.int .i64 0, .int .i64 0, .int .i64 0, .int .i64 0, .int .i64 0, .int .i64 0, .slice none 0 0, .slice none 0 0, .slice none 0 0, .slice none 0 0])]) := ((Own.start w).grown G8.out).alloc 30 [.int .i64 0, .int .i64 0, .int .i64 0, .int .i64 0, .int .i64 0, .int .i64 0, .slice none 0 0, .slice none 0 0, .slice none 0 0, .slice none 0 0]
    go_upto_region 6 with fail
    generalize u8.alloc _ = v8 at *
    generalize u8.heap.size = tb at *
    go_wp2_with fail
    refine (refget_any a1 cap1 M v8 (HM.out.grown O8.out.grow) (by omega)).mono ?_
    rintro r u9 ⟨g, ⟨s2, fv, dv, av, pv, hr, E, OT⟩ | ⟨pl', er', hr, he, E⟩⟩
    · have e : Except.ok s2 = Except.error (pl, er) := E.out.symm.trans hg
      cases e
    · have e : Except.error (pl', er') = (Except.error (pl, er) : Except (Nat × Int) Scr) := E.out.symm.trans hg
      cases e
      obtain rfl : r = .returned (.tuple #[.agg #[.int .i64 0, .int .i64 0, .int .i64 0, .int .i64 0, .int .i64 0, .int .i64 0, .slice none 0 0, .slice none 0 0, .slice none 0 0, .slice none 0 0], .int .i64 pl, .int .i64 er]) := hr
      have O9 : Hid (Own w (u9.alloc (.cells #[.int .i64 0, .int .i64 0, .int .i64 0, .int .i64 0, .int .i64 0, .int .i64 0, .slice none 0 0, .slice none 0 0, .slice none 0 0, .slice none 0 0] 34)) [(u9.heap.size, 34, [.int .i64 0, .int .i64 0, .int .i64 0, .int .i64 0, .int .i64 0, .int .i64 0, .slice none 0 0, .slice none 0 0, .slice none 0 0, .slice none 0 0]), (tb, 30, [.int .i64 0, .int .i64 0, .int .i64 0, .int .i64 0, .int .i64 0, .int .i64 0, .slice none 0 0, .slice none 0 0, .slice none 0 0, .slice none 0 0])]) := (O8.out.grown g.out).alloc 34 [.int .i64 0, .int .i64 0, .int .i64 0, .int .i64 0, .int .i64 0, .int .i64 0, .slice none 0 0, .slice none 0 0, .slice none 0 0, .slice none 0 0]
      clear O8 g G8 E hg he
      go_upto_region 7 with fail
      generalize u9.alloc _ = v9 at *
      generalize u9.heap.size = tc at *
      have d0 := O9.out.cell 0 0 rfl rfl; have d1 := O9.out.cell 0 1 rfl rfl; have d2 := O9.out.cell 0 2 rfl rfl; have d3 := O9.out.cell 0 3 rfl rfl; have d4 := O9.out.cell 0 4 rfl rfl; have d5 := O9.out.cell 0 5 rfl rfl; have d6 := O9.out.cell 0 6 rfl rfl; have d7 := O9.out.cell 0 7 rfl rfl; have d8 := O9.out.cell 0 8 rfl rfl; have d9 := O9.out.cell 0 9 rfl rfl
      have x0 := O9.out.cell 1 0 rfl rfl
      have x1 := O9.out.cell 1 1 rfl rfl
      have x2 := O9.out.cell 1 2 rfl rfl
      have x3 := O9.out.cell 1 3 rfl rfl
      have x4 := O9.out.cell 1 4 rfl rfl
      have x5 := O9.out.cell 1 5 rfl rfl
      have x6 := O9.out.cell 1 6 rfl rfl
      have x7 := O9.out.cell 1 7 rfl rfl
      have x8 := O9.out.cell 1 8 rfl rfl
      have x9 := O9.out.cell 1 9 rfl rfl
      go_wp2_with fail
      have HN : ∀ u : World, ScrAt u ⟨⟨0, 0, 0, 0, 0, 0⟩, [], [], [], []⟩ (.slice none 0 0) (.slice none 0 0) (.slice none 0 0) (.slice none 0 0) := fun u => ⟨⟨none, 0, rfl, .inl rfl⟩, ⟨none, 0, rfl, .inl rfl⟩, ⟨none, 0, rfl, .inl rfl⟩, ⟨none, 0, rfl, .inl rfl⟩⟩
      refine (same_lit 0 0 0 0 0 0 [] [] [] [] none 0 none 0 none 0 none 0 v9 (HN v9) (by decide) (by decide) (by decide) none 0 none 0 none 0 none 0 (HN v9) (fun t ht => by cases ht) (fun t ht => by cases ht)).mono ?_
      rintro r u10 ⟨rfl, g⟩
      have G10 := Lib.hid (gb_trans O9.out.grow g.out)
      clear O9 g
      go_wp2
      go_ret
      exact ⟨rfl, gb_below G10.out⟩
  | ok s =>
    obtain ⟨hok, hput⟩ := put_get HM.out.2 hg
    obtain ⟨k1, k2, k3, k4, k5⟩ := ok_bounds hok
    obtain ⟨k6, k7⟩ := got_small hok
    rw [hput] at k5
    obtain ⟨⟨co, ct, cr, ck, cm, cw⟩, f, d, A, p⟩ := s
    dsimp only at k1 k2 k3 k5 k6 k7
    have K6 := Lib.hid k6
    have K7 := Lib.hid k7
    have HG := Lib.hid hg
    clear k4 hok hput k6 k7
    refine (get_ok_own Y6.out HM.out.2 (by omega) co ct cr ck cm cw f d p A hg).mono ?_
    rintro r u8 ⟨ga, gc, ea, ec, ba, bc, qa, qc, rfl, g, OS⟩
    have G8 := Lib.hid (gb_trans G6.out g.out)
    have O8 : Hid (Own w (u8.alloc (.cells #[.int .i64 co, .int .i64 ct, .int .i64 cr, .int .i64 ck, .int .i64 cm, .int .i64 cw, .slice ga f.length gc, .slice ea d.length ec, .slice ba A.length bc, .slice qa p.length qc] 30)) [(u8.heap.size, 30, [.int .i64 co, .int .i64 ct, .int .i64 cr, .int .i64 ck, .int .i64 cm, .int .i64 cw, .slice ga f.length gc, .slice ea d.length ec, .slice ba A.length bc, .slice qa p.length qc])]) := ((Own.start w).grown G8.out).alloc 30 [.int .i64 co, .int .i64 ct, .int .i64 cr, .int .i64 ck, .int .i64 cm, .int .i64 cw, .slice ga f.length gc, .slice ea d.length ec, .slice ba A.length bc, .slice qa p.length qc]
    have OS8 := Lib.hid (OS.out.grown (World.grownBy_alloc u8 (.cells #[.int .i64 co, .int .i64 ct, .int .i64 cr, .int .i64 ck, .int .i64 cm, .int .i64 cw, .slice ga f.length gc, .slice ea d.length ec, .slice ba A.length bc, .slice qa p.length qc] 30) none))
    clear G6 g Y6 OS hg
    go_upto_region 6 with fail
    generalize u8.alloc _ = v8 at *
    generalize u8.heap.size = tb at *
    go_wp2_with fail
    refine (refget_any a1 cap1 M v8 (HM.out.grown O8.out.grow) (by omega)).mono ?_
    rintro r u9 ⟨g, ⟨s2, fv, dv, av, pv, hr, E, OT⟩ | ⟨pl', er', hr, he, E⟩⟩
    · have e : Except.ok s2 = (Except.ok ⟨⟨co, ct, cr, ck, cm, cw⟩, f, d, A, p⟩ : Except (Nat × Int) Scr) := E.out.symm.trans HG.out
      cases e
      obtain ⟨ha, hc, ia, ic, ja, jc, ka, kc, rfl, rfl, rfl, rfl⟩ := cells_of OT.out
      obtain rfl : r = .returned (.tuple #[.agg #[.int .i64 co, .int .i64 ct, .int .i64 cr, .int .i64 ck, .int .i64 cm, .int .i64 cw, .slice ha f.length hc, .slice ia d.length ic, .slice ja A.length jc, .slice ka p.length kc], .int .i64 (-1), .int .i64 0]) := hr
      have O9 : Hid (Own w (u9.alloc (.cells #[.int .i64 co, .int .i64 ct, .int .i64 cr, .int .i64 ck, .int .i64 cm, .int .i64 cw, .slice ha f.length hc, .slice ia d.length ic, .slice ja A.length jc, .slice ka p.length kc] 34)) [(u9.heap.size, 34, [.int .i64 co, .int .i64 ct, .int .i64 cr, .int .i64 ck, .int .i64 cm, .int .i64 cw, .slice ha f.length hc, .slice ia d.length ic, .slice ja A.length jc, .slice ka p.length kc]), (tb, 30, [.int .i64 co, .int .i64 ct, .int .i64 cr, .int .i64 ck, .int .i64 cm, .int .i64 cw, .slice ga f.length gc, .slice ea d.length ec, .slice ba A.length bc, .slice qa p.length qc])]) := (O8.out.grown g.out).alloc 34 [.int .i64 co, .int .i64 ct, .int .i64 cr, .int .i64 ck, .int .i64 cm, .int .i64 cw, .slice ha f.length hc, .slice ia d.length ic, .slice ja A.length jc, .slice ka p.length kc]
      have OS9 := Lib.hid (OS8.out.grown (gb_alloc g.out (.cells #[.int .i64 co, .int .i64 ct, .int .i64 cr, .int .i64 ck, .int .i64 cm, .int .i64 cw, .slice ha f.length hc, .slice ia d.length ic, .slice ja A.length jc, .slice ka p.length kc] 34)))
      have OT9 := Lib.hid (OT.out.grown (World.grownBy_alloc u9 (.cells #[.int .i64 co, .int .i64 ct, .int .i64 cr, .int .i64 ck, .int .i64 cm, .int .i64 cw, .slice ha f.length hc, .slice ia d.length ic, .slice ja A.length jc, .slice ka p.length kc] 34) none))
      clear O8 g G8 E OS8 OT HG
      go_upto_region 7 with fail
      generalize u9.alloc _ = v9 at *
      generalize u9.heap.size = tc at *
      have d0 := O9.out.cell 0 0 rfl rfl; have d1 := O9.out.cell 0 1 rfl rfl; have d2 := O9.out.cell 0 2 rfl rfl; have d3 := O9.out.cell 0 3 rfl rfl; have d4 := O9.out.cell 0 4 rfl rfl; have d5 := O9.out.cell 0 5 rfl rfl; have d6 := O9.out.cell 0 6 rfl rfl; have d7 := O9.out.cell 0 7 rfl rfl; have d8 := O9.out.cell 0 8 rfl rfl; have d9 := O9.out.cell 0 9 rfl rfl
      have x0 := O9.out.cell 1 0 rfl rfl
      have x1 := O9.out.cell 1 1 rfl rfl
      have x2 := O9.out.cell 1 2 rfl rfl
      have x3 := O9.out.cell 1 3 rfl rfl
      have x4 := O9.out.cell 1 4 rfl rfl
      have x5 := O9.out.cell 1 5 rfl rfl
      have x6 := O9.out.cell 1 6 rfl rfl
      have x7 := O9.out.cell 1 7 rfl rfl
      have x8 := O9.out.cell 1 8 rfl rfl
      have x9 := O9.out.cell 1 9 rfl rfl
      go_wp2_with fail
      refine (same_lit co ct cr ck cm cw f d p A ga gc ea ec ba bc qa qc v9 OS9.out.at (by omega) (by omega) (by omega) ha hc ia ic ja jc ka kc OT9.out.at (fun t ht => by have := K6.out t ht; omega) (fun t ht x hx => by have := K7.out t ht x hx; omega)).mono ?_
      rintro r u10 ⟨rfl, g⟩
      have G10 := Lib.hid (gb_trans O9.out.grow g.out)
      clear O9 g OS9 OT9
      go_wp2
      go_ret
      exact ⟨rfl, gb_below G10.out⟩
    · have e : Except.error (pl', er') = (Except.ok ⟨⟨co, ct, cr, ck, cm, cw⟩, f, d, A, p⟩ : Except (Nat × Int) Scr) := E.out.symm.trans HG.out
      cases e

theorem walk (a1 : Option Addr) (len1 cap1 : Nat) (z1 : Nat → Int) (w : World) (w1 : IsRow .u8 w a1 len1 cap1 z1) :
    Calls Try.prog 3 #[.slice a1 len1 cap1] w fun e w' => e = .returned (.bool true) ∧ Below w.heap.size w w' := by
  obtain ⟨a'', c'', e1, hN1⟩ := NumsAt.of_row w1
  have hlen1 := numsL_len len1 z1
  have hB1 := numsL_bytes w1
  have hc : len1 ≤ cap1 ∧ cap1 ≤ maxLen := ⟨w1.1, w1.2.1⟩
  clear w1
  generalize numsL len1 z1 = M1 at *
  subst hlen1
  cases e1
  exact walkIn a1 cap1 M1 w ⟨hN1, hB1⟩ hc

theorem own : ownKnob Try.prog.godebug = none := by kernel_rfl
theorem laidOut : laidOutB Try.prog = true := by kernel_rfl

/-! ### THE ROW's STEP, as the guide has it -/
set_option maxRecDepth 100000 in
theorem lifted (os : Os) (started : os.Started) (H : Type) (enc : TypeId × Value → H) :
    ReturnsInHanded {} Try.checked os 3 .any (Rows.scriptReadsSpec.pre6 enc Try.prog Try.f3 Rows.scriptReadsRow.domain false) (Rows.scriptReadsSpec.post enc Try.prog Try.f3 false true false false) := by
  refine returnsInHanded_of_change (C := Try.checked) own started (by kernel_rfl) Try.func3
    (ChangeSpec.witness6 (enc := enc) (C := Try.checked) false ⟨#[], #[.slice none 0 0], []⟩ 8 (by kernel_rfl) (by kernel_rfl) (by kernel_rfl) (by kernel_rfl)) ?_
  intro W base args ds gs before hval0 hW hcnd _
  have hval : ∀ (j : Nat) t v, Try.f3.params[j]? = some t → args[j]? = some v → Value.okWide Try.prog W .any base t v := hval0
  have hW' := hW
  obtain ⟨p, q, hA0, hV, rfl, hfz, hnd⟩ := hW
  have hA : DataW.TrodAll enc Try.prog W 0 (fun _ => true) true Try.f3.params.toList args.toList ds p := hA0
  rw [Try.params3] at hA hval
  obtain ⟨v0, vs0, d0, ds0, p0, q0, hargs, rfl, rfl, h0, r0⟩ := trodAll_cons hA
  obtain ⟨rfl, rfl, rfl⟩ := trodAll_nil r0
  obtain rfl : args = #[v0] := by cases args; simp_all
  obtain ⟨rfl, rfl⟩ := trodVars_none hV
  obtain ⟨a0, len0, cap0, rfl⟩ := okWide_slice Try.underlying22 (hval 0 22 v0 rfl rfl)
  have k0 := h0
  have lt0 : ∀ x ∈ p0, x.block < W.heap.size := by obtain ⟨m, hm⟩ := k0; exact DataW.trod_lt m _ _ _ hm
  obtain ⟨z0, w0⟩ : ∃ z, IsRow .u8 W a0 len0 cap0 z := by
    obtain ⟨fuel, hf⟩ := h0
    exact isRow_of Try.underlying22 Try.underlying5 (by kernel_rfl) hf
  clear hA0 hval0
  refine (walk a0 len0 cap0 z0 W w0).mono fun e W' ⟨he, bel⟩ => ?_
  subst he
  exact ⟨_, rfl, _, _, _, [], _, [], hW', trodAll_mk1 (shut_bool Try.underlying4 _), (trodAll_cons_mk (Below.trod laidOut (by kernel_rfl) (of_decide_eq_true (by kernel_rfl)) k0 bel lt0) trodAll_mk0), rfl, bel.frame _, fun h => by cases h⟩

theorem over : Rows.scriptReadsRow.holds Try.pinned (OpenSpec.ofChange Rows.scriptReadsSpec) :=
  OpenClaim.holds_of_wide 3 Try.f3 rfl rfl rfl rfl rfl rfl rfl ⟨rfl, rfl, rfl, rfl, rfl⟩ rfl rfl rfl rfl rfl (by kernel_rfl) Try.func3 (by kernel_rfl)
    (of_decide_eq_true (by kernel_rfl)) (by unfold Func.isWrapper; first | (rw [if_pos (by decide +kernel)]; kernel_rfl) | (rw [if_neg (by decide +kernel)]; exact ⟨rfl, rfl⟩))
    (fun os started H enc _ => lifted os started H enc)

theorem proved : Rows.ScriptReadsSaid := over
#print axioms proved
end Go.Proofs.Ytinmhefkmjlelaa.scriptReads
