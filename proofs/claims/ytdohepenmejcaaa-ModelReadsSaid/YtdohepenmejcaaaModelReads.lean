/-
  ModelReads: what a try read that isn't in the values that it is held against doesn't fit, and objects that it didn't read play no part; for any values, any try, any object and any number.
  Conditions: none (of no values, or more than 20, and of more than 50 accesses, the law says nothing by itself).
-/
import Derived.Test.YtdohepenmejcaaaRows
import Derived.Test.YtdohepenmejcaaaMb
import Derived.Test.YtdohepenmejcaaaMf
import Derived.Deep.QuietTactic
import Derived.Deep.RegionHeld3
import Derived.BigQuiet
namespace Go.Proofs.Ytdohepenmejcaaa.modelReads
open Go.ChangeShapes Go.WideShapes Go.ChangeAt Go.RowKit Go.Proofs.Ytdohepenmejcaaa.base Go.Proofs.Ytdohepenmejcaaa.hs Go.Proofs.Ytdohepenmejcaaa.lg Go.Proofs.Ytdohepenmejcaaa.md
set_option linter.unusedVariables false
set_option maxRecDepth 100000

theorem walk_out (a0 : Option Addr) (len0 cap0 : Nat) (t1 : Tr) (va1 : Option Addr) (vc1 : Nat) (a2 a3 : Int) (w : World) (h : (len0 : Int) < 1 ∨ 20 < (len0 : Int) ∨ 50 < (t1.ac.length : Int)) : Calls Try.prog 8 #[.slice a0 len0 cap0, .agg ⟨trC t1 (.slice va1 t1.ac.length vc1)⟩, .int .u8 a2, .int .i64 a3] w fun e w' => e = .returned (.bool true) ∧ Below w.heap.size w w' := by
  show Calls Try.prog 8 #[.slice a0 len0 cap0, .agg #[.int .i64 t1.th, .int .i64 t1.tx, .int .i64 t1.at_, .int .i64 t1.st, .int .i64 t1.b, .int .i64 t1.en, .int .i64 t1.re, .bool t1.co, .slice va1 t1.ac.length vc1], .int .u8 a2, .int .i64 a3] w _
  by_cases h0 : (len0 : Int) < 1
  · have O0 := Lib.hid ((base.Own.start w).alloc 33 [.int .i64 t1.th, .int .i64 t1.tx, .int .i64 t1.at_, .int .i64 t1.st, .int .i64 t1.b, .int .i64 t1.en, .int .i64 t1.re, .bool t1.co, .slice va1 t1.ac.length vc1]); go_enter Try.func8, Try.ntmps8; go_wp2_with fail; refine (alive_any _).mono ?_; rintro e v1 ⟨rfl, g1⟩; have O1 := Lib.hid (O0.out.grown g1.out); clear O0; have p0 := O1.out.cell 0 0 rfl rfl; have p1 := O1.out.cell 0 1 rfl rfl; have p2 := O1.out.cell 0 2 rfl rfl; have p3 := O1.out.cell 0 3 rfl rfl; have p4 := O1.out.cell 0 4 rfl rfl; have p5 := O1.out.cell 0 5 rfl rfl; have p6 := O1.out.cell 0 6 rfl rfl; have p7 := O1.out.cell 0 7 rfl rfl; have p8 := O1.out.cell 0 8 rfl rfl; go_wp2; go_ret; exact ⟨rfl, O1.out.below⟩
  have q0 : 1 ≤ (len0 : Int) := by omega
  by_cases h1 : 20 < (len0 : Int)
  · have O0 := Lib.hid ((base.Own.start w).alloc 33 [.int .i64 t1.th, .int .i64 t1.tx, .int .i64 t1.at_, .int .i64 t1.st, .int .i64 t1.b, .int .i64 t1.en, .int .i64 t1.re, .bool t1.co, .slice va1 t1.ac.length vc1]); go_enter Try.func8, Try.ntmps8; go_wp2_with fail; refine (alive_any _).mono ?_; rintro e v1 ⟨rfl, g1⟩; have O1 := Lib.hid (O0.out.grown g1.out); clear O0; have p0 := O1.out.cell 0 0 rfl rfl; have p1 := O1.out.cell 0 1 rfl rfl; have p2 := O1.out.cell 0 2 rfl rfl; have p3 := O1.out.cell 0 3 rfl rfl; have p4 := O1.out.cell 0 4 rfl rfl; have p5 := O1.out.cell 0 5 rfl rfl; have p6 := O1.out.cell 0 6 rfl rfl; have p7 := O1.out.cell 0 7 rfl rfl; have p8 := O1.out.cell 0 8 rfl rfl; go_wp2; go_ret; exact ⟨rfl, O1.out.below⟩
  have q1 : (len0 : Int) ≤ 20 := by omega
  have h2 : 50 < (t1.ac.length : Int) := by omega
  have O0 := Lib.hid ((base.Own.start w).alloc 33 [.int .i64 t1.th, .int .i64 t1.tx, .int .i64 t1.at_, .int .i64 t1.st, .int .i64 t1.b, .int .i64 t1.en, .int .i64 t1.re, .bool t1.co, .slice va1 t1.ac.length vc1]); go_enter Try.func8, Try.ntmps8; go_wp2_with fail; refine (alive_any _).mono ?_; rintro e v1 ⟨rfl, g1⟩; have O1 := Lib.hid (O0.out.grown g1.out); clear O0; have p0 := O1.out.cell 0 0 rfl rfl; have p1 := O1.out.cell 0 1 rfl rfl; have p2 := O1.out.cell 0 2 rfl rfl; have p3 := O1.out.cell 0 3 rfl rfl; have p4 := O1.out.cell 0 4 rfl rfl; have p5 := O1.out.cell 0 5 rfl rfl; have p6 := O1.out.cell 0 6 rfl rfl; have p7 := O1.out.cell 0 7 rfl rfl; have p8 := O1.out.cell 0 8 rfl rfl; go_wp2; go_ret; exact ⟨rfl, O1.out.below⟩

set_option maxHeartbeats 4000000 in
theorem walk (a0 : Option Addr) (len0 cap0 : Nat) (z0 : Nat → Int) (t1 : Tr) (va1 : Option Addr) (vc1 : Nat) (a2 a3 : Int) (w : World) (w0 : IsRow .i64 w a0 len0 cap0 z0) (w1 : t1.ac.length ≤ vc1 ∧ vc1 ≤ maxLen ∧ IsL accC w va1 t1.ac ∧ ∀ y ∈ t1.ac, AccWf y) (w2 : (Lit.int .u8 a2).wf = true) (w3 : (Lit.int .i64 a3).wf = true) : Calls Try.prog 8 #[.slice a0 len0 cap0, .agg ⟨trC t1 (.slice va1 t1.ac.length vc1)⟩, .int .u8 a2, .int .i64 a3] w fun e w' => e = .returned (.bool true) ∧ Below w.heap.size w w' := by
  by_cases hbig : (len0 : Int) < 1 ∨ 20 < (len0 : Int) ∨ 50 < (t1.ac.length : Int)
  · exact walk_out a0 len0 cap0 t1 va1 vc1 a2 a3 w hbig
  have l0 : (len0 : Int) ≤ 20 := by omega
  have l01 : 1 ≤ (len0 : Int) := by omega
  have l1 : (t1.ac.length : Int) ≤ 50 := by omega
  have HZ := Lib.hid (IsNums.of_row w0)
  have HA := Lib.hid w1.2.2.1
  have HW := Lib.hid w1.2.2.2
  obtain ⟨hu0, hu1⟩ := bounds_u8 w2
  obtain ⟨o, ho⟩ : ∃ o : Nat, a2.tmod (len0 : Int) = o := ⟨(a2.tmod (len0 : Int)).toNat, by have := Int.tmod_nonneg (len0 : Int) hu0; omega⟩
  have hol : (o : Int) < (len0 : Int) := by have := Int.tmod_lt_of_pos a2 (show 0 < (len0 : Int) by omega); omega
  have hol2 : o < len0 := by omega
  have hz : ((len0 : Int) == 0) = false := by simp; omega
  clear w0 w1 w2 w3 hbig
  show Calls Try.prog 8 #[.slice a0 len0 cap0, .agg #[.int .i64 t1.th, .int .i64 t1.tx, .int .i64 t1.at_, .int .i64 t1.st, .int .i64 t1.b, .int .i64 t1.en, .int .i64 t1.re, .bool t1.co, .slice va1 t1.ac.length vc1], .int .u8 a2, .int .i64 a3] w _
  have O0 := Lib.hid ((base.Own.start w).alloc 33 [.int .i64 t1.th, .int .i64 t1.tx, .int .i64 t1.at_, .int .i64 t1.st, .int .i64 t1.b, .int .i64 t1.en, .int .i64 t1.re, .bool t1.co, .slice va1 t1.ac.length vc1])
  go_enter Try.func8, Try.ntmps8
  go_wp2_with fail
  refine (alive_any _).mono ?_
  rintro e v1 ⟨rfl, g1⟩
  have O1 := Lib.hid (O0.out.grown g1.out)
  clear O0 g1
  have p8 := O1.out.cell 0 8 rfl rfl
  go_wp2
  go_loopw [10, 11] (fun rv iv wr => ∃ (k : Nat) (R : Bool), k ≤ t1.ac.length ∧ iv = .int .i64 k ∧ rv = .bool R ∧ Hid (readsO t1.ac o k = R) ∧ Hid (v1.grownBy wr none)) (fun _ iv _ => (t1.ac.length - intOf iv).toNat)
  case atStart => exact ⟨0, false, by omega, rfl, rfl, rfl, gb_refl _ _⟩
  case round =>
    obtain ⟨k, R, hk, rfl, rfl, HR, G⟩ := hrel
    clear p8
    have O5 := Lib.hid (O1.out.grown G.out)
    by_cases hlt : k < t1.ac.length
    · have hlt' : (k : Int) < (t1.ac.length : Int) := by omega
      have hk6 : (k : Int) < 1000000 := by omega
      have p8 := O5.out.cell 0 8 rfl rfl
      have hgk := List.getElem?_eq_getElem hlt
      obtain ⟨b1, o1, rfl, hb1, c0, c1, c2, c3, c4, c5⟩ := acc6 (HA.out.grown O5.out.grow) hgk
      have HS := Lib.hid (readsO_step (o := (o : Int)) hgk)
      generalize t1.ac[k] = y at *
      obtain ⟨pl, ak, ob, va, own, rel⟩ := y
      dsimp only at HS c0 c1 c2 c3 c4 c5
      clear hgk
      have G1 := Lib.hid (gb_alloc G.out (.cells #[.int .i64 pl, .int .i64 ak, .int .i64 ob, .int .i64 va, .bool own, .bool rel] 54))
      cases R with
      | true =>
        have HN := Lib.hid (show readsO t1.ac o (k + 1) = true by rw [HS.out, HR.out]; rfl)
        go_wp2; go_roundw; (case rel => exact ⟨k + 1, _, by omega, by go_num, rfl, HN, G1⟩); (case measure => simp [intOf]; omega)
      | false =>
        by_cases h2 : ak = 2
        · have f2 : (ak == 2) = true := by simp [h2]
          by_cases h3 : ob = (o : Int)
          · have f3 : (ob == (o : Int)) = true := by simp [h3]
            cases rel with
            | true =>
              have HN := Lib.hid (show readsO t1.ac o (k + 1) = false by rw [HS.out, HR.out]; simp)
              clear h2 h3
              go_wp2; go_roundw; (case rel => exact ⟨k + 1, _, by omega, by go_num, rfl, HN, G1⟩); (case measure => simp [intOf]; omega)
            | false =>
              cases own with
              | true =>
                have HN := Lib.hid (show readsO t1.ac o (k + 1) = false by rw [HS.out, HR.out]; simp)
                clear h2 h3
                go_wp2; go_roundw; (case rel => exact ⟨k + 1, _, by omega, by go_num, rfl, HN, G1⟩); (case measure => simp [intOf]; omega)
              | false =>
                have HN := Lib.hid (show readsO t1.ac o (k + 1) = true by rw [HS.out, HR.out]; simp [h2, h3])
                clear h2 h3
                go_wp2; go_roundw; (case rel => exact ⟨k + 1, _, by omega, by go_num, rfl, HN, G1⟩); (case measure => simp [intOf]; omega)
          · have f3 : (ob == (o : Int)) = false := by simp [h3]
            have HN := Lib.hid (show readsO t1.ac o (k + 1) = false by rw [HS.out, HR.out]; simp [h3])
            clear h2 h3
            go_wp2; go_roundw; (case rel => exact ⟨k + 1, _, by omega, by go_num, rfl, HN, G1⟩); (case measure => simp [intOf]; omega)
        · have f2 : (ak == 2) = false := by simp [h2]
          have HN := Lib.hid (show readsO t1.ac o (k + 1) = false by rw [HS.out, HR.out]; simp [h2])
          clear h2
          go_wp2; go_roundw; (case rel => exact ⟨k + 1, _, by omega, by go_num, rfl, HN, G1⟩); (case measure => simp [intOf]; omega)
    · obtain rfl : k = t1.ac.length := by omega
      have p0 := O5.out.cell 0 0 rfl rfl; have p1 := O5.out.cell 0 1 rfl rfl; have p2 := O5.out.cell 0 2 rfl rfl; have p3 := O5.out.cell 0 3 rfl rfl; have p4 := O5.out.cell 0 4 rfl rfl; have p5 := O5.out.cell 0 5 rfl rfl; have p6 := O5.out.cell 0 6 rfl rfl; have p7 := O5.out.cell 0 7 rfl rfl; have p8 := O5.out.cell 0 8 rfl rfl
      have HZ5 := Lib.hid (HZ.out.grown O5.out.grow)
      have HZS := Lib.hid (HZ5.out.grown (World.grownBy_alloc wr (.cells #[] 2) none)).src
      have HA5 := Lib.hid (HA.out.grown O5.out.grow)
      clear HZ HA O1
      go_wp2_with (at_builtin; go_loud (refine append64 _ rfl (.tmp 71) (.tmp 72) rfl wr.heap.size _ 0 [] rfl (ownsRow_empty wr _ 1) a0 len0 cap0 (vals z0 len0) rfl (by simp [vals]) HZS.out (one_nums _ _ _) (by omega) (by simp) ?_); intro b' c' u2 ho2 hg2 hv2)
      simp only [Nat.zero_add, List.nil_append] at ho2
      have HG2 := Lib.hid (gb_overO (World.grownBy_alloc wr _ none) hg2 (by intro i e; cases e; exact Nat.le_refl _))
      obtain ⟨g, rfl, hgb, cg, fg⟩ : ∃ g, b' = some ⟨g, 0, none⟩ ∧ wr.heap.size ≤ g ∧ u2.cell? ⟨g, o, none⟩ = some (.int .i64 (z0 o)) ∧ u2.frozen? ⟨g, o, none⟩ = false := by
        rcases ho2.2 with ⟨_, h0⟩ | ⟨g, cap, cur, e, hb, hg, _⟩
        · omega
        · injection e with e1 e2 e3
          subst e1
          exact ⟨g, rfl, hb, (ho2.cellAt o (by omega)).trans (vals_get _ len0 o hol2), by simp [World.frozen?, hg]⟩
      have NB : Hid (IsNums .i64 (u2.setCell ⟨g, o, none⟩ (.int .i64 a3)) (some ⟨g, 0, none⟩) len0 (fun j => if j = o then a3 else z0 j)) := Lib.hid (IsNums.of_own (by have h := ownsRow_set ho2 rfl hol2 (.int .i64 a3); rw [vals_set] at h; exact h))
      have G3 := Lib.hid (gb_over HG2.out (gb_setB (gb_refl u2 (some g)) (i := o) (.int .i64 a3)) hgb)
      have O6 := Lib.hid (O5.out.grown G3.out)
      have HZ6 := Lib.hid (HZ5.out.grown G3.out)
      have HA6 := Lib.hid (HA5.out.grown G3.out)
      obtain ⟨zb, zo, rfl, hzb, cz⟩ := HZ6.out.at1 hol2
      have HCZ := Lib.hid cz
      have hol' := hol
      obtain ⟨X, hX⟩ : ∃ X, fits len0 z0 t1.ac = X := ⟨_, rfl⟩
      obtain ⟨Y, hY⟩ : ∃ Y, fits len0 (fun j => if j = o then a3 else z0 j) t1.ac = Y := ⟨_, rfl⟩
      have HX := Lib.hid hX
      have HY := Lib.hid hY
      have F1 := Lib.hid (fun (h : readsO t1.ac o t1.ac.length = false) => fits_other (n := len0) (z := z0) (y := fun j => if j = o then a3 else z0 j) (l := t1.ac) (o := o) h (fun i hi => (if_neg hi).symm))
      have F2 := Lib.hid (fun (h : readsO t1.ac o t1.ac.length = true) => fits_both (n := len0) (z := z0) (y := fun j => if j = o then a3 else z0 j) (l := t1.ac) (o := o) h)
      have HYF := Lib.hid (show (fun j => if j = o then a3 else z0 j) o = a3 from if_pos rfl)
      clear hX hY cz p0 p1 p2 p3 p4 p5 p6 p7 p8
      go_wp2
      clear ho2 hg2 hv2 HG2 HZS HZ5 HA5 O5 G cg fg
      generalize u2.setCell ⟨g, o, none⟩ (.int .i64 a3) = u3 at *
      generalize (fun j => if j = o then a3 else z0 j) = yf at *
      have p0 := O6.out.cell 0 0 rfl rfl; have p1 := O6.out.cell 0 1 rfl rfl; have p2 := O6.out.cell 0 2 rfl rfl; have p3 := O6.out.cell 0 3 rfl rfl; have p4 := O6.out.cell 0 4 rfl rfl; have p5 := O6.out.cell 0 5 rfl rfl; have p6 := O6.out.cell 0 6 rfl rfl; have p7 := O6.out.cell 0 7 rfl rfl; have p8 := O6.out.cell 0 8 rfl rfl
      have hws := O6.out.lt 0 rfl
      have K0 : Hid (u3.grownBy u3.drew none) := Lib.hid (gb_drew (gb_refl u3 none))
      go_region_held3 (fun w' => Hid (u3.grownBy w' none) ∧ w'.cell? ⟨w.heap.size, 0, none⟩ = some (.int .i64 t1.th) ∧ w'.cell? ⟨w.heap.size, 1, none⟩ = some (.int .i64 t1.tx) ∧ w'.cell? ⟨w.heap.size, 2, none⟩ = some (.int .i64 t1.at_) ∧ w'.cell? ⟨w.heap.size, 3, none⟩ = some (.int .i64 t1.st) ∧ w'.cell? ⟨w.heap.size, 4, none⟩ = some (.int .i64 t1.b) ∧ w'.cell? ⟨w.heap.size, 5, none⟩ = some (.int .i64 t1.en) ∧ w'.cell? ⟨w.heap.size, 6, none⟩ = some (.int .i64 t1.re) ∧ w'.cell? ⟨w.heap.size, 7, none⟩ = some (.bool t1.co) ∧ w'.cell? ⟨w.heap.size, 8, none⟩ = some (.slice va1 t1.ac.length vc1)) (go_keep) (first
        | (go_at_call_of 18 cap0; refine (fits_any _ len0 cap0 z0 t1 va1 vc1 _ (HZ6.out.grown (by refine Hid.out ?_; assumption)) (HA6.out.grown (by refine Hid.out ?_; assumption)) HW.out (by omega)).mono ?_; rw [HX.out]; rintro r u5 ⟨rfl, g5⟩; have K5 : Hid (u3.grownBy u5 none) := Lib.hid (gb_trans (by refine Hid.out ?_; assumption) g5.out); have p50 := K5.out.cell p0 (by simp); have p51 := K5.out.cell p1 (by simp); have p52 := K5.out.cell p2 (by simp); have p53 := K5.out.cell p3 (by simp); have p54 := K5.out.cell p4 (by simp); have p55 := K5.out.cell p5 (by simp); have p56 := K5.out.cell p6 (by simp); have p57 := K5.out.cell p7 (by simp); have p58 := K5.out.cell p8 (by simp); have z5 := K5.out.cell HCZ.out (by simp))
        | (go_at_call_of 18 c'; refine (fits_any _ len0 c' yf t1 va1 vc1 _ (NB.out.grown (by refine Hid.out ?_; assumption)) (HA6.out.grown (by refine Hid.out ?_; assumption)) HW.out (by omega)).mono ?_; rw [HY.out]; rintro r u6 ⟨rfl, g6⟩; have K6 : Hid (u3.grownBy u6 none) := Lib.hid (gb_trans (by refine Hid.out ?_; assumption) g6.out); have p60 := K6.out.cell p0 (by simp); have p61 := K6.out.cell p1 (by simp); have p62 := K6.out.cell p2 (by simp); have p63 := K6.out.cell p3 (by simp); have p64 := K6.out.cell p4 (by simp); have p65 := K6.out.cell p5 (by simp); have p66 := K6.out.cell p6 (by simp); have p67 := K6.out.cell p7 (by simp); have p68 := K6.out.cell p8 (by simp); have z6 := K6.out.cell HCZ.out (by simp)))
      all_goals
        cases R with
        | false =>
          have h := F1.out HR.out
          rw [HX.out, HY.out] at h
          subst h
          cases X
          all_goals
            go_wp2
            go_ret
            first | exact ⟨rfl, bl_none O6.out.below K5.out⟩ | exact ⟨rfl, bl_none O6.out.below K6.out⟩
        | true =>
          by_cases ha3 : a3 = z0 o
          · have f3 : (a3 == z0 o) = true := by simp [ha3]
            clear ha3
            cases X <;> cases Y
            all_goals
              go_wp2
              go_ret
              first | exact ⟨rfl, bl_none O6.out.below K5.out⟩ | exact ⟨rfl, bl_none O6.out.below K6.out⟩
          · have f3 : (a3 == z0 o) = false := by simp [ha3]
            have HXY := Lib.hid (show X = true → Y = true → False from fun h1 h2 => ha3 (by
              have h := F2.out HR.out (HX.out.trans h1) (HY.out.trans h2)
              rw [HYF.out] at h
              exact h.symm))
            clear ha3
            cases X
            · go_wp2
              go_ret
              first | exact ⟨rfl, bl_none O6.out.below K5.out⟩ | exact ⟨rfl, bl_none O6.out.below K6.out⟩
            · cases Y
              · go_wp2
                go_ret
                first | exact ⟨rfl, bl_none O6.out.below K5.out⟩ | exact ⟨rfl, bl_none O6.out.below K6.out⟩
              · exact (HXY.out rfl rfl).elim

theorem own : ownKnob Try.prog.godebug = none := by kernel_rfl
theorem laidOut : laidOutB Try.prog = true := by kernel_rfl

/-! ### THE ROW's STEP, as the guide has it -/
set_option maxRecDepth 100000 in
theorem lifted (os : Os) (started : os.Started) (H : Type) (enc : TypeId × Value → H) :
    ReturnsInHanded {} Try.checked os 8 .any (Rows.modelReadsSpec.pre6 enc Try.prog Try.f8 Rows.modelReadsRow.domain false) (Rows.modelReadsSpec.post enc Try.prog Try.f8 false true false false) := by
  refine returnsInHanded_of_change (C := Try.checked) own started (by kernel_rfl) Try.func8
    (ChangeSpec.witness6 (enc := enc) (C := Try.checked) false ⟨#[], #[.slice none 0 0, .agg #[.int .i64 0, .int .i64 0, .int .i64 0, .int .i64 0, .int .i64 0, .int .i64 0, .int .i64 0, .bool false, .slice none 0 0], .int .u8 0, .int .i64 0], []⟩ 8 (by kernel_rfl) (by kernel_rfl) (by kernel_rfl) (by kernel_rfl)) ?_
  intro W base args ds gs before hval0 hW hcnd _
  have hval : ∀ (j : Nat) t v, Try.f8.params[j]? = some t → args[j]? = some v → Value.okWide Try.prog W .any base t v := hval0
  have hW' := hW
  obtain ⟨p, q, hA0, hV, rfl, hfz, hnd⟩ := hW
  have hA : DataW.TrodAll enc Try.prog W 0 (fun _ => true) true Try.f8.params.toList args.toList ds p := hA0
  rw [Try.params8] at hA hval
  obtain ⟨v0, vs0, d0, ds0, p0, q0, hargs, rfl, rfl, h0, r0⟩ := trodAll_cons hA
  obtain ⟨v1, vs1, d1, ds1, p1, q1, rfl, rfl, rfl, h1, r1⟩ := trodAll_cons r0
  obtain ⟨v2, vs2, d2, ds2, p2, q2, rfl, rfl, rfl, h2, r2⟩ := trodAll_cons r1
  obtain ⟨v3, vs3, d3, ds3, p3, q3, rfl, rfl, rfl, h3, r3⟩ := trodAll_cons r2
  obtain ⟨rfl, rfl, rfl⟩ := trodAll_nil r3
  obtain rfl : args = #[v0, v1, v2, v3] := by cases args; simp_all
  obtain ⟨rfl, rfl⟩ := trodVars_none hV
  obtain ⟨a0, len0, cap0, rfl⟩ := okWide_slice Try.underlying22 (hval 0 22 v0 rfl rfl)
  have k0 := h0
  have lt0 : ∀ x ∈ p0, x.block < W.heap.size := by obtain ⟨m, hm⟩ := k0; exact DataW.trod_lt m _ _ _ hm
  obtain ⟨z0, w0⟩ : ∃ z, IsRow .i64 W a0 len0 cap0 z := by
    obtain ⟨fuel, hf⟩ := h0
    exact isRow_of Try.underlying22 Try.underlying2 (by kernel_rfl) hf
  obtain ⟨cs1, rfl, sz1⟩ := okWide_struct Try.underlying33 (hval 1 33 v1 rfl rfl)
  have k1 := h1
  have lt1 : ∀ x ∈ p1, x.block < W.heap.size := by obtain ⟨m, hm⟩ := k1; exact DataW.trod_lt m _ _ _ hm
  obtain ⟨t1, va1, vc1, rfl, w1⟩ : ∃ (t : Tr) (va : Option Addr) (vc : Nat), cs1 = ⟨trC t (.slice va t.ac.length vc)⟩ ∧ t.ac.length ≤ vc ∧ vc ≤ maxLen ∧ IsL accC W va t.ac ∧ ∀ y ∈ t.ac, AccWf y := by
    obtain ⟨fuel, hf⟩ := h1
    exact try_of (sz1.trans (by kernel_rfl)) hf
  obtain ⟨a2, rfl, rfl, rfl, w2⟩ := open_int Try.underlying5 (hval 2 5 v2 rfl rfl) h2
  obtain ⟨a3, rfl, rfl, rfl, w3⟩ := open_int Try.underlying2 (hval 3 2 v3 rfl rfl) h3
  clear hA0 hval0
  refine (walk a0 len0 cap0 z0 t1 va1 vc1 a2 a3 W w0 w1 w2 w3).mono fun e W' ⟨he, bel⟩ => ?_
  subst he
  exact ⟨_, rfl, _, _, _, [], _, [], hW', trodAll_mk1 (shut_bool Try.underlying4 _), (trodAll_cons_mk (Below.trod laidOut (by kernel_rfl) (of_decide_eq_true (by kernel_rfl)) k0 bel lt0) (trodAll_cons_mk (Below.trod laidOut (by kernel_rfl) (of_decide_eq_true (by kernel_rfl)) k1 bel lt1) (trodAll_cons_mk (shut_int Try.underlying5 w2) (trodAll_cons_mk (shut_int Try.underlying2 w3) trodAll_mk0)))), rfl, bel.frame _, fun h => by cases h⟩

theorem over : Rows.modelReadsRow.holds Try.pinned (OpenSpec.ofChange Rows.modelReadsSpec) :=
  OpenClaim.holds_of_wide 8 Try.f8 rfl rfl rfl rfl rfl rfl rfl ⟨rfl, rfl, rfl, rfl, rfl⟩ rfl rfl rfl rfl rfl (by kernel_rfl) Try.func8 (by kernel_rfl)
    (of_decide_eq_true (by kernel_rfl)) (by unfold Func.isWrapper; first | (rw [if_pos (by decide +kernel)]; kernel_rfl) | (rw [if_neg (by decide +kernel)]; exact ⟨rfl, rfl⟩))
    (fun os started H enc _ => lifted os started H enc)

theorem proved : Rows.ModelReadsSaid := over
#print axioms proved
end Go.Proofs.Ytdohepenmejcaaa.modelReads
