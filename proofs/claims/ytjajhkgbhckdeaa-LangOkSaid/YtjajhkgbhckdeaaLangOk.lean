/-
  LangOk: whether any operation, and any list, may be, the sum behind the operation, and how many of the list read or write, are the document's; for any list, any operation, any number of objects, any sum.
  Conditions: none (of a list of more than 50 operations the law says nothing by itself).
-/
import Derived.Test.YtjajhkgbhckdeaaRows
import Derived.Test.YtjajhkgbhckdeaaOpen
import Derived.Test.YtjajhkgbhckdeaaAliveL
namespace Go.Proofs.Ytjajhkgbhckdeaa.langOk
open Go.ChangeShapes Go.WideShapes Go.ChangeAt Go.RowKit Go.Proofs.Ytjajhkgbhckdeaa.base Go.Proofs.Ytjajhkgbhckdeaa.lg
set_option linter.unusedVariables false

theorem walk_long (a0 : Option Addr) (len0 cap0 : Nat) (k o a n s : Int) (w : World) (h : 50 < len0) :
    Calls Try.prog 3 #[.slice a0 len0 cap0, .agg #[.int .i64 k, .int .i64 o, .int .i64 a], .int .i64 n, .int .i64 s] w fun e w' => e = .returned (.bool true) ∧ Below w.heap.size w w' := by
  have hd : decide ((50 : Int) < (len0 : Int)) = true := by simp; omega
  have G0 := Lib.hid (World.grownBy_alloc w (.cells #[.int .i64 k, .int .i64 o, .int .i64 a] 24) none)
  clear h
  go_enter Try.func3, Try.ntmps3
  go_wp2_with fail
  refine (alive_any _).mono ?_
  rintro e v1 ⟨rfl, g1⟩
  go_wp2
  go_ret
  exact ⟨rfl, gb_below (gb_trans G0.out g1.out)⟩

set_option maxHeartbeats 1000000 in
theorem walk_mid (a0 : Option Addr) (len0 cap0 : Nat) (z0 : Nat → Nat → Int) (k o a n s S : Int) (w : World) (w0 : IsInts 3 w a0 len0 cap0 z0) (h0 : len0 ≤ 50)
    (hS : ∀ u, Calls Try.prog 15 #[.agg #[.int .i64 k, .int .i64 o, .int .i64 a], .int .i64 s] u fun e w' => e = .returned (.int .i64 S) ∧ Hid (u.grownBy w' none)) (hk : (k = 3 ∧ S = a) ∨ (k = 4 ∧ S = wrap64 (s + a)) ∨ (k ≠ 3 ∧ k ≠ 4 ∧ S = s)) :
    Calls Try.prog 3 #[.slice a0 len0 cap0, .agg #[.int .i64 k, .int .i64 o, .int .i64 a], .int .i64 n, .int .i64 s] w fun e w' => e = .returned (.bool true) ∧ Below w.heap.size w w' := by
  have Z := Lib.hid (IsOps.of_ints w0)
  have HS := Lib.hid hS
  have hd : decide ((50 : Int) < (len0 : Int)) = false := by simp; omega
  have HO1 := Lib.hid (fun u => ok_any k o a n u)
  have HO2 := Lib.hid (fun u => refok_any k o a n u)
  have HR1 := Lib.hid (fun u h => right_any a0 len0 cap0 z0 n u h)
  have HR2 := Lib.hid (fun u h => refright_any a0 len0 cap0 z0 n u h (by unfold maxLen; omega))
  have HN := Lib.hid (fun u h => opens_any a0 len0 cap0 z0 u h (by unfold maxLen; omega))
  generalize okB k o a n = B at HO1 HO2
  generalize rightB z0 len0 n = R at HR1 HR2
  have G0 := Lib.hid (World.grownBy_alloc w (.cells #[.int .i64 k, .int .i64 o, .int .i64 a] 24) none)
  have B0 := Lib.hid (Blk.made w 24 #[.int .i64 k, .int .i64 o, .int .i64 a])
  clear w0 hS
  have H0 := Lib.hid (rfl : w.heap.size = w.heap.size)
  go_enter Try.func3, Try.ntmps3
  go_wp2_with fail
  refine (alive_any _).mono ?_
  rintro e v1 ⟨rfl, g1⟩
  have G1 := Lib.hid (gb_trans G0.out g1.out)
  have B1 := Lib.hid (B0.out.grown g1.out (by simp))
  have Zv := Lib.hid (Z.out.grown G1.out)
  clear B0 G0 g1 Z
  generalize w.heap.size = ob at B1 ⊢
  have o0 : v1.cell? ⟨ob, 0, none⟩ = some (.int .i64 k) := B1.out.cell 0
  have o1 : v1.cell? ⟨ob, 1, none⟩ = some (.int .i64 o) := B1.out.cell 1
  have o2 : v1.cell? ⟨ob, 2, none⟩ = some (.int .i64 a) := B1.out.cell 2
  rcases hk with ⟨rfl, rfl⟩ | ⟨rfl, rfl⟩ | ⟨h3, h4, rfl⟩
  · have h3b := Lib.hid True.intro
    have h4b := Lib.hid True.intro
    go_wp2_with fail
    clear h3b h4b
    go_loop [10, 11] (fun nv iv => ∃ k m : Nat, k ≤ len0 ∧ iv = .int .i64 k ∧ m ≤ k ∧ nv = .int .i64 m ∧ Hid (m = opens z0 k)) (fun _ iv => (len0 - intOf iv).toNat)
    case atStart => exact ⟨0, 0, by omega, rfl, by omega, rfl, rfl⟩
    case round =>
      obtain ⟨j, m, hj, rfl, hmj, rfl, K⟩ := hrel
      by_cases hlt : j < len0
      · obtain ⟨b1, off1, rfl, hb1, c0, c1, c2⟩ := Zv.out.at3 hlt
        have hlt' : (j : Int) < (len0 : Int) := by omega
        by_cases h12 : z0 j 0 = 1 ∨ z0 j 0 = 2
        · have HB := Lib.hid (show m + 1 = opens z0 (j + 1) by rw [opens, if_pos h12, K.out])
          generalize z0 j 0 = x0 at *
          rcases h12 with rfl | rfl
          all_goals
            go_wp2
            go_round
            case rel => exact ⟨j + 1, m + 1, by omega, by go_num, by omega, by go_num, HB⟩
            case measure => simp [intOf]; omega
        · have HB := Lib.hid (show m = opens z0 (j + 1) by rw [opens, if_neg h12, K.out]; rfl)
          generalize z0 j 0 = x0 at *
          have h1 : (x0 == 1) = false := by simp; omega
          have h2 : (x0 == 2) = false := by simp; omega
          clear h12
          go_wp2
          go_round
          case rel => exact ⟨j + 1, m, by omega, by go_num, by omega, by go_num, HB⟩
          case measure => simp [intOf]; omega
      · obtain rfl : j = len0 := by omega
        have HN2 := Lib.hid (K.out ▸ HN.out)
        clear HN
        have HN := HN2
        clear HN2 hlt
        go_wp2_with fail
        go_region_held3 (fun w' => w'.cell? ⟨ob, 0, none⟩ = some (.int .i64 3) ∧ w'.cell? ⟨ob, 1, none⟩ = some (.int .i64 o) ∧ w'.cell? ⟨ob, 2, none⟩ = some (.int .i64 S)) (go_keep) (first | (go_at_call 16; refine (HN.out _ (Zv.out.grown G6.out)).mono ?_; rintro e u7 ⟨rfl, g7⟩; have G7 := Lib.hid (show World.grownBy v1 _ none from gb_trans G6.out g7.out); have o0 := g7.out.cell o0 (by simp); have o1 := g7.out.cell o1 (by simp); have o2 := g7.out.cell o2 (by simp)) | (go_at_call 15; refine (HS.out _).mono ?_; rintro e u6 ⟨rfl, g6⟩; have G6 := Lib.hid (show World.grownBy v1 _ none from gb_trans G5.out g6.out); have o0 := g6.out.cell o0 (by simp); have o1 := g6.out.cell o1 (by simp); have o2 := g6.out.cell o2 (by simp)) | (go_at_call 14; refine (HR2.out _ (Zv.out.grown G4.out)).mono ?_; rintro e u5 ⟨rfl, g5⟩; have G5 := Lib.hid (show World.grownBy v1 _ none from gb_trans G4.out g5.out); have o0 := g5.out.cell o0 (by simp); have o1 := g5.out.cell o1 (by simp); have o2 := g5.out.cell o2 (by simp)) | (go_at_call 13; refine (HR1.out _ (Zv.out.grown G3.out)).mono ?_; rintro e u4 ⟨rfl, g4⟩; have G4 := Lib.hid (show World.grownBy v1 _ none from gb_trans G3.out g4.out); have o0 := g4.out.cell o0 (by simp); have o1 := g4.out.cell o1 (by simp); have o2 := g4.out.cell o2 (by simp)) | (go_at_call 12; refine (HO2.out _).mono ?_; rintro e u3 ⟨rfl, g3⟩; have G3 := Lib.hid (show World.grownBy v1 _ none from gb_trans G2.out g3.out); have o0 := g3.out.cell o0 (by simp); have o1 := g3.out.cell o1 (by simp); have o2 := g3.out.cell o2 (by simp)) | (go_at_call 11; refine (HO1.out _).mono ?_; rintro e u2 ⟨rfl, g2⟩; have G2 := Lib.hid (show World.grownBy v1 _ none from gb_trans (by repeat (first | exact gb_refl _ _ | refine gb_drewN ?_ _ | refine gb_drew ?_ | refine gb_alloc ?_ _)) g2.out); have o0 := g2.out.cell o0 (by simp); have o1 := g2.out.cell o1 (by simp); have o2 := g2.out.cell o2 (by simp)))
        go_wp2
        go_ret
        exact ⟨rfl, gb_below (gb_trans G1.out (by first | exact G7.out | exact gb_drew G7.out))⟩
  · have h3b := Lib.hid True.intro
    have h4b := Lib.hid True.intro
    go_wp2_with fail
    clear h3b h4b
    go_loop [10, 11] (fun nv iv => ∃ k m : Nat, k ≤ len0 ∧ iv = .int .i64 k ∧ m ≤ k ∧ nv = .int .i64 m ∧ Hid (m = opens z0 k)) (fun _ iv => (len0 - intOf iv).toNat)
    case atStart => exact ⟨0, 0, by omega, rfl, by omega, rfl, rfl⟩
    case round =>
      obtain ⟨j, m, hj, rfl, hmj, rfl, K⟩ := hrel
      by_cases hlt : j < len0
      · obtain ⟨b1, off1, rfl, hb1, c0, c1, c2⟩ := Zv.out.at3 hlt
        have hlt' : (j : Int) < (len0 : Int) := by omega
        by_cases h12 : z0 j 0 = 1 ∨ z0 j 0 = 2
        · have HB := Lib.hid (show m + 1 = opens z0 (j + 1) by rw [opens, if_pos h12, K.out])
          generalize z0 j 0 = x0 at *
          rcases h12 with rfl | rfl
          all_goals
            go_wp2
            go_round
            case rel => exact ⟨j + 1, m + 1, by omega, by go_num, by omega, by go_num, HB⟩
            case measure => simp [intOf]; omega
        · have HB := Lib.hid (show m = opens z0 (j + 1) by rw [opens, if_neg h12, K.out]; rfl)
          generalize z0 j 0 = x0 at *
          have h1 : (x0 == 1) = false := by simp; omega
          have h2 : (x0 == 2) = false := by simp; omega
          clear h12
          go_wp2
          go_round
          case rel => exact ⟨j + 1, m, by omega, by go_num, by omega, by go_num, HB⟩
          case measure => simp [intOf]; omega
      · obtain rfl : j = len0 := by omega
        have HN2 := Lib.hid (K.out ▸ HN.out)
        clear HN
        have HN := HN2
        clear HN2 hlt
        go_wp2_with fail
        go_region_held3 (fun w' => w'.cell? ⟨ob, 0, none⟩ = some (.int .i64 4) ∧ w'.cell? ⟨ob, 1, none⟩ = some (.int .i64 o) ∧ w'.cell? ⟨ob, 2, none⟩ = some (.int .i64 a)) (go_keep) (first | (go_at_call 16; refine (HN.out _ (Zv.out.grown G6.out)).mono ?_; rintro e u7 ⟨rfl, g7⟩; have G7 := Lib.hid (show World.grownBy v1 _ none from gb_trans G6.out g7.out); have o0 := g7.out.cell o0 (by simp); have o1 := g7.out.cell o1 (by simp); have o2 := g7.out.cell o2 (by simp)) | (go_at_call 15; refine (HS.out _).mono ?_; rintro e u6 ⟨rfl, g6⟩; have G6 := Lib.hid (show World.grownBy v1 _ none from gb_trans G5.out g6.out); have o0 := g6.out.cell o0 (by simp); have o1 := g6.out.cell o1 (by simp); have o2 := g6.out.cell o2 (by simp)) | (go_at_call 14; refine (HR2.out _ (Zv.out.grown G4.out)).mono ?_; rintro e u5 ⟨rfl, g5⟩; have G5 := Lib.hid (show World.grownBy v1 _ none from gb_trans G4.out g5.out); have o0 := g5.out.cell o0 (by simp); have o1 := g5.out.cell o1 (by simp); have o2 := g5.out.cell o2 (by simp)) | (go_at_call 13; refine (HR1.out _ (Zv.out.grown G3.out)).mono ?_; rintro e u4 ⟨rfl, g4⟩; have G4 := Lib.hid (show World.grownBy v1 _ none from gb_trans G3.out g4.out); have o0 := g4.out.cell o0 (by simp); have o1 := g4.out.cell o1 (by simp); have o2 := g4.out.cell o2 (by simp)) | (go_at_call 12; refine (HO2.out _).mono ?_; rintro e u3 ⟨rfl, g3⟩; have G3 := Lib.hid (show World.grownBy v1 _ none from gb_trans G2.out g3.out); have o0 := g3.out.cell o0 (by simp); have o1 := g3.out.cell o1 (by simp); have o2 := g3.out.cell o2 (by simp)) | (go_at_call 11; refine (HO1.out _).mono ?_; rintro e u2 ⟨rfl, g2⟩; have G2 := Lib.hid (show World.grownBy v1 _ none from gb_trans (by repeat (first | exact gb_refl _ _ | refine gb_drewN ?_ _ | refine gb_drew ?_ | refine gb_alloc ?_ _)) g2.out); have o0 := g2.out.cell o0 (by simp); have o1 := g2.out.cell o1 (by simp); have o2 := g2.out.cell o2 (by simp)))
        go_wp2
        go_ret
        exact ⟨rfl, gb_below (gb_trans G1.out (by first | exact G7.out | exact gb_drew G7.out))⟩
  · have h3b : (k == 3) = false := by simpa using h3
    have h4b : (k == 4) = false := by simpa using h4
    clear h3 h4
    go_wp2_with fail
    clear h3b h4b
    go_loop [10, 11] (fun nv iv => ∃ k m : Nat, k ≤ len0 ∧ iv = .int .i64 k ∧ m ≤ k ∧ nv = .int .i64 m ∧ Hid (m = opens z0 k)) (fun _ iv => (len0 - intOf iv).toNat)
    case atStart => exact ⟨0, 0, by omega, rfl, by omega, rfl, rfl⟩
    case round =>
      obtain ⟨j, m, hj, rfl, hmj, rfl, K⟩ := hrel
      by_cases hlt : j < len0
      · obtain ⟨b1, off1, rfl, hb1, c0, c1, c2⟩ := Zv.out.at3 hlt
        have hlt' : (j : Int) < (len0 : Int) := by omega
        by_cases h12 : z0 j 0 = 1 ∨ z0 j 0 = 2
        · have HB := Lib.hid (show m + 1 = opens z0 (j + 1) by rw [opens, if_pos h12, K.out])
          generalize z0 j 0 = x0 at *
          rcases h12 with rfl | rfl
          all_goals
            go_wp2
            go_round
            case rel => exact ⟨j + 1, m + 1, by omega, by go_num, by omega, by go_num, HB⟩
            case measure => simp [intOf]; omega
        · have HB := Lib.hid (show m = opens z0 (j + 1) by rw [opens, if_neg h12, K.out]; rfl)
          generalize z0 j 0 = x0 at *
          have h1 : (x0 == 1) = false := by simp; omega
          have h2 : (x0 == 2) = false := by simp; omega
          clear h12
          go_wp2
          go_round
          case rel => exact ⟨j + 1, m, by omega, by go_num, by omega, by go_num, HB⟩
          case measure => simp [intOf]; omega
      · obtain rfl : j = len0 := by omega
        have HN2 := Lib.hid (K.out ▸ HN.out)
        clear HN
        have HN := HN2
        clear HN2 hlt
        go_wp2_with fail
        go_region_held3 (fun w' => w'.cell? ⟨ob, 0, none⟩ = some (.int .i64 k) ∧ w'.cell? ⟨ob, 1, none⟩ = some (.int .i64 o) ∧ w'.cell? ⟨ob, 2, none⟩ = some (.int .i64 a)) (go_keep) (first | (go_at_call 16; refine (HN.out _ (Zv.out.grown G6.out)).mono ?_; rintro e u7 ⟨rfl, g7⟩; have G7 := Lib.hid (show World.grownBy v1 _ none from gb_trans G6.out g7.out); have o0 := g7.out.cell o0 (by simp); have o1 := g7.out.cell o1 (by simp); have o2 := g7.out.cell o2 (by simp)) | (go_at_call 15; refine (HS.out _).mono ?_; rintro e u6 ⟨rfl, g6⟩; have G6 := Lib.hid (show World.grownBy v1 _ none from gb_trans G5.out g6.out); have o0 := g6.out.cell o0 (by simp); have o1 := g6.out.cell o1 (by simp); have o2 := g6.out.cell o2 (by simp)) | (go_at_call 14; refine (HR2.out _ (Zv.out.grown G4.out)).mono ?_; rintro e u5 ⟨rfl, g5⟩; have G5 := Lib.hid (show World.grownBy v1 _ none from gb_trans G4.out g5.out); have o0 := g5.out.cell o0 (by simp); have o1 := g5.out.cell o1 (by simp); have o2 := g5.out.cell o2 (by simp)) | (go_at_call 13; refine (HR1.out _ (Zv.out.grown G3.out)).mono ?_; rintro e u4 ⟨rfl, g4⟩; have G4 := Lib.hid (show World.grownBy v1 _ none from gb_trans G3.out g4.out); have o0 := g4.out.cell o0 (by simp); have o1 := g4.out.cell o1 (by simp); have o2 := g4.out.cell o2 (by simp)) | (go_at_call 12; refine (HO2.out _).mono ?_; rintro e u3 ⟨rfl, g3⟩; have G3 := Lib.hid (show World.grownBy v1 _ none from gb_trans G2.out g3.out); have o0 := g3.out.cell o0 (by simp); have o1 := g3.out.cell o1 (by simp); have o2 := g3.out.cell o2 (by simp)) | (go_at_call 11; refine (HO1.out _).mono ?_; rintro e u2 ⟨rfl, g2⟩; have G2 := Lib.hid (show World.grownBy v1 _ none from gb_trans (by repeat (first | exact gb_refl _ _ | refine gb_drewN ?_ _ | refine gb_drew ?_ | refine gb_alloc ?_ _)) g2.out); have o0 := g2.out.cell o0 (by simp); have o1 := g2.out.cell o1 (by simp); have o2 := g2.out.cell o2 (by simp)))
        go_wp2
        go_ret
        exact ⟨rfl, gb_below (gb_trans G1.out (by first | exact G7.out | exact gb_drew G7.out))⟩
theorem walk (a0 : Option Addr) (len0 cap0 : Nat) (z0 : Nat → Nat → Int) (z1 : Nat → Int) (a2 a3 : Int) (w : World) (w0 : IsInts 3 w a0 len0 cap0 z0) (w1 : ∀ i, i < 3 → (Lit.int .i64 (z1 i)).wf = true) (w2 : (Lit.int .i64 a2).wf = true) (w3 : (Lit.int .i64 a3).wf = true) :
    Calls Try.prog 3 #[.slice a0 len0 cap0, .agg ⟨(List.range 3).map fun i => .int .i64 (z1 i)⟩, .int .i64 a2, .int .i64 a3] w fun e w' => e = .returned (.bool true) ∧ Below w.heap.size w w' := by
  show Calls Try.prog 3 #[.slice a0 len0 cap0, .agg #[.int .i64 (z1 0), .int .i64 (z1 1), .int .i64 (z1 2)], .int .i64 a2, .int .i64 a3] w _
  by_cases h : 50 < len0
  · exact walk_long a0 len0 cap0 _ _ _ a2 a3 w h
  · refine walk_mid a0 len0 cap0 z0 _ _ _ a2 a3 (sumI (z1 0) (z1 2) a3) w w0 (by omega) (fun u => sum_any _ _ _ _ (w1 0 (by omega)) u) ?_
    by_cases h3 : z1 0 = 3
    · exact .inl ⟨h3, by simp [sumI, h3]⟩
    by_cases h4 : z1 0 = 4
    · exact .inr (.inl ⟨h4, by simp [sumI, h4]⟩)
    · exact .inr (.inr ⟨h3, h4, by simp [sumI, h3, h4]⟩)

theorem own : ownKnob Try.prog.godebug = none := by kernel_rfl
theorem laidOut : laidOutB Try.prog = true := by kernel_rfl

/-! ### THE ROW's STEP, as the guide has it -/
set_option maxRecDepth 100000 in
theorem lifted (os : Os) (started : os.Started) (H : Type) (enc : TypeId × Value → H) :
    ReturnsInHanded {} Try.checked os 3 .any (Rows.langOkSpec.pre6 enc Try.prog Try.f3 Rows.langOkRow.domain false) (Rows.langOkSpec.post enc Try.prog Try.f3 false true false false) := by
  refine returnsInHanded_of_change (C := Try.checked) own started (by kernel_rfl) Try.func3
    (ChangeSpec.witness6 (enc := enc) (C := Try.checked) false ⟨#[], #[.slice none 0 0, .agg #[.int .i64 0, .int .i64 0, .int .i64 0], .int .i64 0, .int .i64 0], []⟩ 8 (by kernel_rfl) (by kernel_rfl) (by kernel_rfl) (by kernel_rfl)) ?_
  intro W base args ds gs before hval0 hW hcnd _
  have hval : ∀ (j : Nat) t v, Try.f3.params[j]? = some t → args[j]? = some v → Value.okWide Try.prog W .any base t v := hval0
  have hW' := hW
  obtain ⟨p, q, hA0, hV, rfl, hfz, hnd⟩ := hW
  have hA : DataW.TrodAll enc Try.prog W 0 (fun _ => true) true Try.f3.params.toList args.toList ds p := hA0
  rw [Try.params3] at hA hval
  obtain ⟨v0, vs0, d0, ds0, p0, q0, hargs, rfl, rfl, h0, r0⟩ := trodAll_cons hA
  obtain ⟨v1, vs1, d1, ds1, p1, q1, rfl, rfl, rfl, h1, r1⟩ := trodAll_cons r0
  obtain ⟨v2, vs2, d2, ds2, p2, q2, rfl, rfl, rfl, h2, r2⟩ := trodAll_cons r1
  obtain ⟨v3, vs3, d3, ds3, p3, q3, rfl, rfl, rfl, h3, r3⟩ := trodAll_cons r2
  obtain ⟨rfl, rfl, rfl⟩ := trodAll_nil r3
  obtain rfl : args = #[v0, v1, v2, v3] := by cases args; simp_all
  obtain ⟨rfl, rfl⟩ := trodVars_none hV
  obtain ⟨a0, len0, cap0, rfl⟩ := okWide_slice Try.underlying22 (hval 0 22 v0 rfl rfl)
  have k0 := h0
  have lt0 : ∀ x ∈ p0, x.block < W.heap.size := by obtain ⟨m, hm⟩ := k0; exact DataW.trod_lt m _ _ _ hm
  obtain ⟨z0, w0⟩ : ∃ z, IsInts 3 W a0 len0 cap0 z := by
    obtain ⟨fuel, hf⟩ := h0
    exact isMixed_of Try.underlying22 Try.underlying24 Try.underlying3 Try.underlying2 (by kernel_rfl) (by kernel_rfl) (by kernel_rfl) (by decide) (by decide) hf
  obtain ⟨cs1, rfl, sz1⟩ := okWide_struct Try.underlying24 (hval 1 24 v1 rfl rfl)
  have k1 := h1
  have lt1 : ∀ x ∈ p1, x.block < W.heap.size := by obtain ⟨m, hm⟩ := k1; exact DataW.trod_lt m _ _ _ hm
  obtain ⟨z1, w1, rfl⟩ : ∃ z : Nat → Int, (∀ i, i < 3 → (Lit.int .i64 (z i)).wf = true) ∧ cs1 = ⟨(List.range 3).map fun i => .int .i64 (z i)⟩ := by
    obtain ⟨fuel, hf⟩ := h1
    exact isAgg_of Try.underlying24 Try.underlying3 Try.underlying2 (by kernel_rfl) (by kernel_rfl) (sz1.trans (by kernel_rfl)) (by decide) hf
  obtain ⟨a2, rfl, rfl, rfl, w2⟩ := open_int Try.underlying3 (hval 2 3 v2 rfl rfl) h2
  obtain ⟨a3, rfl, rfl, rfl, w3⟩ := open_int Try.underlying2 (hval 3 2 v3 rfl rfl) h3
  clear hA0 hval0
  refine (walk a0 len0 cap0 z0 z1 a2 a3 W w0 w1 w2 w3).mono fun e W' ⟨he, bel⟩ => ?_
  subst he
  exact ⟨_, rfl, _, _, _, [], _, [], hW', trodAll_mk1 (shut_bool Try.underlying4 _), (trodAll_cons_mk (Below.trod laidOut (by kernel_rfl) (of_decide_eq_true (by kernel_rfl)) k0 bel lt0) (trodAll_cons_mk (Below.trod laidOut (by kernel_rfl) (of_decide_eq_true (by kernel_rfl)) k1 bel lt1) (trodAll_cons_mk (shut_int Try.underlying3 w2) (trodAll_cons_mk (shut_int Try.underlying2 w3) trodAll_mk0)))), rfl, bel.frame _, fun h => by cases h⟩

theorem over : Rows.langOkRow.holds Try.pinned (OpenSpec.ofChange Rows.langOkSpec) :=
  OpenClaim.holds_of_wide 3 Try.f3 rfl rfl rfl rfl rfl rfl rfl ⟨rfl, rfl, rfl, rfl, rfl⟩ rfl rfl rfl rfl rfl (by kernel_rfl) Try.func3 (by kernel_rfl)
    (of_decide_eq_true (by kernel_rfl)) (by unfold Func.isWrapper; first | (rw [if_pos (by decide +kernel)]; kernel_rfl) | (rw [if_neg (by decide +kernel)]; exact ⟨rfl, rfl⟩))
    (fun os started H enc _ => lifted os started H enc)

theorem proved : Rows.LangOkSaid := over
#print axioms proved
end Go.Proofs.Ytjajhkgbhckdeaa.langOk
