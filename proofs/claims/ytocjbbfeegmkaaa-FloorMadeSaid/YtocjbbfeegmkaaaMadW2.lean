/- FloorMade: a floor that is made, of manager 2. -/
import Derived.Test.YtocjbbfeegmkaaaMadW
namespace Go.Proofs.Ytocjbbfeegmkaaa.floorMade
open Go Go.ChangeShapes Go.WideShapes Go.ChangeAt Go.RowKit Go.Proofs.Ytocjbbfeegmkaaa.base Go.Proofs.Ytocjbbfeegmkaaa.fl Go.Proofs.Ytocjbbfeegmkaaa.ce Go.Proofs.Ytocjbbfeegmkaaa.rf
set_option linter.unusedVariables false

set_option maxRecDepth 100000 in
set_option maxHeartbeats 8000000 in
theorem walkOk2 (r k p : Int) (n : Nat) (a1 : Option Addr) (len1 cap1 : Nat) (zf : Nat → Int) (w : World) (hz1 : IsRow .i64 w a1 len1 cap1 zf) (hc : okC len1 n r k 2 p = true) (h2 : ¬ r < 2 * (len1 : Int)) :
    Calls Try.prog 4 #[.agg #[.int .i64 (len1 : Int), .int .i64 (n : Int), .int .i64 r, .int .i64 k, .int .i64 2, .int .i64 p], .slice a1 len1 cap1] w fun e w' => e = .returned (.bool true) ∧ Below w.heap.size w w' := by
  have hok := hc
  simp only [okC, Bool.and_eq_true] at hok
  obtain ⟨b1, b2, b3, b4, b5, b6⟩ := hok
  have b1 := inB_true b1
  have b2 := inB_true b2
  have b3 := inB_true b3
  have b4 := inB_true b4
  have NUM := Lib.hid (show len1 ≤ 8 ∧ 1 ≤ n ∧ n ≤ 6 ∧ 1 ≤ r ∧ r ≤ 4096 ∧ 0 ≤ k ∧ k ≤ 255 from ⟨by omega, by omega, by omega, b3.1, b3.2, b4.1, b4.2⟩)
  have NN := Lib.hid (fun (u : World) (h1 : IsRow .i64 u a1 len1 cap1 zf) => show Calls Try.prog 18 #[.agg #[.int .i64 (len1 : Int), .int .i64 (n : Int), .int .i64 r, .int .i64 k, .int .i64 2, .int .i64 p], .slice a1 len1 cap1, .slice none 0 0] u fun e w' => ∃ fb ab tb cb tk g b0 X, e = .returned (.tuple #[.pointer (some ⟨fb, 0, none⟩), .int .i64 0]) ∧ Hid (FloX fb n [] (fun _ => 0) [] (⟨ab, tb, cb, tk, g, (len1 : Int), r, k, 2, p, 0, false, 0, 0, fun _ => 0, 0⟩ : Core) X) ∧
      Hid (Hold (CelP b0 cb tb ab r (firsts zf len1) (heads len1) 0 (fun _ => false) (fun _ _ => 0) 100) u w' X) from new_ok len1 r k 2 p n hc a1 len1 cap1 zf rfl (by omega) none 0 0 (fun _ => 0) (by omega) u h1 ⟨Nat.le_refl _, by unfold maxLen; omega, .inl rfl⟩)
  have RN := fun u => refnew_any len1 n r k 2 p a1 len1 cap1 (by omega) u
  have E0 : errF len1 n r k 2 p len1 = 0 := by unfold errF; rw [if_pos hc, if_pos rfl, if_neg h2]
  simp only [E0] at RN
  have RN := Lib.hid RN
  have CK := Lib.hid (fun u => check_any len1 n r k 2 p u)
  have RC := Lib.hid (fun u => refcheck_any len1 n r k 2 p u)
  rw [hc] at CK RC
  have O0 := Lib.hid ((base.Own.start w).alloc 28 [.int .i64 (len1 : Int), .int .i64 (n : Int), .int .i64 r, .int .i64 k, .int .i64 2, .int .i64 p])
  have W1 := Lib.hid hz1
  have h50 : ¬ 50 < (len1 : Int) := by omega
  have hw2 : IntKind.i64.wrap (2 * (len1 : Int)) = 2 * (len1 : Int) := IntWalk.i64_in _ (by omega)
  have hw3 : IntKind.i64.wrap (r - 2 * (len1 : Int)) = r - 2 * (len1 : Int) := IntWalk.i64_in _ (by omega)
  obtain ⟨N1, hN1⟩ : ∃ N1 : Nat, N1 + 1 = n := ⟨n - 1, by omega⟩
  have hw4 : IntKind.i64.wrap ((n : Int) - 1) = (N1 : Int) := by rw [IntWalk.i64_in _ (by omega)]; omega
  have HN1 := Lib.hid hN1
  have fS : ∀ u : World, (Instr.field 58 (.agg #[.bool false, .int .i64 0, .int .i64 0, .int .i64 0]) 0).run Try.prog u = .ok (.bool false) u := fun _ => by kernel_rfl
  clear hc h2 b1 b2 b3 b4 b5 b6 hz1 E0 hN1
  go_enter Try.func4, Try.ntmps4
  go_wp2_with fail
  refine (alive_any _).mono ?_
  rintro e v1 ⟨rfl, g1⟩
  have O1 := Lib.hid (O0.out.grown g1.out)
  have W2 := Lib.hid (W1.out.below (gb_below O1.out.grow))
  clear O0 g1
  have c0 := O1.out.cell 0 0 rfl rfl; have c1 := O1.out.cell 0 1 rfl rfl; have c2 := O1.out.cell 0 2 rfl rfl; have c3 := O1.out.cell 0 3 rfl rfl; have c4 := O1.out.cell 0 4 rfl rfl; have c5 := O1.out.cell 0 5 rfl rfl
  go_wp2_with fail
  refine (NN.out _ W2.out).mono ?_
  rintro e v2 ⟨fb, ab, tb, cb, tk, g, b0, X, rfl, hX, hH⟩
  generalize w.heap.size = bc at *
  have H2 : Hid (HFlo (CelP b0 cb tb ab r (firsts zf len1) (heads len1) 0 (fun _ => false) (fun _ _ => 0) (100)) w v2 fb n [] (fun _ => 0) [] (⟨ab, tb, cb, tk, g, (len1 : Int), r, k, 2, p, 0, false, 0, 0, fun _ => 0, 0⟩ : Core) [(bc, 28, [.int .i64 (len1 : Int), .int .i64 (n : Int), .int .i64 r, .int .i64 k, .int .i64 2, .int .i64 p])]) := hf_new O1.out hX.out hH.out
  clear O1 hX hH c0 c1 c2 c3 c4 c5 NN W2
  have c0 := H2.out.cell firm_cel 0 0 rfl rfl; have c1 := H2.out.cell firm_cel 0 1 rfl rfl; have c2 := H2.out.cell firm_cel 0 2 rfl rfl; have c3 := H2.out.cell firm_cel 0 3 rfl rfl; have c4 := H2.out.cell firm_cel 0 4 rfl rfl; have c5 := H2.out.cell firm_cel 0 5 rfl rfl
  go_wp2_with fail
  refine (RN.out _).mono ?_
  rintro e v3 ⟨rfl, g3⟩
  have H3 : Hid (HFlo (CelP b0 cb tb ab r (firsts zf len1) (heads len1) 0 (fun _ => false) (fun _ _ => 0) (100)) w v3 fb n [] (fun _ => 0) [] (⟨ab, tb, cb, tk, g, (len1 : Int), r, k, 2, p, 0, false, 0, 0, fun _ => 0, 0⟩ : Core) [(bc, 28, [.int .i64 (len1 : Int), .int .i64 (n : Int), .int .i64 r, .int .i64 k, .int .i64 2, .int .i64 p])]) := H2.out.grown firm_cel g3.out
  clear H2 g3 c0 c1 c2 c3 c4 c5 RN
  have c0 := H3.out.cell firm_cel 0 0 rfl rfl; have c1 := H3.out.cell firm_cel 0 1 rfl rfl; have c2 := H3.out.cell firm_cel 0 2 rfl rfl; have c3 := H3.out.cell firm_cel 0 3 rfl rfl; have c4 := H3.out.cell firm_cel 0 4 rfl rfl; have c5 := H3.out.cell firm_cel 0 5 rfl rfl
  go_wp2
  go_region_held3 (fun w' => w'.cell? ⟨bc, 0, none⟩ = some (.int .i64 (len1 : Int)) ∧ w'.cell? ⟨bc, 1, none⟩ = some (.int .i64 (n : Int)) ∧ w'.cell? ⟨bc, 2, none⟩ = some (.int .i64 r) ∧ w'.cell? ⟨bc, 3, none⟩ = some (.int .i64 k) ∧ w'.cell? ⟨bc, 4, none⟩ = some (.int .i64 2) ∧ w'.cell? ⟨bc, 5, none⟩ = some (.int .i64 p)) (go_keep) (first
    | (go_at_call 21; have e1 := H4.out; clear e1; refine (RC.out _).mono ?_; rintro e v5 ⟨rfl, g5⟩; have H5 : Hid (HFlo (CelP b0 cb tb ab r (firsts zf len1) (heads len1) 0 (fun _ => false) (fun _ _ => 0) (100)) w v5 fb n [] (fun _ => 0) [] (⟨ab, tb, cb, tk, g, (len1 : Int), r, k, 2, p, 0, false, 0, 0, fun _ => 0, 0⟩ : Core) [(bc, 28, [.int .i64 (len1 : Int), .int .i64 (n : Int), .int .i64 r, .int .i64 k, .int .i64 2, .int .i64 p])]) := H4.out.grown firm_cel g5.out; have y0 := H5.out.cell firm_cel 0 0 rfl rfl; have y1 := H5.out.cell firm_cel 0 1 rfl rfl; have y2 := H5.out.cell firm_cel 0 2 rfl rfl; have y3 := H5.out.cell firm_cel 0 3 rfl rfl; have y4 := H5.out.cell firm_cel 0 4 rfl rfl; have y5 := H5.out.cell firm_cel 0 5 rfl rfl; clear g5)
    | (go_at_call 20; refine (CK.out _).mono ?_; rintro e v4 ⟨rfl, g4⟩; have H4 : Hid (HFlo (CelP b0 cb tb ab r (firsts zf len1) (heads len1) 0 (fun _ => false) (fun _ _ => 0) (100)) w v4 fb n [] (fun _ => 0) [] (⟨ab, tb, cb, tk, g, (len1 : Int), r, k, 2, p, 0, false, 0, 0, fun _ => 0, 0⟩ : Core) [(bc, 28, [.int .i64 (len1 : Int), .int .i64 (n : Int), .int .i64 r, .int .i64 k, .int .i64 2, .int .i64 p])]) := (H3.out.drew firm_cel).grown firm_cel g4.out; have x0 := H4.out.cell firm_cel 0 0 rfl rfl; have x1 := H4.out.cell firm_cel 0 1 rfl rfl; have x2 := H4.out.cell firm_cel 0 2 rfl rfl; have x3 := H4.out.cell firm_cel 0 3 rfl rfl; have x4 := H4.out.cell firm_cel 0 4 rfl rfl; have x5 := H4.out.cell firm_cel 0 5 rfl rfl; clear g4))
  clear H3 H4 c0 c1 c2 c3 c4 c5 x0 x1 x2 x3 x4 x5 CK RC
  have GM := Lib.hid (fun (u : World) (h : HFlo (CelP b0 cb tb ab r (firsts zf len1) (heads len1) 0 (fun _ => false) (fun _ _ => 0) (100)) w u fb n [] (fun _ => 0) [] (⟨ab, tb, cb, tk, g, (len1 : Int), r, k, 2, p, 0, false, 0, 0, fun _ => 0, 0⟩ : Core) [(bc, 28, [.int .i64 (len1 : Int), .int .i64 (n : Int), .int .i64 r, .int .i64 k, .int .i64 2, .int .i64 p])]) => show Calls Try.prog 14 #[.pointer (some ⟨fb, 0, none⟩)] u fun e w' => e = .returned (.iface 149 (.agg #[])) ∧ u = w' from hf_ro h firm_cel fun _ F => manager_in F)
  have GC := Lib.hid (fun (u : World) (h : HFlo (CelP b0 cb tb ab r (firsts zf len1) (heads len1) 0 (fun _ => false) (fun _ _ => 0) (100)) w u fb n [] (fun _ => 0) [] (⟨ab, tb, cb, tk, g, (len1 : Int), r, k, 2, p, 0, false, 0, 0, fun _ => 0, 0⟩ : Core) [(bc, 28, [.int .i64 (len1 : Int), .int .i64 (n : Int), .int .i64 r, .int .i64 k, .int .i64 2, .int .i64 p])]) => show Calls Try.prog 8 #[.pointer (some ⟨fb, 0, none⟩)] u fun e w' => e = .returned (.agg #[.int .i64 (len1 : Int), .int .i64 (n : Int), .int .i64 r, .int .i64 k, .int .i64 2, .int .i64 p]) ∧ Hid (u.grownBy w' none) from hf_ro h firm_cel fun _ F => config_in F)
  have GA := Lib.hid (fun (u : World) (h : HFlo (CelP b0 cb tb ab r (firsts zf len1) (heads len1) 0 (fun _ => false) (fun _ _ => 0) (100)) w u fb n [] (fun _ => 0) [] (⟨ab, tb, cb, tk, g, (len1 : Int), r, k, 2, p, 0, false, 0, 0, fun _ => 0, 0⟩ : Core) [(bc, 28, [.int .i64 (len1 : Int), .int .i64 (n : Int), .int .i64 r, .int .i64 k, .int .i64 2, .int .i64 p])]) => show Calls Try.prog 9 #[.pointer (some ⟨fb, 0, none⟩)] u fun e w' => e = .returned (.pointer (some ⟨ab, 0, none⟩)) ∧ u = w' from hf_ro h firm_cel fun _ F => arena_in F)
  have GT := Lib.hid (fun (u : World) (h : HFlo (CelP b0 cb tb ab r (firsts zf len1) (heads len1) 0 (fun _ => false) (fun _ _ => 0) (100)) w u fb n [] (fun _ => 0) [] (⟨ab, tb, cb, tk, g, (len1 : Int), r, k, 2, p, 0, false, 0, 0, fun _ => 0, 0⟩ : Core) [(bc, 28, [.int .i64 (len1 : Int), .int .i64 (n : Int), .int .i64 r, .int .i64 k, .int .i64 2, .int .i64 p])]) => show Calls Try.prog 10 #[.pointer (some ⟨fb, 0, none⟩)] u fun e w' => e = .returned (.pointer (some ⟨tb, 0, none⟩)) ∧ u = w' from hf_ro h firm_cel fun _ F => table_in F)
  have GE := Lib.hid (fun (u : World) (h : HFlo (CelP b0 cb tb ab r (firsts zf len1) (heads len1) 0 (fun _ => false) (fun _ _ => 0) (100)) w u fb n [] (fun _ => 0) [] (⟨ab, tb, cb, tk, g, (len1 : Int), r, k, 2, p, 0, false, 0, 0, fun _ => 0, 0⟩ : Core) [(bc, 28, [.int .i64 (len1 : Int), .int .i64 (n : Int), .int .i64 r, .int .i64 k, .int .i64 2, .int .i64 p])]) => show Calls Try.prog 11 #[.pointer (some ⟨fb, 0, none⟩)] u fun e w' => e = .returned (.pointer (some ⟨cb, 0, none⟩)) ∧ u = w' from hf_ro h firm_cel fun _ F => cells_in F)
  have GK := Lib.hid (fun (u : World) (h : HFlo (CelP b0 cb tb ab r (firsts zf len1) (heads len1) 0 (fun _ => false) (fun _ _ => 0) (100)) w u fb n [] (fun _ => 0) [] (⟨ab, tb, cb, tk, g, (len1 : Int), r, k, 2, p, 0, false, 0, 0, fun _ => 0, 0⟩ : Core) [(bc, 28, [.int .i64 (len1 : Int), .int .i64 (n : Int), .int .i64 r, .int .i64 k, .int .i64 2, .int .i64 p])]) => show Calls Try.prog 12 #[.pointer (some ⟨fb, 0, none⟩)] u fun e w' => e = .returned (.pointer (some ⟨tk, 0, none⟩)) ∧ u = w' from hf_ro h firm_cel fun _ F => tickets_in F)
  have GG := Lib.hid (fun (u : World) (h : HFlo (CelP b0 cb tb ab r (firsts zf len1) (heads len1) 0 (fun _ => false) (fun _ _ => 0) (100)) w u fb n [] (fun _ => 0) [] (⟨ab, tb, cb, tk, g, (len1 : Int), r, k, 2, p, 0, false, 0, 0, fun _ => 0, 0⟩ : Core) [(bc, 28, [.int .i64 (len1 : Int), .int .i64 (n : Int), .int .i64 r, .int .i64 k, .int .i64 2, .int .i64 p])]) => show Calls Try.prog 13 #[.pointer (some ⟨fb, 0, none⟩)] u fun e w' => e = .returned (.pointer (some ⟨g, 0, none⟩)) ∧ u = w' from hf_ro h firm_cel fun _ F => gate_in F)
  have LN := Lib.hid (fun (u : World) (h : HFlo (CelP b0 cb tb ab r (firsts zf len1) (heads len1) 0 (fun _ => false) (fun _ _ => 0) (100)) w u fb n [] (fun _ => 0) [] (⟨ab, tb, cb, tk, g, (len1 : Int), r, k, 2, p, 0, false, 0, 0, fun _ => 0, 0⟩ : Core) [(bc, 28, [.int .i64 (len1 : Int), .int .i64 (n : Int), .int .i64 r, .int .i64 k, .int .i64 2, .int .i64 p])]) => show Calls Try.prog 22 #[.pointer (some ⟨ab, 0, none⟩)] u fun e w' => e = .returned (.int .i64 (2 * (len1 : Int))) ∧ u = w' from by
    obtain ⟨F, c⟩ := hf_cel h
    have X := cel_len c
    rw [firsts_length] at X
    have e2 : ((2 * len1 : Nat) : Int) = 2 * (len1 : Int) := by omega
    rw [e2] at X
    exact X)
  have LF := Lib.hid (fun (u : World) (h : HFlo (CelP b0 cb tb ab r (firsts zf len1) (heads len1) 0 (fun _ => false) (fun _ _ => 0) (100)) w u fb n [] (fun _ => 0) [] (⟨ab, tb, cb, tk, g, (len1 : Int), r, k, 2, p, 0, false, 0, 0, fun _ => 0, 0⟩ : Core) [(bc, 28, [.int .i64 (len1 : Int), .int .i64 (n : Int), .int .i64 r, .int .i64 k, .int .i64 2, .int .i64 p])]) => show Calls Try.prog 23 #[.pointer (some ⟨ab, 0, none⟩)] u fun e w' => ∃ kq, e = .returned (.int .i64 (r - 2 * (len1 : Int))) ∧ u.drewN kq = w' from by
    obtain ⟨F, c⟩ := hf_cel h
    have X := cel_left c NUM.out.2.2.2.2.1
    rw [firsts_length] at X
    have e2 : ((2 * len1 : Nat) : Int) = 2 * (len1 : Int) := by omega
    rw [e2] at X
    exact X)
  have CT := Lib.hid (fun (u : World) (h : HFlo (CelP b0 cb tb ab r (firsts zf len1) (heads len1) 0 (fun _ => false) (fun _ _ => 0) (100)) w u fb n [] (fun _ => 0) [] (⟨ab, tb, cb, tk, g, (len1 : Int), r, k, 2, p, 0, false, 0, 0, fun _ => 0, 0⟩ : Core) [(bc, 28, [.int .i64 (len1 : Int), .int .i64 (n : Int), .int .i64 r, .int .i64 k, .int .i64 2, .int .i64 p])]) => show Calls Try.prog 24 #[.pointer (some ⟨tb, 0, none⟩)] u fun e w' => e = .returned (.int .i64 0) ∧ u = w' from by
    obtain ⟨F, c⟩ := hf_cel h
    exact cel_count c)
  have OB := Lib.hid (fun (u : World) (h : HFlo (CelP b0 cb tb ab r (firsts zf len1) (heads len1) 0 (fun _ => false) (fun _ _ => 0) (100)) w u fb n [] (fun _ => 0) [] (⟨ab, tb, cb, tk, g, (len1 : Int), r, k, 2, p, 0, false, 0, 0, fun _ => 0, 0⟩ : Core) [(bc, 28, [.int .i64 (len1 : Int), .int .i64 (n : Int), .int .i64 r, .int .i64 k, .int .i64 2, .int .i64 p])]) => show Calls Try.prog 25 #[.pointer (some ⟨cb, 0, none⟩)] u fun e w' => e = .returned (.int .i64 (len1 : Int)) ∧ u = w' from by
    obtain ⟨F, c⟩ := hf_cel h
    have X := cells_objects0 b0 cb tb ab 0 r _ _ _ _ _ F u c
    rw [heads_length] at X
    exact X)
  have TN := Lib.hid (fun (u : World) (h : HFlo (CelP b0 cb tb ab r (firsts zf len1) (heads len1) 0 (fun _ => false) (fun _ _ => 0) (100)) w u fb n [] (fun _ => 0) [] (⟨ab, tb, cb, tk, g, (len1 : Int), r, k, 2, p, 0, false, 0, 0, fun _ => 0, 0⟩ : Core) [(bc, 28, [.int .i64 (len1 : Int), .int .i64 (n : Int), .int .i64 r, .int .i64 k, .int .i64 2, .int .i64 p])]) => show Calls Try.prog 26 #[.pointer (some ⟨tk, 0, none⟩)] u fun e w' => e = .returned (.int .i64 0) ∧ u = w' from hf_ro h firm_cel fun _ F => flo_taken F)
  have SE := Lib.hid (fun (u : World) (h : HFlo (CelP b0 cb tb ab r (firsts zf len1) (heads len1) 0 (fun _ => false) (fun _ _ => 0) (100)) w u fb n [] (fun _ => 0) [] (⟨ab, tb, cb, tk, g, (len1 : Int), r, k, 2, p, 0, false, 0, 0, fun _ => 0, 0⟩ : Core) [(bc, 28, [.int .i64 (len1 : Int), .int .i64 (n : Int), .int .i64 r, .int .i64 k, .int .i64 2, .int .i64 p])]) => show Calls Try.prog 27 #[.pointer (some ⟨g, 0, none⟩)] u fun e w' => e = .returned (.agg #[.bool false, .int .i64 0, .int .i64 0, .int .i64 0]) ∧ Hid (HFlo (CelP b0 cb tb ab r (firsts zf len1) (heads len1) 0 (fun _ => false) (fun _ _ => 0) (100)) w w' fb n [] (fun _ => 0) [] (⟨ab, tb, cb, tk, g, (len1 : Int), r, k, 2, p, 0, false, 0, 0, fun _ => 0, 1⟩ : Core) [(bc, 28, [.int .i64 (len1 : Int), .int .i64 (n : Int), .int .i64 r, .int .i64 k, .int .i64 2, .int .i64 p])]) from see_h h firm_cel rfl (show (0 : Int) ≤ 999999 by decide))
  go_wp2_with fail
  refine (GM.out _ H5.out).mono ?_
  rintro e v6 ⟨rfl, rfl⟩
  go_wp2
  go_region_held3 (fun w' => w'.cell? ⟨bc, 0, none⟩ = some (.int .i64 (len1 : Int)) ∧ w'.cell? ⟨bc, 1, none⟩ = some (.int .i64 (n : Int)) ∧ w'.cell? ⟨bc, 2, none⟩ = some (.int .i64 r) ∧ w'.cell? ⟨bc, 3, none⟩ = some (.int .i64 k) ∧ w'.cell? ⟨bc, 4, none⟩ = some (.int .i64 2) ∧ w'.cell? ⟨bc, 5, none⟩ = some (.int .i64 p)) (go_keep) (first
    | (go_at_call 27; refine (SE.out _ H9.out).mono ?_; rintro e v10 ⟨rfl, H10⟩; have z0 := H10.out.cell firm_cel 0 0 rfl rfl; have z1 := H10.out.cell firm_cel 0 1 rfl rfl; have z2 := H10.out.cell firm_cel 0 2 rfl rfl; have z3 := H10.out.cell firm_cel 0 3 rfl rfl; have z4 := H10.out.cell firm_cel 0 4 rfl rfl; have z5 := H10.out.cell firm_cel 0 5 rfl rfl)
    | (go_at_call 13; refine (GG.out _ H9.out).mono ?_; rintro e v ⟨rfl, rfl⟩)
    | (go_at_call 26; refine (TN.out _ H9.out).mono ?_; rintro e v ⟨rfl, rfl⟩)
    | (go_at_call 12; refine (GK.out _ H9.out).mono ?_; rintro e v ⟨rfl, rfl⟩)
    | (go_at_call 25; refine (OB.out _ H9.out).mono ?_; rintro e v ⟨rfl, rfl⟩)
    | (go_at_call 11; refine (GE.out _ H9.out).mono ?_; rintro e v ⟨rfl, rfl⟩)
    | (go_at_call 24; refine (CT.out _ H9.out).mono ?_; rintro e v ⟨rfl, rfl⟩)
    | (go_at_call 10; refine (GT.out _ H9.out).mono ?_; rintro e v ⟨rfl, rfl⟩)
    | (go_at_call 23; refine (LF.out _ H8.out).mono ?_; rintro e v9 ⟨kq, rfl, hv9⟩; have H9 : Hid (HFlo (CelP b0 cb tb ab r (firsts zf len1) (heads len1) 0 (fun _ => false) (fun _ _ => 0) (100)) w v9 fb n [] (fun _ => 0) [] (⟨ab, tb, cb, tk, g, (len1 : Int), r, k, 2, p, 0, false, 0, 0, fun _ => 0, 0⟩ : Core) [(bc, 28, [.int .i64 (len1 : Int), .int .i64 (n : Int), .int .i64 r, .int .i64 k, .int .i64 2, .int .i64 p])]) := (by rw [← hv9]; exact H8.out.drewN firm_cel kq); clear hv9; have q0 := H9.out.cell firm_cel 0 0 rfl rfl; have q1 := H9.out.cell firm_cel 0 1 rfl rfl; have q2 := H9.out.cell firm_cel 0 2 rfl rfl; have q3 := H9.out.cell firm_cel 0 3 rfl rfl; have q4 := H9.out.cell firm_cel 0 4 rfl rfl; have q5 := H9.out.cell firm_cel 0 5 rfl rfl)
    | (go_at_call 22; refine (LN.out _ H8.out).mono ?_; rintro e v ⟨rfl, rfl⟩)
    | (go_at_call 9; refine (GA.out _ H8.out).mono ?_; rintro e v ⟨rfl, rfl⟩)
    | (go_at_call 8; refine (GC.out _ H7.out).mono ?_; rintro e v8 ⟨rfl, g8⟩; have H8 : Hid (HFlo (CelP b0 cb tb ab r (firsts zf len1) (heads len1) 0 (fun _ => false) (fun _ _ => 0) (100)) w v8 fb n [] (fun _ => 0) [] (⟨ab, tb, cb, tk, g, (len1 : Int), r, k, 2, p, 0, false, 0, 0, fun _ => 0, 0⟩ : Core) [(bc, 28, [.int .i64 (len1 : Int), .int .i64 (n : Int), .int .i64 r, .int .i64 k, .int .i64 2, .int .i64 p])]) := H7.out.grown firm_cel g8.out; clear g8; have p0 := H8.out.cell firm_cel 0 0 rfl rfl; have p1 := H8.out.cell firm_cel 0 1 rfl rfl; have p2 := H8.out.cell firm_cel 0 2 rfl rfl; have p3 := H8.out.cell firm_cel 0 3 rfl rfl; have p4 := H8.out.cell firm_cel 0 4 rfl rfl; have p5 := H8.out.cell firm_cel 0 5 rfl rfl)
    | (go_at_call 97; refine (marks2 _).mono ?_; rintro e v7 ⟨rfl, g7⟩; have H7 : Hid (HFlo (CelP b0 cb tb ab r (firsts zf len1) (heads len1) 0 (fun _ => false) (fun _ _ => 0) (100)) w v7 fb n [] (fun _ => 0) [] (⟨ab, tb, cb, tk, g, (len1 : Int), r, k, 2, p, 0, false, 0, 0, fun _ => 0, 0⟩ : Core) [(bc, 28, [.int .i64 (len1 : Int), .int .i64 (n : Int), .int .i64 r, .int .i64 k, .int .i64 2, .int .i64 p])]) := (H5.out.drew firm_cel).grown firm_cel g7.out; clear g7; have o0 := H7.out.cell firm_cel 0 0 rfl rfl; have o1 := H7.out.cell firm_cel 0 1 rfl rfl; have o2 := H7.out.cell firm_cel 0 2 rfl rfl; have o3 := H7.out.cell firm_cel 0 3 rfl rfl; have o4 := H7.out.cell firm_cel 0 4 rfl rfl; have o5 := H7.out.cell firm_cel 0 5 rfl rfl))
  clear H5 H7 H8 H9 o0 o1 o2 o3 o4 o5 p0 p1 p2 p3 p4 p5 q0 q1 q2 q3 q4 q5 z0 z2 z4 z5 GM GC GA GT GE GK GG LN LF CT OB TN SE fS hw2 hw3
  have GK2 := Lib.hid (fun (x : Int) (u : World) (h : HFlo (CelP b0 cb tb ab r (firsts zf len1) (heads len1) 0 (fun _ => false) (fun _ _ => 0) (100)) w u fb n [] (fun _ => 0) [] (⟨ab, tb, cb, tk, g, (len1 : Int), r, k, 2, p, x, false, 0, 0, fun _ => 0, 1⟩ : Core) [(bc, 28, [.int .i64 (len1 : Int), .int .i64 (n : Int), .int .i64 r, .int .i64 k, .int .i64 2, .int .i64 p])]) => show Calls Try.prog 12 #[.pointer (some ⟨fb, 0, none⟩)] u fun e w' => e = .returned (.pointer (some ⟨tk, 0, none⟩)) ∧ u = w' from hf_ro h firm_cel fun _ F => tickets_in F)
  have TAKE := Lib.hid (fun (j : Nat) (hj : (j : Int) < k) (u : World) (h : HFlo (CelP b0 cb tb ab r (firsts zf len1) (heads len1) 0 (fun _ => false) (fun _ _ => 0) (100)) w u fb n [] (fun _ => 0) [] (⟨ab, tb, cb, tk, g, (len1 : Int), r, k, 2, p, (j : Int), false, 0, 0, fun _ => 0, 1⟩ : Core) [(bc, 28, [.int .i64 (len1 : Int), .int .i64 (n : Int), .int .i64 r, .int .i64 k, .int .i64 2, .int .i64 p])]) => show Calls Try.prog 28 #[.pointer (some ⟨tk, 0, none⟩)] u fun e w' => e = .returned (.tuple #[.int .i64 (j : Int), .int .i64 0]) ∧ Hid (HFlo (CelP b0 cb tb ab r (firsts zf len1) (heads len1) 0 (fun _ => false) (fun _ _ => 0) (100)) w w' fb n [] (fun _ => 0) [] (⟨ab, tb, cb, tk, g, (len1 : Int), r, k, 2, p, ((j + 1 : Nat) : Int), false, 0, 0, fun _ => 0, 1⟩ : Core) [(bc, 28, [.int .i64 (len1 : Int), .int .i64 (n : Int), .int .i64 r, .int .i64 k, .int .i64 2, .int .i64 p])]) from take_h h firm_cel (show (0 : Int) ≤ (j : Int) by omega) hj NUM.out.2.2.2.2.2.2)
  have TEND := Lib.hid (fun (u : World) (h : HFlo (CelP b0 cb tb ab r (firsts zf len1) (heads len1) 0 (fun _ => false) (fun _ _ => 0) (100)) w u fb n [] (fun _ => 0) [] (⟨ab, tb, cb, tk, g, (len1 : Int), r, k, 2, p, k, false, 0, 0, fun _ => 0, 1⟩ : Core) [(bc, 28, [.int .i64 (len1 : Int), .int .i64 (n : Int), .int .i64 r, .int .i64 k, .int .i64 2, .int .i64 p])]) => show Calls Try.prog 28 #[.pointer (some ⟨tk, 0, none⟩)] u fun e w' => e = .returned (.tuple #[.int .i64 0, .int .i64 5]) ∧ Hid (HFlo (CelP b0 cb tb ab r (firsts zf len1) (heads len1) 0 (fun _ => false) (fun _ _ => 0) (100)) w w' fb n [] (fun _ => 0) [] (⟨ab, tb, cb, tk, g, (len1 : Int), r, k, 2, p, k, false, 0, 0, fun _ => 0, 1⟩ : Core) [(bc, 28, [.int .i64 (len1 : Int), .int .i64 (n : Int), .int .i64 r, .int .i64 k, .int .i64 2, .int .i64 p])]) from take_end_h h firm_cel (show k ≤ k by omega))
  go_wp2_with fail
  go_loopw [9] (fun iv wr => RelT (fun x u => HFlo (CelP b0 cb tb ab r (firsts zf len1) (heads len1) 0 (fun _ => false) (fun _ _ => 0) (100)) w u fb n [] (fun _ => 0) [] (⟨ab, tb, cb, tk, g, (len1 : Int), r, k, 2, p, x, false, 0, 0, fun _ => 0, 1⟩ : Core) [(bc, 28, [.int .i64 (len1 : Int), .int .i64 (n : Int), .int .i64 r, .int .i64 k, .int .i64 2, .int .i64 p])]) k iv wr) (fun iv _ => (k - intOf iv).toNat)
  case atStart => exact ⟨0, by have := NUM.out; omega, rfl, H10.out⟩
  case round =>
    obtain ⟨j, hj, rfl, M0⟩ := hrel
    have M : Hid (HFlo (CelP b0 cb tb ab r (firsts zf len1) (heads len1) 0 (fun _ => false) (fun _ _ => 0) (100)) w wr fb n [] (fun _ => 0) [] (⟨ab, tb, cb, tk, g, (len1 : Int), r, k, 2, p, (j : Int), false, 0, 0, fun _ => 0, 1⟩ : Core) [(bc, 28, [.int .i64 (len1 : Int), .int .i64 (n : Int), .int .i64 r, .int .i64 k, .int .i64 2, .int .i64 p])]) := M0
    clear M0 H10 z1 z3
    have c0 := M.out.cell firm_cel 0 0 rfl rfl; have c1 := M.out.cell firm_cel 0 1 rfl rfl; have c2 := M.out.cell firm_cel 0 2 rfl rfl; have c3 := M.out.cell firm_cel 0 3 rfl rfl; have c4 := M.out.cell firm_cel 0 4 rfl rfl; have c5 := M.out.cell firm_cel 0 5 rfl rfl
    have hk255 : k ≤ 255 := NUM.out.2.2.2.2.2.2
    have hwj : IntKind.i64.wrap ((j : Int) + 1) = (j : Int) + 1 := IntWalk.i64_in _ (by omega)
    by_cases hlt : (j : Int) < k
    · go_wp2_with fail
      refine (GK2.out _ _ M.out).mono ?_
      rintro e v ⟨rfl, rfl⟩
      go_wp2_with fail
      refine (TAKE.out j hlt _ M.out).mono ?_
      rintro e u2 ⟨rfl, M2⟩
      go_wp2
      go_roundw
      case rel => exact ⟨j + 1, by omega, by go_num, M2.out⟩
      case measure => simp [intOf]; omega
    · have hk := Lib.hid (show (j : Int) = k by omega)
      have M1 : Hid (HFlo (CelP b0 cb tb ab r (firsts zf len1) (heads len1) 0 (fun _ => false) (fun _ _ => 0) (100)) w wr fb n [] (fun _ => 0) [] (⟨ab, tb, cb, tk, g, (len1 : Int), r, k, 2, p, k, false, 0, 0, fun _ => 0, 1⟩ : Core) [(bc, 28, [.int .i64 (len1 : Int), .int .i64 (n : Int), .int .i64 r, .int .i64 k, .int .i64 2, .int .i64 p])]) := by
        have h := M.out
        rw [hk.out] at h
        exact h
      obtain ⟨zz, BT⟩ : ∃ zz : Nat → Int, Hid (∀ (u : World) (h : HFlo (CelP b0 cb tb ab r (firsts zf len1) (heads len1) 0 (fun _ => false) (fun _ _ => 0) (100)) w u fb n [] (fun _ => 0) [] (⟨ab, tb, cb, tk, g, (len1 : Int), r, k, 2, p, k, false, 0, 0, fun _ => 0, 1⟩ : Core) [(bc, 28, [.int .i64 (len1 : Int), .int .i64 (n : Int), .int .i64 r, .int .i64 k, .int .i64 2, .int .i64 p])]), Calls Try.prog 29 #[.pointer (some ⟨g, 0, none⟩), .int .i64 (N1 : Int)] u fun e w' => e = .returned (.int .i64 0) ∧ Hid (HFlo (CelP b0 cb tb ab r (firsts zf len1) (heads len1) 0 (fun _ => false) (fun _ _ => 0) (100)) w w' fb n [] (fun _ => 0) [] (⟨ab, tb, cb, tk, g, (len1 : Int), r, k, 2, p, k, false, 0, 0, zz, 1⟩ : Core) [(bc, 28, [.int .i64 (len1 : Int), .int .i64 (n : Int), .int .i64 r, .int .i64 k, .int .i64 2, .int .i64 p])])) := ⟨_, fun u h => beat_in_h h firm_cel N1 (by have := HN1.out; omega) (show (-9223372036854775808 : Int) ≤ 0 by decide) (show (0 : Int) ≤ 9223372036854775806 by decide)⟩
      have GG2 := Lib.hid (fun (u : World) (h : HFlo (CelP b0 cb tb ab r (firsts zf len1) (heads len1) 0 (fun _ => false) (fun _ _ => 0) (100)) w u fb n [] (fun _ => 0) [] (⟨ab, tb, cb, tk, g, (len1 : Int), r, k, 2, p, k, false, 0, 0, fun _ => 0, 1⟩ : Core) [(bc, 28, [.int .i64 (len1 : Int), .int .i64 (n : Int), .int .i64 r, .int .i64 k, .int .i64 2, .int .i64 p])]) => show Calls Try.prog 13 #[.pointer (some ⟨fb, 0, none⟩)] u fun e w' => e = .returned (.pointer (some ⟨g, 0, none⟩)) ∧ u = w' from hf_ro h firm_cel fun _ F => gate_in F)
      have GG3 := Lib.hid (fun (u : World) (h : HFlo (CelP b0 cb tb ab r (firsts zf len1) (heads len1) 0 (fun _ => false) (fun _ _ => 0) (100)) w u fb n [] (fun _ => 0) [] (⟨ab, tb, cb, tk, g, (len1 : Int), r, k, 2, p, k, false, 0, 0, zz, 1⟩ : Core) [(bc, 28, [.int .i64 (len1 : Int), .int .i64 (n : Int), .int .i64 r, .int .i64 k, .int .i64 2, .int .i64 p])]) => show Calls Try.prog 13 #[.pointer (some ⟨fb, 0, none⟩)] u fun e w' => e = .returned (.pointer (some ⟨g, 0, none⟩)) ∧ u = w' from hf_ro h firm_cel fun _ F => gate_in F)
      have BO := Lib.hid (fun (u : World) (h : HFlo (CelP b0 cb tb ab r (firsts zf len1) (heads len1) 0 (fun _ => false) (fun _ _ => 0) (100)) w u fb n [] (fun _ => 0) [] (⟨ab, tb, cb, tk, g, (len1 : Int), r, k, 2, p, k, false, 0, 0, zz, 1⟩ : Core) [(bc, 28, [.int .i64 (len1 : Int), .int .i64 (n : Int), .int .i64 r, .int .i64 k, .int .i64 2, .int .i64 p])]) => show Calls Try.prog 29 #[.pointer (some ⟨g, 0, none⟩), .int .i64 (n : Int)] u fun e w' => e = .returned (.int .i64 6) ∧ u = w' from beat_out_h h firm_cel _ (.inr (Int.le_refl _)))
      have VL := Lib.hid (fun (u : World) (h : HFlo (CelP b0 cb tb ab r (firsts zf len1) (heads len1) 0 (fun _ => false) (fun _ _ => 0) (100)) w u fb n [] (fun _ => 0) [] (⟨ab, tb, cb, tk, g, (len1 : Int), r, k, 2, p, k, false, 0, 0, zz, 1⟩ : Core) [(bc, 28, [.int .i64 (len1 : Int), .int .i64 (n : Int), .int .i64 r, .int .i64 k, .int .i64 2, .int .i64 p])]) => show Calls Try.prog 17 #[.pointer (some ⟨fb, 0, none⟩)] u fun e w' => ∃ a c, e = .returned (.slice a len1 c) ∧ Hid (vl.Rd w' a (vals0 zf len1)) ∧ Hid (HFlo (CelP b0 cb tb ab r (firsts zf len1) (heads len1) 0 (fun _ => false) (fun _ _ => 0) (100 + 100)) w w' fb n [] (fun _ => 0) [] (⟨ab, tb, cb, tk, g, (len1 : Int), r, k, 2, p, k, false, 0, 0, zz, 1⟩ : Core) [(bc, 28, [.int .i64 (len1 : Int), .int .i64 (n : Int), .int .i64 r, .int .i64 k, .int .i64 2, .int .i64 p])]) from values_h h (by decide) NUM.out.2.2.2.2.1 (vals0 zf len1) len1 (heads_length _) (vals0_length _ _) NUM.out.1 (fun jj hjj => ⟨_, by have X := ValAt.first (z := zf) (L := len1) (tl := []) (hd := heads len1) (is := fun _ => false) (num := fun _ _ => 0) hjj (heads_get len1 jj hjj); rw [List.append_nil] at X; exact X, vals0_get zf len1 jj hjj⟩))
      have TR := Lib.hid (fun (u : World) (h : HFlo (CelP b0 cb tb ab r (firsts zf len1) (heads len1) 0 (fun _ => false) (fun _ _ => 0) (100 + 100)) w u fb n [] (fun _ => 0) [] (⟨ab, tb, cb, tk, g, (len1 : Int), r, k, 2, p, k, false, 0, 0, zz, 1⟩ : Core) [(bc, 28, [.int .i64 (len1 : Int), .int .i64 (n : Int), .int .i64 r, .int .i64 k, .int .i64 2, .int .i64 p])]) => show Calls Try.prog 16 #[.pointer (some ⟨fb, 0, none⟩)] u fun e w' => ∃ a c, e = .returned (.slice a 0 c) ∧ Hid (HFlo (CelP b0 cb tb ab r (firsts zf len1) (heads len1) 0 (fun _ => false) (fun _ _ => 0) (100 + 100)) w w' fb n [] (fun _ => 0) [] (⟨ab, tb, cb, tk, g, (len1 : Int), r, k, 2, p, k, false, 0, 0, zz, 1⟩ : Core) [(bc, 28, [.int .i64 (len1 : Int), .int .i64 (n : Int), .int .i64 r, .int .i64 k, .int .i64 2, .int .i64 p])]) from trace_h h firm_cel (by simp))
      go_wp2_with fail
      refine (GK2.out _ _ M1.out).mono ?_
      rintro e v ⟨rfl, rfl⟩
      go_wp2_with fail
      refine (TEND.out _ M1.out).mono ?_
      rintro e u2 ⟨rfl, M2⟩
      clear c0 c1 c2 c3 c4 c5 M M1 GK2 TAKE TEND
      have c1 := M2.out.cell firm_cel 0 1 rfl rfl
      go_wp2
      go_region_held3 (fun w' => w'.cell? ⟨bc, 1, none⟩ = some (.int .i64 (n : Int))) (go_keep) (first
        | (go_at_call 16; refine (TR.out _ M6.out).mono ?_; rintro e u7 ⟨ta, tc, rfl, M7⟩; have y7 := M7.out.cell firm_cel 0 1 rfl rfl)
        | (go_at_call 30; refine (vl.vals_true va a1 (vals0 zf len1) len1 (vals0_length _ _) vc cap1 _ VR.out (vl.Rd.of_row (W1.out.below (gb_below M5.out.grow))) (by rw [vals0_length]; have := NUM.out; omega)).mono ?_; rintro e u6 ⟨nq, rfl, hu6⟩; have M6 : Hid (HFlo (CelP b0 cb tb ab r (firsts zf len1) (heads len1) 0 (fun _ => false) (fun _ _ => 0) (100 + 100)) w u6 fb n [] (fun _ => 0) [] (⟨ab, tb, cb, tk, g, (len1 : Int), r, k, 2, p, k, false, 0, 0, zz, 1⟩ : Core) [(bc, 28, [.int .i64 (len1 : Int), .int .i64 (n : Int), .int .i64 r, .int .i64 k, .int .i64 2, .int .i64 p])]) := (by rw [← hu6]; exact M5.out.drewN firm_cel nq); clear hu6; have y6 := M6.out.cell firm_cel 0 1 rfl rfl)
        | (go_at_call 17; refine (VL.out _ M4.out).mono ?_; rintro e u5 ⟨va, vc, rfl, VR, M5⟩; have y5 := M5.out.cell firm_cel 0 1 rfl rfl)
        | (go_at_call 29; have e1 := M4.out; clear e1; refine (BO.out _ M4.out).mono ?_; rintro e v ⟨rfl, rfl⟩)
        | (go_at_call 13; have e1 := M4.out; clear e1; refine (GG3.out _ M4.out).mono ?_; rintro e v ⟨rfl, rfl⟩)
        | (go_at_call 29; refine (BT.out _ (M2.out.drew firm_cel)).mono ?_; rintro e u4 ⟨rfl, M4⟩; have y4 := M4.out.cell firm_cel 0 1 rfl rfl)
        | (go_at_call 13; refine (GG2.out _ (M2.out.drew firm_cel)).mono ?_; rintro e v ⟨rfl, rfl⟩)
        | fail)
      go_wp2
      go_ret
      exact ⟨rfl, gb_below M7.out.grow⟩

end Go.Proofs.Ytocjbbfeegmkaaa.floorMade
