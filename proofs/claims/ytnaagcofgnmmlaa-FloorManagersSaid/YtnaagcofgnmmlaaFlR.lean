/- Package floor: its rules: tickets, a gate, a manager. -/
import Derived.Test.YtnaagcofgnmmlaaFl
namespace Go.Proofs.Ytnaagcofgnmmlaa.fl
open Go Go.RowKit Go.Proofs.Ytnaagcofgnmmlaa.base
set_option linter.unusedVariables false

set_option maxRecDepth 100000 in
set_option maxHeartbeats 1000000 in
theorem rules_any (o r k m p : Int) (n : Nat) (hk : 0 ≤ k ∧ k ≤ 255) (hn : 1 ≤ n ∧ n ≤ 6) (hm : 1 ≤ m ∧ m ≤ 4) (w0 : Bas) (w : World) (R : Blks) (h : base.Own w0 w R) :
    Calls Try.prog 11 #[.agg #[.int .i64 o, .int .i64 n, .int .i64 r, .int .i64 k, .int .i64 m, .int .i64 p]] w fun e w' => ∃ tk g, e = .returned (.agg #[.int .i64 o, .int .i64 n, .int .i64 r, .int .i64 k, .int .i64 m, .int .i64 p, .pointer (some ⟨tk, 0, none⟩), .pointer (some ⟨g, 0, none⟩), mgr m]) ∧
      Hid (gate.Gt w0 w' g n false 0 0 (fun _ => 0) 0 ((tk, 100, [.int .i64 k, .int .i64 0]) :: R)) := by
  have O0 : base.Own w0 ((w.alloc (.cells #[.int .i64 o, .int .i64 n, .int .i64 r, .int .i64 k, .int .i64 m, .int .i64 p] 24)).alloc (.cells #[.int .i64 0, .int .i64 0, .int .i64 0, .int .i64 0, .int .i64 0, .int .i64 0, .pointer none, .pointer none, .nilIface] 57)) ((w.heap.size + 1, 57, [.int .i64 0, .int .i64 0, .int .i64 0, .int .i64 0, .int .i64 0, .int .i64 0, .pointer none, .pointer none, .nilIface]) :: (w.heap.size, 24, [.int .i64 o, .int .i64 n, .int .i64 r, .int .i64 k, .int .i64 m, .int .i64 p]) :: R) := by
    have X := (h.alloc 24 [.int .i64 o, .int .i64 n, .int .i64 r, .int .i64 k, .int .i64 m, .int .i64 p]).alloc 57 [.int .i64 0, .int .i64 0, .int .i64 0, .int .i64 0, .int .i64 0, .int .i64 0, .pointer none, .pointer none, .nilIface]
    simp only [size_alloc] at X
    exact X
  have O0 := Lib.hid O0
  have C0 := (h.alloc 24 [.int .i64 o, .int .i64 n, .int .i64 r, .int .i64 k, .int .i64 m, .int .i64 p]).alloc 57 [.int .i64 0, .int .i64 0, .int .i64 0, .int .i64 0, .int .i64 0, .int .i64 0, .pointer none, .pointer none, .nilIface]
  clear h
  generalize hu : ((w.alloc (.cells #[.int .i64 o, .int .i64 n, .int .i64 r, .int .i64 k, .int .i64 m, .int .i64 p] 24)).alloc (.cells #[.int .i64 0, .int .i64 0, .int .i64 0, .int .i64 0, .int .i64 0, .int .i64 0, .pointer none, .pointer none, .nilIface] 57)) = u0 at O0
  have HU := Lib.hid hu
  clear hu C0
  have D0 := O0.out
  have d3 := D0.cell 1 3 rfl rfl
  clear D0
  obtain ⟨M, hM, hM2⟩ : ∃ M, mgr m = M ∧ ∃ t, M = .iface t (.agg #[]) := by
    refine ⟨_, rfl, ?_⟩
    unfold mgr
    split
    · exact ⟨_, rfl⟩
    split
    · exact ⟨_, rfl⟩
    split
    · exact ⟨_, rfl⟩
    exact ⟨_, rfl⟩
  obtain ⟨mt, rfl⟩ := hM2
  rw [hM]
  have HF := Lib.hid ((mgrF_get hm.1 hm.2).trans (by rw [hM]))
  clear hM
  have HW : Hid ((Lit.int .i64 m).wf = true) := by
    unfold Hid
    obtain rfl | rfl | rfl | rfl : m = 1 ∨ m = 2 ∨ m = 3 ∨ m = 4 := by omega
    all_goals decide
  go_enter Try.func11, Try.ntmps11
  go_wp2_with fail
  rw [HU.out]
  refine (wd.new_made k u0 hk.1 hk.2).mono ?_
  rintro e u1 ⟨tk, rfl, htk, T1, g1⟩
  have O1 := Lib.hid (Own.fresh O0.out g1.out htk.out T1.out)
  have D1 := O1.out
  have e1 := D1.cell 2 1 rfl rfl
  clear O0 D1 T1 g1 htk d3
  go_wp2_with fail
  refine (gate.new_any n hn.1 hn.2 w0 u1 _ O1.out).mono ?_
  rintro e u2 ⟨g, rfl, G2⟩
  clear O1 e1
  have D2 := G2.out
  have c0 := G2.out.cell 2 0 rfl rfl; have c1 := G2.out.cell 2 1 rfl rfl; have c2 := G2.out.cell 2 2 rfl rfl; have c3 := G2.out.cell 2 3 rfl rfl; have c4 := G2.out.cell 2 4 rfl rfl; have c5 := G2.out.cell 2 5 rfl rfl
  clear D2
  generalize w.heap.size + 1 = br at *
  generalize w.heap.size = bc at *
  obtain ⟨nb1, nb2⟩ := G2.out.ne' 1 2 rfl rfl (by omega)
  go_wp2
  go_region_held3 (fun w' => w'.cell? ⟨bc, 0, none⟩ = some (.int .i64 o) ∧ w'.cell? ⟨bc, 1, none⟩ = some (.int .i64 n) ∧ w'.cell? ⟨bc, 2, none⟩ = some (.int .i64 r) ∧ w'.cell? ⟨bc, 3, none⟩ = some (.int .i64 k) ∧ w'.cell? ⟨bc, 4, none⟩ = some (.int .i64 m) ∧ w'.cell? ⟨bc, 5, none⟩ = some (.int .i64 p)) (go_keep) ((go_at_call 20; refine (managers_any _).mono ?_; rintro e u3 ⟨mb, rfl, M3, g3⟩; have G3 := Lib.hid (G2.out.drew.grown g3.out); have q0 := G3.out.cell 2 0 rfl rfl; have q1 := G3.out.cell 2 1 rfl rfl; have q2 := G3.out.cell 2 2 rfl rfl; have q3 := G3.out.cell 2 3 rfl rfl; have q4 := G3.out.cell 2 4 rfl rfl; have q5 := G3.out.cell 2 5 rfl rfl; have z0 := G3.out.cell 1 0 rfl rfl; have z1 := G3.out.cell 1 1 rfl rfl; have z2 := G3.out.cell 1 2 rfl rfl; have z3 := G3.out.cell 1 3 rfl rfl; have z4 := G3.out.cell 1 4 rfl rfl; have z5 := G3.out.cell 1 5 rfl rfl; have z6 := G3.out.cell 1 6 rfl rfl; have z7 := G3.out.cell 1 7 rfl rfl; have z8 := G3.out.cell 1 8 rfl rfl; have f0 := G3.out.free 1 0 rfl; have f1 := G3.out.free 1 1 rfl; have f2 := G3.out.free 1 2 rfl; have f3 := G3.out.free 1 3 rfl; have f4 := G3.out.free 1 4 rfl; have f5 := G3.out.free 1 5 rfl; have f6 := G3.out.free 1 6 rfl; have f7 := G3.out.free 1 7 rfl; have f8 := G3.out.free 1 8 rfl; have hl0 := M3.out.get Try.underlying3 Try.underlying81 (zeroM _) HW.out; rw [HF.out] at hl0; have hl : (Instr.lookup 81 (.map (some mb)) (.int .i64 m) false).run Try.prog u3 = .ok (.iface mt (.agg #[])) u3 := hl0; clear hl0))
  have G4 := G3.out
  have X0 := G4.set 1 0 (.int .i64 o) rfl
  have X1 := X0.set 1 1 (.int .i64 n) rfl
  have X2 := X1.set 1 2 (.int .i64 r) rfl
  have X3 := X2.set 1 3 (.int .i64 k) rfl
  have X4 := X3.set 1 4 (.int .i64 m) rfl
  have X5 := X4.set 1 5 (.int .i64 p) rfl
  have X6 := X5.set 1 6 (.pointer (some ⟨tk, 0, none⟩)) rfl
  have X7 := X6.set 1 7 (.pointer (some ⟨g, 0, none⟩)) rfl
  have X8 := X7.set 1 8 (.iface mt (.agg #[])) rfl
  have Y0 := Lib.hid (X0.cell 1 0 rfl rfl)
  have Y1 := Lib.hid (X1.cell 1 1 rfl rfl)
  have Y2 := Lib.hid (X2.cell 1 2 rfl rfl)
  have Y3 := Lib.hid (X3.cell 1 3 rfl rfl)
  have Y4 := Lib.hid (X4.cell 1 4 rfl rfl)
  have Y5 := Lib.hid (X5.cell 1 5 rfl rfl)
  have Y6 := Lib.hid (X6.cell 1 6 rfl rfl)
  have Y7 := Lib.hid (X7.cell 1 7 rfl rfl)
  have Y8 := Lib.hid (X8.cell 1 8 rfl rfl)
  have XX := Lib.hid (X8.drop (List.Sublist.cons_cons _ (List.Sublist.cons _ (List.Sublist.cons _ (List.Sublist.refl _)))))
  clear G4 X0 X1 X2 X3 X4 X5 X6 X7 X8
  go_wp2
  refine bodyPost_ret (v := .agg #[.int .i64 o, .int .i64 n, .int .i64 r, .int .i64 k, .int .i64 m, .int .i64 p, .pointer (some ⟨tk, 0, none⟩), .pointer (some ⟨g, 0, none⟩), .iface mt (.agg #[])]) (by simp [results, Try.results11, go_sem, Y0.out, Y1.out, Y2.out, Y3.out, Y4.out, Y5.out, Y6.out, Y7.out, Y8.out]) rfl ⟨tk, g, rfl, XX⟩

end Go.Proofs.Ytnaagcofgnmmlaa.fl
