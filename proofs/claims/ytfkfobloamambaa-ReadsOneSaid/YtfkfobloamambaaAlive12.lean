/- The law's alive: the document's example. -/
import Derived.Test.YtfkfobloamambaaEq12
import Derived.Test.YtfkfobloamambaaDel
namespace Go.Proofs.Ytfkfobloamambaa.rd
open Go Go.RowKit Go.Proofs.Ytfkfobloamambaa.base Go.Proofs.Ytfkfobloamambaa.lg
set_option linter.unusedVariables false

theorem alive_u1 : unc [⟨1, 0, 0, 0, false⟩] [⟨0, 0, 0⟩, ⟨1, 0, 0⟩] = [⟨0, 0, 0⟩] := by simp [unc, pl]
theorem alive_u2 : unc [⟨1, 0, 0, 0, false⟩] [⟨1, 0, 0⟩] = [] := by simp [unc, pl]

set_option maxHeartbeats 1000000 in
theorem alive_any (w : World) : Calls Try.prog 7 #[] w fun e w' => e = .returned (.bool true) ∧ Hid (w.grownBy w' none) := by
  have N := Lib.hid (new_any w [] w (Own.start w))
  have A1 := Lib.hid (fun (s : Nat) (u : World) (hu : Has (SA s [] []) w u []) => (show Calls Try.prog 10 #[.pointer (some ⟨s, 0, none⟩), .agg #[.int .i64 0, .int .i64 0, .int .i64 0]] u fun e w' => e = .returned (.int .i64 0) ∧ Hid (Has (SA s [⟨0, 0, 0⟩] []) w w' []) from add_new w [] s [] [] ⟨0, 0, 0⟩ u hu (by decide) rfl))
  have A2 := Lib.hid (fun (s : Nat) (u : World) (hu : Has (SA s [⟨0, 0, 0⟩] []) w u []) => (show Calls Try.prog 10 #[.pointer (some ⟨s, 0, none⟩), .agg #[.int .i64 1, .int .i64 0, .int .i64 0]] u fun e w' => e = .returned (.int .i64 0) ∧ Hid (Has (SA s [⟨0, 0, 0⟩, ⟨1, 0, 0⟩] []) w w' []) from add_new w [] s [⟨0, 0, 0⟩] [] ⟨1, 0, 0⟩ u hu (by decide) (by simp [pl])))
  have P1 := Lib.hid (fun (s : Nat) (u : World) (hu : Has (SA s [⟨0, 0, 0⟩, ⟨1, 0, 0⟩] []) w u []) => (show Calls Try.prog 13 #[.pointer (some ⟨s, 0, none⟩), .agg #[.int .i64 1, .int .i64 0, .int .i64 0, .int .i64 0, .bool false]] u fun e w' => e = .returned (.tuple #[]) ∧ Hid (Has (SA s [⟨0, 0, 0⟩, ⟨1, 0, 0⟩] [⟨1, 0, 0, 0, false⟩]) w w' []) from put_new w [] s _ [] ⟨1, 0, 0, 0, false⟩ u hu (by decide) rfl))
  have U1 := Lib.hid (fun (s : Nat) (u : World) (hu : Has (SA s [⟨0, 0, 0⟩, ⟨1, 0, 0⟩] [⟨1, 0, 0, 0, false⟩]) w u []) => alive_u1 ▸ unc_any w [] s _ _ u hu (by decide) (by decide))
  have D1 := Lib.hid (fun (s : Nat) (u : World) (hu : Has (SA s [⟨0, 0, 0⟩, ⟨1, 0, 0⟩] [⟨1, 0, 0, 0, false⟩]) w u []) => drop_in w [] s _ _ 0 0 u hu (by decide) (by simp [pl]) (by decide))
  have U2 := Lib.hid (fun (s : Nat) (u : World) (hu : Has (SA s [⟨1, 0, 0⟩] [⟨1, 0, 0, 0, false⟩]) w u []) => alive_u2 ▸ unc_any w [] s _ _ u hu (by decide) (by decide))
  generalize hs : w.heap.size = s at N
  clear hs
  go_enter Try.func7, Try.ntmps7
  go_wp2_with fail
  refine N.out.mono ?_
  rintro e u1 ⟨rfl, H1⟩
  go_wp2_with fail
  refine (A1.out _ _ H1.out).mono ?_
  rintro e u2 ⟨rfl, H2⟩
  go_wp2_with fail
  refine (A2.out _ _ H2.out).mono ?_
  rintro e u3 ⟨rfl, H3⟩
  go_wp2_with fail
  refine (P1.out _ _ H3.out).mono ?_
  rintro e u4 ⟨rfl, H4⟩
  clear H1 H2 H3 A1 A2 P1 N
  go_wp2_with fail
  refine (U1.out _ _ H4.out).mono ?_
  rintro e u5 ⟨NN, a, c, rfl, hN, O, G⟩
  obtain rfl : NN = 1 := hN.out
  have H5 := Lib.hid (H4.out.grown G.out)
  obtain ⟨b1, off1, rfl, hb1, c0, c1, c2⟩ := at3 (IsL.of_own O.out rlen rfl) (j := 0) rfl
  simp only [Nat.zero_mul, Nat.add_zero] at c0 c1 c2
  clear H4 O G U1 hN
  go_wp2_with fail
  refine (D1.out _ _ H5.out).mono ?_
  rintro e u6 ⟨rfl, H6⟩
  clear H5 D1
  go_wp2_with fail
  refine (U2.out _ _ H6.out).mono ?_
  rintro e u7 ⟨NN, a, c, rfl, hN, O, G⟩
  obtain rfl : NN = 0 := hN.out
  have H7 := Lib.hid (H6.out.grown G.out)
  clear H6 O G U2 hN
  go_wp2
  go_ret
  exact ⟨rfl, H7.out.grow⟩

end Go.Proofs.Ytfkfobloamambaa.rd
