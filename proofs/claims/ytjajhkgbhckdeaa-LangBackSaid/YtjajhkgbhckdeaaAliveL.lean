/- The statements' own example (quarrellaw11.alive). -/
import Derived.Test.YtjajhkgbhckdeaaAlone
import Derived.Test.YtjajhkgbhckdeaaRef
namespace Go.Proofs.Ytjajhkgbhckdeaa.lg
open Go Go.RowKit Go.Proofs.Ytjajhkgbhckdeaa.base
set_option linter.unusedVariables false

/-- The example's operations. -/
def exz (i j : Nat) : Int := (([[1, 0, 0], [4, 0, 5], [2, 1, 0]] : List (List Int)).getD i []).getD j 0
def exv (i : Nat) : Int := ([7, 2] : List Int).getD i 0

def exw (i : Nat) : Int := ([7, 12] : List Int).getD i 0
theorem ex_run : ∀ i, i < 2 → (run exz exv 3).2 i = exw i := by
  intro i hi
  rcases (by omega : i = 0 ∨ i = 1) with rfl | rfl
  · simp [run, exz, exv, exw, sumI]
  · simp [run, exz, exv, exw, sumI, wrap64]
theorem ex_right : rightB exz 3 ((2 : Nat) : Int) = true := by decide

theorem alive_any (w : World) : Calls Try.prog 10 #[] w fun e w' => e = .returned (.bool true) ∧ Hid (w.grownBy w' none) := by
  have O := Lib.hid (((Own.start w).alloc 24 (ops exz 3)).alloc 2 (vals exv 2))
  have L1 := Lib.hid (IsOps.of_blk (O.out.get 1 rfl))
  have L2 := Lib.hid (IsNums.of_blk (k := .i64) (O.out.get 0 rfl))
  simp only [size_alloc] at O L1 L2
  have HA := Lib.hid (alone_any (some ⟨w.heap.size, 0, none⟩) 3 3 exz (some ⟨w.heap.size + 1, 0, none⟩) 2 2 exv _ L1.out L2.out ex_right (by omega))
  go_enter Try.func10, Try.ntmps10
  go_wp2_with fail
  refine HA.out.mono ?_
  rintro e u ⟨b', c', rfl, R, G⟩
  have G2 := Lib.hid (gb_trans O.out.grow G.out)
  clear G O L1 L2 HA
  have N := Lib.hid ((IsNums.of_own (k := .i64) (f := (run exz exv 3).2) R.out).congr ex_run)
  clear R
  have N1 := Lib.hid (N.out.grown (World.grownBy_alloc u (.cells #[.int .i64 7, .int .i64 12] 2) none))
  have N2 : Hid (IsNums .i64 (u.alloc (.cells #[.int .i64 7, .int .i64 12] 2)) (some ⟨u.heap.size, 0, none⟩) 2 exw) := IsNums.of_blk (Blk.made u 2 _)
  have G3 := Lib.hid (gb_alloc G2.out (.cells #[.int .i64 7, .int .i64 12] 2))
  clear N G2
  go_wp2_with fail
  refine (vals_true _ _ 2 _ _ exw _ N1.out N2.out (by omega)).mono ?_
  rintro e u2 ⟨rfl, g⟩
  have G4 := Lib.hid (gb_trans G3.out g.out)
  clear g G3 N1 N2
  go_wp2
  go_ret
  exact ⟨rfl, G4.out⟩
end Go.Proofs.Ytjajhkgbhckdeaa.lg
