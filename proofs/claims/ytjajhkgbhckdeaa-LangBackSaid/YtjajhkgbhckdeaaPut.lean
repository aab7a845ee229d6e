/- The contract of package lang's Put. -/
import Derived.Test.YtjajhkgbhckdeaaApp
import Derived.Test.YtjajhkgbhckdeaaOwn
import Derived.BigQuiet
import Derived.Deep.QuietTactic
import Derived.Deep.CutRange
import Derived.Deep.DeepCutAuto
import Derived.IntWalk
namespace Go.Proofs.Ytjajhkgbhckdeaa.lg
open Go Go.RowKit Go.Proofs.Ytjajhkgbhckdeaa.base
set_option linter.unusedVariables false

theorem put_any (a1 : Option Addr) (len cap : Nat) (z : Nat → Nat → Int) (w : World) (hz : IsOps w a1 len z) (hl : len ≤ 1000) :
    Calls Try.prog 23 #[.slice a1 len cap] w fun e w' => ∃ b' c', e = .returned (.slice b' (len * 3) c') ∧ Hid (w'.ownsRow w.heap.size 5 1 (.slice b' (len * 3) c') (len * 3) (u8s (pb z) (len * 3))) ∧ Hid (w.grownBy w' none) := by
  obtain ⟨i0, hi0, hz00, hz10, hz20⟩ := info_parts infoU8
  have hi := Lib.hid hi0
  have hz0 := Lib.hid hz00
  have hz1 := Lib.hid hz10
  have hz2 := Lib.hid hz20
  have Z := Lib.hid hz
  clear hi0 hz00 hz10 hz20 hz
  have hc : IntKind.i64.wrap (3 * (len : Int)) = ((len * 3 : Nat) : Int) := by rw [IntWalk.i64_in _ (by omega)]; omega
  have hc2 : (3 : Int) * (len : Int) = ((len * 3 : Nat) : Int) := by omega
  have HC := Lib.hid hc2
  clear hc hc2
  go_enter Try.func23, Try.ntmps23
  go_wp2_with (at_make; refine wpList_make_own _ rfl _ _ 38 rfl w.heap.size 5 i0 (.int .u8 0) 1 Try.underlying38 hi.out hz0.out hz1.out .i64 .i64 (3 * (len : Int)) (len * 3) rfl rfl HC.out (by rw [hz2.out]; omega) (by unfold maxLen; omega) (Nat.le_refl _) ?_; intro w1 ho1 hg1)
  have O1 : Hid (w1.ownsRow w.heap.size 5 1 (.slice (some ⟨w.heap.size, 0, none⟩) (0 * 3) (len * 3)) (0 * 3) (u8s (pb z) (0 * 3))) := ho1
  have G1 := Lib.hid hg1
  clear ho1 hg1
  generalize hB : w.heap.size = B at *
  have HB := Lib.hid hB
  clear hB
  clear HC
  go_loopw [3, 12] (fun bv iv wr => ∃ (k m : Nat) (b' : Option Addr) (c' : Nat), k ≤ len ∧ iv = .int .i64 k ∧ Hid (m = k * 3) ∧ bv = .slice b' m c' ∧ Hid (wr.ownsRow B 5 1 (.slice b' m c') m (u8s (pb z) m)) ∧ Hid (w.grownBy wr none)) (fun _ iv _ => (len - intOf iv).toNat)
  case atStart => exact ⟨0, 0, _, _, by omega, rfl, rfl, rfl, O1, G1⟩
  case round =>
    obtain ⟨k, m, b', c', hk, rfl, hm, rfl, O, G⟩ := hrel
    clear O1 G1
    by_cases hlt : k < len
    · obtain ⟨b1, off1, rfl, hb1, c0, c1, c2⟩ := (Z.out.grown G.out).at3 hlt
      have hlt' : (k : Int) < (len : Int) := by omega
      have hms : m + 3 ≤ 1000000 := by have := hm.out; omega
      have HN := Lib.hid (show u8s (pb z) (m + 3) = u8s (pb z) m ++ [.int .u8 (z k 0 % 256), .int .u8 (z k 1 % 256), .int .u8 (z k 2 % 256)] by rw [u8s_succ3, hm.out, pb0, pb1, pb2])
      generalize z k 0 = z0 at *
      generalize z k 1 = z1 at *
      generalize z k 2 = z2 at *
      have hle := Lib.hid G.out.size
      go_wp2_with (at_builtin; go_loud (refine appendU8 _ rfl (.tmp 16) (.tmp 26) rfl B _ m (u8s (pb z) m) rfl (ownsRow_keep O.out (fun b e => (Below.heap_alloc _ _ b (by have := (O.out.lt b e).2; simp; omega)).trans (Below.heap_alloc _ _ b (O.out.lt b e).2))) (some ⟨wr.heap.size + 1, 0, none⟩) 3 3 [.int .u8 (z0 % 256), .int .u8 (z1 % 256), .int .u8 (z2 % 256)] rfl rfl (new_src _ _ _ _ (by simp)) (by intro u hu; simp at hu; rcases hu with rfl | rfl | rfl <;> rfl) hms (by have := HB.out; have := hle.out; simp; omega) ?_); intro b2 c2' w3 ho hg hv)
      have HM := Lib.hid (show m + 3 = (k + 1) * 3 by have := hm.out; omega)
      have O3 : Hid (w3.ownsRow B 5 1 (.slice b2 (m + 3) c2') (m + 3) (u8s (pb z) (m + 3))) := by rw [HN.out]; exact ho
      have G3 := Lib.hid (gb_overO (gb_alloc (gb_alloc G.out _) _) hg (fun i hi => by have := (O.out.lt i hi).1; have := HB.out; omega))
      clear ho hg hv
      go_roundw
      case rel => exact ⟨k + 1, m + 3, b2, c2', by omega, by go_num, HM, rfl, O3, G3⟩
      case measure => simp [intOf]; omega
    · obtain rfl : k = len := by omega
      obtain rfl := hm.out
      go_wp2
      go_ret
      exact ⟨b', c', rfl, by rw [HB.out]; exact O, G⟩
end Go.Proofs.Ytjajhkgbhckdeaa.lg
