/- The document's example of layer 2 holds, and changes nothing that was there. -/
import Derived.Test.YtockjmcbfmbjaaaArenaS
namespace Go.Proofs.Ytockjmcbfmbjaaa.ar
open Go Go.RowKit Go.Proofs.Ytockjmcbfmbjaaa.base

theorem alive_any (w : World) : Calls Try.prog 7 #[] w fun e w' => e = .returned (.bool true) ∧ Hid (Below w.heap.size w w') := by
  go_enter Try.func7, Try.ntmps7
  go_wp2_with fail
  refine (newS_in w.heap.size 1 w (by omega) (by omega) (Nat.le_refl _)).mono ?_
  rintro e w1 ⟨b, rfl, hb, A1, g1⟩
  have B1 := Lib.hid (gb_below g1.out)
  go_wp2_with fail
  refine (putS w.heap.size b ⟨#[97]⟩ 1 0 [] none w1 A1.out (by omega) (by omega) g1.out.size).mono ?_
  rintro e w2 ⟨r, rfl, A2, c2⟩
  have B2 := Lib.hid (c2.out.bl B1.out g1.out.size A1.out)
  clear A1 c2
  go_wp2_with fail
  refine (putS_full w.heap.size b ⟨#[98]⟩ 1 _ _ _ w2 A2.out (by omega) (by omega)).mono ?_
  rintro e w3 ⟨k, rfl, rfl⟩
  go_wp2_with fail
  refine (atS w.heap.size b 0 ⟨#[97]⟩ 1 _ _ _ _ (A2.out.drewN k) (by omega) (by omega) rfl).mono ?_
  rintro e w4 ⟨rfl, rfl⟩
  go_wp2
  go_ret
  exact ⟨by rfl, bl_drewN B2.out k⟩
end Go.Proofs.Ytockjmcbfmbjaaa.ar
