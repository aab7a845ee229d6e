/- The document's example of chapter 18. -/
import Derived.Test.YtdohepenmejcaaaMs
import Derived.Test.YtdohepenmejcaaaMv
namespace Go.Proofs.Ytdohepenmejcaaa.md
open Go Go.RowKit Go.Proofs.Ytdohepenmejcaaa.base Go.Proofs.Ytdohepenmejcaaa.hs Go.Proofs.Ytdohepenmejcaaa.lg Go.Maps
set_option linter.unusedVariables false
set_option maxRecDepth 100000

def exM : Evs := fun i => match i with
  | 0 => ⟨1, 0, 0, 1, 0, 0, 0⟩
  | 1 => ⟨3, 0, 0, 1, 0, 7, 0⟩
  | _ => ⟨5, 0, 0, 1, 0, 0, 0⟩
theorem exM_right : right exM 3 = true := by decide
theorem exM_cacs : cacs exM 3 = [[⟨1, 3, 0, 7, false, false⟩]] := by decide

theorem exM_at {w : World} {b : Nat} (BX : Blk 58 w b #[.int .i64 1, .int .i64 0, .int .i64 0, .int .i64 1, .int .i64 0, .int .i64 0, .int .i64 0, .int .i64 3, .int .i64 0, .int .i64 0, .int .i64 1, .int .i64 0, .int .i64 7, .int .i64 0, .int .i64 5, .int .i64 0, .int .i64 0, .int .i64 1, .int .i64 0, .int .i64 0, .int .i64 0]) : IsEvs w (some ⟨b, 0, none⟩) 3 exM := by
  refine .inr ⟨_, 0, rfl, BX.lt, fun i hi => ⟨fun j hj => ?_, ?_⟩⟩
  · rw [BX.cell]
    match i, hi, j, hj with
    | 0, _, 0, _ => rfl
    | 0, _, 1, _ => rfl
    | 0, _, 2, _ => rfl
    | 0, _, 3, _ => rfl
    | 0, _, 4, _ => rfl
    | 0, _, 5, _ => rfl
    | 0, _, 6, _ => rfl
    | 1, _, 0, _ => rfl
    | 1, _, 1, _ => rfl
    | 1, _, 2, _ => rfl
    | 1, _, 3, _ => rfl
    | 1, _, 4, _ => rfl
    | 1, _, 5, _ => rfl
    | 1, _, 6, _ => rfl
    | 2, _, 0, _ => rfl
    | 2, _, 1, _ => rfl
    | 2, _, 2, _ => rfl
    | 2, _, 3, _ => rfl
    | 2, _, 4, _ => rfl
    | 2, _, 5, _ => rfl
    | 2, _, 6, _ => rfl
  · match i, hi with
    | 0, _ => exact ⟨by decide, by decide, by decide, by decide, by decide, by decide, by decide⟩
    | 1, _ => exact ⟨by decide, by decide, by decide, by decide, by decide, by decide, by decide⟩
    | 2, _ => exact ⟨by decide, by decide, by decide, by decide, by decide, by decide, by decide⟩

theorem one_at {w : World} {b : Nat} {x : Int} (B : Blk 2 w b #[.int .i64 x]) : IsNums .i64 w (some ⟨b, 0, none⟩) 1 (fun _ => x) := by
  refine .inr ⟨b, 0, rfl, B.lt, fun i hi => ?_⟩
  obtain rfl : i = 0 := by omega
  exact B.cell 0

set_option maxHeartbeats 2000000 in
theorem alive_any (w : World) : Calls Try.prog 9 #[] w fun r w' => r = .returned (.bool true) ∧ Hid (w.grownBy w' none) := by
  have BX := Lib.hid (Blk.made w 58 #[.int .i64 1, .int .i64 0, .int .i64 0, .int .i64 1, .int .i64 0, .int .i64 0, .int .i64 0, .int .i64 3, .int .i64 0, .int .i64 0, .int .i64 1, .int .i64 0, .int .i64 7, .int .i64 0, .int .i64 5, .int .i64 0, .int .i64 0, .int .i64 1, .int .i64 0, .int .i64 0, .int .i64 0])
  have GA := Lib.hid (World.grownBy_alloc w (.cells #[.int .i64 1, .int .i64 0, .int .i64 0, .int .i64 1, .int .i64 0, .int .i64 0, .int .i64 0, .int .i64 3, .int .i64 0, .int .i64 0, .int .i64 1, .int .i64 0, .int .i64 7, .int .i64 0, .int .i64 5, .int .i64 0, .int .i64 0, .int .i64 1, .int .i64 0, .int .i64 0, .int .i64 0] 58) none)
  have BY := Lib.hid (Blk.made (w.alloc (.cells #[.int .i64 1, .int .i64 0, .int .i64 0, .int .i64 1, .int .i64 0, .int .i64 0, .int .i64 0, .int .i64 3, .int .i64 0, .int .i64 0, .int .i64 1, .int .i64 0, .int .i64 7, .int .i64 0, .int .i64 5, .int .i64 0, .int .i64 0, .int .i64 1, .int .i64 0, .int .i64 0, .int .i64 0] 58)) 2 #[.int .i64 5])
  have BX2 := Lib.hid (BX.out.alloc (.cells #[.int .i64 5] 2))
  have GB := Lib.hid (gb_alloc GA.out (.cells #[.int .i64 5] 2))
  have HS := Lib.hid (states_any (some ⟨w.heap.size + 1, 0, none⟩) 1 1 (fun _ => 5) (some ⟨w.heap.size, 0, none⟩) 3 3 exM _ (by have h := one_at BY.out; rwa [World.size_alloc] at h) (exM_at BX2.out) (by omega) (by omega))
  clear BX BY BX2 GA
  go_enter Try.func9, Try.ntmps9
  go_wp2_with fail
  refine HS.out.mono ?_
  rintro r u1 ⟨a, c, us, rfl, h1, h2, h3, h4⟩
  have hlen := h1.out
  rw [exM_cacs] at hlen
  obtain ⟨x0, x1, rfl⟩ : ∃ x y, us = [x, y] := by
    match us, hlen with
    | [x, y], _ => exact ⟨x, y, rfl⟩
  obtain ⟨y0, k0, rfl, o0⟩ := h4.out 0 x0 rfl
  obtain ⟨y1, k1, rfl, o1⟩ := h4.out 1 x1 rfl
  have N0 := Lib.hid (show IsNums .i64 u1 y0 1 (fun _ => 5) from (IsNums.of_own o0).congr (fun i _ => by rw [exM_cacs]; rfl))
  have N1 := Lib.hid (show IsNums .i64 u1 y1 1 (fun _ => 7) from (IsNums.of_own o1).congr (fun i hi => by rw [exM_cacs]; obtain rfl : i = 0 := (by omega); rfl))
  obtain ⟨g, rfl⟩ : ∃ g, a = some ⟨g, 0, none⟩ := by
    rcases h3.out.2 with ⟨_, h⟩ | ⟨g, _, _, h, _⟩
    · cases h
    · injection h with h; exact ⟨g, h⟩
  have c0 : u1.cell? ⟨g, 0, none⟩ = some (.slice y0 1 k0) := h3.out.cellAt 0 (by simp)
  have c1 : u1.cell? ⟨g, 1, none⟩ = some (.slice y1 1 k1) := h3.out.cellAt 1 (by simp)
  have hgl := World.block_lt_of_cell? _ _ c0
  have G1 := Lib.hid (gb_trans GB.out h2.out)
  clear h1 h2 h3 h4 hlen HS GB o0 o1
  have BY := Lib.hid (Blk.made u1 2 #[.int .i64 5])
  have GC := Lib.hid (World.grownBy_alloc u1 (.cells #[.int .i64 5] 2) none)
  go_wp2_with fail
  refine (vals_yes _ _ 1 _ _ (fun _ => 5) _ (N0.out.grown GC.out) (one_at BY.out) (by omega)).mono ?_
  rintro r u2 ⟨rfl, g2⟩
  have e0 : u2.cell? ⟨g, 0, none⟩ = some (.slice y0 1 k0) := g2.out.cell (GC.out.cell c0 (by simp)) (by simp)
  have e1 : u2.cell? ⟨g, 1, none⟩ = some (.slice y1 1 k1) := g2.out.cell (GC.out.cell c1 (by simp)) (by simp)
  have G2 := Lib.hid (gb_trans (gb_trans G1.out GC.out) g2.out)
  have M1 := Lib.hid ((N1.out.grown GC.out).grown g2.out)
  have BZ := Lib.hid (Blk.made u2 2 #[.int .i64 7])
  have GD := Lib.hid (World.grownBy_alloc u2 (.cells #[.int .i64 7] 2) none)
  go_wp2_with fail
  refine (vals_yes _ _ 1 _ _ (fun _ => 7) _ (M1.out.grown GD.out) (one_at BZ.out) (by omega)).mono ?_
  rintro r u3 ⟨rfl, g3⟩
  go_wp2
  go_ret
  exact ⟨rfl, gb_trans (gb_trans G2.out GD.out) g3.out⟩
end Go.Proofs.Ytdohepenmejcaaa.md
