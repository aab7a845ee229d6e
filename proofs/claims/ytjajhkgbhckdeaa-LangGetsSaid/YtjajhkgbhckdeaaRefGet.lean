/- The contract of the document's own Get (quarrelref11.Get). -/
import Derived.Test.YtjajhkgbhckdeaaGet
namespace Go.Proofs.Ytjajhkgbhckdeaa.lg
open Go Go.RowKit Go.Proofs.Ytjajhkgbhckdeaa.base
set_option linter.unusedVariables false

def lenV : Value → Nat
  | .slice _ n _ => n
  | _ => 0

set_option maxHeartbeats 1000000 in
theorem refget_any (a1 : Option Addr) (n cap : Nat) (bf : Nat → Int) (objs : Int) (w : World) (hz : IsNums .u8 w a1 n bf) (hb : ∀ i, i < n → 0 ≤ bf i ∧ bf i ≤ 255) (hn : n ≤ 100000) :
    Calls Try.prog 21 #[.slice a1 n cap, .int .i64 objs] w (GetR w bf n objs) := by
  have Z := Lib.hid hz
  have HB := Lib.hid hb
  clear hz hb
  go_enter Try.func21, Try.ntmps21
  go_wp2_with fail
  go_loopw [7] (fun lv wr => ∃ (k m : Nat) (b' : Option Addr) (c' : Nat), m ≤ n ∧ Hid (m = k * 3) ∧ lv = .slice b' k c' ∧ Hid (okN (gz bf) objs k = true) ∧ Hid (wr.ownsRow w.heap.size 24 3 (.slice b' k c') k (ops (gz bf) k)) ∧ Hid (w.grownBy wr none)) (fun lv _ => n - lenV lv * 3)
  case atStart => exact ⟨0, 0, none, 0, by omega, rfl, rfl, rfl, World.ownsRow_nil _ _ _ _, gb_refl _ _⟩
  case round =>
    obtain ⟨k, m, b', c', hmn, hm3, rfl, K, O, G⟩ := hrel
    have hk3 : IntKind.i64.wrap ((k : Int) * 3) = (m : Int) := by have := hm3.out; rw [IntWalk.i64_in _ (by omega)]; omega
    have hk4 : (k : Int) * 3 = (m : Int) := by have := hm3.out; omega
    by_cases hlt : m < n
    · have hlt' : (m : Int) < (n : Int) := by omega
      by_cases h3 : n < m + 3
      · have h3' : decide ((n : Int) < (m : Int) + 3) = true := by simp; omega
        go_wp2
        refine bodyPost_ret (v := .tuple #[.slice none 0 0, .int .i64 m, .int .i64 9]) ?_ rfl ?_
        · simp [results, Try.results21, go_sem]
        · exact ⟨G.out, .inr (.inl ⟨k, by have := hm3.out; omega, by have := hm3.out; omega, K.out, by rw [hm3.out]⟩)⟩
      · have h3' : decide ((n : Int) < (m : Int) + 3) = false := by simp; omega
        obtain ⟨b1, off1, rfl, hb1, c0⟩ := (Z.out.grown G.out).at1 hlt
        obtain ⟨_, _, e1, _, c1⟩ := (Z.out.grown G.out).at1 (show m + 1 < n by omega)
        cases e1
        obtain ⟨_, _, e1, _, c2⟩ := (Z.out.grown G.out).at1 (show m + 2 < n by omega)
        cases e1
        have E := Lib.hid (show gz bf k 0 = bf m ∧ gz bf k 1 = bf (m + 1) ∧ gz bf k 2 = s8 (bf (m + 2)) by rw [gz0, gz1, gz2, hm3.out]; exact ⟨rfl, rfl, rfl⟩)
        obtain ⟨l00, l01⟩ := HB.out m hlt
        obtain ⟨l10, l11⟩ := HB.out (m + 1) (by omega)
        obtain ⟨l20, l21⟩ := HB.out (m + 2) (by omega)
        generalize bf m = x0 at *
        generalize bf (m + 1) = x1 at *
        generalize bf (m + 2) = y2 at *
        have i1 : (m : Int) + 1 < (n : Int) := by omega
        have i2 : (m : Int) + 2 < (n : Int) := by omega
        by_cases hy : 127 < y2
        · have E2 := Lib.hid (show gz bf k 2 = y2 - 256 by rw [E.out.2.2]; simp [s8, hy])
          have k0 : IntKind.i64.wrap x0 = x0 := IntWalk.i64_in _ (by omega)
          have k1 : IntKind.i64.wrap x1 = x1 := IntWalk.i64_in _ (by omega)
          have k2 : IntKind.i64.wrap ((m : Int) + 1) = (m : Int) + 1 := IntWalk.i64_in _ (by omega)
          have k3 : (0 : Int) ≤ (m : Int) + 1 := by omega
          have k4 : ((m : Int) + 1).toNat = m + 1 := by omega
          have B1 := Lib.hid (Blk.made wr 24 #[.int .i64 x0, .int .i64 x1, .int .i64 (y2 - 256)])
          have G1 := Lib.hid (gb_drew (gb_alloc G.out (.cells #[.int .i64 x0, .int .i64 x1, .int .i64 (y2 - 256)] 24)))
          have O1 := Lib.hid (ownsRow_keep (w' := (wr.alloc (.cells #[.int .i64 x0, .int .i64 x1, .int .i64 (y2 - 256)] 24)).drew) O.out (fun b e => Below.heap_alloc _ _ b (O.out.lt b e).2))
          go_upto_region 9 with fail
          go_region
          go_wp2_with fail
          clear O G Z k0 k1 k2 k3 k4 c0 c1 c2
          cases hB : okB x0 x1 (y2 - 256) objs with
          | false =>
            have HO := Lib.hid (fun u => (hB ▸ refok_any x0 x1 (y2 - 256) objs u))
            have HN := Lib.hid (show okB (gz bf k 0) (gz bf k 1) (gz bf k 2) objs = false by rw [E.out.1, E.out.2.1, E2.out]; exact hB)
            clear hB
            refine (HO.out _).mono ?_
            rintro e u ⟨rfl, g⟩
            go_wp2
            refine bodyPost_ret (v := .tuple #[.slice none 0 0, .int .i64 m, .int .i64 3]) ?_ rfl ?_
            · simp [results, Try.results21, go_sem]
            · exact ⟨gb_trans G1.out g.out, .inr (.inr ⟨k, by have := hm3.out; omega, K.out, HN.out, by rw [hm3.out]⟩)⟩
          | true =>
            have HO := Lib.hid (fun u => (hB ▸ refok_any x0 x1 (y2 - 256) objs u))
            have HN := Lib.hid (show okN (gz bf) objs (k + 1) = true by simp only [okN, K.out, E.out.1, E.out.2.1, E2.out, hB]; rfl)
            have HR := Lib.hid (show ops (gz bf) (k + 1) = ops (gz bf) k ++ [.int .i64 x0, .int .i64 x1, .int .i64 (y2 - 256)] by rw [ops_succ, opc, E.out.1, E.out.2.1, E2.out])
            clear hB
            refine (HO.out _).mono ?_
            rintro e u2 ⟨rfl, g2⟩
            have O2 := Lib.hid (ownsRow_keep O1.out (fun b e => g2.out.block b (O1.out.lt b e).2 (by simp)))
            have G2 := Lib.hid (gb_trans G1.out g2.out)
            have hsz := Lib.hid (show w.heap.size ≤ u2.heap.size from G2.out.size)
            have B2 := Lib.hid (B1.out.drew.grown g2.out (by simp))
            clear O1 G1 g2 B1
            have p0 : u2.cell? ⟨wr.heap.size, 0, none⟩ = some (.int .i64 x0) := B2.out.cell 0
            have p1 : u2.cell? ⟨wr.heap.size, 1, none⟩ = some (.int .i64 x1) := B2.out.cell 1
            have p2 : u2.cell? ⟨wr.heap.size, 2, none⟩ = some (.int .i64 (y2 - 256)) := B2.out.cell 2
            have hk := Lib.hid (show k + 1 ≤ 1000000 by have := hm3.out; omega)
            go_wp2_with (at_builtin; go_loud (refine appendOp _ rfl (.tmp 54) (.tmp 56) rfl w.heap.size _ k (ops (gz bf) k) rfl (ownsRow_keep O2.out (fun b e => Below.heap_alloc _ _ b (O2.out.lt b e).2)) (some ⟨u2.heap.size, 0, none⟩) 1 1 [.int .i64 x0, .int .i64 x1, .int .i64 (y2 - 256)] rfl rfl (new_src _ _ _ _ rfl) (by intro u hu; simp at hu; rcases hu with rfl | rfl | rfl <;> rfl) hk.out (by have := hsz.out; simp; omega) ?_); intro b2 c2' w3 ho hg hv; clear hv)
            have HM := Lib.hid (show m + 3 = (k + 1) * 3 by have := hm3.out; omega)
            have O3 : Hid (w3.ownsRow w.heap.size 24 3 (.slice b2 (k + 1) c2') (k + 1) (ops (gz bf) (k + 1))) := by rw [HR.out]; exact ho
            have G3 := Lib.hid (gb_overO (gb_alloc G2.out _) hg (fun i hi => (O2.out.lt i hi).1))
            clear ho hg
            go_roundw
            case rel => exact ⟨k + 1, m + 3, b2, c2', by omega, HM, rfl, HN, O3, G3⟩
            case measure => simp [lenV]; have := hm3.out; omega
        · have E2 := Lib.hid (show gz bf k 2 = y2 by rw [E.out.2.2]; simp [s8, hy])
          have k0 : IntKind.i64.wrap x0 = x0 := IntWalk.i64_in _ (by omega)
          have k1 : IntKind.i64.wrap x1 = x1 := IntWalk.i64_in _ (by omega)
          have k2 : IntKind.i64.wrap ((m : Int) + 1) = (m : Int) + 1 := IntWalk.i64_in _ (by omega)
          have k3 : (0 : Int) ≤ (m : Int) + 1 := by omega
          have k4 : ((m : Int) + 1).toNat = m + 1 := by omega
          have B1 := Lib.hid (Blk.made wr 24 #[.int .i64 x0, .int .i64 x1, .int .i64 (y2)])
          have G1 := Lib.hid (gb_drew (gb_alloc G.out (.cells #[.int .i64 x0, .int .i64 x1, .int .i64 (y2)] 24)))
          have O1 := Lib.hid (ownsRow_keep (w' := (wr.alloc (.cells #[.int .i64 x0, .int .i64 x1, .int .i64 (y2)] 24)).drew) O.out (fun b e => Below.heap_alloc _ _ b (O.out.lt b e).2))
          go_upto_region 9 with fail
          go_region
          go_wp2_with fail
          clear O G Z k0 k1 k2 k3 k4 c0 c1 c2
          cases hB : okB x0 x1 (y2) objs with
          | false =>
            have HO := Lib.hid (fun u => (hB ▸ refok_any x0 x1 (y2) objs u))
            have HN := Lib.hid (show okB (gz bf k 0) (gz bf k 1) (gz bf k 2) objs = false by rw [E.out.1, E.out.2.1, E2.out]; exact hB)
            clear hB
            refine (HO.out _).mono ?_
            rintro e u ⟨rfl, g⟩
            go_wp2
            refine bodyPost_ret (v := .tuple #[.slice none 0 0, .int .i64 m, .int .i64 3]) ?_ rfl ?_
            · simp [results, Try.results21, go_sem]
            · exact ⟨gb_trans G1.out g.out, .inr (.inr ⟨k, by have := hm3.out; omega, K.out, HN.out, by rw [hm3.out]⟩)⟩
          | true =>
            have HO := Lib.hid (fun u => (hB ▸ refok_any x0 x1 (y2) objs u))
            have HN := Lib.hid (show okN (gz bf) objs (k + 1) = true by simp only [okN, K.out, E.out.1, E.out.2.1, E2.out, hB]; rfl)
            have HR := Lib.hid (show ops (gz bf) (k + 1) = ops (gz bf) k ++ [.int .i64 x0, .int .i64 x1, .int .i64 (y2)] by rw [ops_succ, opc, E.out.1, E.out.2.1, E2.out])
            clear hB
            refine (HO.out _).mono ?_
            rintro e u2 ⟨rfl, g2⟩
            have O2 := Lib.hid (ownsRow_keep O1.out (fun b e => g2.out.block b (O1.out.lt b e).2 (by simp)))
            have G2 := Lib.hid (gb_trans G1.out g2.out)
            have hsz := Lib.hid (show w.heap.size ≤ u2.heap.size from G2.out.size)
            have B2 := Lib.hid (B1.out.drew.grown g2.out (by simp))
            clear O1 G1 g2 B1
            have p0 : u2.cell? ⟨wr.heap.size, 0, none⟩ = some (.int .i64 x0) := B2.out.cell 0
            have p1 : u2.cell? ⟨wr.heap.size, 1, none⟩ = some (.int .i64 x1) := B2.out.cell 1
            have p2 : u2.cell? ⟨wr.heap.size, 2, none⟩ = some (.int .i64 (y2)) := B2.out.cell 2
            have hk := Lib.hid (show k + 1 ≤ 1000000 by have := hm3.out; omega)
            go_wp2_with (at_builtin; go_loud (refine appendOp _ rfl (.tmp 54) (.tmp 56) rfl w.heap.size _ k (ops (gz bf) k) rfl (ownsRow_keep O2.out (fun b e => Below.heap_alloc _ _ b (O2.out.lt b e).2)) (some ⟨u2.heap.size, 0, none⟩) 1 1 [.int .i64 x0, .int .i64 x1, .int .i64 (y2)] rfl rfl (new_src _ _ _ _ rfl) (by intro u hu; simp at hu; rcases hu with rfl | rfl | rfl <;> rfl) hk.out (by have := hsz.out; simp; omega) ?_); intro b2 c2' w3 ho hg hv; clear hv)
            have HM := Lib.hid (show m + 3 = (k + 1) * 3 by have := hm3.out; omega)
            have O3 : Hid (w3.ownsRow w.heap.size 24 3 (.slice b2 (k + 1) c2') (k + 1) (ops (gz bf) (k + 1))) := by rw [HR.out]; exact ho
            have G3 := Lib.hid (gb_overO (gb_alloc G2.out _) hg (fun i hi => (O2.out.lt i hi).1))
            clear ho hg
            go_roundw
            case rel => exact ⟨k + 1, m + 3, b2, c2', by omega, HM, rfl, HN, O3, G3⟩
            case measure => simp [lenV]; have := hm3.out; omega
    · obtain rfl : m = n := by omega
      go_wp2
      refine bodyPost_ret (v := .tuple #[.slice b' k c', .int .i64 (-1), .int .i64 0]) ?_ rfl ?_
      · simp [results, Try.results21, go_sem]
      · exact ⟨G.out, .inl ⟨k, b', c', hm3.out, K.out, rfl, O.out⟩⟩
end Go.Proofs.Ytjajhkgbhckdeaa.lg
