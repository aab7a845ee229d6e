/- The contract of package lang's Get. -/
import Derived.Test.YtjajhkgbhckdeaaLangB
import Derived.Test.YtjajhkgbhckdeaaOp
namespace Go.Proofs.Ytjajhkgbhckdeaa.lg
open Go Go.RowKit Go.Proofs.Ytjajhkgbhckdeaa.base
set_option linter.unusedVariables false

/-- How many whole operations n bytes hold that may be, and what Get answers. -/
def GetR (w : World) (bf : Nat → Int) (n : Nat) (objs : Int) (e : Ending) (w' : World) : Prop :=
  w.grownBy w' none ∧
  ((∃ m b' c', n = m * 3 ∧ okN (gz bf) objs m = true ∧ e = .returned (.tuple #[.slice b' m c', .int .i64 (-1), .int .i64 0]) ∧ w'.ownsRow w.heap.size 24 3 (.slice b' m c') m (ops (gz bf) m)) ∨
   (∃ m, m * 3 < n ∧ n < m * 3 + 3 ∧ okN (gz bf) objs m = true ∧ e = .returned (.tuple #[.slice none 0 0, .int .i64 ((m * 3 : Nat) : Int), .int .i64 9])) ∨
   (∃ m, m * 3 + 3 ≤ n ∧ okN (gz bf) objs m = true ∧ okB (gz bf m 0) (gz bf m 1) (gz bf m 2) objs = false ∧ e = .returned (.tuple #[.slice none 0 0, .int .i64 ((m * 3 : Nat) : Int), .int .i64 3])))

theorem gz0 (f : Nat → Int) (k : Nat) : gz f k 0 = f (k * 3) := by simp [gz]
theorem gz1 (f : Nat → Int) (k : Nat) : gz f k 1 = f (k * 3 + 1) := by simp [gz]
theorem gz2 (f : Nat → Int) (k : Nat) : gz f k 2 = s8 (f (k * 3 + 2)) := by simp [gz]

set_option maxHeartbeats 1000000 in
theorem get_any (a1 : Option Addr) (n cap : Nat) (bf : Nat → Int) (objs : Int) (w : World) (hz : IsNums .u8 w a1 n bf) (hb : ∀ i, i < n → 0 ≤ bf i ∧ bf i ≤ 255) (hc : n ≤ cap) (hm : cap ≤ maxLen) (hn : n ≤ 100000) :
    Calls Try.prog 20 #[.slice a1 n cap, .int .i64 objs] w (GetR w bf n objs) := by
  unfold maxLen at hm
  have Z := Lib.hid hz
  have HB := Lib.hid hb
  clear hz hb
  go_enter Try.func20, Try.ntmps20
  go_wp2_with fail
  go_loopw [7, 8] (fun lv iv wr => ∃ (k m : Nat) (b' : Option Addr) (c' : Nat), m ≤ n ∧ iv = .int .i64 m ∧ Hid (m = k * 3) ∧ lv = .slice b' k c' ∧ Hid (okN (gz bf) objs k = true) ∧ Hid (wr.ownsRow w.heap.size 24 3 (.slice b' k c') k (ops (gz bf) k)) ∧ Hid (w.grownBy wr none)) (fun _ iv _ => (n - intOf iv).toNat)
  case atStart => exact ⟨0, 0, none, 0, by omega, rfl, rfl, rfl, rfl, World.ownsRow_nil _ _ _ _, gb_refl _ _⟩
  case round =>
    obtain ⟨k, m, b', c', hmn, rfl, hm3, rfl, K, O, G⟩ := hrel
    by_cases hlt : m < n
    · have hlt' : (m : Int) < (n : Int) := by omega
      by_cases h3 : n < m + 3
      · have h3' : decide ((n : Int) - (m : Int) < 3) = true := by simp; omega
        go_wp2
        refine bodyPost_ret (v := .tuple #[.slice none 0 0, .int .i64 m, .int .i64 9]) ?_ rfl ?_
        · simp [results, Try.results20, go_sem]
        · exact ⟨G.out, .inr (.inl ⟨k, by have := hm3.out; omega, by have := hm3.out; omega, K.out, by rw [hm3.out]⟩)⟩
      · have h3' : decide ((n : Int) - (m : Int) < 3) = false := by simp; omega
        obtain ⟨b1, off1, rfl, hb1, c0⟩ := (Z.out.grown G.out).at1 hlt
        obtain ⟨_, _, e1, _, c1⟩ := (Z.out.grown G.out).at1 (show m + 1 < n by omega)
        cases e1
        obtain ⟨_, _, e1, _, c2⟩ := (Z.out.grown G.out).at1 (show m + 2 < n by omega)
        cases e1
        go_wp2_with fail
        have E := Lib.hid (show gz bf k 0 = bf m ∧ gz bf k 1 = bf (m + 1) ∧ gz bf k 2 = s8 (bf (m + 2)) by rw [gz0, gz1, gz2, hm3.out]; exact ⟨rfl, rfl, rfl⟩)
        have l0 := HB.out m hlt
        have l1 := HB.out (m + 1) (by omega)
        have l2 := HB.out (m + 2) (by omega)
        refine (op_any b1 (off1 + m) (cap - m) (bf m) (bf (m + 1)) (bf (m + 2)) _ c0 c1 c2 l0 l1 l2).mono ?_
        rintro e u1 ⟨rfl, g1⟩
        clear l0 l1 l2 c0 c1 c2
        generalize hx0 : bf m = x0 at *
        generalize hx1 : bf (m + 1) = x1 at *
        generalize hx2 : s8 (bf (m + 2)) = x2 at *
        clear hx0 hx1 hx2
        have G1 := Lib.hid (gb_alloc (gb_trans G.out g1.out) (.cells #[.int .i64 x0, .int .i64 x1, .int .i64 x2] 24))
        have O1 := Lib.hid (ownsRow_keep (w' := u1.alloc (.cells #[.int .i64 x0, .int .i64 x1, .int .i64 x2] 24)) O.out (fun b e => (Below.heap_alloc _ _ b (Nat.lt_of_lt_of_le (O.out.lt b e).2 g1.out.size)).trans (g1.out.block b (O.out.lt b e).2 (by simp))))
        have B1 := Lib.hid (Blk.made u1 24 #[.int .i64 x0, .int .i64 x1, .int .i64 x2])
        clear O G g1 Z
        cases hB : okB x0 x1 x2 objs with
        | false =>
          have HO := Lib.hid (fun u => (hB ▸ ok_any x0 x1 x2 objs u))
          have HN := Lib.hid (show okB (gz bf k 0) (gz bf k 1) (gz bf k 2) objs = false by rw [E.out.1, E.out.2.1, E.out.2.2]; exact hB)
          clear hB
          go_wp2_with fail
          refine (HO.out _).mono ?_
          rintro e u ⟨rfl, g⟩
          go_wp2
          refine bodyPost_ret (v := .tuple #[.slice none 0 0, .int .i64 m, .int .i64 3]) ?_ rfl ?_
          · simp [results, Try.results20, go_sem]
          · exact ⟨gb_trans G1.out g.out, .inr (.inr ⟨k, by have := hm3.out; omega, K.out, HN.out, by rw [hm3.out]⟩)⟩
        | true =>
          have HO := Lib.hid (fun u => (hB ▸ ok_any x0 x1 x2 objs u))
          have HN := Lib.hid (show okN (gz bf) objs (k + 1) = true by simp only [okN, K.out, E.out.1, E.out.2.1, E.out.2.2, hB]; rfl)
          have HR := Lib.hid (show ops (gz bf) (k + 1) = ops (gz bf) k ++ [.int .i64 x0, .int .i64 x1, .int .i64 x2] by rw [ops_succ, opc, E.out.1, E.out.2.1, E.out.2.2])
          clear hB
          go_wp2_with fail
          refine (HO.out _).mono ?_
          rintro e u2 ⟨rfl, g2⟩
          have O2 := Lib.hid (ownsRow_keep O1.out (fun b e => g2.out.block b (O1.out.lt b e).2 (by simp)))
          have G2 := Lib.hid (gb_trans G1.out g2.out)
          have hsz := Lib.hid (show w.heap.size ≤ u2.heap.size from G2.out.size)
          have B2 := Lib.hid (B1.out.grown g2.out (by simp))
          clear O1 G1 g2 B1
          generalize u1.heap.size = ob at *
          have p0 : u2.cell? ⟨ob, 0, none⟩ = some (.int .i64 x0) := B2.out.cell 0
          have p1 : u2.cell? ⟨ob, 1, none⟩ = some (.int .i64 x1) := B2.out.cell 1
          have p2 : u2.cell? ⟨ob, 2, none⟩ = some (.int .i64 x2) := B2.out.cell 2
          have hk := Lib.hid (show k + 1 ≤ 1000000 by have := hm3.out; omega)
          go_wp2_with (at_builtin; go_loud (refine appendOp _ rfl (.tmp 33) (.tmp 35) rfl w.heap.size _ k (ops (gz bf) k) rfl (ownsRow_keep O2.out (fun b e => Below.heap_alloc _ _ b (O2.out.lt b e).2)) (some ⟨u2.heap.size, 0, none⟩) 1 1 [.int .i64 x0, .int .i64 x1, .int .i64 x2] rfl rfl (new_src _ _ _ _ rfl) (by intro u hu; simp at hu; rcases hu with rfl | rfl | rfl <;> rfl) hk.out (by have := hsz.out; simp; omega) ?_); intro b2 c2' w3 ho hg hv; clear hv)
          have HM := Lib.hid (show m + 3 = (k + 1) * 3 by have := hm3.out; omega)
          have O3 : Hid (w3.ownsRow w.heap.size 24 3 (.slice b2 (k + 1) c2') (k + 1) (ops (gz bf) (k + 1))) := by rw [HR.out]; exact ho
          have G3 := Lib.hid (gb_overO (gb_alloc G2.out _) hg (fun i hi => (O2.out.lt i hi).1))
          clear ho hg
          go_roundw
          case rel => exact ⟨k + 1, m + 3, b2, c2', by omega, by go_num, HM, rfl, HN, O3, G3⟩
          case measure => simp [intOf]; omega
    · obtain rfl : m = n := by omega
      go_wp2
      refine bodyPost_ret (v := .tuple #[.slice b' k c', .int .i64 (-1), .int .i64 0]) ?_ rfl ?_
      · simp [results, Try.results20, go_sem]
      · exact ⟨G.out, .inl ⟨k, b', c', hm3.out, K.out, rfl, O.out⟩⟩
end Go.Proofs.Ytjajhkgbhckdeaa.lg
