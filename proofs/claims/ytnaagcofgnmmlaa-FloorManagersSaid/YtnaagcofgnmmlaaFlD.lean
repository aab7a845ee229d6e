/- Package floor: its dice. -/
import Derived.Test.YtnaagcofgnmmlaaFl
import Derived.Test.YtnaagcofgnmmlaaApp
import Derived.Deep.OwnRows
namespace Go.Proofs.Ytnaagcofgnmmlaa.fl
open Go Go.RowKit Go.Proofs.Ytnaagcofgnmmlaa.base Go.Proofs.Ytnaagcofgnmmlaa.lg
set_option linter.unusedVariables false

/-- A draw's cell. -/
def u8c (x : Int) : List Value := [.int .u8 x]
theorem u8c_length (x : Int) : (u8c x).length = 1 := rfl
theorem u8c_one (l : List Int) : ∀ u ∈ rows u8c l, u.oneCell' = true := rows_one_cell (by intro x u hu; simp [u8c] at hu; subst hu; rfl) l

/-- The draws that a slice has. -/
def drawn (z : Nat → Int) (len : Nat) : List Int := (List.range len).map z
theorem drawn_length (z : Nat → Int) (len : Nat) : (drawn z len).length = len := by simp [drawn]
theorem drawn_get (z : Nat → Int) (len j : Nat) (h : j < len) : (drawn z len)[j]? = some (z j) := by simp [drawn, h]
theorem drawn_src {w : World} {a : Option Addr} {len cap : Nat} {z : Nat → Int} (h : IsRow .u8 w a len cap z) : (len = 0 ∧ rows u8c (drawn z len) = []) ∨ ∃ ad, a = some ad ∧ ∀ j u, (rows u8c (drawn z len))[j]? = some u → w.cell? (ad.add j) = some u := by
  obtain ⟨_, _, h | ⟨b, off, rfl, hb, hc⟩⟩ := h
  · subst h
    exact .inl ⟨rfl, rfl⟩
  · refine .inr ⟨_, rfl, fun j u hu => ?_⟩
    have hj : j < len := by
      have := (List.getElem?_eq_some_iff.1 hu).1
      rw [rows_length u8c_length, drawn_length] at this
      omega
    have h1 := rows_get u8c_length (drawn z len) j 0 (z j) (drawn_get z len j hj) (by omega)
    simp only [Nat.mul_one, Nat.add_zero] at h1
    rw [h1] at hu
    simp [u8c] at hu
    subst hu
    rw [add_eq]
    exact (hc j hj).1

set_option maxHeartbeats 1000000 in
theorem dice_any (w0 : Bas) (w : World) (R : Blks) (h : base.Own w0 w R) (a : Option Addr) (len cap : Nat) (z : Nat → Int) (hz : IsRow .u8 w a len cap z) (hl : len ≤ 1000000) (n : Nat) (h1 : 1 ≤ n) (h6 : n ≤ 6) :
    Calls Try.prog 12 #[.slice a len cap, .int .i64 (n : Int)] w fun e w' => ∃ da dc nb LB, e = .returned (.agg #[.slice da len dc, .slice (some ⟨nb, 0, none⟩) n n]) ∧ Hid (Row u8c 1 5 (drawn z len) (.slice da len dc) LB) ∧
      Hid (base.Own w0 w' ((nb, 3, vals (fun _ => 0) n) :: (LB ++ R))) := by
  have O0 : base.Own w0 (w.alloc (.cells #[.slice none 0 0, .slice none 0 0] 61)) ((w.heap.size, 61, [.slice none 0 0, .slice none 0 0]) :: R) := h.alloc 61 [.slice none 0 0, .slice none 0 0]
  have W0 := Lib.hid (hz.below (gb_below (World.grownBy_alloc w (.cells #[.slice none 0 0, .slice none 0 0] 61) none)))
  have O0 := Lib.hid O0
  have hmk := run_make_row' (P := Try.prog) 59 3 (.int .i64 0) 8 Try.underlying59 gate.infoInt rfl .i64 .i64 n (by omega) (by omega)
  rw [gate.made_vals] at hmk
  have HL := Lib.hid (show (rows u8c (drawn z len)).length = len * 1 by rw [rows_length u8c_length, drawn_length])
  clear h hz
  generalize hu : (w.alloc (.cells #[.slice none 0 0, .slice none 0 0] 61)) = u0 at O0 W0
  have HU := Lib.hid hu
  clear hu
  go_enter Try.func12, Try.ntmps12
  have W1 : Hid (IsRow .u8 u0.drew a len cap z) := W0
  have P1 := Lib.hid (O0.out.drew)
  have P2 := Lib.hid ((P1.out.alloc 3 (vals (fun _ => 0) n)).swap)
  have W2 : Hid (IsRow .u8 (u0.drew.alloc (.cells ⟨vals (fun _ => 0) n⟩ 3)) a len cap z) := Lib.hid (W1.out.below (gb_below (World.grownBy_alloc _ _ none)))
  go_wp2
  rw [HU.out]
  generalize w.heap.size = bd at *
  go_region_law (first | (refine stepU8 rfl (.const (.slice none 0 0)) (.tmp 5) rfl u0.drew.heap.size (.slice none 0 0) 0 [] (by simp [Act.eval]) ⟨rfl, .inl ⟨rfl, rfl⟩⟩ a len cap (rows u8c (drawn z len)) (by simp [Act.eval, Act.put]) HL.out (drawn_src W1.out) (u8c_one _) (by omega) (Nat.le_refl _) ?_; intro b1 c1 v1 r1 r2 r3; rw [Nat.zero_add] at r1 ⊢; have g1 : Hid (u0.drew.grownBy v1 none) := r2; obtain ⟨LB, hr, ho⟩ := Row.of_own (l := drawn z len) (f := u8c) (k := 1) P1.out g1.out r1 (Nat.le_refl _) (drawn_length z len).symm; have HR := Lib.hid hr; have HO := Lib.hid (ho.perm List.perm_middle); clear hr ho r1 r2 r3 g1; have O1 := HO.out; have c0 := O1.cell 0 0 rfl rfl; have c1' := O1.cell 0 1 rfl rfl; have f0 := O1.free 0 0 rfl; have f1 := O1.free 0 1 rfl; have hlt := O1.lt 0 rfl; clear O1) | (refine stepU8 rfl (.const (.slice none 0 0)) (.tmp 5) rfl (u0.drew.alloc (.cells ⟨vals (fun _ => 0) n⟩ 3)).heap.size (.slice none 0 0) 0 [] (by simp [Act.eval]) ⟨rfl, .inl ⟨rfl, rfl⟩⟩ a len cap (rows u8c (drawn z len)) (by simp [Act.eval]) HL.out (drawn_src W2.out) (u8c_one _) (by omega) (Nat.le_refl _) ?_; intro b1 c1 v1 r1 r2 r3; rw [Nat.zero_add] at r1 ⊢; have g1 : Hid ((u0.drew.alloc (.cells ⟨vals (fun _ => 0) n⟩ 3)).grownBy v1 none) := r2; obtain ⟨LB, hr, ho⟩ := Row.of_own (l := drawn z len) (f := u8c) (k := 1) P2.out g1.out r1 (Nat.le_refl _) (drawn_length z len).symm; have HR := Lib.hid hr; have HO := Lib.hid (ho.perm (List.perm_middle.trans (List.Perm.refl _))); clear hr ho r1 r2 r3 g1; have O1 := HO.out; have c0 := O1.cell 0 0 rfl rfl; have c1' := O1.cell 0 1 rfl rfl; have f0 := O1.free 0 0 rfl; have f1 := O1.free 0 1 rfl; have hlt := O1.lt 0 rfl; clear O1))
  · have X := HO.out
    have X0 := X.set 0 0 (.slice b1 len c1) rfl
    have X1 := X0.set 0 1 (.slice (some ⟨v1.heap.size, 0, none⟩) n n) rfl
    have X2 := X1.alloc 3 (vals (fun _ => 0) n)
    simp only [size_setCell] at X2
    have Y0 := Lib.hid (X0.cell 0 0 rfl rfl)
    have Y1 := Lib.hid (X1.cell 0 1 rfl rfl)
    have Z0 := Lib.hid (X2.cell 1 0 rfl rfl)
    have Z1 := Lib.hid (X2.cell 1 1 rfl rfl)
    have XX := Lib.hid (X2.drop (List.Sublist.cons_cons _ (List.Sublist.cons _ (List.Sublist.refl _))))
    clear X X0 X1 X2
    go_wp2
    refine bodyPost_ret (v := .agg #[.slice b1 len c1, .slice (some ⟨v1.heap.size, 0, none⟩) n n]) (by simp [results, Try.results12, go_sem, Z0.out, Z1.out]) rfl ⟨b1, c1, v1.heap.size, LB, rfl, HR, XX⟩
  · have X := HO.out
    have X0 := X.set 0 0 (.slice b1 len c1) rfl
    have X1 := X0.set 0 1 (.slice (some ⟨u0.heap.size, 0, none⟩) n n) rfl
    have Y0 := Lib.hid (X0.cell 0 0 rfl rfl)
    have Y1 := Lib.hid (X1.cell 0 1 rfl rfl)
    have XX := Lib.hid ((X1.drop (List.Sublist.cons _ (List.Sublist.refl _))).perm List.perm_middle)
    clear X X0 X1
    go_wp2
    refine bodyPost_ret (v := .agg #[.slice b1 len c1, .slice (some ⟨u0.heap.size, 0, none⟩) n n]) (by simp [results, Try.results12, go_sem, Y0.out, Y1.out]) rfl ⟨b1, c1, u0.heap.size, LB, rfl, HR, XX⟩

end Go.Proofs.Ytnaagcofgnmmlaa.fl
