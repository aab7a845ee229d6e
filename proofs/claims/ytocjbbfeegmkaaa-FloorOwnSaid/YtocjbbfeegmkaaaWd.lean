/- The contracts of package word (without Accesses), over whatever translation they lie in: a word is a block of two cells, its number and how often it was accessed; a row of tickets likewise, its cap and how many were taken. -/
import Derived.Test.YtocjbbfeegmkaaaProg
import Derived.Test.YtocjbbfeegmkaaaBase
import Derived.BigQuiet
import Derived.Deep.QuietTactic
namespace Go.Proofs.Ytocjbbfeegmkaaa.wd
open Go.RowKit Go.Proofs.Ytocjbbfeegmkaaa.base

/-- Block b is a word that has n, and was accessed a times. -/
abbrev Word (w : World) (b : Nat) (n a : Int) : Prop := Two 134 w b n a

theorem of_any (n : Int) (w : World) : Calls Try.prog 50 #[.int .i64 n] w fun e w' => e = .returned (.pointer (some ⟨w.heap.size, 0, none⟩)) ∧ w.alloc (.cells #[.int .i64 n, .int .i64 0] 134) = w' := by
  go_enter Try.func50, Try.ntmps50
  go_wp2
  go_ret
  exact ⟨rfl, rfl⟩

/-- A new word, in a block of its own. -/
theorem of_made (n : Int) (w : World) : Calls Try.prog 50 #[.int .i64 n] w fun e w' => ∃ b, e = .returned (.pointer (some ⟨b, 0, none⟩)) ∧ Hid (w.heap.size ≤ b) ∧ Hid (Word w' b n 0) ∧ Hid (w.grownBy w' none) := by
  refine (of_any n w).mono ?_
  rintro e w' ⟨rfl, rfl⟩
  exact ⟨_, rfl, Nat.le_refl _, Two.made _ _ _ _, gb_alloc (gb_refl _ _) _⟩

theorem load_any (b : Nat) (n a : Int) (w : World) (h : Word w b n a) (l : 0 ≤ a) (u : a ≤ 1000000) :
    Calls Try.prog 46 #[.pointer (some ⟨b, 0, none⟩)] w fun e w' => e = .returned (.int .i64 n) ∧ Hid (Word w' b n (a + 1)) ∧ Hid (w.grownBy w' (some b)) := by
  have h0 := h.c0
  have h1 := h.c1
  have f0 := h.f0
  have f1 := h.f1
  have hb := h.lt
  have H := Lib.hid h
  clear h
  go_enter Try.func46, Try.ntmps46
  go_wp2
  go_ret
  exact ⟨rfl, ((H.out.set1 _).alloc _).alloc _, gb_alloc (gb_alloc (gb_setB (gb_refl _ _) _) _) _⟩

theorem load_nil (w : World) : Calls Try.prog 46 #[.pointer none] w fun e w' => e = .returned (.int .i64 0) ∧ Hid (w.grownBy w' none) := by
  go_enter Try.func46, Try.ntmps46
  go_wp2
  go_ret
  exact ⟨rfl, gb_alloc (gb_refl _ _) _⟩



theorem swap_nil (x y : Int) (w : World) : Calls Try.prog 53 #[.pointer none, .int .i64 x, .int .i64 y] w fun e w' => e = .returned (.bool false) ∧ Hid (w.grownBy w' none) := by
  go_enter Try.func53, Try.ntmps53
  go_wp2
  go_ret
  exact ⟨rfl, gb_alloc (gb_alloc (gb_alloc (gb_refl _ _) _) _) _⟩

set_option maxHeartbeats 400000 in
theorem swap_hit (b : Nat) (n m a : Int) (w : World) (h : Word w b n a) (l : 0 ≤ a) (u : a ≤ 1000000) :
    Calls Try.prog 53 #[.pointer (some ⟨b, 0, none⟩), .int .i64 n, .int .i64 m] w fun e w' => e = .returned (.bool true) ∧ Hid (Word w' b m (a + 1)) ∧ Hid (w.grownBy w' (some b)) := by
  have h0 := h.c0
  have h1 := h.c1
  have f0 := h.f0
  have f1 := h.f1
  have hb := h.lt
  have hb1 : b < w.heap.size + 1 := by omega
  have hb2 : b < w.heap.size + 1 + 1 := by omega
  have hb3 : b < w.heap.size + 1 + 1 + 1 := by omega
  have H := Lib.hid h
  clear h
  go_enter Try.func53, Try.ntmps53
  go_wp2
  go_quiet (fail)
  go_wp2
  go_ret
  refine ⟨rfl, ?_, ?_⟩
  · refine Two.setOther ?_ (by show b ≠ w.heap.size + 1 + 1 + 1; omega) _
    exact ((((((H.out.set1 _).alloc _).alloc _).alloc _).alloc _).drewN _).set0 m
  · refine gb_setNew ?_ (by show w.heap.size ≤ w.heap.size + 1 + 1 + 1; omega) _
    refine gb_setB ?_ _
    refine gb_drewN ?_ _
    iterate 4 refine gb_alloc ?_ _
    exact gb_setB (gb_refl _ _) _

theorem swap_miss (b : Nat) (n x m a : Int) (w : World) (h : Word w b n a) (l : 0 ≤ a) (u : a ≤ 1000000) (hx : (n == x) = false) :
    Calls Try.prog 53 #[.pointer (some ⟨b, 0, none⟩), .int .i64 x, .int .i64 m] w fun e w' => e = .returned (.bool false) ∧ Hid (Word w' b n (a + 1)) ∧ Hid (w.grownBy w' (some b)) := by
  have h0 := h.c0
  have h1 := h.c1
  have f0 := h.f0
  have f1 := h.f1
  have hb := h.lt
  have hb1 : b < w.heap.size + 1 := by omega
  have hb2 : b < w.heap.size + 1 + 1 := by omega
  have hb3 : b < w.heap.size + 1 + 1 + 1 := by omega
  have H := Lib.hid h
  clear h
  go_enter Try.func53, Try.ntmps53
  go_wp2
  go_quiet (fail)
  go_wp2
  go_ret
  exact ⟨rfl, (((((H.out.set1 _).alloc _).alloc _).alloc _).alloc _).drewN _, gb_drewN (gb_alloc (gb_alloc (gb_alloc (gb_alloc (gb_setB (gb_refl _ _) _) _) _) _) _) _⟩

end Go.Proofs.Ytocjbbfeegmkaaa.wd
