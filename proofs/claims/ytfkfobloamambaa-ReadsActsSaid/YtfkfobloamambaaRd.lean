/- What a set has, as plain lists; where an object's thing stands; the contracts of package reads' place and find, by both types. -/
import Derived.Test.YtfkfobloamambaaProg
import Derived.Test.YtfkfobloamambaaRdM
import Derived.BigQuiet
import Derived.Deep.QuietTactic
import Derived.Deep.CutRange
import Derived.Deep.DeepCutAuto
import Derived.IntWalk
namespace Go.Proofs.Ytfkfobloamambaa.rd
open Go Go.RowKit Go.Proofs.Ytfkfobloamambaa.base
set_option linter.unusedVariables false

/-- A reading: object, version, value. -/
structure Rd where
  o : Int
  n : Int
  v : Int
/-- An own one: object, locator, version, value, claimed. -/
structure Ow where
  o : Int
  c : Int
  n : Int
  v : Int
  b : Bool

/-- Their cells. -/
def Rd.cells (x : Rd) : List Value := [.int .i64 x.o, .int .i64 x.n, .int .i64 x.v]
def Ow.cells (x : Ow) : List Value := [.int .i64 x.o, .int .i64 x.c, .int .i64 x.n, .int .i64 x.v, .bool x.b]
theorem rlen (x : Rd) : x.cells.length = 3 := rfl
theorem olen (x : Ow) : x.cells.length = 5 := rfl
theorem rone (x : Rd) : ∀ u ∈ x.cells, u.oneCell' = true := by
  intro u hu
  simp only [Rd.cells, List.mem_cons, List.not_mem_nil, or_false] at hu
  rcases hu with rfl | rfl | rfl <;> rfl
theorem oone (x : Ow) : ∀ u ∈ x.cells, u.oneCell' = true := by
  intro u hu
  simp only [Ow.cells, List.mem_cons, List.not_mem_nil, or_false] at hu
  rcases hu with rfl | rfl | rfl | rfl | rfl <;> rfl

/-- The place of the first thing of object o. -/
def pl {α : Type} (g : α → Int) (o : Int) : List α → Option Nat
  | [] => none
  | x :: l => if g x = o then some 0 else (pl g o l).map (· + 1)
/-- .. as a number. -/
def pv : Option Nat → Int
  | none => -1
  | some k => k

section
variable {α : Type} {g : α → Int} {o : Int}
theorem pl_none {l : List α} (h : ∀ (j : Nat) y, l[j]? = some y → g y ≠ o) : pl g o l = none := by
  induction l with
  | nil => rfl
  | cons x l ih =>
    unfold pl
    rw [if_neg (h 0 x rfl), ih (fun j y hy => h (j + 1) y (by simpa using hy))]
    rfl
theorem pl_some {l : List α} {k : Nat} {x : α} (hx : l[k]? = some x) (ho : g x = o) (h : ∀ (j : Nat) y, j < k → l[j]? = some y → g y ≠ o) : pl g o l = some k := by
  induction l generalizing k with
  | nil => simp at hx
  | cons z l ih =>
    unfold pl
    cases k with
    | zero =>
      simp at hx
      subst hx
      rw [if_pos ho]
    | succ k =>
      rw [if_neg (h 0 z (by omega) rfl), ih (by simpa using hx) (fun j y hj hy => h (j + 1) y (by omega) (by simpa using hy))]
      rfl
theorem pl_spec (g : α → Int) (o : Int) (l : List α) : (pl g o l = none ∧ ∀ (j : Nat) y, l[j]? = some y → g y ≠ o) ∨ ∃ k x, pl g o l = some k ∧ l[k]? = some x ∧ g x = o ∧ ∀ (j : Nat) y, j < k → l[j]? = some y → g y ≠ o := by
  induction l with
  | nil => exact .inl ⟨rfl, fun j y h => by simp at h⟩
  | cons x l ih =>
    by_cases hx : g x = o
    · exact .inr ⟨0, x, by unfold pl; rw [if_pos hx], rfl, hx, fun j y h _ => by omega⟩
    · rcases ih with ⟨h1, h2⟩ | ⟨k, y, h1, h2, h3, h4⟩
      · refine .inl ⟨by unfold pl; rw [if_neg hx, h1]; rfl, fun j y h => ?_⟩
        cases j with
        | zero => simp at h; subst h; exact hx
        | succ j => exact h2 j y (by simpa using h)
      · refine .inr ⟨k + 1, y, by unfold pl; rw [if_neg hx, h1]; rfl, by simpa using h2, h3, fun j z hj h => ?_⟩
        cases j with
        | zero => simp at h; subst h; exact hx
        | succ j => exact h4 j z (by omega) (by simpa using h)
end

section
variable {w : World} {a : Option Addr} {j : Nat}
theorem at3 {l : List Rd} (h : IsL Rd.cells w a l) {x : Rd} (hj : l[j]? = some x) : ∃ b off, a = some ⟨b, off, none⟩ ∧ b < w.heap.size ∧ w.cell? ⟨b, off + j * 3, none⟩ = some (.int .i64 x.o) ∧ w.cell? ⟨b, off + j * 3 + 1, none⟩ = some (.int .i64 x.n) ∧ w.cell? ⟨b, off + j * 3 + 2, none⟩ = some (.int .i64 x.v) := by
  obtain ⟨b, off, rfl, hb, h⟩ := h.at rlen hj
  exact ⟨b, off, rfl, hb, h 0 _ rfl, h 1 _ rfl, h 2 _ rfl⟩
theorem at5 {l : List Ow} (h : IsL Ow.cells w a l) {x : Ow} (hj : l[j]? = some x) : ∃ b off, a = some ⟨b, off, none⟩ ∧ b < w.heap.size ∧ w.cell? ⟨b, off + j * 5, none⟩ = some (.int .i64 x.o) ∧ w.cell? ⟨b, off + j * 5 + 1, none⟩ = some (.int .i64 x.c) ∧ w.cell? ⟨b, off + j * 5 + 2, none⟩ = some (.int .i64 x.n) ∧ w.cell? ⟨b, off + j * 5 + 3, none⟩ = some (.int .i64 x.v) ∧ w.cell? ⟨b, off + j * 5 + 4, none⟩ = some (.bool x.b) := by
  obtain ⟨b, off, rfl, hb, h⟩ := h.at olen hj
  exact ⟨b, off, rfl, hb, h 0 _ rfl, h 1 _ rfl, h 2 _ rfl, h 3 _ rfl, h 4 _ rfl⟩
end

theorem objR (x : Rd) (w : World) : Calls Try.prog 26 #[.agg #[.int .i64 x.o, .int .i64 x.n, .int .i64 x.v]] w fun e w' => e = .returned (.int .i64 x.o) ∧ Hid (w.grownBy w' none) := by
  go_enter Try.func26, Try.ntmps26
  go_wp2
  go_ret
  exact ⟨rfl, gb_alloc (gb_refl _ _) _⟩

theorem objO (x : Ow) (w : World) : Calls Try.prog 29 #[.agg #[.int .i64 x.o, .int .i64 x.c, .int .i64 x.n, .int .i64 x.v, .bool x.b]] w fun e w' => e = .returned (.int .i64 x.o) ∧ Hid (w.grownBy w' none) := by
  go_enter Try.func29, Try.ntmps29
  go_wp2
  go_ret
  exact ⟨rfl, gb_alloc (gb_refl _ _) _⟩

theorem placeR (a : Option Addr) (len cap : Nat) (l : List Rd) (o : Int) (w : World) (hz : IsL Rd.cells w a l) (hl : len = l.length) (hm : len ≤ 1000000) :
    Calls Try.prog 25 #[.slice a len cap, .func (Fn.func 26) #[] #[], .int .i64 o] w fun e w' => e = .returned (.int .i64 (pv (pl Rd.o o l))) ∧ Hid (w.grownBy w' none) := by
  have Z := Lib.hid hz
  have HL := Lib.hid hl
  clear hz hl
  go_enter Try.func25, Try.ntmps25
  go_wp2_with fail
  go_loopw [11] (fun iv wr => ∃ k : Nat, k ≤ len ∧ iv = .int .i64 k ∧ Hid (∀ (j : Nat) y, j < k → l[j]? = some y → y.o ≠ o) ∧ Hid (w.grownBy wr none)) (fun iv _ => (len - intOf iv).toNat)
  case atStart => exact ⟨0, by omega, rfl, (fun j y hj _ => by omega), gb_refl _ _⟩
  case round =>
    obtain ⟨k, hk, rfl, K, B⟩ := hrel
    by_cases hlt : k < len
    · obtain ⟨x, hx⟩ : ∃ x, l[k]? = some x := ⟨_, List.getElem?_eq_getElem (by rw [← HL.out]; exact hlt)⟩
      obtain ⟨b1, off1, rfl, hb1, c0, c1, c2⟩ := at3 (Z.out.grown B.out) hx
      have hlt' : (k : Int) < (len : Int) := by omega
      have X := Lib.hid hx
      clear hx
      have OB := Lib.hid (fun u => objR x u)
      by_cases ho : x.o = o
      · subst ho
        have HP := Lib.hid (pl_some (g := Rd.o) X.out rfl K.out)
        go_wp2_with fail
        refine (OB.out _).mono ?_
        rintro e u ⟨rfl, g⟩
        have G := Lib.hid (gb_trans (gb_alloc B.out (.cells ⟨[.int .i64 x.o, .int .i64 x.n, .int .i64 x.v]⟩ 40)) g.out)
        clear g
        go_wp2
        go_ret
        exact ⟨by rw [HP.out]; rfl, G.out⟩
      · have HN := Lib.hid (show ∀ (j : Nat) y, j < k + 1 → l[j]? = some y → y.o ≠ o from fun j y hj hy => by
          by_cases e : j = k
          · subst e
            rw [X.out] at hy
            cases hy
            exact ho
          · exact K.out j y (by omega) hy)
        have ho' : (x.o == o) = false := by simpa using ho
        clear ho
        go_wp2_with fail
        refine (OB.out _).mono ?_
        rintro e u ⟨rfl, g⟩
        have G := Lib.hid (gb_trans (gb_alloc B.out (.cells ⟨[.int .i64 x.o, .int .i64 x.n, .int .i64 x.v]⟩ 40)) g.out)
        clear g
        go_wp2
        go_roundw
        case rel => exact ⟨k + 1, by omega, by go_num, HN, G⟩
        case measure => simp [intOf]; omega
    · obtain rfl : k = len := by omega
      have HP := Lib.hid (pl_none (g := Rd.o) (o := o) (l := l) (fun j y hy => K.out j y (by rw [HL.out]; exact (List.getElem?_eq_some_iff.1 hy).1) hy))
      go_wp2
      go_ret
      exact ⟨by rw [HP.out]; rfl, B.out⟩

theorem placeO (a : Option Addr) (len cap : Nat) (l : List Ow) (o : Int) (w : World) (hz : IsL Ow.cells w a l) (hl : len = l.length) (hm : len ≤ 1000000) :
    Calls Try.prog 28 #[.slice a len cap, .func (Fn.func 29) #[] #[], .int .i64 o] w fun e w' => e = .returned (.int .i64 (pv (pl Ow.o o l))) ∧ Hid (w.grownBy w' none) := by
  have Z := Lib.hid hz
  have HL := Lib.hid hl
  clear hz hl
  go_enter Try.func28, Try.ntmps28
  go_wp2_with fail
  go_loopw [11] (fun iv wr => ∃ k : Nat, k ≤ len ∧ iv = .int .i64 k ∧ Hid (∀ (j : Nat) y, j < k → l[j]? = some y → y.o ≠ o) ∧ Hid (w.grownBy wr none)) (fun iv _ => (len - intOf iv).toNat)
  case atStart => exact ⟨0, by omega, rfl, (fun j y hj _ => by omega), gb_refl _ _⟩
  case round =>
    obtain ⟨k, hk, rfl, K, B⟩ := hrel
    by_cases hlt : k < len
    · obtain ⟨x, hx⟩ : ∃ x, l[k]? = some x := ⟨_, List.getElem?_eq_getElem (by rw [← HL.out]; exact hlt)⟩
      obtain ⟨b1, off1, rfl, hb1, c0, c1, c2, c3, c4⟩ := at5 (Z.out.grown B.out) hx
      have hlt' : (k : Int) < (len : Int) := by omega
      have X := Lib.hid hx
      clear hx
      have OB := Lib.hid (fun u => objO x u)
      by_cases ho : x.o = o
      · subst ho
        have HP := Lib.hid (pl_some (g := Ow.o) X.out rfl K.out)
        go_wp2_with fail
        refine (OB.out _).mono ?_
        rintro e u ⟨rfl, g⟩
        have G := Lib.hid (gb_trans (gb_alloc B.out (.cells ⟨[.int .i64 x.o, .int .i64 x.c, .int .i64 x.n, .int .i64 x.v, .bool x.b]⟩ 44)) g.out)
        clear g
        go_wp2
        go_ret
        exact ⟨by rw [HP.out]; rfl, G.out⟩
      · have HN := Lib.hid (show ∀ (j : Nat) y, j < k + 1 → l[j]? = some y → y.o ≠ o from fun j y hj hy => by
          by_cases e : j = k
          · subst e
            rw [X.out] at hy
            cases hy
            exact ho
          · exact K.out j y (by omega) hy)
        have ho' : (x.o == o) = false := by simpa using ho
        clear ho
        go_wp2_with fail
        refine (OB.out _).mono ?_
        rintro e u ⟨rfl, g⟩
        have G := Lib.hid (gb_trans (gb_alloc B.out (.cells ⟨[.int .i64 x.o, .int .i64 x.c, .int .i64 x.n, .int .i64 x.v, .bool x.b]⟩ 44)) g.out)
        clear g
        go_wp2
        go_roundw
        case rel => exact ⟨k + 1, by omega, by go_num, HN, G⟩
        case measure => simp [intOf]; omega
    · obtain rfl : k = len := by omega
      have HP := Lib.hid (pl_none (g := Ow.o) (o := o) (l := l) (fun j y hy => K.out j y (by rw [HL.out]; exact (List.getElem?_eq_some_iff.1 hy).1) hy))
      go_wp2
      go_ret
      exact ⟨by rw [HP.out]; rfl, B.out⟩

end Go.Proofs.Ytfkfobloamambaa.rd
