/- The contracts of the document's own gate (quarrelref10.Gate) beside those of package gate: a swap, a leave, a pulse of both. -/
import Derived.Test.YtelapiabniabkaaGtC
namespace Go.Proofs.Ytelapiabniabkaa.gate
open Go Go.RowKit Go.Proofs.Ytelapiabniabkaa.base Go.Proofs.Ytelapiabniabkaa.ch Go.Proofs.Ytelapiabniabkaa.wd
set_option linter.unusedVariables false

theorem great_any (s : Int) (w : World) : Calls Try.prog 11 #[.int .i64 s] w fun e w' => e = .returned (.bool (decide (1099511627776 < s))) ∧ w = w' := by
  go_enter Try.func11, Try.ntmps11
  go_wp2
  go_ret
  exact ⟨rfl, rfl⟩

/-- Block vb is the document's gate of n threads, whose pulses lie in block vp. -/
abbrev RG (w : World) (vb vp n : Nat) (b : Bool) (s t : Int) : Prop := Blk 31 w vb ⟨[.bool b, .int .i64 s, .int .i64 t, .slice (some ⟨vp, 0, none⟩) n n]⟩

section
variable {vb vp n : Nat} {b : Bool} {s t : Int}

theorem refswap_hit (xb : Bool) (xs xt st th : Int) (h : 0 ≤ st ∧ 0 ≤ th ∧ th < n ∧ xb = b ∧ xs = s ∧ xt = t) (w : World) (hv : RG w vb vp n b s t) : Calls Try.prog 13 #[.pointer (some ⟨vb, 0, none⟩), .bool xb, .int .i64 xs, .int .i64 xt, .int .i64 st, .int .i64 th] w fun e w' => e = .returned (.bool true) ∧ Hid (RG w' vb vp n true st th) ∧ Hid (w.grownBy w' (some vb)) := by
  obtain ⟨h1, h2, h3, rfl, rfl, rfl⟩ := h
  have d1 : decide (st < 0) = false := by simpa using h1
  have d2 : decide (th < 0) = false := by simpa using h2
  have d3 : decide ((n : Int) ≤ th) = false := by simpa using h3
  have hb := hv.lt
  have c0 := hv.at 0 rfl; have c1 := hv.at 1 rfl; have c2 := hv.at 2 rfl; have c3 := hv.at 3 rfl
  have f0 := hv.free 0
  have f1 := hv.free 1
  have f2 := hv.free 2
  have H := Lib.hid hv
  clear hv h1 h2 h3
  cases xb
  all_goals
    go_enter Try.func13, Try.ntmps13
    go_wp2
    go_ret
    exact ⟨rfl, ((H.out.set 0 (.bool true)).set 1 (.int .i64 st)).set 2 (.int .i64 th), gb_setB (gb_setB (gb_setB (gb_refl _ _) _) _) _⟩

theorem refswap_miss (xb : Bool) (xs xt st th : Int) (hx : xb = false → xs = 0 ∧ xt = 0) (hs : b = false → s = 0 ∧ t = 0) (h : ¬ (0 ≤ st ∧ 0 ≤ th ∧ th < n ∧ xb = b ∧ xs = s ∧ xt = t)) (w : World) (hv : RG w vb vp n b s t) : Calls Try.prog 13 #[.pointer (some ⟨vb, 0, none⟩), .bool xb, .int .i64 xs, .int .i64 xt, .int .i64 st, .int .i64 th] w fun e w' => e = .returned (.bool false) ∧ Hid (RG w' vb vp n b s t) ∧ Hid (w.grownBy w' (some vb)) := by
  have hb := hv.lt
  have c0 := hv.at 0 rfl; have c1 := hv.at 1 rfl; have c2 := hv.at 2 rfl; have c3 := hv.at 3 rfl
  have H := Lib.hid hv
  have h' : st < 0 ∨ (0 ≤ st ∧ th < 0) ∨ (0 ≤ st ∧ 0 ≤ th ∧ (n : Int) ≤ th) ∨ (0 ≤ st ∧ 0 ≤ th ∧ th < n ∧ xb ≠ b) ∨ (0 ≤ st ∧ 0 ≤ th ∧ th < n ∧ xb = true ∧ b = true ∧ xs ≠ s) ∨ (0 ≤ st ∧ 0 ≤ th ∧ th < n ∧ xb = true ∧ b = true ∧ xs = s ∧ xt ≠ t) := by
    by_cases k1 : st < 0
    · exact .inl k1
    by_cases k2 : th < 0
    · exact .inr (.inl ⟨by omega, k2⟩)
    by_cases k3 : (n : Int) ≤ th
    · exact .inr (.inr (.inl ⟨by omega, by omega, k3⟩))
    by_cases k4 : xb = b
    · subst k4
      cases xb
      · exact absurd ⟨by omega, by omega, by omega, rfl, by rw [(hx rfl).1, (hs rfl).1], by rw [(hx rfl).2, (hs rfl).2]⟩ h
      · by_cases k5 : xs = s
        · exact .inr (.inr (.inr (.inr (.inr ⟨by omega, by omega, by omega, rfl, rfl, k5, fun e => h ⟨by omega, by omega, by omega, rfl, k5, e⟩⟩))))
        · exact .inr (.inr (.inr (.inr (.inl ⟨by omega, by omega, by omega, rfl, rfl, k5⟩))))
    · exact .inr (.inr (.inr (.inl ⟨by omega, by omega, by omega, k4⟩)))
  clear h hx hs hv
  rcases h' with h1 | ⟨h1, h2⟩ | ⟨h1, h2, h3⟩ | ⟨h1, h2, h3, h4⟩ | ⟨h1, h2, h3, rfl, rfl, h4⟩ | ⟨h1, h2, h3, rfl, rfl, rfl, h4⟩
  · have d1 : decide (st < 0) = true := by simpa using h1
    go_enter Try.func13, Try.ntmps13
    go_wp2
    go_ret
    exact ⟨rfl, H.out, gb_refl _ _⟩
  · have d1 : decide (st < 0) = false := by simpa using h1
    have d2 : decide (th < 0) = true := by simpa using h2
    go_enter Try.func13, Try.ntmps13
    go_wp2
    go_ret
    exact ⟨rfl, H.out, gb_refl _ _⟩
  · have d1 : decide (st < 0) = false := by simpa using h1
    have d2 : decide (th < 0) = false := by simpa using h2
    have d3 : decide ((n : Int) ≤ th) = true := by simpa using h3
    go_enter Try.func13, Try.ntmps13
    go_wp2
    go_ret
    exact ⟨rfl, H.out, gb_refl _ _⟩
  · have d1 : decide (st < 0) = false := by simpa using h1
    have d2 : decide (th < 0) = false := by simpa using h2
    have d3 : decide ((n : Int) ≤ th) = false := by simpa using h3
    have d4 : (xb != b) = true := by simpa using h4
    go_enter Try.func13, Try.ntmps13
    go_wp2
    go_ret
    exact ⟨rfl, H.out, gb_refl _ _⟩
  · have d1 : decide (st < 0) = false := by simpa using h1
    have d2 : decide (th < 0) = false := by simpa using h2
    have d3 : decide ((n : Int) ≤ th) = false := by simpa using h3
    have d4 : (xs != s) = true := by simpa using h4
    go_enter Try.func13, Try.ntmps13
    go_wp2
    go_ret
    exact ⟨rfl, H.out, gb_refl _ _⟩
  · have d1 : decide (st < 0) = false := by simpa using h1
    have d2 : decide (th < 0) = false := by simpa using h2
    have d3 : decide ((n : Int) ≤ th) = false := by simpa using h3
    have d4 : (xt != t) = true := by simpa using h4
    go_enter Try.func13, Try.ntmps13
    go_wp2
    go_ret
    exact ⟨rfl, H.out, gb_refl _ _⟩

theorem refleave_hit (w : World) (st th : Int) (h : b = true ∧ st = s ∧ th = t) (hv : RG w vb vp n b s t) : Calls Try.prog 15 #[.pointer (some ⟨vb, 0, none⟩), .int .i64 st, .int .i64 th] w fun e w' => e = .returned (.bool true) ∧ Hid (RG w' vb vp n false 0 0) ∧ Hid (w.grownBy w' (some vb)) := by
  obtain ⟨rfl, rfl, rfl⟩ := h
  have hb := hv.lt
  have c0 := hv.at 0 rfl; have c1 := hv.at 1 rfl; have c2 := hv.at 2 rfl; have c3 := hv.at 3 rfl
  have f0 := hv.free 0
  have f1 := hv.free 1
  have f2 := hv.free 2
  have H := Lib.hid hv
  clear hv
  go_enter Try.func15, Try.ntmps15
  go_wp2
  go_ret
  exact ⟨rfl, ((H.out.set 0 (.bool false)).set 1 (.int .i64 0)).set 2 (.int .i64 0), gb_setB (gb_setB (gb_setB (gb_refl _ _) _) _) _⟩

theorem refleave_miss (w : World) (st th : Int) (h : ¬ (b = true ∧ st = s ∧ th = t)) (hv : RG w vb vp n b s t) : Calls Try.prog 15 #[.pointer (some ⟨vb, 0, none⟩), .int .i64 st, .int .i64 th] w fun e w' => e = .returned (.bool false) ∧ Hid (RG w' vb vp n b s t) ∧ Hid (w.grownBy w' (some vb)) := by
  have hb := hv.lt
  have c0 := hv.at 0 rfl; have c1 := hv.at 1 rfl; have c2 := hv.at 2 rfl; have c3 := hv.at 3 rfl
  have H := Lib.hid hv
  have h' : b = false ∨ (b = true ∧ st ≠ s) ∨ (b = true ∧ st = s ∧ th ≠ t) := by
    cases b
    · exact .inl rfl
    · by_cases k : st = s
      · exact .inr (.inr ⟨rfl, k, fun e => h ⟨rfl, k, e⟩⟩)
      · exact .inr (.inl ⟨rfl, k⟩)
  clear h hv
  rcases h' with rfl | ⟨rfl, h1⟩ | ⟨rfl, rfl, h1⟩
  · go_enter Try.func15, Try.ntmps15
    go_wp2
    go_ret
    exact ⟨rfl, H.out, gb_refl _ _⟩
  · have d1 : (s != st) = true := by simpa using fun e => h1 e.symm
    go_enter Try.func15, Try.ntmps15
    go_wp2
    go_ret
    exact ⟨rfl, H.out, gb_refl _ _⟩
  · have d1 : (t != th) = true := by simpa using fun e => h1 e.symm
    go_enter Try.func15, Try.ntmps15
    go_wp2
    go_ret
    exact ⟨rfl, H.out, gb_refl _ _⟩

variable {w0 : World} {g : Nat} {z : Nat → Int} {A : Int}

/-- A swap of both. -/
theorem swaps (vb vp : Nat) (xb : Bool) (xs xt xp st th : Int) (hx : xs ≤ 1099511627776) (hx2 : xb = false → xs = 0 ∧ xt = 0) (h1 : st ≤ 1099511627776) (num : Int) (hn : Num n b s t num) (hA : A ≤ 999999) : ∃ (r b' : Bool) (s' t' : Int),
    (∀ u R', Gt w0 u g n b s t z A R' → Calls Try.prog 12 #[.pointer (some ⟨g, 0, none⟩), .agg #[.bool xb, .int .i64 xs, .int .i64 xt, .int .i64 xp], .int .i64 st, .int .i64 th] u fun e w' => e = .returned (.bool r) ∧ Hid (Gt w0 w' g n b' s' t' z (A + 1) R')) ∧
    (∀ w, RG w vb vp n b s t → Calls Try.prog 13 #[.pointer (some ⟨vb, 0, none⟩), .bool xb, .int .i64 xs, .int .i64 xt, .int .i64 st, .int .i64 th] w fun e w' => e = .returned (.bool r) ∧ Hid (RG w' vb vp n b' s' t') ∧ Hid (w.grownBy w' (some vb))) := by
  by_cases h : 0 ≤ st ∧ 0 ≤ th ∧ th < n ∧ xb = b ∧ xs = s ∧ xt = t
  · refine ⟨true, true, st, th, fun u R' hu => ?_, fun w hv => refswap_hit xb xs xt st th h w hv⟩
    obtain ⟨k1, k2, k3, rfl, rfl, rfl⟩ := h
    exact swap_hits xp st th k1 h1 k2 k3 hA u hu
  · have hs : b = false → s = 0 ∧ t = 0 := by
      rintro rfl
      rcases hn with ⟨_, k1, k2, _⟩ | ⟨k, _⟩
      · exact ⟨k1, k2⟩
      · cases k
    exact ⟨false, b, s, t, fun u R' hu => swap_misses xb xs xt xp st th hx hx2 h1 h hA u hu, fun w hv => refswap_miss xb xs xt st th hx2 hs h w hv⟩

/-- A leave of both. -/
theorem leaves (vb vp : Nat) (st th : Int) (h1 : st ≤ 1099511627776) (hA : A ≤ 999999) : ∃ (r b' : Bool) (s' t' : Int),
    (∀ u R', Gt w0 u g n b s t z A R' → Calls Try.prog 14 #[.pointer (some ⟨g, 0, none⟩), .int .i64 st, .int .i64 th] u fun e w' => e = .returned (.bool r) ∧ Hid (Gt w0 w' g n b' s' t' z (A + 1) R')) ∧
    (∀ w, RG w vb vp n b s t → Calls Try.prog 15 #[.pointer (some ⟨vb, 0, none⟩), .int .i64 st, .int .i64 th] w fun e w' => e = .returned (.bool r) ∧ Hid (RG w' vb vp n b' s' t') ∧ Hid (w.grownBy w' (some vb))) := by
  by_cases h : b = true ∧ st = s ∧ th = t
  · refine ⟨true, false, 0, 0, fun u R' hu => ?_, fun w hv => refleave_hit w st th h hv⟩
    obtain ⟨rfl, rfl, rfl⟩ := h
    exact leave_hit hA u hu
  · exact ⟨false, b, s, t, fun u R' hu => leave_miss st th h1 h hA u hu, fun w hv => refleave_miss w st th h hv⟩

/-- A thread's pulse, or 0. -/
def pV (n : Nat) (z : Nat → Int) (th : Int) : Int := if 0 ≤ th ∧ th < n then z th.toNat else 0
theorem pV_in (n : Nat) (z : Nat → Int) (k : Nat) (h : k < n) : pV n z k = z k := by unfold pV; rw [if_pos ⟨by omega, by omega⟩]; rfl
theorem pV_out (n : Nat) (z : Nat → Int) (th : Int) (h : th < 0 ∨ (n : Int) ≤ th) : pV n z th = 0 := by unfold pV; rw [if_neg (by omega)]
theorem pulse_any {R : List (Nat × TypeId × List Value)} (th : Int) (w : World) (h : Gt w0 w g n b s t z A R) : Calls Try.prog 18 #[.pointer (some ⟨g, 0, none⟩), .int .i64 th] w fun e w' => e = .returned (.int .i64 (pV n z th)) ∧ w = w' := by
  by_cases ht : th < 0 ∨ (n : Int) ≤ th
  · rw [pV_out n z th ht]
    exact pulse_out th ht w h
  · obtain ⟨k, rfl⟩ := Int.eq_ofNat_of_zero_le (show 0 ≤ th by omega)
    rw [pV_in n z k (by omega)]
    exact pulse_in k (by omega) w h
end

end Go.Proofs.Ytelapiabniabkaa.gate
