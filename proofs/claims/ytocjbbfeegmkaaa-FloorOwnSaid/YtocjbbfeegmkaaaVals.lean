/- Two slices of the same numbers are told to be alike (quarrelref01.Vals). -/
import Derived.Test.YtocjbbfeegmkaaaProg
import Derived.Test.YtocjbbfeegmkaaaOpen
import Derived.Test.YtocjbbfeegmkaaaGrow
import Derived.BigQuiet
import Derived.Deep.QuietTactic
namespace Go.Proofs.Ytocjbbfeegmkaaa.vl
open Go Go.RowKit Go.Proofs.Ytocjbbfeegmkaaa.base

theorem drewN_drewN (w : World) (n m : Nat) : (w.drewN n).drewN m = w.drewN (n + m) := by
  simp [World.drewN, Nat.add_assoc]

/-- A slice at a holds the numbers of l. -/
def Rd (w : World) (a : Option Addr) (l : List Int) : Prop := l = [] ∨ ∃ b off, a = some ⟨b, off, none⟩ ∧ ∀ i x, l[i]? = some x → w.cell? ⟨b, off + i, none⟩ = some (.int .i64 x)

theorem Rd.grown {w w' : World} {a : Option Addr} {l : List Int} (h : Rd w a l) {r : Option Nat} (g : w.grownBy w' r) (hr : ∀ b off, a = some ⟨b, off, none⟩ → some b ≠ r) : Rd w' a l := by
  rcases h with h | ⟨b, off, rfl, h⟩
  · exact .inl h
  · exact .inr ⟨b, off, rfl, fun i x hx => g.cell (h i x hx) (hr b off rfl)⟩
theorem Rd.only {w w' : World} {a : Option Addr} {l : List Int} {S : Nat → Prop} (h : Rd w a l) (g : Only S w w') (hr : ∀ b off, a = some ⟨b, off, none⟩ → ¬ S b) : Rd w' a l := by
  rcases h with h | ⟨b, off, rfl, h⟩
  · exact .inl h
  · exact .inr ⟨b, off, rfl, fun i x hx => (World.cell?_of_block (g.block b (World.block_lt_of_cell? _ _ (h i x hx)) (hr b off rfl))).trans (h i x hx)⟩
theorem Rd.drewN {w : World} {a : Option Addr} {l : List Int} (h : Rd w a l) (n : Nat) : Rd (w.drewN n) a l := h
theorem Rd.below {w w' : World} {a : Option Addr} {l : List Int} {B : Nat} (h : Rd w a l) (g : Below B w w') (hr : ∀ b off, a = some ⟨b, off, none⟩ → b < B) : Rd w' a l := by
  rcases h with h | ⟨b, off, rfl, h⟩
  · exact .inl h
  · exact .inr ⟨b, off, rfl, fun i x hx => (g.cell (p := ⟨b, off + i, none⟩) (hr b off rfl)).trans (h i x hx)⟩
/-- An argument's. -/
theorem Rd.of_row {w : World} {a : Option Addr} {len cap : Nat} {z : Nat → Int} (h : IsRow .i64 w a len cap z) : Rd w a ((List.range len).map z) := by
  obtain ⟨_, _, rfl | ⟨b, off, rfl, _, h⟩⟩ := h
  · exact .inl rfl
  · refine .inr ⟨b, off, rfl, fun i x hx => ?_⟩
    have hi : i < len := by
      have := (List.getElem?_eq_some_iff.1 hx).1
      simpa using this
    have : z i = x := by simpa [hi] using hx
    rw [← this]
    exact (h i hi).1
/-- What a call has made. -/
theorem Rd.of_own {w : World} {base : Nat} {e : TypeId} {a : Option Addr} {cap : Nat} {l : List Int} (h : w.ownsRow base e 1 (.slice a l.length cap) l.length (l.map fun x => .int .i64 x)) : Rd w a l := by
  rcases h.2 with ⟨e, h0⟩ | ⟨g, cap2, cur, e, _⟩
  · exact .inl (List.eq_nil_of_length_eq_zero h0)
  · injection e with e1 e2 e3
    subst e1
    refine .inr ⟨g, 0, rfl, fun i x hx => ?_⟩
    have hi : i < l.length := (List.getElem?_eq_some_iff.1 hx).1
    have h1 := h.cellAt i (by omega)
    rw [show 0 + i = i by omega]
    rw [h1]
    simp [hx]

theorem vals_true (a b : Option Addr) (l : List Int) (n : Nat) (hn : l.length = n) (ca cb : Nat) (w : World) (ha : Rd w a l) (hb : Rd w b l) (hm : l.length ≤ 100000) :
    Calls Try.prog 30 #[.slice a n ca, .slice b n cb] w fun e w' => ∃ q, e = .returned (.bool true) ∧ w.drewN q = w' := by
  subst hn
  have HA := Lib.hid ha
  have HB := Lib.hid hb
  clear ha hb
  go_enter Try.func30, Try.ntmps30
  go_wp2_with fail
  go_loopw [5] (fun i wr => ∃ k n : Nat, k ≤ l.length ∧ i = .int .i64 k ∧ wr = w.drewN n) (fun i _ => (l.length - intOf i).toNat)
  case atStart => exact ⟨0, 0, by omega, rfl, rfl⟩
  case round =>
    obtain ⟨k, n, hk, rfl, rfl⟩ := hrel
    by_cases hlt : k < l.length
    · obtain ⟨x, hx⟩ : ∃ x, l[k]? = some x := ⟨_, List.getElem?_eq_getElem hlt⟩
      have hne : l ≠ [] := fun e => by rw [e] at hlt; simp at hlt
      rcases HA.out with h | ⟨b1, o1, rfl, h1⟩
      · exact absurd h hne
      rcases HB.out with h | ⟨b2, o2, rfl, h2⟩
      · exact absurd h hne
      have d1 : (w.drewN n).cell? ⟨b1, o1 + k, none⟩ = some (.int .i64 x) := h1 k x hx
      have d2 : (w.drewN n).cell? ⟨b2, o2 + k, none⟩ = some (.int .i64 x) := h2 k x hx
      have hlt' : (k : Int) < (l.length : Int) := by omega
      clear h1 h2 hne hx
      generalize hw : w.drewN n = u at *
      go_wp2_with fail
      go_quiet (fail)
      go_wp2
      go_roundw
      case rel => exact ⟨k + 1, _, by omega, by go_num, by rw [← hw]; exact drewN_drewN w n _⟩
      case measure => simp [intOf]; omega
    · obtain rfl : k = l.length := by omega
      go_wp2
      go_ret
      exact ⟨n, rfl, rfl⟩
end Go.Proofs.Ytocjbbfeegmkaaa.vl
