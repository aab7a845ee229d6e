/- The contracts of package gate over a gate as one thing: a new one, the sight of any, and the example that all laws begin with. -/
import Derived.Test.YtocjbbfeegmkaaaGtBK
import Derived.Deep.RegionWith
namespace Go.Proofs.Ytocjbbfeegmkaaa.gate
open Go Go.RowKit Go.Proofs.Ytocjbbfeegmkaaa.base Go.Proofs.Ytocjbbfeegmkaaa.ch Go.Proofs.Ytocjbbfeegmkaaa.wd
set_option linter.unusedVariables false

theorem infoInt : (Try.prog.info? 3).map (fun i => (i.zero, i.size, i.bytes)) = some (some (.int .i64 0), 1, 8) := by kernel_rfl

theorem new_bad (n : Int) (hn : n < 1 ∨ 6 < n) (w : World) : Calls Try.prog 63 #[.int .i64 n] w fun e w' => e = .returned (.tuple #[.pointer none, .int .i64 2]) ∧ w = w' := by
  have hn' : n < 1 ∨ (¬ n < 1 ∧ 6 < n) := by omega
  clear hn
  rcases hn' with h | ⟨h, h1⟩
  all_goals
    go_enter Try.func63, Try.ntmps63
    go_wp2
    go_ret2
    exact ⟨rfl, rfl⟩

theorem new_any (n : Nat) (h0 : 1 ≤ n) (h6 : n ≤ 6) (w0 : Bas) (w : World) (R : List (Nat × TypeId × List Value)) (o : Own w0 w R) :
    Calls Try.prog 63 #[.int .i64 (n : Int)] w fun e w' => ∃ g, e = .returned (.tuple #[.pointer (some ⟨g, 0, none⟩), .int .i64 0]) ∧ Hid (Gt w0 w' g n false 0 0 (fun _ => 0) 0 R) := by
  have d1 : decide ((n : Int) < 1) = false := by simp; omega
  have d2 : decide (6 < (n : Int)) = false := by simp; omega
  have hmk := run_make_row' (P := Try.prog) 80 3 (.int .i64 0) 8 Try.underlying80 infoInt rfl .i64 .i64 n (by omega) (by omega)
  rw [made_vals] at hmk
  have O := Lib.hid o
  have H := Lib.hid (show 1 ≤ n ∧ n ≤ 6 from ⟨h0, h6⟩)
  clear o h0 h6
  go_enter Try.func63, Try.ntmps63
  go_wp2
  go_region_with (go_at_call 50; refine (of_any _ _).mono ?_; rintro e v1 ⟨rfl, rfl⟩)
  all_goals go_wp2
  all_goals go_ret2
  all_goals refine ⟨_, rfl, ?_⟩
  · have X := ((((O.out.alloc 134 [.int .i64 0, .int .i64 0]).alloc 3 (vals (fun _ => 0) n)).alloc 105 [.pointer (some ⟨w.heap.size, 0, none⟩), .int .i64 0, .slice (some ⟨w.heap.size + 1, 0, none⟩) n n]).drew).perm (List.Perm.cons _ (List.Perm.swap _ _ _))
    simp only [size_alloc] at X
    exact ⟨w.heap.size, w.heap.size + 1, 0, 0, H.out.2, .inl ⟨rfl, rfl, rfl, rfl⟩, by omega, by omega, X⟩
  · have X := ((O.out.alloc 3 (vals (fun _ => 0) n)).alloc 134 [.int .i64 0, .int .i64 0]).alloc 105 [.pointer (some ⟨w.heap.size + 1, 0, none⟩), .int .i64 0, .slice (some ⟨w.heap.size, 0, none⟩) n n]
    have X := X.drew
    simp only [size_alloc] at X
    exact ⟨w.heap.size + 1, w.heap.size, 0, 0, H.out.2, .inl ⟨rfl, rfl, rfl, rfl⟩, by omega, by omega, X⟩

/-- The pulse that a sight tells. -/
def pU (b : Bool) (t : Int) (z : Nat → Int) : Int := if b = true then z t.toNat else 0

theorem see_any {w0 : Bas} {g n : Nat} {b : Bool} {s t : Int} {z : Nat → Int} {A : Int} {R : List (Nat × TypeId × List Value)} (w : World) (h : Gt w0 w g n b s t z A R) (hA : A ≤ 999999) :
    Calls Try.prog 27 #[.pointer (some ⟨g, 0, none⟩)] w fun e w' => e = .returned (.agg #[.bool b, .int .i64 s, .int .i64 t, .int .i64 (pU b t z)]) ∧ Hid (Gt w0 w' g n b s t z (A + 1) R) := by
  obtain ⟨num, hn, h6⟩ := h.num
  rcases hn with ⟨rfl, rfl, rfl, rfl⟩ | ⟨rfl, h1, h2, h3, h4, h5⟩
  · exact see_none w h hA
  · obtain ⟨k, rfl⟩ := Int.eq_ofNat_of_zero_le h3
    exact see_some k w h hA

theorem see_one {w0 : Bas} {g : Nat} {A : Int} {R : List (Nat × TypeId × List Value)} (w : World) (h : Gt w0 w g 2 true 5 1 (fun _ => 0) A R) (hA : A ≤ 999999) :
    Calls Try.prog 27 #[.pointer (some ⟨g, 0, none⟩)] w fun e w' => e = .returned (.agg #[.bool true, .int .i64 5, .int .i64 1, .int .i64 0]) ∧ Hid (Gt w0 w' g 2 true 5 1 (fun _ => 0) (A + 1) R) := see_some 1 w h hA

end Go.Proofs.Ytocjbbfeegmkaaa.gate
