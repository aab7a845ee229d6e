/-
  FloorMade: whether any config may be, and the error of a floor, are the document's, and a floor has what its config says: its manager's marks, its arena's room, no descriptor, its objects, its tickets, its threads, its first values, no event; for any config, any first values.
  Conditions: none (of more than 50 first values the law says nothing by itself).
-/
import Derived.Test.YtocjbbfeegmkaaaRows
import Derived.Test.YtocjbbfeegmkaaaMadW1
import Derived.Test.YtocjbbfeegmkaaaMadW2
import Derived.Test.YtocjbbfeegmkaaaMadW3
import Derived.Test.YtocjbbfeegmkaaaMadW4
namespace Go.Proofs.Ytocjbbfeegmkaaa.floorMade
open Go.ChangeShapes Go.WideShapes Go.ChangeAt Go.RowKit Go.Proofs.Ytocjbbfeegmkaaa.base Go.Proofs.Ytocjbbfeegmkaaa.fl
set_option linter.unusedVariables false

theorem walk (z0 : Nat → Int) (a1 : Option Addr) (len1 cap1 : Nat) (z1 : Nat → Int) (w : World) (w0 : ∀ i, i < 6 → (Lit.int .i64 (z0 i)).wf = true) (w1 : IsRow .i64 w a1 len1 cap1 z1) :
    Calls Try.prog 4 #[.agg ⟨(List.range 6).map fun i => .int .i64 (z0 i)⟩, .slice a1 len1 cap1] w fun e w' => e = .returned (.bool true) ∧ Below w.heap.size w w' := by
  show Calls Try.prog 4 #[.agg #[.int .i64 (z0 0), .int .i64 (z0 1), .int .i64 (z0 2), .int .i64 (z0 3), .int .i64 (z0 4), .int .i64 (z0 5)], .slice a1 len1 cap1] w fun e w' => e = .returned (.bool true) ∧ Below w.heap.size w w'
  clear w0
  generalize z0 0 = o
  generalize z0 1 = t
  generalize z0 2 = r
  generalize z0 3 = k
  generalize z0 4 = m
  generalize z0 5 = p
  by_cases h : 50 < (len1 : Int)
  · exact walk_out _ _ _ _ _ _ _ _ _ w h
  by_cases hE : errF o t r k m p len1 = 0
  · unfold errF at hE
    split at hE
    · next h1 =>
      split at hE
      · next h2 =>
        split at hE
        · exact absurd hE (by decide)
        · next h3 =>
          subst h2
          have hok := h1
          simp only [okC, Bool.and_eq_true] at hok
          obtain ⟨b1, b2, b3, b4, b5, b6⟩ := hok
          have b2 := inB_true b2
          have b5 := inB_true b5
          obtain ⟨n, rfl⟩ := Int.eq_ofNat_of_zero_le (show 0 ≤ t by omega)
          obtain rfl | rfl | rfl | rfl : m = 1 ∨ m = 2 ∨ m = 3 ∨ m = 4 := by omega
          · exact walkOk1 r k p n a1 len1 cap1 z1 w w1 h1 h3
          · exact walkOk2 r k p n a1 len1 cap1 z1 w w1 h1 h3
          · exact walkOk3 r k p n a1 len1 cap1 z1 w w1 h1 h3
          · exact walkOk4 r k p n a1 len1 cap1 z1 w w1 h1 h3
      · exact absurd hE (by decide)
    · exact absurd hE (by decide)
  · exact walkErr _ _ _ _ _ _ _ _ _ w h hE

theorem own : ownKnob Try.prog.godebug = none := by kernel_rfl
theorem laidOut : laidOutB Try.prog = true := by kernel_rfl

/-! ### THE ROW's STEP, as the guide has it -/
set_option maxRecDepth 100000 in
theorem lifted (os : Os) (started : os.Started) (H : Type) (enc : TypeId × Value → H) :
    ReturnsInHanded {} Try.checked os 4 .any (Rows.floorMadeSpec.pre6 enc Try.prog Try.f4 Rows.floorMadeRow.domain false) (Rows.floorMadeSpec.post enc Try.prog Try.f4 false true false false) := by
  refine returnsInHanded_of_change (C := Try.checked) own started (by kernel_rfl) Try.func4
    (ChangeSpec.witness6 (enc := enc) (C := Try.checked) false ⟨#[], #[.agg #[.int .i64 0, .int .i64 0, .int .i64 0, .int .i64 0, .int .i64 0, .int .i64 0], .slice none 0 0], []⟩ 8 (by kernel_rfl) (by kernel_rfl) (by kernel_rfl) (by kernel_rfl)) ?_
  intro W base args ds gs before hval0 hW hcnd _
  have hval : ∀ (j : Nat) t v, Try.f4.params[j]? = some t → args[j]? = some v → Value.okWide Try.prog W .any base t v := hval0
  have hW' := hW
  obtain ⟨p, q, hA0, hV, rfl, hfz, hnd⟩ := hW
  have hA : DataW.TrodAll enc Try.prog W 0 (fun _ => true) true Try.f4.params.toList args.toList ds p := hA0
  rw [Try.params4] at hA hval
  obtain ⟨v0, vs0, d0, ds0, p0, q0, hargs, rfl, rfl, h0, r0⟩ := trodAll_cons hA
  obtain ⟨v1, vs1, d1, ds1, p1, q1, rfl, rfl, rfl, h1, r1⟩ := trodAll_cons r0
  obtain ⟨rfl, rfl, rfl⟩ := trodAll_nil r1
  obtain rfl : args = #[v0, v1] := by cases args; simp_all
  obtain ⟨rfl, rfl⟩ := trodVars_none hV
  obtain ⟨cs0, rfl, sz0⟩ := okWide_struct Try.underlying28 (hval 0 28 v0 rfl rfl)
  have k0 := h0
  have lt0 : ∀ x ∈ p0, x.block < W.heap.size := by obtain ⟨m, hm⟩ := k0; exact DataW.trod_lt m _ _ _ hm
  obtain ⟨z0, w0, rfl⟩ : ∃ z : Nat → Int, (∀ i, i < 6 → (Lit.int .i64 (z i)).wf = true) ∧ cs0 = ⟨(List.range 6).map fun i => .int .i64 (z i)⟩ := by
    obtain ⟨fuel, hf⟩ := h0
    exact isAgg_of Try.underlying28 Try.underlying3 Try.underlying2 (by kernel_rfl) (by kernel_rfl) (sz0.trans (by kernel_rfl)) (by decide) hf
  obtain ⟨a1, len1, cap1, rfl⟩ := okWide_slice Try.underlying46 (hval 1 46 v1 rfl rfl)
  have k1 := h1
  have lt1 : ∀ x ∈ p1, x.block < W.heap.size := by obtain ⟨m, hm⟩ := k1; exact DataW.trod_lt m _ _ _ hm
  obtain ⟨z1, w1⟩ : ∃ z, IsRow .i64 W a1 len1 cap1 z := by
    obtain ⟨fuel, hf⟩ := h1
    exact isRow_of Try.underlying46 Try.underlying2 (by kernel_rfl) hf
  clear hA0 hval0
  refine (walk z0 a1 len1 cap1 z1 W w0 w1).mono fun e W' ⟨he, bel⟩ => ?_
  subst he
  exact ⟨_, rfl, _, _, _, [], _, [], hW', trodAll_mk1 (shut_bool Try.underlying4 _), (trodAll_cons_mk (Below.trod laidOut (by kernel_rfl) (of_decide_eq_true (by kernel_rfl)) k0 bel lt0) (trodAll_cons_mk (Below.trod laidOut (by kernel_rfl) (of_decide_eq_true (by kernel_rfl)) k1 bel lt1) trodAll_mk0)), rfl, bel.frame _, fun h => by cases h⟩

theorem over : Rows.floorMadeRow.holds Try.pinned (OpenSpec.ofChange Rows.floorMadeSpec) :=
  OpenClaim.holds_of_wide 4 Try.f4 rfl rfl rfl rfl rfl rfl rfl ⟨rfl, rfl, rfl, rfl, rfl⟩ rfl rfl rfl rfl rfl (by kernel_rfl) Try.func4 (by kernel_rfl)
    (of_decide_eq_true (by kernel_rfl)) (by unfold Func.isWrapper; first | (rw [if_pos (by decide +kernel)]; kernel_rfl) | (rw [if_neg (by decide +kernel)]; exact ⟨rfl, rfl⟩))
    (fun os started H enc _ => lifted os started H enc)

theorem proved : Rows.FloorMadeSaid := over
#print axioms proved
end Go.Proofs.Ytocjbbfeegmkaaa.floorMade
