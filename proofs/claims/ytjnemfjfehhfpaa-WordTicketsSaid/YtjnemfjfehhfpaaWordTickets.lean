/-
  WordTickets: a row of tickets with a cap from 0 to 255 tells 0, 1, 2 and so on up to the one below its cap, and then no more, however often it is asked; with another cap there is no row.
  Conditions: none.
-/
import Derived.Test.YtjnemfjfehhfpaaRows
import Derived.Test.YtjnemfjfehhfpaaOpen
import Derived.Test.YtjnemfjfehhfpaaWord
import Derived.Test.YtjnemfjfehhfpaaTick
namespace Go.Proofs.Ytjnemfjfehhfpaa.wordTickets
open Go.ChangeShapes Go.WideShapes Go.ChangeAt Go.RowKit Go.Proofs.Ytjnemfjfehhfpaa.base Go.Proofs.Ytjnemfjfehhfpaa.wd
set_option linter.unusedVariables false

/-- At the head of a round: i tickets were asked for. -/
def Rel (w : World) (b : Nat) (m T : Int) (i : Value) (wr : World) : Prop :=
  ∃ k : Nat, (k : Int) ≤ T ∧ i = .int .i64 k ∧ Row wr b m (min (k : Int) m) ∧ Below w.heap.size w wr

theorem walk (a0 : Int) (a1 : Int) (w : World) (w0 : (Lit.int .i64 a0).wf = true) (w1 : (Lit.int .u16 a1).wf = true) :
    Calls Try.prog 5 #[.int .i64 a0, .int .u16 a1] w fun e w' => e = .returned (.bool true) ∧ Below w.heap.size w w' := by
  obtain ⟨l1, u1⟩ : 0 ≤ a1 ∧ a1 ≤ 65535 := bounds_u16 w1
  clear w1
  by_cases hm : 0 ≤ a0 ∧ a0 ≤ 255
  · obtain ⟨l0, u0⟩ := hm
    have T0 : 0 ≤ a1 % 600 := by omega
    have T1 : a1 % 600 < 600 := by omega
    go_enter Try.func5, Try.ntmps5
    go_wp2_with fail
    refine (alive_any _).mono ?_
    rintro e v1 ⟨rfl, g1⟩
    go_wp2_with fail
    refine (new_made _ _ l0 u0).mono ?_
    rintro e v2 ⟨b, rfl, hb, R2, g2⟩
    have B2 := Lib.hid (bl_none (gb_below g1.out) g2.out)
    have hbw : Hid (w.heap.size ≤ b) := Nat.le_trans g1.out.size hb
    clear g2 g1 hb
    go_wp2_with fail
    go_loopw [7] (fun i wr => Rel w b a0 (a1 % 600) i wr) (fun i _ => (600 - intOf i).toNat)
    case atStart => exact ⟨0, by omega, rfl, by rw [show min ((0 : Nat) : Int) a0 = 0 by omega]; exact R2.out, B2.out⟩
    case round =>
      obtain ⟨k, hk, rfl, R0, B0⟩ := hrel
      have B := Lib.hid B0
      by_cases hlt : (k : Int) < a1 % 600
      · by_cases hm : (k : Int) < a0
        · have R : Hid (Row wr b a0 k) := by rwa [show min (k : Int) a0 = k by omega] at R0
          clear R0 B0
          go_wp2_with fail
          refine (take_more b a0 k _ R.out (by omega) hm u0).mono ?_
          rintro e v3 ⟨rfl, R3, g3⟩
          have B3 := Lib.hid (bl_own B.out g3.out hbw.out)
          go_wp2_with fail
          refine (taken_any b a0 (k + 1) _ R3.out).mono ?_
          rintro e v4 ⟨rfl, rfl⟩
          go_wp2
          go_roundw
          case rel => exact ⟨k + 1, by omega, by go_num, by rw [show min ((k + 1 : Nat) : Int) a0 = k + 1 by omega]; exact R3.out, B3.out⟩
          case measure => simp [intOf]; omega
        · have R : Hid (Row wr b a0 a0) := by rwa [show min (k : Int) a0 = a0 by omega] at R0
          clear R0 B0
          go_wp2_with fail
          refine (take_end b a0 a0 _ R.out (by omega)).mono ?_
          rintro e v3 ⟨rfl, R3, g3⟩
          have B3 := Lib.hid (bl_none B.out g3.out)
          go_wp2_with fail
          refine (taken_any b a0 a0 _ R3.out).mono ?_
          rintro e v4 ⟨rfl, rfl⟩
          go_wp2
          go_roundw
          case rel => exact ⟨k + 1, by omega, by go_num, by rw [show min ((k + 1 : Nat) : Int) a0 = a0 by omega]; exact R3.out, B3.out⟩
          case measure => simp [intOf]; omega
      · clear R0 B0
        go_wp2
        go_ret
        exact ⟨rfl, B.out⟩
  · have ho : a0 < 0 ∨ 255 < a0 := by omega
    have Ho := Lib.hid ho
    rcases ho with h | h
    all_goals
      go_enter Try.func5, Try.ntmps5
      go_wp2_with fail
      refine (alive_any _).mono ?_
      rintro e v1 ⟨rfl, g1⟩
      go_wp2_with fail
      refine (new_out _ _ Ho.out).mono ?_
      rintro e v2 ⟨rfl, rfl⟩
      go_wp2
      go_ret
      exact ⟨rfl, gb_below g1.out⟩

theorem own : ownKnob Try.prog.godebug = none := by kernel_rfl
theorem laidOut : laidOutB Try.prog = true := by kernel_rfl

/-! ### THE ROW's STEP, as the guide has it -/
set_option maxRecDepth 100000 in
theorem lifted (os : Os) (started : os.Started) (H : Type) (enc : TypeId × Value → H) :
    ReturnsInHanded {} Try.checked os 5 .any (Rows.wordTicketsSpec.pre6 enc Try.prog Try.f5 Rows.wordTicketsRow.domain false) (Rows.wordTicketsSpec.post enc Try.prog Try.f5 false true false false) := by
  refine returnsInHanded_of_change (C := Try.checked) own started (by kernel_rfl) Try.func5
    (ChangeSpec.witness6 (enc := enc) (C := Try.checked) false ⟨#[], #[.int .i64 0, .int .u16 0], []⟩ 8 (by kernel_rfl) (by kernel_rfl) (by kernel_rfl) (by kernel_rfl)) ?_
  intro W base args ds gs before hval0 hW hcnd _
  have hval : ∀ (j : Nat) t v, Try.f5.params[j]? = some t → args[j]? = some v → Value.okWide Try.prog W .any base t v := hval0
  have hW' := hW
  obtain ⟨p, q, hA0, hV, rfl, hfz, hnd⟩ := hW
  have hA : DataW.TrodAll enc Try.prog W 0 (fun _ => true) true Try.f5.params.toList args.toList ds p := hA0
  rw [Try.params5] at hA hval
  obtain ⟨v0, vs0, d0, ds0, p0, q0, hargs, rfl, rfl, h0, r0⟩ := trodAll_cons hA
  obtain ⟨v1, vs1, d1, ds1, p1, q1, rfl, rfl, rfl, h1, r1⟩ := trodAll_cons r0
  obtain ⟨rfl, rfl, rfl⟩ := trodAll_nil r1
  obtain rfl : args = #[v0, v1] := by cases args; simp_all
  obtain ⟨rfl, rfl⟩ := trodVars_none hV
  obtain ⟨a0, rfl, rfl, rfl, w0⟩ := open_int Try.underlying3 (hval 0 3 v0 rfl rfl) h0
  obtain ⟨a1, rfl, rfl, rfl, w1⟩ := open_int Try.underlying36 (hval 1 36 v1 rfl rfl) h1
  clear hA0 hval0
  refine (walk a0 a1 W w0 w1).mono fun e W' ⟨he, bel⟩ => ?_
  subst he
  exact ⟨_, rfl, _, _, _, [], _, [], hW', trodAll_mk1 (shut_bool Try.underlying4 _), (trodAll_cons_mk (shut_int Try.underlying3 w0) (trodAll_cons_mk (shut_int Try.underlying36 w1) trodAll_mk0)), rfl, bel.frame _, fun h => by cases h⟩

theorem over : Rows.wordTicketsRow.holds Try.pinned (OpenSpec.ofChange Rows.wordTicketsSpec) :=
  OpenClaim.holds_of_wide 5 Try.f5 rfl rfl rfl rfl rfl rfl rfl ⟨rfl, rfl, rfl, rfl, rfl⟩ rfl rfl rfl rfl rfl (by kernel_rfl) Try.func5 (by kernel_rfl)
    (of_decide_eq_true (by kernel_rfl)) (by unfold Func.isWrapper; first | (rw [if_pos (by decide +kernel)]; kernel_rfl) | (rw [if_neg (by decide +kernel)]; exact ⟨rfl, rfl⟩))
    (fun os started H enc _ => lifted os started H enc)

theorem proved : Rows.WordTicketsSaid := over
#print axioms proved
end Go.Proofs.Ytjnemfjfehhfpaa.wordTickets
