/-
  FloorNotes: events stand in the trace as they were noted, and what was told, and changed, changes nothing; for any list of events.
  Conditions: none (of more than 200 events the law says nothing by itself).
-/
import Derived.Test.YthkpofbefabieaaRRRRRows
import Derived.Test.YthkpofbefabieaaRRRRAlive13
import Derived.Test.YthkpofbefabieaaRRRROpenB
namespace Go.Proofs.YthkpofbefabieaaRRRR.floorNotes
open Go.ChangeShapes Go.WideShapes Go.ChangeAt Go.RowKit Go.Proofs.YthkpofbefabieaaRRRR.base Go.Proofs.YthkpofbefabieaaRRRR.fl
set_option linter.unusedVariables false

/-- The first k events. -/
def evs (z : Nat → Nat → Int) (k : Nat) : List (Nat → Int) := (List.range k).map z
theorem evs_length (z : Nat → Nat → Int) (k : Nat) : (evs z k).length = k := by simp [evs]
theorem evs_succ (z : Nat → Nat → Int) (k : Nat) : evs z k ++ [z k] = evs z (k + 1) := by simp [evs, List.range_succ]
theorem evs_get (z : Nat → Nat → Int) (k j : Nat) (h : j < k) : (evs z k)[j]? = some (z j) := by simp [evs, h]

theorem evc_get (x : Nat → Int) (i : Nat) (hi : i < 7) : (evc x)[i]? = some (.int .i64 (x i)) := by
  match i, hi with
  | 0, _ => rfl
  | 1, _ => rfl
  | 2, _ => rfl
  | 3, _ => rfl
  | 4, _ => rfl
  | 5, _ => rfl
  | 6, _ => rfl

theorem isL_evs {w : World} {a : Option Addr} {len cap : Nat} {z : Nat → Nat → Int} (h : IsInts 7 w a len cap z) (m : Nat) (hm : m ≤ len) : IsL evc w a (evs z m) := by
  obtain ⟨_, _, h | ⟨b, off, rfl, hb, hc⟩⟩ := h
  · obtain rfl : m = 0 := by omega
    exact .inl rfl
  · refine .inr ⟨b, off, rfl, hb, fun j u hu => ?_⟩
    have hj : j < m * 7 := by
      have := (List.getElem?_eq_some_iff.1 hu).1
      rwa [rows_length evc_length, evs_length] at this
    have h1 : j / 7 < m := Nat.div_lt_of_lt_mul (by omega)
    have h2 : j % 7 < 7 := Nat.mod_lt _ (by omega)
    have e : j = j / 7 * 7 + j % 7 := (Nat.div_add_mod' j 7).symm
    have h3 := rows_get evc_length (evs z m) (j / 7) (j % 7) (z (j / 7)) (evs_get z m _ h1) h2
    rw [← e, hu, evc_get _ _ h2] at h3
    have h4 := (hc (j / 7) (j % 7) (by omega) h2).1
    rw [← e] at h4
    rw [h3]
    exact h4

/-- At the head of a round: k events were noted. -/
def Rel (bb : Bas) (fb : Nat) (ds : List Int) (nx : Nat → Nat) (z : Nat → Nat → Int) (len : Nat) (C : Core) (iv : Value) (wr : World) : Prop :=
  ∃ k : Nat, k ≤ len ∧ iv = .int .i64 k ∧ Flo bb wr fb 1 ds nx (evs z k) C []

theorem walk_out (a0 : Option Addr) (len0 cap0 : Nat) (w : World) (h : 200 < (len0 : Int)) : Calls Try.prog 4 #[.slice a0 len0 cap0] w fun e w' => e = .returned (.bool true) ∧ Below w.heap.size w w' := by
  go_enter Try.func4, Try.ntmps4
  go_wp2_with fail
  refine (alive_any _).mono ?_
  rintro e v1 ⟨rfl, g1⟩
  go_wp2
  go_ret
  exact ⟨rfl, gb_below g1.out⟩

set_option maxRecDepth 100000 in
set_option maxHeartbeats 4000000 in
theorem walkIn (a0 : Option Addr) (len0 cap0 : Nat) (z0 : Nat → Nat → Int) (w : World) (w0 : IsInts 7 w a0 len0 cap0 z0) (h0 : ¬ 200 < (len0 : Int)) : Calls Try.prog 4 #[.slice a0 len0 cap0] w fun e w' => e = .returned (.bool true) ∧ Below w.heap.size w w' := by
  have W0 := Lib.hid w0
  have HL := Lib.hid (show len0 ≤ 200 by omega)
  have hlc : (len0 : Int) ≤ (cap0 : Int) := by have := w0.1; omega
  have NN := Lib.hid (fun (u : World) (b1 : Option Addr) (h1 : IsRow .i64 u b1 2 2 (fun i => [1, 2].getD i 0)) => show Calls Try.prog 6 #[.agg #[.int .i64 2, .int .i64 1, .int .i64 100, .int .i64 9, .int .i64 4, .int .i64 3], .slice b1 2 2, .slice none 0 0] u fun e w' => ∃ fb ab tb cb tk g b0 X, e = .returned (.tuple #[.pointer (some ⟨fb, 0, none⟩), .int .i64 0]) ∧ Hid (FloX fb 1 [] (fun _ => 0) [] ⟨ab, tb, cb, tk, g, 2, 100, 9, 4, 3, 0, false, 0, 0, fun _ => 0, 0⟩ X) ∧
      Hid (Hold (CelP b0 cb tb ab 100 (rf.firsts (fun i => [1, 2].getD i 0) 2) (rf.heads 2) 0 (fun _ => false) (fun _ _ => 0) 100) u w' X) from new_plain 1 (by omega) none 0 0 (fun _ => 0) (by omega) u b1 h1 ⟨Nat.le_refl _, by unfold maxLen; omega, .inl rfl⟩)
  clear w0
  go_enter Try.func4, Try.ntmps4
  go_wp2_with fail
  refine (alive_any _).mono ?_
  rintro e v1 ⟨rfl, g1⟩
  go_wp2_with fail
  refine (plain_any 1 _).mono ?_
  rintro e v2 ⟨rfl, g2⟩
  have A2 : Hid (IsRow .i64 ((v2.alloc (.cells #[.int .i64 1, .int .i64 2] 2))) (some ⟨v2.heap.size, 0, none⟩) 2 2 (fun i => [1, 2].getD i 0)) := isRow_lit .i64 v2 [1, 2] 2 (by simp; decide) (by decide)
  have G2 : Hid (w.grownBy ((v2.alloc (.cells #[.int .i64 1, .int .i64 2] 2))) none) := gb_alloc (gb_trans g1.out g2.out) _
  clear g1 g2
  go_wp2_with fail
  generalize v2.alloc _ = u at *
  generalize v2.heap.size = b1 at *
  refine (NN.out _ _ A2.out).mono ?_
  rintro e v3 ⟨fb, ab, tb, cb', tk, gg, b0, X, rfl, hX, H⟩
  obtain ⟨bb, hb, F⟩ := flo_of firm_cel hX.out H.out
  generalize (⟨ab, tb, cb', tk, gg, 2, 100, 9, 4, 3, 0, false, 0, 0, fun _ => 0, 0⟩ : Core) = C at *
  have F4 := Lib.hid F
  have HB := Lib.hid hb
  have GW := Lib.hid (show ∀ wr : World, bb.wd.grownBy wr none → w.grownBy wr none from fun wr h => by rw [HB.out] at h; exact gb_trans G2.out h)
  clear hX H hb A2 F NN HB G2
  go_wp2_with fail
  go_loopw [5] (fun iv wr => Rel bb fb [] (fun _ => 0) z0 len0 C iv wr) (fun iv _ => (len0 - intOf iv).toNat)
  case atStart => exact ⟨0, by omega, rfl, F4.out⟩
  case round =>
    obtain ⟨k, hk, rfl, M0⟩ := hrel
    have M := Lib.hid M0
    clear M0 F4
    have G := Lib.hid (GW.out wr M.out.grow)
    by_cases hlt : k < len0
    · have hlt' : (k : Int) < (len0 : Int) := by omega
      obtain ⟨K, hK⟩ : ∃ K : Nat, K = k + 1 := ⟨_, rfl⟩
      have IS := Lib.hid (isL_evs W0.out K (by omega))
      obtain ⟨_, _, hx | ⟨b2, off2, rfl, hb2, hz2⟩⟩ := W0.out
      · exfalso; omega
      have e0 : wr.cell? ⟨b2, off2 + k * 7, none⟩ = some (.int .i64 (z0 k 0)) := G.out.cell (hz2 k 0 hlt (by omega)).1 (by simp)
      have e1 : wr.cell? ⟨b2, off2 + k * 7 + 1, none⟩ = some (.int .i64 (z0 k 1)) := G.out.cell (hz2 k 1 hlt (by omega)).1 (by simp)
      have e2 : wr.cell? ⟨b2, off2 + k * 7 + 2, none⟩ = some (.int .i64 (z0 k 2)) := G.out.cell (hz2 k 2 hlt (by omega)).1 (by simp)
      have e3 : wr.cell? ⟨b2, off2 + k * 7 + 3, none⟩ = some (.int .i64 (z0 k 3)) := G.out.cell (hz2 k 3 hlt (by omega)).1 (by simp)
      have e4 : wr.cell? ⟨b2, off2 + k * 7 + 4, none⟩ = some (.int .i64 (z0 k 4)) := G.out.cell (hz2 k 4 hlt (by omega)).1 (by simp)
      have e5 : wr.cell? ⟨b2, off2 + k * 7 + 5, none⟩ = some (.int .i64 (z0 k 5)) := G.out.cell (hz2 k 5 hlt (by omega)).1 (by simp)
      have e6 : wr.cell? ⟨b2, off2 + k * 7 + 6, none⟩ = some (.int .i64 (z0 k 6)) := G.out.cell (hz2 k 6 hlt (by omega)).1 (by simp)
      have NO := Lib.hid (note_any (z0 k) (by rw [evs_length]; have := HL.out; omega) M.out)
      rw [evs_succ, ← hK] at NO
      clear hz2
      have hw : IntKind.i64.wrap ((k : Int) + 1) = (K : Int) := by rw [hK, IntWalk.i64_in _ (by omega)]; rfl
      have hkc : (K : Int) ≤ (cap0 : Int) := by omega
      have hk0 : (0 : Int) ≤ (K : Int) := by omega
      have hkp : (0 : Int) < (K : Int) := by omega
      have hkp' : 0 < K := by omega
      have HK := Lib.hid hK
      clear hK
      go_wp2_with fail
      refine NO.out.mono ?_
      rintro e v5 ⟨rfl, M5⟩
      clear e0 e1 e2 e3 e4 e5 e6 NO M
      have TR := Lib.hid (trace_any (by rw [evs_length]; have := HL.out; have := HK.out; omega) M5.out)
      rw [evs_length] at TR
      go_wp2_with fail
      refine TR.out.mono ?_
      rintro e v6 ⟨ta, tc, L, rfl, hr, M6⟩
      clear TR M5
      have hr0 := hr.out
      rcases hr0 with ⟨h, _⟩ | ⟨q, tc', cur, hq, rfl, h1, h2, h3, h4⟩
      · have := congrArg List.length h
        have := HK.out
        rw [evs_length] at *
        simp at *
        omega
      injection hq with hq1 hq3 hq2
      clear hq3
      subst hq1 hq2
      have M7 : Hid (Flo bb v6 fb 1 [] (fun _ => 0) (evs z0 K) C [(q, 38, cur)]) := by
        have h := M6.out
        exact h
      have hI : IsL evc v6 (some ⟨q, 0, none⟩) (evs z0 K) := by
        refine .inr ⟨q, 0, rfl, M7.out.lt 0 rfl, fun j u hu => ?_⟩
        have hj : j < (evs z0 K).length * 7 := by
          have := (List.getElem?_eq_some_iff.1 hu).1
          rwa [rows_length evc_length] at this
        rw [Nat.zero_add]
        refine M7.out.cell 0 j rfl ?_
        rw [← h4, List.getElem?_take_of_lt hj] at hu
        exact hu
      have EV := Lib.hid (events_true (some ⟨q, 0, none⟩) (some ⟨b2, off2, none⟩) (evs z0 K) K (evs_length _ _) tc cap0 v6 hI (IS.out.grown (GW.out _ M7.out.grow)) (by rw [evs_length]; have := HL.out; have := HK.out; omega))
      have cur0 : cur[0]? = some (.int .i64 (z0 0 0)) := by
        have h5 := rows_get evc_length (evs z0 K) 0 0 (z0 0) (evs_get _ _ _ (by have := HK.out; omega)) (by omega)
        rw [← h4, List.getElem?_take_of_lt (by rw [evs_length]; have := HK.out; omega)] at h5
        exact h5
      have cur0 := Lib.hid cur0
      clear hr M6 h1 h2 h3 h4 hI
      go_wp2_with fail
      refine EV.out.mono ?_
      rintro e v7 ⟨n7, rfl, rfl⟩
      have M8 := Lib.hid (M7.out.drewN n7)
      have cq := M8.out.cell 0 0 rfl cur0.out
      have fq := M8.out.free 0 0 rfl
      generalize v6.drewN n7 = v7 at *
      clear M7 EV cur0
      go_wp2
      go_roundw
      case rel => exact ⟨K, by have := HK.out; omega, rfl, (M8.out.set 0 0 _ rfl).drop (List.nil_sublist _)⟩
      case measure => have := HK.out; simp [intOf]; omega
    · obtain rfl : k = len0 := by omega
      have IS := Lib.hid (isL_evs W0.out k (by omega))
      have TR := Lib.hid (trace_any (by rw [evs_length]; have := HL.out; omega) M.out)
      rw [evs_length] at TR
      go_wp2_with fail
      refine TR.out.mono ?_
      rintro e v6 ⟨ta, tc, L, rfl, hr, M6⟩
      obtain ⟨X, hX, o⟩ := M6.out
      obtain ⟨ta', tc', e1, hI⟩ := hr.out.isL evc_length (show base.Own bb v6 (L ++ (X ++ [])) from o.comm)
      rw [evs_length] at e1
      injection e1 with e1 e3 e2
      clear e3
      subst e1 e2
      have EV := Lib.hid (events_true ta a0 (evs z0 k) k (evs_length _ _) tc cap0 v6 hI (IS.out.grown (GW.out _ M6.out.grow)) (by rw [evs_length]; have := HL.out; omega))
      clear hX o hI hr
      go_wp2_with fail
      refine EV.out.mono ?_
      rintro e v7 ⟨n7, rfl, rfl⟩
      go_wp2
      go_ret
      exact ⟨rfl, gb_below (gb_drewN (GW.out _ M6.out.grow) n7)⟩

theorem walk (a0 : Option Addr) (len0 cap0 : Nat) (z0 : Nat → Nat → Int) (w : World) (w0 : IsInts 7 w a0 len0 cap0 z0) : Calls Try.prog 4 #[.slice a0 len0 cap0] w fun e w' => e = .returned (.bool true) ∧ Below w.heap.size w w' := by
  by_cases h0 : 200 < (len0 : Int)
  · exact walk_out _ _ _ w h0
  · exact walkIn _ _ _ z0 w w0 h0

theorem own : ownKnob Try.prog.godebug = none := by kernel_rfl
theorem laidOut : laidOutB Try.prog = true := by kernel_rfl

/-! ### THE ROW's STEP, as the guide has it -/
set_option maxRecDepth 100000 in
theorem lifted (os : Os) (started : os.Started) (H : Type) (enc : TypeId × Value → H) :
    ReturnsInHanded {} Try.checked os 4 .any (Rows.floorNotesSpec.pre6 enc Try.prog Try.f4 Rows.floorNotesRow.domain false) (Rows.floorNotesSpec.post enc Try.prog Try.f4 false true false false) := by
  refine returnsInHanded_of_change (C := Try.checked) own started (by kernel_rfl) Try.func4
    (ChangeSpec.witness6 (enc := enc) (C := Try.checked) false ⟨#[], #[.slice none 0 0], []⟩ 8 (by kernel_rfl) (by kernel_rfl) (by kernel_rfl) (by kernel_rfl)) ?_
  intro W base args ds gs before hval0 hW hcnd _
  have hval : ∀ (j : Nat) t v, Try.f4.params[j]? = some t → args[j]? = some v → Value.okWide Try.prog W .any base t v := hval0
  have hW' := hW
  obtain ⟨p, q, hA0, hV, rfl, hfz, hnd⟩ := hW
  have hA : DataW.TrodAll enc Try.prog W 0 (fun _ => true) true Try.f4.params.toList args.toList ds p := hA0
  rw [Try.params4] at hA hval
  obtain ⟨v0, vs0, d0, ds0, p0, q0, hargs, rfl, rfl, h0, r0⟩ := trodAll_cons hA
  obtain ⟨rfl, rfl, rfl⟩ := trodAll_nil r0
  obtain rfl : args = #[v0] := by cases args; simp_all
  obtain ⟨rfl, rfl⟩ := trodVars_none hV
  obtain ⟨a0, len0, cap0, rfl⟩ := okWide_slice Try.underlying35 (hval 0 35 v0 rfl rfl)
  have k0 := h0
  have lt0 : ∀ x ∈ p0, x.block < W.heap.size := by obtain ⟨m, hm⟩ := k0; exact DataW.trod_lt m _ _ _ hm
  obtain ⟨z0, w0⟩ : ∃ z, IsInts 7 W a0 len0 cap0 z := by
    obtain ⟨fuel, hf⟩ := h0
    exact isMixed_of Try.underlying35 Try.underlying38 Try.underlying3 Try.underlying2 (by kernel_rfl) (by kernel_rfl) (by kernel_rfl) (by decide) (by decide) hf
  clear hA0 hval0
  refine (walk a0 len0 cap0 z0 W w0).mono fun e W' ⟨he, bel⟩ => ?_
  subst he
  exact ⟨_, rfl, _, _, _, [], _, [], hW', trodAll_mk1 (shut_bool Try.underlying4 _), (trodAll_cons_mk (Below.trod laidOut (by kernel_rfl) (of_decide_eq_true (by kernel_rfl)) k0 bel lt0) trodAll_mk0), rfl, bel.frame _, fun h => by cases h⟩

theorem over : Rows.floorNotesRow.holds Try.pinned (OpenSpec.ofChange Rows.floorNotesSpec) :=
  OpenClaim.holds_of_wide 4 Try.f4 rfl rfl rfl rfl rfl rfl rfl ⟨rfl, rfl, rfl, rfl, rfl⟩ rfl rfl rfl rfl rfl (by kernel_rfl) Try.func4 (by kernel_rfl)
    (of_decide_eq_true (by kernel_rfl)) (by unfold Func.isWrapper; first | (rw [if_pos (by decide +kernel)]; kernel_rfl) | (rw [if_neg (by decide +kernel)]; exact ⟨rfl, rfl⟩))
    (fun os started H enc _ => lifted os started H enc)

theorem proved : Rows.FloorNotesSaid := over
#print axioms proved
end Go.Proofs.YthkpofbefabieaaRRRR.floorNotes
