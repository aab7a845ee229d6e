/-
  LangApart: a transaction alone changes no object but those that it writes, and objects that it neither reads nor writes play no part; for any list of operations, any values, any object, any other value of it.
  Conditions: none (of what is no transaction, and of no values or more than 8, the law says nothing by itself).
-/
import Derived.Test.YtjajhkgbhckdeaaRows
import Derived.Test.YtjajhkgbhckdeaaOpen
import Derived.Test.YtjajhkgbhckdeaaAliveL
namespace Go.Proofs.Ytjajhkgbhckdeaa.langApart
open Go.ChangeShapes Go.WideShapes Go.ChangeAt Go.RowKit Go.Proofs.Ytjajhkgbhckdeaa.base Go.Proofs.Ytjajhkgbhckdeaa.lg
set_option linter.unusedVariables false

set_option maxRecDepth 100000 in
theorem walk_out (a0 : Option Addr) (len0 cap0 : Nat) (z0 : Nat → Nat → Int) (a1 : Option Addr) (len1 cap1 : Nat) (a2 a3 : Int) (w : World) (w0 : IsOps w a0 len0 z0) (hm : len0 ≤ maxLen) (h : len1 = 0 ∨ 8 < len1 ∨ rightB z0 len0 len1 = false) :
    Calls Try.prog 7 #[.slice a0 len0 cap0, .slice a1 len1 cap1, .int .u8 a2, .int .i64 a3] w (fun e w' => e = .returned (.bool true) ∧ Below w.heap.size w w') := by
  by_cases h1 : len1 = 0
  · subst h1
    clear h w0
    go_enter Try.func7, Try.ntmps7
    go_wp2_with fail
    refine (alive_any _).mono ?_
    rintro e v1 ⟨rfl, g1⟩
    go_wp2
    go_ret
    exact ⟨rfl, gb_below g1.out⟩
  · by_cases h8 : 8 < len1
    · have hd : ((len1 : Int) == 0) = false := by simp; omega
      have hd8 : decide ((8 : Int) < (len1 : Int)) = true := by simp; omega
      clear h w0
      go_enter Try.func7, Try.ntmps7
      go_wp2_with fail
      refine (alive_any _).mono ?_
      rintro e v1 ⟨rfl, g1⟩
      go_wp2
      go_ret
      exact ⟨rfl, gb_below g1.out⟩
    · have hd : ((len1 : Int) == 0) = false := by simp; omega
      have hd8 : decide ((8 : Int) < (len1 : Int)) = false := by simp; omega
      have hr : rightB z0 len0 len1 = false := by rcases h with h | h | h <;> first | omega | exact h
      have HR := Lib.hid (fun u g => (hr ▸ refright_any a0 len0 cap0 z0 len1 u g hm))
      have Z := Lib.hid w0
      clear h hr w0
      go_enter Try.func7, Try.ntmps7
      go_wp2_with fail
      refine (alive_any _).mono ?_
      rintro e v1 ⟨rfl, g1⟩
      go_wp2_with fail
      refine (HR.out _ (Z.out.grown g1.out)).mono ?_
      rintro e v2 ⟨rfl, g2⟩
      go_wp2
      go_ret
      exact ⟨rfl, gb_below (gb_trans g1.out g2.out)⟩

/-- Does one of the first m write o? -/
def wrt (z : Nat → Nat → Int) (o : Int) : Nat → Bool
  | 0 => false
  | m + 1 => wrt z o m || (z m 0 == 2 && z m 1 == o)
/-- .. read or write o? -/
def usd (z : Nat → Nat → Int) (o : Int) : Nat → Bool
  | 0 => false
  | m + 1 => usd z o m || ((z m 0 == 2 || z m 0 == 1) && z m 1 == o)

theorem run_apart {z : Nat → Nat → Int} {v : Nat → Int} {n : Nat} {o m : Nat} (hok : okN z n m = true) (h : wrt z o m = false) : (run z v m).2 o = v o := by
  induction m with
  | zero => rfl
  | succ m ih =>
    simp only [wrt, Bool.or_eq_false_iff] at h
    have hk := okN_at hok (show m < m + 1 by omega)
    have ih' := ih (okN_le hok (by omega)) h.1
    rw [run]
    by_cases h1 : z m 0 = 1
    · simp [h1, ih']
    · by_cases h2 : z m 0 = 2
      · obtain ⟨i, hi, hin⟩ := okB_obj hk (.inr h2)
        have hne : ¬ o = i := by
          intro e
          have := h.2
          rw [h2, hi, e] at this
          simp at this
        simp [h2, hi, hne, ih']
      · simp [h1, h2, ih']

theorem run_indep {z : Nat → Nat → Int} {v v' : Nat → Int} {n K m : Nat} (hok : okN z n m = true) (h : usd z K m = false) (hv : ∀ j, j ≠ K → v' j = v j) : (run z v' m).1 = (run z v m).1 ∧ (∀ j, j ≠ K → (run z v' m).2 j = (run z v m).2 j) ∧ (run z v' m).2 K = v' K := by
  induction m with
  | zero => exact ⟨rfl, hv, rfl⟩
  | succ m ih =>
    simp only [usd, Bool.or_eq_false_iff] at h
    have hk := okN_at hok (show m < m + 1 by omega)
    obtain ⟨i1, i2, i3⟩ := ih (okN_le hok (by omega)) h.1
    simp only [run]
    by_cases h1 : z m 0 = 1
    · obtain ⟨i, hi, hin⟩ := okB_obj hk (.inl h1)
      have hne : i ≠ K := by
        intro e
        have := h.2
        rw [h1, hi, e] at this
        simp at this
      rw [if_pos h1, if_pos h1]
      refine ⟨?_, i2, i3⟩
      simp only [hi, Int.toNat_natCast]
      exact i2 i hne
    · rw [if_neg h1, if_neg h1]
      by_cases h2 : z m 0 = 2
      · obtain ⟨i, hi, hin⟩ := okB_obj hk (.inr h2)
        have hne : i ≠ K := by
          intro e
          have := h.2
          rw [h2, hi, e] at this
          simp at this
        rw [if_pos h2, if_pos h2]
        simp only [hi, Int.toNat_natCast]
        refine ⟨i1, fun j hj => ?_, ?_⟩
        · by_cases e : j = i
          · simp [e, i1]
          · simp [e, i2 j hj]
        · simp [show ¬ K = i from fun e => hne e.symm, i3]
      · rw [if_neg h2, if_neg h2]
        exact ⟨by simp [sumI, i1], i2, i3⟩

theorem own_at {base : Nat} {e : TypeId} {w : World} {a : Option Addr} {n c : Nat} {f : Nat → Int} (h : w.ownsRow base e 1 (.slice a n c) n (vals f n)) {i : Nat} (hi : i < n) : ∃ g, a = some ⟨g, 0, none⟩ ∧ base ≤ g ∧ g < w.heap.size ∧ w.cell? ⟨g, i, none⟩ = some (.int .i64 (f i)) ∧ w.frozen? ⟨g, i, none⟩ = false := by
  rcases h.2 with ⟨_, h0⟩ | ⟨g, cap, cur, e, hb, hg, _⟩
  · omega
  · injection e with e1 e2 e3
    subst e1
    exact ⟨g, rfl, hb, lt_of_block hg, (h.cellAt i (by omega)).trans (vals_get _ n i hi), by simp [World.frozen?, hg]⟩
theorem own_set {base : Nat} {e : TypeId} {w : World} {g n c : Nat} {f : Nat → Int} (h : w.ownsRow base e 1 (.slice (some ⟨g, 0, none⟩) n c) n (vals f n)) {i : Nat} (hi : i < n) (u : Int) : (w.setCell ⟨g, i, none⟩ (.int .i64 u)).ownsRow base e 1 (.slice (some ⟨g, 0, none⟩) n c) n (vals (fun j => if j = i then u else f j) n) := by
  rw [← vals_set]
  exact ownsRow_set h rfl hi _

set_option maxRecDepth 100000 in
set_option maxHeartbeats 4000000 in
theorem walkIn (a0 : Option Addr) (len0 cap0 : Nat) (z0 : Nat → Nat → Int) (a1 : Option Addr) (len1 cap1 : Nat) (z1 : Nat → Int) (a2 a3 : Int) (w : World) (w0 : IsOps w a0 len0 z0) (w1 : IsNums .i64 w a1 len1 z1) (l2 : 0 ≤ a2) (u2 : a2 ≤ 255) (hm : len0 ≤ maxLen) (h1 : 1 ≤ len1) (h8 : len1 ≤ 8) (hr : rightB z0 len0 len1 = true) :
    Calls Try.prog 7 #[.slice a0 len0 cap0, .slice a1 len1 cap1, .int .u8 a2, .int .i64 a3] w (fun e w' => e = .returned (.bool true) ∧ Below w.heap.size w w') := by
  have hl : 0 < len0 ∧ len0 < 9 ∧ okN z0 len1 len0 = true := by simp only [rightB, Bool.and_eq_true, decide_eq_true_eq] at hr; exact ⟨hr.1.1, hr.1.2, hr.2⟩
  obtain ⟨hl0, hl9, hok⟩ := hl
  have HK := Lib.hid hok
  have HRR := Lib.hid hr
  have HR := Lib.hid (fun u g => (hr ▸ refright_any a0 len0 cap0 z0 len1 u g hm))
  have hd : ((len1 : Int) == 0) = false := by simp; omega
  have hd8 : decide ((8 : Int) < (len1 : Int)) = false := by simp; omega
  obtain ⟨K, hK1, hK2⟩ : ∃ K : Nat, a2 % (len1 : Int) = (K : Int) ∧ K < len1 := ⟨(a2 % (len1 : Int)).toNat, by have := Int.emod_nonneg a2 (show (len1 : Int) ≠ 0 by omega); omega, by have := Int.emod_lt_of_pos a2 (show (0 : Int) < (len1 : Int) by omega); have := Int.emod_nonneg a2 (show (len1 : Int) ≠ 0 by omega); omega⟩
  have hK3 : a2.tmod (len1 : Int) = (K : Int) := by rw [Int.tmod_eq_emod_of_nonneg l2]; exact hK1
  have hcv : IntKind.i64.wrap a2 = a2 := IntWalk.i64_in _ (by omega)
  have Z := Lib.hid w0
  have V := Lib.hid w1
  clear w0 w1 hr hok hm
  go_enter Try.func7, Try.ntmps7
  go_wp2_with fail
  refine (alive_any _).mono ?_
  rintro e v1 ⟨rfl, g1⟩
  go_wp2_with fail
  refine (HR.out _ (Z.out.grown g1.out)).mono ?_
  rintro e v2 ⟨rfl, g2⟩
  have G2 := Lib.hid (gb_trans g1.out g2.out)
  clear g1 g2 HR
  go_wp2_with fail
  refine (alone_any a0 len0 cap0 z0 a1 len1 cap1 z1 _ (Z.out.grown G2.out) (V.out.grown G2.out) HRR.out (by omega)).mono ?_
  rintro e v3 ⟨b3, c3, rfl, R3, g3⟩
  have G3 := Lib.hid (gb_trans G2.out g3.out)
  have N3 := Lib.hid (IsNums.of_own (k := .i64) R3.out)
  clear g3 G2 R3
  go_wp2_with fail
  clear hd hd8 hcv hK1 hK3 l2 u2
  go_loopw [12, 13] (fun uv ov wr => ∃ (o : Nat) (U : Bool), o ≤ len1 ∧ ov = .int .i64 o ∧ uv = .bool U ∧ Hid (U = (decide (0 < o) && usd z0 K len0)) ∧ Hid (v3.grownBy wr none)) (fun _ ov _ => (len1 - intOf ov).toNat)
  case atStart => exact ⟨0, false, by omega, rfl, rfl, rfl, gb_refl _ _⟩
  case round =>
    obtain ⟨o, U0, ho, rfl, rfl, HU0, G⟩ := hrel
    have GW := Lib.hid (gb_trans G3.out G.out)
    by_cases hlo : o < len1
    · have hlo' : (o : Int) < (len1 : Int) := by omega
      go_wp2_with fail
      go_loop [12, 14, 15] (fun uv wv iv => ∃ (i : Nat) (W U : Bool), i ≤ len0 ∧ iv = .int .i64 i ∧ wv = .bool W ∧ uv = .bool U ∧ Hid (W = wrt z0 o i) ∧ Hid (U = (U0 || usd z0 K i))) (fun _ _ iv => (len0 - intOf iv).toNat)
      case atStart => exact ⟨0, false, U0, by omega, rfl, rfl, rfl, rfl, (by show U0 = (U0 || false); simp)⟩
      case round =>
        obtain ⟨i, W, U, hi, rfl, rfl, rfl, HW, HU⟩ := hrel
        by_cases hli : i < len0
        · obtain ⟨b1, off1, rfl, hb1, c0, c1, c2⟩ := (Z.out.grown GW.out).at3 hli
          have hli' : (i : Int) < (len0 : Int) := by omega
          have HW1 := Lib.hid (show wrt z0 o (i + 1) = (W || (z0 i 0 == 2 && z0 i 1 == (o : Int))) by rw [wrt, ← HW.out])
          have HU1 := Lib.hid (show (U0 || usd z0 K (i + 1)) = (U || ((z0 i 0 == 2 || z0 i 0 == 1) && z0 i 1 == (K : Int))) by rw [usd, ← Bool.or_assoc, ← HU.out])
          clear HW HU
          generalize z0 i 0 = x0 at *
          generalize z0 i 1 = x1 at *
          generalize z0 i 2 = x2 at *
          rcases (by omega : x0 = 2 ∨ x0 = 1 ∨ (x0 ≠ 2 ∧ x0 ≠ 1)) with rfl | rfl | ⟨hx2, hx1⟩
          · cases W <;> cases U
            all_goals
              have HW2 := Lib.hid HW1.out
              have HU2 := Lib.hid HU1.out
              go_wp2
              go_round
              case rel => exact ⟨i + 1, _, _, by omega, by go_num, rfl, rfl, by show _ = _; rw [HW1.out]; simp, by show _ = _; rw [HU1.out]; simp⟩
              case measure => simp [intOf]; omega
          · cases W <;> cases U
            all_goals
              have HW2 := Lib.hid HW1.out
              have HU2 := Lib.hid HU1.out
              go_wp2
              go_round
              case rel => exact ⟨i + 1, _, _, by omega, by go_num, rfl, rfl, by show _ = _; rw [HW1.out]; simp, by show _ = _; rw [HU1.out]; simp⟩
              case measure => simp [intOf]; omega
          · have hx2b : (x0 == 2) = false := by simpa using hx2
            have hx1b : (x0 == 1) = false := by simpa using hx1
            have HX2 := Lib.hid hx2b
            have HX1 := Lib.hid hx1b
            clear hx2 hx1
            cases W <;> cases U
            all_goals
              have HW2 := Lib.hid HW1.out
              have HU2 := Lib.hid HU1.out
              go_wp2
              go_round
              case rel => exact ⟨i + 1, _, _, by omega, by go_num, rfl, rfl, by show _ = _; rw [HW1.out]; simp [HX2.out], by show _ = _; rw [HU1.out]; simp [HX2.out, HX1.out]⟩
              case measure => simp [intOf]; omega
        · obtain rfl : i = len0 := by omega
          clear hlo'
          have HUt := Lib.hid (show U = (decide (0 < o + 1) && usd z0 K i) by rw [HU.out, HU0.out]; cases decide (0 < o) <;> simp)
          obtain ⟨bv, ov, rfl, hbv, d0⟩ := (V.out.grown GW.out).at1 hlo
          obtain ⟨b4, o4, e4, hb4, d4⟩ := (N3.out.grown G.out).at1 hlo
          subst e4
          cases W with
          | true =>
            go_wp2_with fail
            go_quiet (fail)
            go_wp2
            go_roundw
            case rel => exact ⟨o + 1, U, by omega, by go_num, rfl, HUt, by first | exact gb_drewN G.out _ | exact gb_drew (gb_drewN G.out _)⟩
            case measure => simp [intOf]; omega
          | false =>
            rw [run_apart HK.out HW.out.symm] at d4
            generalize z1 o = y0 at *
            go_wp2_with fail
            go_quiet (fail)
            go_wp2
            go_roundw
            case rel => exact ⟨o + 1, U, by omega, by go_num, rfl, HUt, by first | exact gb_drewN G.out _ | exact gb_drew (gb_drewN G.out _)⟩
            case measure => simp [intOf]; omega
    · obtain rfl : o = len1 := by omega
      have HU1 := Lib.hid (show U0 = usd z0 K len0 by rw [HU0.out]; simp; omega)
      clear HU0
      cases U0 with
      | true =>
        go_wp2
        go_ret
        exact ⟨rfl, gb_below GW.out⟩
      | false =>
        have hKi : (K : Int) < (o : Int) := by omega
        have Vu := Lib.hid ((V.out.grown (gb_alloc GW.out (.cells #[] 2))).src)
        have OE : Hid ((wr.alloc (.cells #[] 2)).ownsRow wr.heap.size 2 1 (.slice (some ⟨wr.heap.size, 0, none⟩) 0 0) 0 []) := ownsRow_empty wr _ 1
        go_wp2_with (at_builtin; go_loud (refine append64 _ rfl (.tmp 126) (.tmp 127) rfl wr.heap.size _ 0 [] rfl OE.out a1 o cap1 (vals z1 o) rfl (by simp [vals]) Vu.out (one_nums _ _ _) (by omega) (by simp) ?_); intro b5 c5 v5 ho5 hg5 hv5; clear hv5; simp only [Nat.zero_add, List.nil_append] at ho5; obtain ⟨g5, rfl, hb5, hl5, q5, f5⟩ := own_at ho5 hK2; have O5 := Lib.hid ho5; have H5 := Lib.hid (gb_overO (gb_alloc G.out (.cells #[] 2)) hg5 (by intro i e; cases e; exact G.out.size)); clear ho5 hg5)
        have O6 := Lib.hid (own_set O5.out hK2 a3)
        have H6 := Lib.hid (gb_setNew H5.out (p := ⟨g5, K, none⟩) (Nat.le_trans G.out.size hb5) (.int .i64 a3))
        have N6 := Lib.hid (IsNums.of_own (k := .i64) O6.out)
        clear O5 O6 H5 OE Vu q5 f5
        generalize v5.setCell _ _ = v6 at *
        have HI := Lib.hid (run_indep (v := z1) (v' := fun j => if j = K then a3 else z1 j) HK.out HU1.out.symm (fun j hj => by simp [hj]))
        refine (alone_any a0 len0 cap0 z0 (some ⟨g5, 0, none⟩) o c5 (fun j => if j = K then a3 else z1 j) _ (Z.out.grown (gb_trans G3.out H6.out)) N6.out HRR.out (by omega)).mono ?_
        rintro e v7 ⟨b7, c7, rfl, R7, g7⟩
        have H7 := Lib.hid (gb_trans H6.out g7.out)
        have hs7 := Lib.hid (show v3.heap.size ≤ v6.heap.size from H6.out.size)
        obtain ⟨g8, e8, hb8, hl8, q8, f8⟩ := own_at R7.out hK2
        subst e8
        rw [HI.out.2.2] at q8
        simp only [if_true] at q8
        obtain ⟨b9, o9, e9, hb9, d9⟩ := (N3.out.grown H7.out).at1 hK2
        subst e9
        clear g7 N6 H6 HU1
        go_wp2_with fail
        have O9 := Lib.hid (own_set R7.out hK2 ((run z0 z1 len0).2 K))
        have H9 := Lib.hid (gb_setNew H7.out (p := ⟨g8, K, none⟩) (Nat.le_trans hs7.out hb8) (.int .i64 ((run z0 z1 len0).2 K)))
        have N9 := Lib.hid ((IsNums.of_own (k := .i64) O9.out).congr (f' := (run z0 z1 len0).2) (fun j _ => by
          by_cases e : j = K
          · simp [e]
          · simp only [e, if_false]
            exact HI.out.2.1 j e))
        have M9 := Lib.hid (N3.out.grown H9.out)
        refine (vals_true _ _ o c7 c3 _ _ N9.out M9.out (by omega)).mono ?_
        rintro e v10 ⟨rfl, g10⟩
        have G10 := Lib.hid (gb_trans G3.out (gb_trans H9.out g10.out))
        clear g10 N9 M9 H9 O9 q8 f8 d9
        go_wp2
        go_ret
        exact ⟨rfl, gb_below G10.out⟩

theorem walk (a0 : Option Addr) (len0 cap0 : Nat) (z0 : Nat → Nat → Int) (a1 : Option Addr) (len1 cap1 : Nat) (z1 : Nat → Int) (a2 a3 : Int) (w : World) (w0 : IsInts 3 w a0 len0 cap0 z0) (w1 : IsRow .i64 w a1 len1 cap1 z1) (w2 : (Lit.int .u8 a2).wf = true) (w3 : (Lit.int .i64 a3).wf = true) :
    Calls Try.prog 7 #[.slice a0 len0 cap0, .slice a1 len1 cap1, .int .u8 a2, .int .i64 a3] w (fun e w' => e = .returned (.bool true) ∧ Below w.heap.size w w') := by
  have l := bounds_u8 w2
  by_cases h : len1 = 0 ∨ 8 < len1 ∨ rightB z0 len0 len1 = false
  · exact walk_out a0 len0 cap0 z0 a1 len1 cap1 a2 a3 w (IsOps.of_ints w0) (Nat.le_trans w0.1 w0.2.1) h
  · refine walkIn a0 len0 cap0 z0 a1 len1 cap1 z1 a2 a3 w (IsOps.of_ints w0) (IsNums.of_row w1) l.1 l.2 (Nat.le_trans w0.1 w0.2.1) (by omega) (by omega) ?_
    cases e : rightB z0 len0 len1 with
    | true => rfl
    | false => exact absurd (.inr (.inr e)) h

theorem own : ownKnob Try.prog.godebug = none := by kernel_rfl
theorem laidOut : laidOutB Try.prog = true := by kernel_rfl

/-! ### THE ROW's STEP, as the guide has it -/
set_option maxRecDepth 100000 in
theorem lifted (os : Os) (started : os.Started) (H : Type) (enc : TypeId × Value → H) :
    ReturnsInHanded {} Try.checked os 7 .any (Rows.langApartSpec.pre6 enc Try.prog Try.f7 Rows.langApartRow.domain false) (Rows.langApartSpec.post enc Try.prog Try.f7 false true false false) := by
  refine returnsInHanded_of_change (C := Try.checked) own started (by kernel_rfl) Try.func7
    (ChangeSpec.witness6 (enc := enc) (C := Try.checked) false ⟨#[], #[.slice none 0 0, .slice none 0 0, .int .u8 0, .int .i64 0], []⟩ 8 (by kernel_rfl) (by kernel_rfl) (by kernel_rfl) (by kernel_rfl)) ?_
  intro W base args ds gs before hval0 hW hcnd _
  have hval : ∀ (j : Nat) t v, Try.f7.params[j]? = some t → args[j]? = some v → Value.okWide Try.prog W .any base t v := hval0
  have hW' := hW
  obtain ⟨p, q, hA0, hV, rfl, hfz, hnd⟩ := hW
  have hA : DataW.TrodAll enc Try.prog W 0 (fun _ => true) true Try.f7.params.toList args.toList ds p := hA0
  rw [Try.params7] at hA hval
  obtain ⟨v0, vs0, d0, ds0, p0, q0, hargs, rfl, rfl, h0, r0⟩ := trodAll_cons hA
  obtain ⟨v1, vs1, d1, ds1, p1, q1, rfl, rfl, rfl, h1, r1⟩ := trodAll_cons r0
  obtain ⟨v2, vs2, d2, ds2, p2, q2, rfl, rfl, rfl, h2, r2⟩ := trodAll_cons r1
  obtain ⟨v3, vs3, d3, ds3, p3, q3, rfl, rfl, rfl, h3, r3⟩ := trodAll_cons r2
  obtain ⟨rfl, rfl, rfl⟩ := trodAll_nil r3
  obtain rfl : args = #[v0, v1, v2, v3] := by cases args; simp_all
  obtain ⟨rfl, rfl⟩ := trodVars_none hV
  obtain ⟨a0, len0, cap0, rfl⟩ := okWide_slice Try.underlying22 (hval 0 22 v0 rfl rfl)
  have k0 := h0
  have lt0 : ∀ x ∈ p0, x.block < W.heap.size := by obtain ⟨m, hm⟩ := k0; exact DataW.trod_lt m _ _ _ hm
  obtain ⟨z0, w0⟩ : ∃ z, IsInts 3 W a0 len0 cap0 z := by
    obtain ⟨fuel, hf⟩ := h0
    exact isMixed_of Try.underlying22 Try.underlying24 Try.underlying3 Try.underlying2 (by kernel_rfl) (by kernel_rfl) (by kernel_rfl) (by decide) (by decide) hf
  obtain ⟨a1, len1, cap1, rfl⟩ := okWide_slice Try.underlying31 (hval 1 31 v1 rfl rfl)
  have k1 := h1
  have lt1 : ∀ x ∈ p1, x.block < W.heap.size := by obtain ⟨m, hm⟩ := k1; exact DataW.trod_lt m _ _ _ hm
  obtain ⟨z1, w1⟩ : ∃ z, IsRow .i64 W a1 len1 cap1 z := by
    obtain ⟨fuel, hf⟩ := h1
    exact isRow_of Try.underlying31 Try.underlying2 (by kernel_rfl) hf
  obtain ⟨a2, rfl, rfl, rfl, w2⟩ := open_int Try.underlying5 (hval 2 5 v2 rfl rfl) h2
  obtain ⟨a3, rfl, rfl, rfl, w3⟩ := open_int Try.underlying2 (hval 3 2 v3 rfl rfl) h3
  clear hA0 hval0
  refine (walk a0 len0 cap0 z0 a1 len1 cap1 z1 a2 a3 W w0 w1 w2 w3).mono fun e W' ⟨he, bel⟩ => ?_
  subst he
  exact ⟨_, rfl, _, _, _, [], _, [], hW', trodAll_mk1 (shut_bool Try.underlying4 _), (trodAll_cons_mk (Below.trod laidOut (by kernel_rfl) (of_decide_eq_true (by kernel_rfl)) k0 bel lt0) (trodAll_cons_mk (Below.trod laidOut (by kernel_rfl) (of_decide_eq_true (by kernel_rfl)) k1 bel lt1) (trodAll_cons_mk (shut_int Try.underlying5 w2) (trodAll_cons_mk (shut_int Try.underlying2 w3) trodAll_mk0)))), rfl, bel.frame _, fun h => by cases h⟩

theorem over : Rows.langApartRow.holds Try.pinned (OpenSpec.ofChange Rows.langApartSpec) :=
  OpenClaim.holds_of_wide 7 Try.f7 rfl rfl rfl rfl rfl rfl rfl ⟨rfl, rfl, rfl, rfl, rfl⟩ rfl rfl rfl rfl rfl (by kernel_rfl) Try.func7 (by kernel_rfl)
    (of_decide_eq_true (by kernel_rfl)) (by unfold Func.isWrapper; first | (rw [if_pos (by decide +kernel)]; kernel_rfl) | (rw [if_neg (by decide +kernel)]; exact ⟨rfl, rfl⟩))
    (fun os started H enc _ => lifted os started H enc)

theorem proved : Rows.LangApartSaid := over
#print axioms proved
end Go.Proofs.Ytjajhkgbhckdeaa.langApart
