/-
  WordActs: whatever is loaded and swapped, each answer, and how many accesses there were, are the document's all along, for any first number and any list of loads and swaps.
  Conditions: none (of a list of more than 200 the law says nothing by itself).
-/
import Derived.Test.YtjnemfjfehhfpaaRows
import Derived.Test.YtjnemfjfehhfpaaOpen
import Derived.Test.YtjnemfjfehhfpaaWord
import Derived.Deep.RegionHeld3
namespace Go.Proofs.Ytjnemfjfehhfpaa.wordActs
open Go.ChangeShapes Go.WideShapes Go.ChangeAt Go.RowKit Go.Proofs.Ytjnemfjfehhfpaa.base Go.Proofs.Ytjnemfjfehhfpaa.wd
set_option linter.unusedVariables false

/-- Block b is the document's own word. -/
abbrev Ref (w : World) (b : Nat) (n a : Int) : Prop := Two 28 w b n a

/-- At the head of a round: the word and the document's own one have the same number, and were accessed as often. -/
def Rel (w : World) (b c : Nat) (len : Nat) (i : Value) (wr : World) : Prop :=
  ∃ (k : Nat) (m A : Int), k ≤ len ∧ 0 ≤ A ∧ A ≤ k ∧ i = .int .i64 k ∧ Word wr b m A ∧ Ref wr c m A ∧ Below w.heap.size w wr

theorem walk_long (a0 : Int) (a1 : Option Addr) (len1 cap1 : Nat) (w : World) (h : 200 < (len1 : Int)) :
    Calls Try.prog 3 #[.int .i64 a0, .slice a1 len1 cap1] w fun e w' => e = .returned (.bool true) ∧ Below w.heap.size w w' := by
  go_enter Try.func3, Try.ntmps3
  go_wp2_with fail
  refine (alive_any _).mono ?_
  rintro e v1 ⟨rfl, g1⟩
  go_wp2
  go_ret
  exact ⟨rfl, gb_below g1.out⟩

theorem ref_hit (b : Nat) (n m a : Int) (w : World) (h : Ref w b n a) (l : 0 ≤ a) (u : a ≤ 1000000) :
    Calls Try.prog 13 #[.pointer (some ⟨b, 0, none⟩), .int .i64 n, .int .i64 m] w fun e w' => e = .returned (.bool true) ∧ Hid (Ref w' b m (a + 1)) ∧ Hid (w.grownBy w' (some b)) := by
  have h0 := h.c0
  have h1 := h.c1
  have f0 := h.f0
  have f1 := h.f1
  have H := Lib.hid h
  clear h
  go_enter Try.func13, Try.ntmps13
  go_wp2
  go_ret
  exact ⟨rfl, (H.out.set1 _).set0 _, gb_setB (gb_setB (gb_refl _ _) _) _⟩

theorem ref_miss (b : Nat) (n x m a : Int) (w : World) (h : Ref w b n a) (l : 0 ≤ a) (u : a ≤ 1000000) (hx : (n == x) = false) :
    Calls Try.prog 13 #[.pointer (some ⟨b, 0, none⟩), .int .i64 x, .int .i64 m] w fun e w' => e = .returned (.bool false) ∧ Hid (Ref w' b n (a + 1)) ∧ Hid (w.grownBy w' (some b)) := by
  have h0 := h.c0
  have h1 := h.c1
  have f0 := h.f0
  have f1 := h.f1
  have H := Lib.hid h
  have hx' : (n != x) = true := by simpa using hx
  clear h
  go_enter Try.func13, Try.ntmps13
  go_wp2
  go_ret
  exact ⟨rfl, H.out.set1 _, gb_setB (gb_refl _ _) _⟩

set_option maxRecDepth 100000 in
set_option maxHeartbeats 1000000 in
theorem walk_short (a0 : Int) (a1 : Option Addr) (len1 cap1 : Nat) (z1 : Nat → Nat → Int) (w : World) (w1 : IsInts 3 w a1 len1 cap1 z1) (h : ¬ 200 < (len1 : Int)) :
    Calls Try.prog 3 #[.int .i64 a0, .slice a1 len1 cap1] w fun e w' => e = .returned (.bool true) ∧ Below w.heap.size w w' := by
  have W1 := Lib.hid w1
  clear w1
  go_enter Try.func3, Try.ntmps3
  go_wp2_with fail
  refine (alive_any _).mono ?_
  rintro e v1 ⟨rfl, g1⟩
  go_wp2_with fail
  refine (of_made _ _).mono ?_
  rintro e v2 ⟨b, rfl, hb, R2, g2⟩
  have B2 := Lib.hid (bl_none (gb_below g1.out) g2.out)
  have hbw : Hid (w.heap.size ≤ b) := Nat.le_trans g1.out.size hb
  clear g2 g1 hb
  have hs2 : w.heap.size ≤ v2.heap.size := B2.out.size
  go_wp2_with fail
  have S3' := Two.made v2 28 a0 0
  have R3' : Word (v2.alloc (.cells #[.int .i64 a0, .int .i64 0] 28)) b a0 0 := R2.out.alloc _
  have B3' : Below w.heap.size w (v2.alloc (.cells #[.int .i64 a0, .int .i64 0] 28)) := B2.out.alloc hs2 _
  have hne' : b ≠ v2.heap.size := by have := R2.out.lt; omega
  generalize (v2.alloc (.cells #[.int .i64 a0, .int .i64 0] 28)) = v3 at *
  clear R2 B2
  generalize v2.heap.size = c at *
  have S3 := Lib.hid S3'
  have R3 := Lib.hid R3'
  have B3 := Lib.hid B3'
  have hne := Lib.hid hne'
  have hcw := Lib.hid hs2
  clear S3' R3' B3' hne' hs2
  go_loopw [7] (fun i wr => Rel w b c len1 i wr) (fun i _ => (len1 - intOf i).toNat)
  case atStart => exact ⟨0, a0, 0, by omega, by omega, by omega, rfl, R3.out, S3.out, B3.out⟩
  case round =>
    obtain ⟨k, m, A, hk, A0, A1, rfl, R0, S0, B0⟩ := hrel
    have R := Lib.hid R0
    have S := Lib.hid S0
    have B := Lib.hid B0
    clear R0 S0 B0
    by_cases hlt : k < len1
    · obtain ⟨_, _, h0 | ⟨b1, off1, rfl, hb1, hz⟩⟩ := W1.out
      · exfalso; omega
      have hc0 : wr.cell? ⟨b1, off1 + k * 3, none⟩ = some (.int .i64 (z1 k 0)) := (B.out.cell (p := ⟨b1, off1 + (k * 3 + 0), none⟩) hb1).trans (hz k 0 hlt (by omega)).1
      have hc1 : wr.cell? ⟨b1, off1 + k * 3 + 1, none⟩ = some (.int .i64 (z1 k 1)) := (B.out.cell (p := ⟨b1, off1 + (k * 3 + 1), none⟩) hb1).trans (hz k 1 hlt (by omega)).1
      have hc2 : wr.cell? ⟨b1, off1 + k * 3 + 2, none⟩ = some (.int .i64 (z1 k 2)) := (B.out.cell (p := ⟨b1, off1 + (k * 3 + 2), none⟩) hb1).trans (hz k 2 hlt (by omega)).1
      have hlt' : (k : Int) < (len1 : Int) := by omega
      clear hz
      generalize z1 k 0 = y0 at *
      generalize z1 k 1 = y1 at *
      generalize z1 k 2 = y2 at *
      have hS0 := S.out.c0
      have hS1 := S.out.c1
      have fS1 := S.out.f1
      have lS := S.out.lt
      by_cases hy0 : y0 = 0
      · have hy0' : (y0 == 0) = true := by simpa using hy0
        clear hy0
        go_wp2_with fail
        have R1' : Word ((wr.setCell ⟨c, 1, none⟩ (.int .i64 (A + 1))).alloc (.cells #[.int .i64 y0, .int .i64 y1, .int .i64 y2] 30)) b m A := (R.out.setOther hne.out _).alloc _
        have S1' : Ref ((wr.setCell ⟨c, 1, none⟩ (.int .i64 (A + 1))).alloc (.cells #[.int .i64 y0, .int .i64 y1, .int .i64 y2] 30)) c m (A + 1) := (S.out.set1 _).alloc _
        have B1' : Below w.heap.size w ((wr.setCell ⟨c, 1, none⟩ (.int .i64 (A + 1))).alloc (.cells #[.int .i64 y0, .int .i64 y1, .int .i64 y2] 30)) := (B.out.setCell hcw.out _).alloc (by have := B.out.size; simpa [World.setCell] using this) _
        generalize ((wr.setCell ⟨c, 1, none⟩ (.int .i64 (A + 1))).alloc (.cells #[.int .i64 y0, .int .i64 y1, .int .i64 y2] 30)) = u1 at *
        clear hS0 hS1 fS1 lS
        have hS0 := S1'.c0
        have R1 := Lib.hid R1'
        have S1 := Lib.hid S1'
        have B1 := Lib.hid B1'
        clear R1' S1' B1' R S B hc0 hc1 hc2
        go_region_held3 (fun w' => w'.cell? ⟨c, 0, none⟩ = some (.int .i64 m)) (go_keep) ((go_at_call 11; refine (load_any b m A _ R1.out.drew (by omega) (by omega)).mono ?_; rintro e u2 ⟨rfl, R2, g2⟩; have q0 := (S1.out.drew.grown g2.out (by simpa using hne.out.symm)).c0))
        have S2 : Hid (Ref u2 c m (A + 1)) := S1.out.drew.grown g2.out (by simpa using hne.out.symm)
        have B2 := Lib.hid (bl_own B1.out.drew g2.out hbw.out)
        clear hS0 q0 R1 S1 B1 g2
        go_wp2_with fail
        have hS1 := S2.out.c1
        go_region_held3 (fun w' => w'.cell? ⟨c, 1, none⟩ = some (.int .i64 (A + 1))) (go_keep) ((go_at_call 14; refine (accesses_any b m (A + 1) _ R2.out.drew).mono ?_; rintro e u3 ⟨rfl, rfl⟩))
        go_wp2
        go_roundw
        case rel => exact ⟨k + 1, m, (A + 1), by omega, by omega, by omega, by go_num, R2.out.drew, S2.out.drew, B2.out.drew⟩
        case measure => simp [intOf]; omega
      · have hy0' : (y0 == 0) = false := by simpa using hy0
        clear hy0
        have R1' : Word (wr.alloc (.cells #[.int .i64 y0, .int .i64 y1, .int .i64 y2] 30)) b m A := R.out.alloc _
        have S1' : Ref (wr.alloc (.cells #[.int .i64 y0, .int .i64 y1, .int .i64 y2] 30)) c m A := S.out.alloc _
        have B1' : Below w.heap.size w (wr.alloc (.cells #[.int .i64 y0, .int .i64 y1, .int .i64 y2] 30)) := B.out.alloc B.out.size _
        have q1' : (wr.alloc (.cells #[.int .i64 y0, .int .i64 y1, .int .i64 y2] 30)).cell? ⟨wr.heap.size, 1, none⟩ = some (.int .i64 y1) := by simp
        have q2' : (wr.alloc (.cells #[.int .i64 y0, .int .i64 y1, .int .i64 y2] 30)).cell? ⟨wr.heap.size, 2, none⟩ = some (.int .i64 y2) := by simp
        have nb' : b ≠ wr.heap.size := by have := R.out.lt; omega
        have nc' : c ≠ wr.heap.size := by omega
        have R1 := Lib.hid R1'
        have S1 := Lib.hid S1'
        have B1 := Lib.hid B1'
        have q1 := Lib.hid q1'
        have q2 := Lib.hid q2'
        have nb := Lib.hid nb'
        have nc := Lib.hid nc'
        clear R1' S1' B1' q1' q2' nb' nc' hS0 hS1 fS1 lS
        by_cases hy1 : y0 = 1
        · have hy1' : (y0 == 1) = true := by simpa using hy1
          clear hy1
          go_wp2_with fail
          generalize (wr.alloc (.cells #[.int .i64 y0, .int .i64 y1, .int .i64 y2] 30)) = u1 at *
          have q1' := q1.out
          have q2' := q2.out
          clear hc0 hc1 hc2 R S B
          by_cases hm : m = y1
          · obtain rfl : y1 = m := hm.symm
            go_region_held3 (fun w' => w'.cell? ⟨wr.heap.size, 1, none⟩ = some (.int .i64 y1) ∧ w'.cell? ⟨wr.heap.size, 2, none⟩ = some (.int .i64 y2)) (go_keep) (first | (go_at_call 12; refine (swap_hit b y1 y2 A _ R1.out.drew (by omega) (by omega)).mono ?_; rintro e u2 ⟨rfl, R2, g2⟩; have S2 : Hid (Ref u2 c y1 A) := S1.out.drew.grown g2.out (by simpa using hne.out.symm); have q3 := g2.out.cell (a := ⟨wr.heap.size, 1, none⟩) q1.out (by simpa using nb.out.symm); have q4 := g2.out.cell (a := ⟨wr.heap.size, 2, none⟩) q2.out (by simpa using nb.out.symm)) | (go_at_call 13; refine (ref_hit c y1 y2 A _ S2.out (by omega) (by omega)).mono ?_; rintro e u3 ⟨rfl, S3, g3⟩; have q5 := g3.out.cell (a := ⟨wr.heap.size, 1, none⟩) q3 (by simpa using nc.out.symm); have q6 := g3.out.cell (a := ⟨wr.heap.size, 2, none⟩) q4 (by simpa using nc.out.symm)))
            have R3 : Hid (Word u3 b y2 (A + 1)) := R2.out.grown g3.out (by simpa using hne.out)
            have B3 := Lib.hid (bl_own (bl_own B1.out.drew g2.out hbw.out) g3.out hcw.out)
            clear q1' q2' q3 q4 q5 q6 R1 S1 B1 R2 S2 g2 g3
            go_wp2_with fail
            have hS1 := S3.out.c1
            go_region_held3 (fun w' => w'.cell? ⟨c, 1, none⟩ = some (.int .i64 (A + 1))) (go_keep) ((go_at_call 14; refine (accesses_any b y2 (A + 1) _ R3.out.drew).mono ?_; rintro e u4 ⟨rfl, rfl⟩))
            go_wp2
            go_roundw
            case rel => exact ⟨k + 1, y2, A + 1, by omega, by omega, by omega, by go_num, R3.out.drew, S3.out.drew, B3.out.drew⟩
            case measure => simp [intOf]; omega
          · have hm' : (m == y1) = false := by simpa using hm
            clear hm
            go_region_held3 (fun w' => w'.cell? ⟨wr.heap.size, 1, none⟩ = some (.int .i64 y1) ∧ w'.cell? ⟨wr.heap.size, 2, none⟩ = some (.int .i64 y2)) (go_keep) (first | (go_at_call 12; refine (swap_miss b m y1 y2 A _ R1.out.drew (by omega) (by omega) hm').mono ?_; rintro e u2 ⟨rfl, R2, g2⟩; have S2 : Hid (Ref u2 c m A) := S1.out.drew.grown g2.out (by simpa using hne.out.symm); have q3 := g2.out.cell (a := ⟨wr.heap.size, 1, none⟩) q1.out (by simpa using nb.out.symm); have q4 := g2.out.cell (a := ⟨wr.heap.size, 2, none⟩) q2.out (by simpa using nb.out.symm)) | (go_at_call 13; refine (ref_miss c m y1 y2 A _ S2.out (by omega) (by omega) hm').mono ?_; rintro e u3 ⟨rfl, S3, g3⟩; have q5 := g3.out.cell (a := ⟨wr.heap.size, 1, none⟩) q3 (by simpa using nc.out.symm); have q6 := g3.out.cell (a := ⟨wr.heap.size, 2, none⟩) q4 (by simpa using nc.out.symm)))
            have R3 : Hid (Word u3 b m (A + 1)) := R2.out.grown g3.out (by simpa using hne.out)
            have B3 := Lib.hid (bl_own (bl_own B1.out.drew g2.out hbw.out) g3.out hcw.out)
            clear q1' q2' q3 q4 q5 q6 R1 S1 B1 R2 S2 g2 g3
            go_wp2_with fail
            have hS1 := S3.out.c1
            go_region_held3 (fun w' => w'.cell? ⟨c, 1, none⟩ = some (.int .i64 (A + 1))) (go_keep) ((go_at_call 14; refine (accesses_any b m (A + 1) _ R3.out.drew).mono ?_; rintro e u4 ⟨rfl, rfl⟩))
            go_wp2
            go_roundw
            case rel => exact ⟨k + 1, m, A + 1, by omega, by omega, by omega, by go_num, R3.out.drew, S3.out.drew, B3.out.drew⟩
            case measure => simp [intOf]; omega
        · have hy1' : (y0 == 1) = false := by simpa using hy1
          clear hy1
          go_wp2_with fail
          generalize (wr.alloc (.cells #[.int .i64 y0, .int .i64 y1, .int .i64 y2] 30)) = u1 at *
          clear hc0 hc1 hc2 R S B
          have hS1 := S1.out.c1
          go_region_held3 (fun w' => w'.cell? ⟨c, 1, none⟩ = some (.int .i64 A)) (go_keep) ((go_at_call 14; refine (accesses_any b m A _ R1.out.drew).mono ?_; rintro e u3 ⟨rfl, rfl⟩))
          go_wp2
          go_roundw
          case rel => exact ⟨k + 1, m, A, by omega, by omega, by omega, by go_num, R1.out.drew, S1.out.drew, B1.out.drew⟩
          case measure => simp [intOf]; omega
    · have hS0 := S.out.c0
      go_wp2_with fail
      go_region_held3 (fun w' => w'.cell? ⟨c, 0, none⟩ = some (.int .i64 m)) (go_keep) ((go_at_call 11; refine (load_any b m A _ R.out.drew (by omega) (by omega)).mono ?_; rintro e u2 ⟨rfl, R2, g2⟩; have q0 := (S.out.drew.grown g2.out (by simpa using hne.out.symm)).c0))
      have B2 := Lib.hid (bl_own B.out.drew g2.out hbw.out)
      go_wp2
      go_ret
      exact ⟨by simp, B2.out⟩

theorem walk (a0 : Int) (a1 : Option Addr) (len1 cap1 : Nat) (z1 : Nat → Nat → Int) (w : World) (w0 : (Lit.int .i64 a0).wf = true) (w1 : IsInts 3 w a1 len1 cap1 z1) :
    Calls Try.prog 3 #[.int .i64 a0, .slice a1 len1 cap1] w fun e w' => e = .returned (.bool true) ∧ Below w.heap.size w w' := by
  by_cases h : 200 < (len1 : Int)
  · exact walk_long a0 a1 len1 cap1 w h
  · exact walk_short a0 a1 len1 cap1 z1 w w1 h

theorem own : ownKnob Try.prog.godebug = none := by kernel_rfl
theorem laidOut : laidOutB Try.prog = true := by kernel_rfl

/-! ### THE ROW's STEP, as the guide has it -/
set_option maxRecDepth 100000 in
theorem lifted (os : Os) (started : os.Started) (H : Type) (enc : TypeId × Value → H) :
    ReturnsInHanded {} Try.checked os 3 .any (Rows.wordActsSpec.pre6 enc Try.prog Try.f3 Rows.wordActsRow.domain false) (Rows.wordActsSpec.post enc Try.prog Try.f3 false true false false) := by
  refine returnsInHanded_of_change (C := Try.checked) own started (by kernel_rfl) Try.func3
    (ChangeSpec.witness6 (enc := enc) (C := Try.checked) false ⟨#[], #[.int .i64 0, .slice none 0 0], []⟩ 8 (by kernel_rfl) (by kernel_rfl) (by kernel_rfl) (by kernel_rfl)) ?_
  intro W base args ds gs before hval0 hW hcnd _
  have hval : ∀ (j : Nat) t v, Try.f3.params[j]? = some t → args[j]? = some v → Value.okWide Try.prog W .any base t v := hval0
  have hW' := hW
  obtain ⟨p, q, hA0, hV, rfl, hfz, hnd⟩ := hW
  have hA : DataW.TrodAll enc Try.prog W 0 (fun _ => true) true Try.f3.params.toList args.toList ds p := hA0
  rw [Try.params3] at hA hval
  obtain ⟨v0, vs0, d0, ds0, p0, q0, hargs, rfl, rfl, h0, r0⟩ := trodAll_cons hA
  obtain ⟨v1, vs1, d1, ds1, p1, q1, rfl, rfl, rfl, h1, r1⟩ := trodAll_cons r0
  obtain ⟨rfl, rfl, rfl⟩ := trodAll_nil r1
  obtain rfl : args = #[v0, v1] := by cases args; simp_all
  obtain ⟨rfl, rfl⟩ := trodVars_none hV
  obtain ⟨a0, rfl, rfl, rfl, w0⟩ := open_int Try.underlying3 (hval 0 3 v0 rfl rfl) h0
  obtain ⟨a1, len1, cap1, rfl⟩ := okWide_slice Try.underlying22 (hval 1 22 v1 rfl rfl)
  have k1 := h1
  have lt1 : ∀ x ∈ p1, x.block < W.heap.size := by obtain ⟨m, hm⟩ := k1; exact DataW.trod_lt m _ _ _ hm
  obtain ⟨z1, w1⟩ : ∃ z, IsInts 3 W a1 len1 cap1 z := by
    obtain ⟨fuel, hf⟩ := h1
    exact isInts_of Try.underlying22 Try.underlying30 Try.underlying3 (by kernel_rfl) (by kernel_rfl) (by decide) (by decide) hf
  clear hA0 hval0
  refine (walk a0 a1 len1 cap1 z1 W w0 w1).mono fun e W' ⟨he, bel⟩ => ?_
  subst he
  exact ⟨_, rfl, _, _, _, [], _, [], hW', trodAll_mk1 (shut_bool Try.underlying4 _), (trodAll_cons_mk (shut_int Try.underlying3 w0) (trodAll_cons_mk (Below.trod laidOut (by kernel_rfl) (of_decide_eq_true (by kernel_rfl)) k1 bel lt1) trodAll_mk0)), rfl, bel.frame _, fun h => by cases h⟩

theorem over : Rows.wordActsRow.holds Try.pinned (OpenSpec.ofChange Rows.wordActsSpec) :=
  OpenClaim.holds_of_wide 3 Try.f3 rfl rfl rfl rfl rfl rfl rfl ⟨rfl, rfl, rfl, rfl, rfl⟩ rfl rfl rfl rfl rfl (by kernel_rfl) Try.func3 (by kernel_rfl)
    (of_decide_eq_true (by kernel_rfl)) (by unfold Func.isWrapper; first | (rw [if_pos (by decide +kernel)]; kernel_rfl) | (rw [if_neg (by decide +kernel)]; exact ⟨rfl, rfl⟩))
    (fun os started H enc _ => lifted os started H enc)

theorem proved : Rows.WordActsSaid := over
#print axioms proved
end Go.Proofs.Ytjnemfjfehhfpaa.wordActs
