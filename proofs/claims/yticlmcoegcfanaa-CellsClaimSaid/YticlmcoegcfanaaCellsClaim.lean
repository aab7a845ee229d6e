/-
  CellsClaim: a locator with one version in both places, swapped in, changes no object's value, whatever becomes of its owner; and records that aren't swapped in change nothing; for any list of first values, any object, whatever the owner is turned to, and any list of other values.
  Conditions: none (of no object, of more than 8, and of more than 8 other values the law says nothing by itself).
-/
import Derived.Test.YticlmcoegcfanaaRows
import Derived.Test.YticlmcoegcfanaaOpen
import Derived.Test.YticlmcoegcfanaaMade04
import Derived.Test.YticlmcoegcfanaaCellsLem
namespace Go.Proofs.Yticlmcoegcfanaa.cellsClaim
open Go.ChangeShapes Go.WideShapes Go.ChangeAt Go.RowKit Go.Proofs.Yticlmcoegcfanaa.base Go.Proofs.Yticlmcoegcfanaa.ar Go.Proofs.Yticlmcoegcfanaa.ds Go.Proofs.Yticlmcoegcfanaa.mm Go.Proofs.Yticlmcoegcfanaa.rf Go.Proofs.Yticlmcoegcfanaa.vl Go.Proofs.Yticlmcoegcfanaa.ce
set_option linter.unusedVariables false

/-- The records behind the first ones: the descriptor, the claim, and two for each other value. -/
def rest (z3 : Nat → Int) (D K k : Nat) : List Rc := [⟨3, 0, 0, 0, 0, 0, 0, 0, 0⟩, ⟨2, 0, D, 2 * K, 2 * K, 0, 0, 0, 0⟩] ++ twos (fun i => ⟨1, z3 i, 0, 0, 0, 0, 0, 0, 0⟩) (fun i => ⟨2, 0, D, 2 * K, D + 2 + 2 * i, 0, 0, 0, 0⟩) k
theorem rest_succ (z3 : Nat → Int) (D K k : Nat) : rest z3 D K (k + 1) = rest z3 D K k ++ [⟨1, z3 k, 0, 0, 0, 0, 0, 0, 0⟩] ++ [⟨2, 0, D, 2 * K, D + 2 + 2 * k, 0, 0, 0, 0⟩] := by simp [rest, twos_succ]
theorem rest_length (z3 : Nat → Int) (D K k : Nat) : (rest z3 D K k).length = 2 * k + 2 := by simp [rest, twos_length]

def Rel (w : World) (b0 cb tb ab L D K : Nat) (is : Int → Bool) (num : Int → Nat → Int) (z0 z3 : Nat → Int) (lb len : Nat) (i : Value) (wr : World) : Prop :=
  ∃ (k : Nat) (F : Nat → Prop) (B : Int), k ≤ len ∧ i = .int .i64 k ∧ (0 ≤ B ∧ B ≤ 1000 + 300 * k) ∧ Cel b0 wr cb tb ab 64 (firsts z0 L ++ rest z3 D K k) (heads L) 1 is num B F ∧ wr.cell? ⟨lb, 4, none⟩ = some (.int .i64 (2 * K)) ∧ ¬ F lb ∧ Below w.heap.size w wr

set_option maxRecDepth 100000 in
set_option maxHeartbeats 4000000 in
theorem walkIn (a0 : Option Addr) (len0 cap0 : Nat) (z0 : Nat → Int) (a1 a2 : Int) (a3 : Option Addr) (len3 cap3 : Nat) (z3 : Nat → Int) (w : World) (w0 : IsRow .i64 w a0 len0 cap0 z0) (w1 : (Lit.int .u8 a1).wf = true) (w3 : IsRow .i64 w a3 len3 cap3 z3) (h0 : ¬ (len0 : Int) < 1) (h1 : ¬ 8 < (len0 : Int)) (h3 : ¬ 8 < (len3 : Int)) :
    Calls Try.prog 7 #[.slice a0 len0 cap0, .int .u8 a1, .int .i64 a2, .slice a3 len3 cap3] w fun e w' => e = .returned (.bool true) ∧ Below w.heap.size w w' := by
  have W0 := Lib.hid w0
  have W3 := Lib.hid w3
  obtain ⟨K, hK, hKl⟩ : ∃ K : Nat, a1.tmod (len0 : Int) = (K : Int) ∧ K < len0 := by
    have h3 := bounds_u8 w1
    have h1 : 0 ≤ a1.tmod (len0 : Int) := Int.tmod_nonneg _ (by omega)
    have h2 : a1.tmod (len0 : Int) < (len0 : Int) := Int.tmod_lt_of_pos _ (by omega)
    exact ⟨(a1.tmod (len0 : Int)).toNat, by omega, by omega⟩
  have hcv1 : IntKind.i64.wrap a1 = a1 := IntWalk.i64_in _ (by have := bounds_u8 w1; omega)
  have hkz : ((len0 : Int) == 0) = false := by simp; omega
  clear w0 w1 w3
  obtain ⟨D, hD0⟩ : ∃ D : Nat, D = 2 * len0 := ⟨_, rfl⟩
  have hD := Lib.hid hD0
  clear hD0
  go_enter Try.func7, Try.ntmps7
  go_wp2_with fail
  refine (alive_any _).mono ?_
  rintro e v1 ⟨rfl, B1⟩
  go_wp2_with fail
  refine (made_ok 64 (by omega) a0 len0 cap0 z0 v1 (W0.out.below B1.out) (by omega) (by omega) (by omega)).mono ?_
  rintro e v2 ⟨ab, tb, cb, F2, rfl, C2, g2⟩
  have B2 := Lib.hid (bl_none B1.out g2.out)
  have hb0 : Hid (w.heap.size ≤ v1.heap.size) := B1.out.size
  generalize v1.heap.size = b0 at *
  clear B1 g2
  go_wp2_with fail
  refine (cells_begin b0 cb tb ab 0 64 _ _ _ _ _ F2 v2 C2.out (by omega) (by omega) (by omega) 0 0 0 0 0 D (by rw [firsts_length, hD.out]) (by have := hD.out; omega) (by omega) rfl (by omega)).mono ?_
  rintro e v3 ⟨F3, rfl, C3, S3⟩
  have B3 := Lib.hid (C2.out.low S3.out B2.out hb0.out)
  have hst : Hid (more (fun _ => false) (D : Int) true (D : Int) = true) := by simp [Hid, more]
  generalize more (fun _ => false) (D : Int) true = is at *
  generalize more (fun _ _ => (0 : Int)) (D : Int) (fun c => if c = 0 then 1 else if c = 1 then 0 else 0) = num at *
  clear C2 S3 B2
  go_wp2_with fail
  refine (cells_load b0 cb tb ab 1 64 _ _ _ _ _ F3 v3 C3.out (by omega) (by omega) K (2 * K + 1) (heads_get _ _ hKl)).mono ?_
  rintro e v4 ⟨rfl, C4, S4⟩
  have B4 := Lib.hid (C3.out.low S4.out B3.out hb0.out)
  clear C3 S4 B3
  have hfl := firsts_length z0 len0
  have ht := recAt_twos (fun i => ⟨1, z0 i, 0, 0, 0, 0, 0, 0, 0⟩) (fun i => ⟨2, 0, -1, 2 * i, 2 * i, 0, 0, 0, 0⟩) len0 K hKl
  rw [← firsts_twos] at ht
  have hrec := Lib.hid ht
  clear ht
  go_wp2_with fail
  refine (cells_locator b0 cb tb ab 1 64 _ _ _ _ _ F3 v4 C4.out (by omega) (by omega) (2 * K + 1) ⟨2, 0, -1, 2 * K, 2 * K, 0, 0, 0, 0⟩ (by rw [recAt_left _ _ _ (by omega)]; exact hrec.out.2) rfl).mono ?_
  rintro e v5 ⟨rfl, C5, S5⟩
  have B5 := Lib.hid (C4.out.low S5.out B4.out hb0.out)
  clear C4 S5 B4
  go_wp2_with fail
  have C6 := Lib.hid (C5.out.grown (gb_alloc (gb_refl _ _) (.cells #[.int .i64 2, .int .i64 0, .int .i64 (-1), .int .i64 (2 * K), .int .i64 (2 * K), .int .i64 0, .int .i64 0, .int .i64 0, .int .i64 0] 45)))
  have B6 := Lib.hid (B5.out.alloc (by have := B5.out.size; omega) (.cells #[.int .i64 2, .int .i64 0, .int .i64 (-1), .int .i64 (2 * K), .int .i64 (2 * K), .int .i64 0, .int .i64 0, .int .i64 0, .int .i64 0] 45))
  have hlc : Hid ((v5.alloc (.cells #[.int .i64 2, .int .i64 0, .int .i64 (-1), .int .i64 (2 * K), .int .i64 (2 * K), .int .i64 0, .int .i64 0, .int .i64 0, .int .i64 0] 45)).cell? ⟨v5.heap.size, 4, none⟩ = some (.int .i64 (2 * K))) := by unfold Hid; simp [go_sem]
  have hlf : Hid (¬ F3 v5.heap.size) := fun h => by have := (C5.out.foot _ h).2; omega
  clear C5 B5
  have hk1 : IsK (firsts z0 len0 ++ [⟨3, 0, 0, 0, 0, 0, 0, 0, 0⟩]) (2 * K) 1 := ⟨_, (recAt_left _ _ _ (by omega)).trans hrec.out.1, rfl⟩
  generalize (v5.alloc (.cells #[.int .i64 2, .int .i64 0, .int .i64 (-1), .int .i64 (2 * K), .int .i64 (2 * K), .int .i64 0, .int .i64 0, .int .i64 0, .int .i64 0] 45)) = v6 at *
  generalize v5.heap.size = lb at *
  refine (cells_build b0 cb tb ab 1 64 _ _ _ _ _ F3 v6 C6.out (by omega) (by omega) D (2 * K) (2 * K) (by omega) hk1 hk1 (D + 1) (by simp [firsts_length, hD.out]) (by have := hD.out; omega)).mono ?_
  rintro e v7 ⟨F7, rfl, C7, S7⟩
  have B7 := Lib.hid (C6.out.low S7.out B6.out hb0.out)
  obtain ⟨q1, q2⟩ := cell_step S7.out hlc.out hlf.out
  have hlc7 := Lib.hid q1
  have hlf7 := Lib.hid q2
  have C8 : Hid (Cel b0 v7 cb tb ab 64 (firsts z0 len0 ++ rest z3 D K 0) (heads len0) 1 is num (0 + 100 + 100 + 100 + 100 + 100) F7) := by
    have e1 : firsts z0 len0 ++ rest z3 D K 0 = (firsts z0 len0 ++ [⟨3, 0, 0, 0, 0, 0, 0, 0, 0⟩]) ++ [⟨2, 0, D, 2 * K, 2 * K, 0, 0, 0, 0⟩] := by simp [rest, twos]
    rw [e1]
    exact C7.out.mono (by omega)
  clear C6 S7 B6 q1 q2 hlc hlf C7 hk1
  go_wp2_with fail
  go_loopw [22] (fun i wr => Rel w b0 cb tb ab len0 D K is num z0 z3 lb len3 i wr) (fun i _ => (len3 - intOf i).toNat)
  case atStart => exact ⟨0, F7, _, by omega, rfl, by omega, C8.out, hlc7.out, hlf7.out, B7.out⟩
  case round =>
    clear C8 hlc7 hlf7 B7
    obtain ⟨k, F, B, hk, rfl, hA, C0, hc0, hf0, B0⟩ := hrel
    have C := Lib.hid C0
    have BB := Lib.hid B0
    have hA' := Lib.hid hA
    have hf := Lib.hid hf0
    clear C0 B0 hA hf0
    by_cases hlt : k < len3
    · obtain ⟨_, _, h | ⟨b2, off2, rfl, hb2, hz⟩⟩ := W3.out
      · exfalso; omega
      have hcell := (BB.out.cell (p := ⟨b2, off2 + k, none⟩) hb2).trans (hz k hlt).1
      have hlt' : (k : Int) < (len3 : Int) := by omega
      have hl0 := World.block_lt_of_cell? _ _ hc0
      clear hz hb2
      go_wp2_with fail
      refine (cells_version b0 cb tb ab 1 64 _ _ _ _ B F wr C.out (by have := hA'.out; omega) (by omega) (z3 k) (D + 2 + 2 * k) (by rw [List.length_append, rest_length, firsts_length, hD.out]; omega) (by have := hD.out; omega)).mono ?_
      rintro e u1 ⟨F1, rfl, C1, S1⟩
      obtain ⟨q1, q2⟩ := cell_step S1.out hc0 hf.out
      have hf1 := Lib.hid q2
      have B1 := Lib.hid (C.out.low S1.out BB.out hb0.out)
      clear C S1 BB hf q2 hc0 hl0 hcell
      have hl1 := World.block_lt_of_cell? _ _ q1
      have hk1 : IsK (firsts z0 len0 ++ rest z3 D K k ++ [⟨1, z3 k, 0, 0, 0, 0, 0, 0, 0⟩]) (2 * K) 1 := ⟨_, by rw [List.append_assoc, recAt_left _ _ _ (by omega)]; exact hrec.out.1, rfl⟩
      have hk2 : IsK (firsts z0 len0 ++ rest z3 D K k ++ [⟨1, z3 k, 0, 0, 0, 0, 0, 0, 0⟩]) (D + 2 + 2 * k) 1 := ⟨_, by
        rw [recAt_right _ _ _ (by rw [List.length_append, rest_length, firsts_length]; have := hD.out; omega)]
        rw [show (D : Int) + 2 + 2 * k - ((firsts z0 len0 ++ rest z3 D K k).length : Int) = 0 by rw [List.length_append, rest_length, firsts_length]; have := hD.out; omega]
        rfl, rfl⟩
      have HK1 := Lib.hid hk1
      have HK2 := Lib.hid hk2
      clear hk1 hk2
      go_wp2_with fail
      refine (cells_build b0 cb tb ab 1 64 _ _ _ _ _ F1 u1 C1.out (by have := hA'.out; omega) (by omega) D (2 * K) (D + 2 + 2 * k) (by omega) HK1.out (by have := HK2.out; exact_mod_cast this) (D + 3 + 2 * k) (by rw [List.length_append, List.length_append, rest_length, firsts_length, hD.out]; simp; omega) (by have := hD.out; omega)).mono ?_
      rintro e u2 ⟨F2, rfl, C2, S2⟩
      obtain ⟨q3, q4⟩ := cell_step S2.out q1 hf1.out
      have B2 := Lib.hid (C1.out.low S2.out B1.out hb0.out)
      have C3 : Hid (Cel b0 u2 cb tb ab 64 (firsts z0 len0 ++ rest z3 D K (k + 1)) (heads len0) 1 is num (B + 100 + 100) F2) := by
        have e1 : firsts z0 len0 ++ rest z3 D K (k + 1) = firsts z0 len0 ++ rest z3 D K k ++ [⟨1, z3 k, 0, 0, 0, 0, 0, 0, 0⟩] ++ [⟨2, 0, D, 2 * K, D + 2 + 2 * k, 0, 0, 0, 0⟩] := by rw [rest_succ]; simp
        rw [e1]
        exact C2.out
      clear C1 S2 B1 C2 q1 hf1
      go_wp2
      go_roundw
      case rel => exact ⟨k + 1, F2, _, by omega, by go_num, by have := hA'.out; omega, C3.out, q3, q4, B2.out⟩
      case measure => simp [intOf]; omega
    · obtain rfl : k = len3 := by omega
      have hv : Hid (∀ j, j < len0 → ∃ y, ValAt (firsts z0 len0 ++ rest z3 D K k) (heads len0) is num j y ∧ (vals0 z0 len0)[j]? = some y.val) := fun j hj => ⟨_, ValAt.first hj (heads_get _ _ hj), vals0_get _ _ _ hj⟩
      have R0 : Hid (Rd w a0 (vals0 z0 len0)) := Rd.of_row W0.out
      have Rlt : Hid (∀ b off, a0 = some ⟨b, off, none⟩ → b < w.heap.size ∨ len0 = 0) := fun b off e => by
        obtain ⟨_, _, h | ⟨b', off', e', hb, _⟩⟩ := W0.out
        · exact .inr h
        · rw [e'] at e; cases e; exact .inl hb
      go_wp2_with fail
      refine (cells_all b0 cb tb ab 1 64 _ _ _ _ B F wr C.out (by have := hA'.out; omega) (by omega) (vals0 z0 len0) len0 (by simp [heads]) (vals0_length _ _) (by omega) hv.out).mono ?_
      rintro e u1 ⟨aa, ca, rfl, R1, hn1, C1, S1⟩
      have B1 := Lib.hid (C.out.low S1.out BB.out hb0.out)
      clear C S1 BB hc0
      go_wp2_with fail
      refine (vals_true aa a0 (vals0 z0 len0) len0 (vals0_length _ _) ca cap0 u1 R1.out (R0.out.below B1.out (fun b off e => by rcases Rlt.out b off e with h | h; exact h; omega)) (by rw [vals0_length]; omega)).mono ?_
      rintro e u2 ⟨n2, rfl, rfl⟩
      have C2 := Lib.hid (C1.out.keep (w' := u1.drewN n2) (fun _ _ => rfl))
      have B2 := Lib.hid (bl_drewN B1.out n2)
      clear C1 B1 R1
      generalize u1.drewN n2 = u2 at *
      go_wp2_with fail
      refine (cells_swap b0 cb tb ab 1 64 _ _ _ _ _ F u2 C2.out (by have := hA'.out; omega) (by omega) K (2 * K + 1) (2 * K + 1) (D + 1) (heads_get _ _ hKl)).mono ?_
      simp only [beq_self_eq_true, if_true]
      rintro e u3 ⟨rfl, C3, S3⟩
      have B3 := Lib.hid (C2.out.low S3.out B2.out hb0.out)
      have hcl : Hid (∀ (num' : Int → Nat → Int) (j : Nat), j < len0 → ∃ y, ValAt (firsts z0 len0 ++ rest z3 D K k) ((heads len0).set K (D + 1)) is num' j y ∧ (vals0 z0 len0)[j]? = some y.val) := by
        intro num' j hj
        by_cases e : j = K
        · subst e
          refine ⟨⟨1, z0 j, 0, 0, 0, 0, 0, 0, 0⟩, ⟨(D : Int) + 1, ⟨2, 0, D, 2 * j, 2 * j, 0, 0, 0, 0⟩, ?_, ?_, rfl, WalkArith.wf_i64 (by have := hD.out; simp; omega), ?_, rfl⟩, vals0_get _ _ _ hj⟩
          · rw [List.getElem?_set_self (by simp [heads]; omega)]
          · rw [recAt_right _ _ _ (by rw [firsts_length]; have := hD.out; omega)]
            rw [show (D : Int) + 1 - ((firsts z0 len0).length : Int) = 1 by rw [firsts_length]; have := hD.out; omega]
            rfl
          · rw [show rsv ⟨2, 0, D, 2 * j, 2 * j, 0, 0, 0, 0⟩ _ = 2 * (j : Int) by simp [rsv], recAt_left _ _ _ (by rw [firsts_length]; omega)]
            exact hrec.out.1
        · exact ⟨_, ValAt.first hj (by rw [List.getElem?_set_ne (by omega)]; exact heads_get _ _ hj), vals0_get _ _ _ hj⟩
      clear C2 S3 B2
      go_wp2_with fail
      refine (cells_all b0 cb tb ab 1 64 _ _ _ _ _ F u3 C3.out (by have := hA'.out; omega) (by omega) (vals0 z0 len0) len0 (by simp [heads]) (vals0_length _ _) (by omega) (hcl.out _)).mono ?_
      rintro e u3a ⟨a4, c4, rfl, R4, _, C4a, S4⟩
      have B4a := Lib.hid (C3.out.low S4.out B3.out hb0.out)
      clear C3 S4 B3
      go_wp2_with fail
      refine (vals_true a4 a0 (vals0 z0 len0) len0 (vals0_length _ _) c4 cap0 u3a R4.out (R0.out.below B4a.out (fun b off e => by rcases Rlt.out b off e with h | h; exact h; omega)) (by rw [vals0_length]; omega)).mono ?_
      rintro e u3b ⟨n4, rfl, rfl⟩
      have C4b := Lib.hid (C4a.out.keep (w' := u3a.drewN n4) (fun _ _ => rfl))
      have B4b := Lib.hid (bl_drewN B4a.out n4)
      clear C4a B4a R4
      generalize u3a.drewN n4 = u3b at *
      go_wp2_with fail
      refine (cells_turn b0 cb tb ab 1 64 _ _ _ _ _ F u3b C4b.out (by have := hA'.out; omega) (by omega) D a2 (WalkArith.wf_i64 (by have := hD.out; omega))).mono ?_
      rintro e u5 ⟨F5, rfl, C5, S5⟩
      have B5 := Lib.hid (C4b.out.low S5.out B4b.out hb0.out)
      clear C4b S5 B4b
      generalize (if turns is num D a2 = true then upd num D 0 a2 else num) = num5 at *
      go_wp2_with fail
      refine (cells_all b0 cb tb ab 1 64 _ _ _ _ _ F5 u5 C5.out (by have := hA'.out; omega) (by omega) (vals0 z0 len0) len0 (by simp [heads]) (vals0_length _ _) (by omega) (hcl.out _)).mono ?_
      rintro e u5a ⟨a6, c6, rfl, R6, _, C6a, S6⟩
      have B6a := Lib.hid (C5.out.low S6.out B5.out hb0.out)
      clear C5 S6 B5
      go_wp2_with fail
      refine (vals_true a6 a0 (vals0 z0 len0) len0 (vals0_length _ _) c6 cap0 u5a R6.out (R0.out.below B6a.out (fun b off e => by rcases Rlt.out b off e with h | h; exact h; omega)) (by rw [vals0_length]; omega)).mono ?_
      rintro e u5b ⟨n6, rfl, rfl⟩
      have C6b := Lib.hid (C6a.out.keep (w' := u5a.drewN n6) (fun _ _ => rfl))
      have B6b := Lib.hid (bl_drewN B6a.out n6)
      clear C6a B6a R6
      generalize u5a.drewN n6 = u5b at *
      have hne : ((D : Int) + 1 == 2 * (K : Int) + 1) = false := by have := hD.out; simp; omega
      go_wp2_with fail
      refine (cells_swap b0 cb tb ab 1 64 _ _ _ _ _ F5 u5b C6b.out (by have := hA'.out; omega) (by omega) K (D + 1) (2 * K + 1) (D + 1) (by rw [List.getElem?_set_self (by simp [heads]; omega)])).mono ?_
      rw [hne]
      rintro e u7 ⟨rfl, C7, S7⟩
      have B7 := Lib.hid (C6b.out.low S7.out B6b.out hb0.out)
      go_wp2
      go_ret
      exact ⟨by rfl, B7.out⟩

set_option maxRecDepth 100000 in
theorem walk_out (a0 : Option Addr) (len0 cap0 : Nat) (a1 a2 : Int) (a3 : Option Addr) (len3 cap3 : Nat) (w : World) (h : (len0 : Int) < 1 ∨ 8 < (len0 : Int) ∨ 8 < (len3 : Int)) :
    Calls Try.prog 7 #[.slice a0 len0 cap0, .int .u8 a1, .int .i64 a2, .slice a3 len3 cap3] w fun e w' => e = .returned (.bool true) ∧ Below w.heap.size w w' := by
  by_cases h1 : (len0 : Int) < 1
  · clear h
    go_enter Try.func7, Try.ntmps7
    go_wp2_with fail
    refine (alive_any _).mono ?_
    rintro e v1 ⟨rfl, B1⟩
    go_wp2
    go_ret
    exact ⟨rfl, B1.out⟩
  · by_cases h2 : 8 < (len0 : Int)
    · clear h
      go_enter Try.func7, Try.ntmps7
      go_wp2_with fail
      refine (alive_any _).mono ?_
      rintro e v1 ⟨rfl, B1⟩
      go_wp2
      go_ret
      exact ⟨rfl, B1.out⟩
    · have h3 : 8 < (len3 : Int) := by omega
      clear h
      go_enter Try.func7, Try.ntmps7
      go_wp2_with fail
      refine (alive_any _).mono ?_
      rintro e v1 ⟨rfl, B1⟩
      go_wp2
      go_ret
      exact ⟨rfl, B1.out⟩

theorem walk (a0 : Option Addr) (len0 cap0 : Nat) (z0 : Nat → Int) (a1 a2 : Int) (a3 : Option Addr) (len3 cap3 : Nat) (z3 : Nat → Int) (w : World) (w0 : IsRow .i64 w a0 len0 cap0 z0) (w1 : (Lit.int .u8 a1).wf = true) (w2 : (Lit.int .i64 a2).wf = true) (w3 : IsRow .i64 w a3 len3 cap3 z3) :
    Calls Try.prog 7 #[.slice a0 len0 cap0, .int .u8 a1, .int .i64 a2, .slice a3 len3 cap3] w fun e w' => e = .returned (.bool true) ∧ Below w.heap.size w w' := by
  by_cases h : (len0 : Int) < 1 ∨ 8 < (len0 : Int) ∨ 8 < (len3 : Int)
  · exact walk_out a0 len0 cap0 a1 a2 a3 len3 cap3 w h
  · exact walkIn a0 len0 cap0 z0 a1 a2 a3 len3 cap3 z3 w w0 w1 w3 (by omega) (by omega) (by omega)

theorem own : ownKnob Try.prog.godebug = none := by kernel_rfl
theorem laidOut : laidOutB Try.prog = true := by kernel_rfl

/-! ### THE ROW's STEP, as the guide has it -/
set_option maxRecDepth 100000 in
theorem lifted (os : Os) (started : os.Started) (H : Type) (enc : TypeId × Value → H) :
    ReturnsInHanded {} Try.checked os 7 .any (Rows.cellsClaimSpec.pre6 enc Try.prog Try.f7 Rows.cellsClaimRow.domain false) (Rows.cellsClaimSpec.post enc Try.prog Try.f7 false true false false) := by
  refine returnsInHanded_of_change (C := Try.checked) own started (by kernel_rfl) Try.func7
    (ChangeSpec.witness6 (enc := enc) (C := Try.checked) false ⟨#[], #[.slice none 0 0, .int .u8 0, .int .i64 0, .slice none 0 0], []⟩ 8 (by kernel_rfl) (by kernel_rfl) (by kernel_rfl) (by kernel_rfl)) ?_
  intro W base args ds gs before hval0 hW hcnd _
  have hval : ∀ (j : Nat) t v, Try.f7.params[j]? = some t → args[j]? = some v → Value.okWide Try.prog W .any base t v := hval0
  have hW' := hW
  obtain ⟨p, q, hA0, hV, rfl, hfz, hnd⟩ := hW
  have hA : DataW.TrodAll enc Try.prog W 0 (fun _ => true) true Try.f7.params.toList args.toList ds p := hA0
  rw [Try.params7] at hA hval
  obtain ⟨v0, vs0, d0, ds0, p0, q0, hargs, rfl, rfl, h0, r0⟩ := trodAll_cons hA
  obtain ⟨v1, vs1, d1, ds1, p1, q1, rfl, rfl, rfl, h1, r1⟩ := trodAll_cons r0
  obtain ⟨v2, vs2, d2, ds2, p2, q2, rfl, rfl, rfl, h2, r2⟩ := trodAll_cons r1
  obtain ⟨v3, vs3, d3, ds3, p3, q3, rfl, rfl, rfl, h3, r3⟩ := trodAll_cons r2
  obtain ⟨rfl, rfl, rfl⟩ := trodAll_nil r3
  obtain rfl : args = #[v0, v1, v2, v3] := by cases args; simp_all
  obtain ⟨rfl, rfl⟩ := trodVars_none hV
  obtain ⟨a0, len0, cap0, rfl⟩ := okWide_slice Try.underlying22 (hval 0 22 v0 rfl rfl)
  have k0 := h0
  have lt0 : ∀ x ∈ p0, x.block < W.heap.size := by obtain ⟨m, hm⟩ := k0; exact DataW.trod_lt m _ _ _ hm
  obtain ⟨z0, w0⟩ : ∃ z, IsRow .i64 W a0 len0 cap0 z := by
    obtain ⟨fuel, hf⟩ := h0
    exact isRow_of Try.underlying22 Try.underlying2 (by kernel_rfl) hf
  obtain ⟨a1, rfl, rfl, rfl, w1⟩ := open_int Try.underlying5 (hval 1 5 v1 rfl rfl) h1
  obtain ⟨a2, rfl, rfl, rfl, w2⟩ := open_int Try.underlying3 (hval 2 3 v2 rfl rfl) h2
  obtain ⟨a3, len3, cap3, rfl⟩ := okWide_slice Try.underlying22 (hval 3 22 v3 rfl rfl)
  have k3 := h3
  have lt3 : ∀ x ∈ p3, x.block < W.heap.size := by obtain ⟨m, hm⟩ := k3; exact DataW.trod_lt m _ _ _ hm
  obtain ⟨z3, w3⟩ : ∃ z, IsRow .i64 W a3 len3 cap3 z := by
    obtain ⟨fuel, hf⟩ := h3
    exact isRow_of Try.underlying22 Try.underlying2 (by kernel_rfl) hf
  clear hA0 hval0
  refine (walk a0 len0 cap0 z0 a1 a2 a3 len3 cap3 z3 W w0 w1 w2 w3).mono fun e W' ⟨he, bel⟩ => ?_
  subst he
  exact ⟨_, rfl, _, _, _, [], _, [], hW', trodAll_mk1 (shut_bool Try.underlying4 _), (trodAll_cons_mk (Below.trod laidOut (by kernel_rfl) (of_decide_eq_true (by kernel_rfl)) k0 bel lt0) (trodAll_cons_mk (shut_int Try.underlying5 w1) (trodAll_cons_mk (shut_int Try.underlying3 w2) (trodAll_cons_mk (Below.trod laidOut (by kernel_rfl) (of_decide_eq_true (by kernel_rfl)) k3 bel lt3) trodAll_mk0)))), rfl, bel.frame _, fun h => by cases h⟩

theorem over : Rows.cellsClaimRow.holds Try.pinned (OpenSpec.ofChange Rows.cellsClaimSpec) :=
  OpenClaim.holds_of_wide 7 Try.f7 rfl rfl rfl rfl rfl rfl rfl ⟨rfl, rfl, rfl, rfl, rfl⟩ rfl rfl rfl rfl rfl (by kernel_rfl) Try.func7 (by kernel_rfl)
    (of_decide_eq_true (by kernel_rfl)) (by unfold Func.isWrapper; first | (rw [if_pos (by decide +kernel)]; kernel_rfl) | (rw [if_neg (by decide +kernel)]; exact ⟨rfl, rfl⟩))
    (fun os started H enc _ => lifted os started H enc)

theorem proved : Rows.CellsClaimSaid := over
#print axioms proved
end Go.Proofs.Yticlmcoegcfanaa.cellsClaim
