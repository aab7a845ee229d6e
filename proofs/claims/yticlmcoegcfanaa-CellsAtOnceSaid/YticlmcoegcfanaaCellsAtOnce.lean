/-
  CellsAtOnce: objects into whose cells one owner's locators were swapped have all their first values till he ends; all their new ones at once when he commits; and their first ones for good if he is aborted; for any list of first values, any list of new ones, and either end.
  Conditions: none (of no object, of more than 8, and of more than 8 new values the law says nothing by itself).
-/
import Derived.Test.YticlmcoegcfanaaRows
import Derived.Test.YticlmcoegcfanaaOpen
import Derived.Test.YticlmcoegcfanaaMade04
import Derived.Test.YticlmcoegcfanaaCellsLem
namespace Go.Proofs.Yticlmcoegcfanaa.cellsAtOnce
open Go.ChangeShapes Go.WideShapes Go.ChangeAt Go.RowKit Go.Proofs.Yticlmcoegcfanaa.base Go.Proofs.Yticlmcoegcfanaa.ar Go.Proofs.Yticlmcoegcfanaa.ds Go.Proofs.Yticlmcoegcfanaa.mm Go.Proofs.Yticlmcoegcfanaa.rf Go.Proofs.Yticlmcoegcfanaa.vl Go.Proofs.Yticlmcoegcfanaa.ce
set_option linter.unusedVariables false

/-- The records behind the first ones: the descriptor, and two for each object that was written. -/
def rest (z1 : Nat → Int) (D k : Nat) : List Rc := [⟨3, 0, 0, 0, 0, 0, 0, 0, 0⟩] ++ twos (fun i => ⟨1, z1 i, 0, 0, 0, 0, 0, 0, 0⟩) (fun i => ⟨2, 0, D, 2 * i, D + 1 + 2 * i, 0, 0, 0, 0⟩) k
theorem rest_succ (z1 : Nat → Int) (D k : Nat) : rest z1 D (k + 1) = rest z1 D k ++ [⟨1, z1 k, 0, 0, 0, 0, 0, 0, 0⟩] ++ [⟨2, 0, D, 2 * k, D + 1 + 2 * k, 0, 0, 0, 0⟩] := by simp [rest, twos_succ]
theorem rest_length (z1 : Nat → Int) (D k : Nat) : (rest z1 D k).length = 2 * k + 1 := by simp [rest, twos_length]

/-- The cells' numbers, when k objects were written. -/
abbrev hds (D L k : Nat) : List Int := headsTo (fun i => (D : Int) + 2 + 2 * i) L k

/-- An object's value then. -/
theorem valAt (z0 z1 : Nat → Int) (L D k : Nat) (hD : D = 2 * L) (hL : L ≤ 8) (hk : k ≤ L) (is : Int → Bool) (num : Int → Nat → Int) (j : Nat) (hj : j < L) (s : Int) (hs : stt is num D = s) :
    ∃ y, ValAt (firsts z0 L ++ rest z1 D k) (hds D L k) is num j y ∧ y.val = (if j < k ∧ s = 2 then z1 j else z0 j) := by
  have hfl := firsts_length z0 L
  have ht := recAt_twos (fun i => ⟨1, z0 i, 0, 0, 0, 0, 0, 0, 0⟩) (fun i => ⟨2, 0, -1, 2 * i, 2 * i, 0, 0, 0, 0⟩) L j hj
  rw [← firsts_twos] at ht
  have hh := headsTo_get (fun i => (D : Int) + 2 + 2 * i) L k j hj
  by_cases hjk : j < k
  · rw [if_pos hjk] at hh
    have h2 := recAt_twos (fun i => ⟨1, z1 i, 0, 0, 0, 0, 0, 0, 0⟩) (fun i => ⟨2, 0, D, 2 * i, D + 1 + 2 * i, 0, 0, 0, 0⟩) k j hjk
    have e1 : recAt (firsts z0 L ++ rest z1 D k) ((D : Int) + 2 + 2 * j) = some ⟨2, 0, D, 2 * j, D + 1 + 2 * j, 0, 0, 0, 0⟩ := by
      rw [recAt_right _ _ _ (by omega)]
      unfold rest
      rw [recAt_right _ _ _ (by simp; omega)]
      rw [show (D : Int) + 2 + 2 * j - ((firsts z0 L).length : Int) - (([(⟨3, 0, 0, 0, 0, 0, 0, 0, 0⟩ : Rc)] : List Rc).length : Int) = 2 * (j : Int) + 1 by simp; omega]
      exact h2.2
    have e2 : recAt (firsts z0 L ++ rest z1 D k) ((D : Int) + 1 + 2 * j) = some ⟨1, z1 j, 0, 0, 0, 0, 0, 0, 0⟩ := by
      rw [recAt_right _ _ _ (by omega)]
      unfold rest
      rw [recAt_right _ _ _ (by simp; omega)]
      rw [show (D : Int) + 1 + 2 * j - ((firsts z0 L).length : Int) - (([(⟨3, 0, 0, 0, 0, 0, 0, 0, 0⟩ : Rc)] : List Rc).length : Int) = 2 * (j : Int) by simp; omega]
      exact h2.1
    have hw : (Lit.int .i64 ((D : Int))).wf = true := WalkArith.wf_i64 (by omega)
    by_cases h2 : s = 2
    · refine ⟨_, ⟨_, _, hh, e1, rfl, hw, (by rw [show rsv ⟨2, 0, D, 2 * j, D + 1 + 2 * j, 0, 0, 0, 0⟩ (stt is num D) = (D : Int) + 1 + 2 * j by simp [rsv, hs, h2]]; exact e2), rfl⟩, ?_⟩
      rw [if_pos ⟨hjk, h2⟩]
    · refine ⟨_, ⟨_, _, hh, e1, rfl, hw, (by rw [show rsv ⟨2, 0, D, 2 * j, D + 1 + 2 * j, 0, 0, 0, 0⟩ (stt is num D) = 2 * (j : Int) by simp [rsv, hs, h2], recAt_left _ _ _ (by omega)]; exact ht.1), rfl⟩, ?_⟩
      rw [if_neg (fun h => h2 h.2)]
  · rw [if_neg hjk] at hh
    refine ⟨_, ValAt.first hj hh, ?_⟩
    rw [if_neg (fun h => hjk h.1)]

def Rel (w : World) (b0 cb tb ab L D : Nat) (is : Int → Bool) (num : Int → Nat → Int) (z0 z1 : Nat → Int) (g len : Nat) (i : Value) (wr : World) : Prop :=
  ∃ (k : Nat) (F : Nat → Prop) (B : Int), (k ≤ len ∧ k ≤ L) ∧ i = .int .i64 k ∧ (0 ≤ B ∧ B ≤ 1000 + 900 * k) ∧ Cel b0 wr cb tb ab 64 (firsts z0 L ++ rest z1 D k) (hds D L k) 1 is num B F ∧ Wr wr g (valsTo z1 z0 L k) ∧ ¬ F g ∧ Below w.heap.size w wr

set_option maxRecDepth 100000 in
set_option maxHeartbeats 8000000 in
theorem walkIn (a0 : Option Addr) (len0 cap0 : Nat) (z0 : Nat → Int) (a1 : Option Addr) (len1 cap1 : Nat) (z1 : Nat → Int) (a2 : Bool) (w : World) (w0 : IsRow .i64 w a0 len0 cap0 z0) (w1 : IsRow .i64 w a1 len1 cap1 z1) (h0 : ¬ (len0 : Int) < 1) (h1 : ¬ 8 < (len0 : Int)) (h3 : ¬ 8 < (len1 : Int)) :
    Calls Try.prog 5 #[.slice a0 len0 cap0, .slice a1 len1 cap1, .bool a2] w fun e w' => e = .returned (.bool true) ∧ Below w.heap.size w w' := by
  have W0 := Lib.hid w0
  have W1 := Lib.hid w1
  obtain ⟨b9, off9, ha0, hb9, hc9⟩ : ∃ b off, a0 = some ⟨b, off, none⟩ ∧ b < w.heap.size ∧ ∀ i, i < len0 → w.cell? ⟨b, off + i, none⟩ = some (.int .i64 (z0 i)) := by
    obtain ⟨_, _, h | ⟨b, off, e, hb, hc⟩⟩ := w0
    · omega
    · exact ⟨b, off, e, hb, fun i hi => (hc i hi).1⟩
  subst ha0
  have Hc9 := Lib.hid hc9
  clear w0 w1 hc9
  obtain ⟨D, hD0⟩ : ∃ D : Nat, D = 2 * len0 := ⟨_, rfl⟩
  have hD := Lib.hid hD0
  clear hD0
  go_enter Try.func5, Try.ntmps5
  go_wp2_with fail
  refine (alive_any _).mono ?_
  rintro e v1 ⟨rfl, B1⟩
  go_wp2_with fail
  refine (made_ok 64 (by omega) _ len0 cap0 z0 v1 (W0.out.below B1.out) (by omega) (by omega) (by omega)).mono ?_
  rintro e v2 ⟨ab, tb, cb, F2, rfl, C2, g2⟩
  have B2 := Lib.hid (bl_none B1.out g2.out)
  have hb0 : Hid (w.heap.size ≤ v1.heap.size) := B1.out.size
  generalize v1.heap.size = b0 at *
  clear B1 g2
  go_wp2_with fail
  refine (cells_begin b0 cb tb ab 0 64 _ _ _ _ _ F2 v2 C2.out (by omega) (by omega) (by omega) 0 0 0 0 0 D (by rw [firsts_length, hD.out]) (by have := hD.out; omega) (by omega) rfl (by omega)).mono ?_
  rintro e v3 ⟨F3, rfl, C3, S3⟩
  have B3 := Lib.hid (C2.out.low S3.out B2.out hb0.out)
  have hst : Hid (more (fun _ => false) (D : Int) true (D : Int) = true) := by simp [Hid, more]
  have hnm : Hid (more (fun _ _ => (0 : Int)) (D : Int) (fun c => if c = 0 then 1 else if c = 1 then 0 else 0) (D : Int) 0 = 1) := by simp [Hid, more]
  generalize more (fun _ => false) (D : Int) true = is at *
  generalize more (fun _ _ => (0 : Int)) (D : Int) (fun c => if c = 0 then 1 else if c = 1 then 0 else 0) = num at *
  clear C2 S3 B2
  obtain ⟨i0, hi0, hz00, hz10, hz20⟩ := info_parts infoI
  have hi := Lib.hid hi0
  have hz0 := Lib.hid hz00
  have hz1 := Lib.hid hz10
  have hz2 := Lib.hid hz20
  have hnews : Hid (∀ (j : Nat) (u : Value), (ints (vals0 z0 len0))[j]? = some u → (v3.alloc (.cells #[] 2)).cell? ((⟨b9, off9, none⟩ : Addr).add j) = some u) := by
    intro j u hu
    have hj : j < len0 := by
      have := (List.getElem?_eq_some_iff.1 hu).1
      simpa [ints, vals0] using this
    rw [ints_get _ _ _ (vals0_get z0 len0 j hj)] at hu
    cases hu
    rw [add_eq]
    exact (gb_alloc (gb_refl v3 none) _).cell ((B3.out.cell (p := ⟨b9, off9 + j, none⟩) hb9).trans (Hc9.out j hj)) (by simp)
  clear hi0 hz00 hz10 hz20
  go_wp2_with (at_builtin; refine wpList_append_at _ rfl (.tmp 57) (.tmp 58) 22 rfl v3.heap.size 2 i0 (.int .i64 0) 1 8 Try.underlying22 hi.out hz0.out hz1.out hz2.out rfl (by decide) _ 0 [] rfl (ownsRow_empty v3 _ 1) ⟨b9, off9, none⟩ len0 cap0 (ints (vals0 z0 len0)) rfl (by simp [ints, vals0]) hnews.out (by intro u hu; simp [ints] at hu; obtain ⟨x, _, rfl⟩ := hu; rfl) (by unfold maxLen; omega) (by omega) (by simp) (by omega) ?_; intro g' c' w1 ho1 hg1 hv1)
  simp only [Nat.zero_add, List.nil_append] at ho1
  have hG0 : Wr w1 g' (vals0 z0 len0) := Wr.of_own (b := v3.heap.size) (c := c') (by rw [vals0_length]; exact ho1)
  have gv : v3.grownBy w1 none := gb_overO (gb_alloc (gb_refl _ _) _) hg1 (fun b e => by
    have e2 : some v3.heap.size = some b := e
    injection e2 with e2
    omega)
  have hg3 : v3.heap.size ≤ g' := by
    rcases hv1 with e | e
    · have e2 : some g' = some v3.heap.size := e
      injection e2 with e2
      omega
    · have e2 : v3.heap.size + 1 ≤ g' := by simpa using e
      omega
  have hgF : ¬ F3 g' := fun h => by have := (C3.out.foot _ h).2; omega
  have hgw : Hid (w.heap.size ≤ g') := Nat.le_trans B3.out.size hg3
  have hb3 : Hid (b0 ≤ g') := Nat.le_trans C3.out.base_size hg3
  have C4 := Lib.hid (C3.out.grown gv)
  have B4 := Lib.hid (bl_none B3.out gv)
  have G4 : Hid (Wr w1 g' (valsTo z1 z0 len0 0)) := by rw [valsTo_zero]; exact hG0
  have hF4 := Lib.hid hgF
  have hfl := firsts_length z0 len0
  have R0 : Hid (Rd w (some ⟨b9, off9, none⟩) (vals0 z0 len0)) := Rd.of_row W0.out
  have E0 : Hid (firsts z0 len0 ++ [(⟨3, 0, 0, 0, 0, 0, 0, 0, 0⟩ : Rc)] = firsts z0 len0 ++ rest z1 D 0) := by simp [Hid, rest, twos]
  clear ho1 hg1 hv1 hG0 gv hg3 hgF C3 B3 hnews
  go_loopw [14] (fun i wr => Rel w b0 cb tb ab len0 D is num z0 z1 g' len1 i wr) (fun i _ => (len1 - intOf i).toNat)
  case atStart => exact ⟨0, F3, 100 + 100, ⟨by omega, by omega⟩, rfl, by omega, by rw [← E0.out, show hds D len0 0 = heads len0 from headsTo_zero _ _]; exact C4.out, G4.out, hF4.out, B4.out⟩
  case round =>
    clear C4 B4 G4 hF4
    obtain ⟨k, F, B, ⟨hk1, hk2⟩, rfl, hA, C0, G0, hf0, BB0⟩ := hrel
    have C := Lib.hid C0
    have G := Lib.hid G0
    have BB := Lib.hid BB0
    have hA' := Lib.hid hA
    have hf := Lib.hid hf0
    clear C0 G0 BB0 hA hf0
    by_cases hlt : k < len1 ∧ k < len0
    · obtain ⟨hl1, hl0⟩ := hlt
      obtain ⟨_, _, h | ⟨b2, off2, rfl, hb2, hz⟩⟩ := W1.out
      · exfalso; omega
      have hz' := Lib.hid (hz k hl1).1
      have hl1' : (k : Int) < (len1 : Int) := by omega
      have hl0' : (k : Int) < (len0 : Int) := by omega
      have ht := recAt_twos (fun i => ⟨1, z0 i, 0, 0, 0, 0, 0, 0, 0⟩) (fun i => ⟨2, 0, -1, 2 * i, 2 * i, 0, 0, 0, 0⟩) len0 k hl0
      rw [← firsts_twos] at ht
      have hrec := Lib.hid ht
      have hh : Hid ((hds D len0 k)[k]? = some (2 * (k : Int) + 1)) := by
        have := headsTo_get (fun i => (D : Int) + 2 + 2 * i) len0 k k hl0
        rw [if_neg (by omega)] at this
        exact this
      clear ht hz
      go_wp2_with fail
      refine (cells_load b0 cb tb ab 1 64 _ _ _ _ B F wr C.out (by have := hA'.out; omega) (by omega) k (2 * k + 1) hh.out).mono ?_
      rintro e u1 ⟨rfl, C1, S1⟩
      have B1 := Lib.hid (C.out.low S1.out BB.out hb0.out)
      have G1 := Lib.hid (G.out.step S1.out hf.out).1
      clear C S1 BB G
      go_wp2_with fail
      refine (cells_locator b0 cb tb ab 1 64 _ _ _ _ _ F u1 C1.out (by have := hA'.out; omega) (by omega) (2 * k + 1) ⟨2, 0, -1, 2 * k, 2 * k, 0, 0, 0, 0⟩ (by rw [recAt_left _ _ _ (by omega)]; exact hrec.out.2) rfl).mono ?_
      rintro e u2 ⟨rfl, C2, S2⟩
      have B2 := Lib.hid (C1.out.low S2.out B1.out hb0.out)
      have G2 := Lib.hid (G1.out.step S2.out hf.out).1
      have gl : u2.grownBy (u2.alloc (.cells #[.int .i64 2, .int .i64 0, .int .i64 (-1), .int .i64 (2 * k), .int .i64 (2 * k), .int .i64 0, .int .i64 0, .int .i64 0, .int .i64 0] 45)) none := gb_alloc (gb_refl _ _) _
      have C3 := Lib.hid (C2.out.grown gl)
      have B3 := Lib.hid (bl_none B2.out gl)
      have G3 : Hid (Wr (u2.alloc (.cells #[.int .i64 2, .int .i64 0, .int .i64 (-1), .int .i64 (2 * k), .int .i64 (2 * k), .int .i64 0, .int .i64 0, .int .i64 0, .int .i64 0] 45)) g' (valsTo z1 z0 len0 k)) := G2.out.keep (gl.block g' G2.out.lt (by simp))
      have hcell : (u2.alloc (.cells #[.int .i64 2, .int .i64 0, .int .i64 (-1), .int .i64 (2 * k), .int .i64 (2 * k), .int .i64 0, .int .i64 0, .int .i64 0, .int .i64 0] 45)).cell? ⟨b2, off2 + k, none⟩ = some (.int .i64 (z1 k)) := (B3.out.cell (p := ⟨b2, off2 + k, none⟩) hb2).trans hz'.out
      have hlc : Hid ((u2.alloc (.cells #[.int .i64 2, .int .i64 0, .int .i64 (-1), .int .i64 (2 * k), .int .i64 (2 * k), .int .i64 0, .int .i64 0, .int .i64 0, .int .i64 0] 45)).cell? ⟨u2.heap.size, 4, none⟩ = some (.int .i64 (2 * k))) := by unfold Hid; simp [go_sem]
      have hlf : Hid (¬ F u2.heap.size) := fun h => by have := (C2.out.foot _ h).2; omega
      clear C1 S2 B1 G1 C2 B2 G2 gl
      go_wp2_with fail
      generalize (u2.alloc (.cells #[.int .i64 2, .int .i64 0, .int .i64 (-1), .int .i64 (2 * k), .int .i64 (2 * k), .int .i64 0, .int .i64 0, .int .i64 0, .int .i64 0] 45)) = u3 at *
      generalize u2.heap.size = lb at *
      refine (cells_version b0 cb tb ab 1 64 _ _ _ _ _ F u3 C3.out (by have := hA'.out; omega) (by omega) (z1 k) (D + 1 + 2 * k) (by rw [List.length_append, rest_length, firsts_length, hD.out]; omega) (by have := hD.out; omega)).mono ?_
      rintro e u4 ⟨F4, rfl, C4, S4⟩
      have B4 := Lib.hid (C3.out.low S4.out B3.out hb0.out)
      have G4' := G3.out.step S4.out hf.out
      have G4 := Lib.hid G4'.1
      have hf4 := Lib.hid G4'.2
      obtain ⟨q1, _⟩ := cell_step S4.out hlc.out hlf.out
      have HK1 : Hid (IsK (firsts z0 len0 ++ rest z1 D k ++ [⟨1, z1 k, 0, 0, 0, 0, 0, 0, 0⟩]) (2 * k) 1) := ⟨_, by rw [List.append_assoc, recAt_left _ _ _ (by omega)]; exact hrec.out.1, rfl⟩
      have HK2 : Hid (IsK (firsts z0 len0 ++ rest z1 D k ++ [⟨1, z1 k, 0, 0, 0, 0, 0, 0, 0⟩]) (((D + 1 + 2 * k : Nat)) : Int) 1) := ⟨_, by
        rw [recAt_right _ _ _ (by rw [List.length_append, rest_length, firsts_length]; have := hD.out; omega)]
        rw [show ((D + 1 + 2 * k : Nat) : Int) - ((firsts z0 len0 ++ rest z1 D k).length : Int) = 0 by rw [List.length_append, rest_length, firsts_length]; have := hD.out; omega]
        rfl, rfl⟩
      have ql := World.block_lt_of_cell? _ _ q1
      clear C3 S4 B3 G3 hlc hlf G4' hcell
      go_wp2_with fail
      refine (cells_build b0 cb tb ab 1 64 _ _ _ _ _ F4 u4 C4.out (by have := hA'.out; omega) (by omega) D (2 * k) ((D + 1 + 2 * k : Nat) : Int) (by omega) HK1.out HK2.out (D + 2 + 2 * k) (by rw [List.length_append, List.length_append, rest_length, firsts_length, hD.out]; simp; omega) (by have := hD.out; omega)).mono ?_
      rintro e u5 ⟨F5, rfl, C5', S5⟩
      have B5 := Lib.hid (C4.out.low S5.out B4.out hb0.out)
      have G5' := G4.out.step S5.out hf4.out
      have G5 := Lib.hid G5'.1
      have hgf := Lib.hid G5'.2
      have C5 : Hid (Cel b0 u5 cb tb ab 64 (firsts z0 len0 ++ rest z1 D (k + 1)) (hds D len0 k) 1 is num (B + 100 + 100 + 100 + 100) F5) := by
        have e1 : firsts z0 len0 ++ rest z1 D (k + 1) = firsts z0 len0 ++ rest z1 D k ++ [⟨1, z1 k, 0, 0, 0, 0, 0, 0, 0⟩] ++ [⟨2, 0, D, 2 * k, ((D + 1 + 2 * k : Nat) : Int), 0, 0, 0, 0⟩] := by rw [rest_succ]; simp
        rw [e1]
        exact C5'.out
      clear C4 S5 B4 G4 hf4 G5' C5' q1 ql HK1 HK2
      go_wp2_with fail
      refine (cells_swap b0 cb tb ab 1 64 _ _ _ _ _ F5 u5 C5.out (by have := hA'.out; omega) (by omega) k (2 * k + 1) (2 * k + 1) ((D + 2 + 2 * k : Nat) : Int) hh.out).mono ?_
      simp only [beq_self_eq_true, if_true]
      rintro e u6 ⟨rfl, C6', S6⟩
      have B6 := Lib.hid (C5.out.low S6.out B5.out hb0.out)
      have G6 := Lib.hid (G5.out.step S6.out hgf.out).1
      have C6 : Hid (Cel b0 u6 cb tb ab 64 (firsts z0 len0 ++ rest z1 D (k + 1)) (hds D len0 (k + 1)) 1 is num (B + 100 + 100 + 100 + 100 + 100) F5) := by
        have := headsTo_set (fun i => (D : Int) + 2 + 2 * i) len0 k hl0
        have e1 : ((D + 2 + 2 * k : Nat) : Int) = (D : Int) + 2 + 2 * k := by omega
        rw [e1] at C6'
        rw [show hds D len0 (k + 1) = (hds D len0 k).set k ((D : Int) + 2 + 2 * k) from this.symm]
        exact C6'.out
      have hs1 : Hid (stt is num D = 1) := by unfold Hid stt; rw [if_pos hst.out]; exact hnm.out
      have hv : Hid (∀ j, j < len0 → ∃ y, ValAt (firsts z0 len0 ++ rest z1 D (k + 1)) (hds D len0 (k + 1)) is num j y ∧ (vals0 z0 len0)[j]? = some y.val) := fun j hj => by
        obtain ⟨y, hy, e⟩ := valAt z0 z1 len0 D (k + 1) hD.out (by omega) (by omega) is num j hj 1 hs1.out
        exact ⟨y, hy, by rw [e, if_neg (by omega)]; exact vals0_get _ _ _ hj⟩
      clear C5 S6 B5 G5 C6'
      go_wp2_with fail
      refine (cells_all b0 cb tb ab 1 64 _ _ _ _ _ F5 u6 C6.out (by have := hA'.out; omega) (by omega) (vals0 z0 len0) len0 (headsTo_length _ _ _) (by simp [vals0]) (by omega) hv.out).mono ?_
      rintro e x7a ⟨a7, c7, rfl, R7, _, C7a, S7⟩
      have B7a := Lib.hid (C6.out.low S7.out B6.out hb0.out)
      have G7a := Lib.hid (G6.out.step S7.out hgf.out).1
      clear C6 S7 B6 G6
      go_wp2_with fail
      refine (vals_true a7 (some ⟨b9, off9, none⟩) (vals0 z0 len0) len0 (by simp [vals0]) c7 cap0 x7a R7.out (R0.out.below B7a.out (fun b off e => by cases e; exact hb9)) (by simp [vals0]; omega)).mono ?_
      rintro e x7b ⟨n7, rfl, rfl⟩
      have C7b := Lib.hid (C7a.out.keep (w' := x7a.drewN n7) (fun _ _ => rfl))
      have B7b := Lib.hid (bl_drewN B7a.out n7)
      have G7b := Lib.hid (G7a.out.keep (w' := x7a.drewN n7) rfl)
      clear C7a B7a G7a R7
      generalize x7a.drewN n7 = x7b at *
      have hcell7 : x7b.cell? ⟨b2, off2 + k, none⟩ = some (.int .i64 (z1 k)) := (B7b.out.cell (p := ⟨b2, off2 + k, none⟩) hb2).trans hz'.out
      obtain ⟨wc, wf⟩ := G7b.out.cell k _ (valsTo_get z1 z0 len0 k k hl0)
      have hgl := G7b.out.lt
      go_wp2
      have Gs : Wr (x7b.setCell ⟨g', k, none⟩ (.int .i64 (z1 k))) g' (valsTo z1 z0 len0 (k + 1)) := by
        rw [← valsTo_set z1 z0 len0 k hl0]
        exact G7b.out.set k (z1 k) (by rw [valsTo_length]; exact hl0)
      have Cs : Cel b0 (x7b.setCell ⟨g', k, none⟩ (.int .i64 (z1 k))) cb tb ab 64 (firsts z0 len0 ++ rest z1 D (k + 1)) (hds D len0 (k + 1)) 1 is num (B + 100 + 100 + 100 + 100 + 100 + 100) F5 :=
        C7b.out.keep (fun b hb => Below.heap_setCell _ _ _ _ (fun e => hgf.out (by have e2 : b = g' := e; rw [← e2]; exact hb)))
      have Bs : Below w.heap.size w (x7b.setCell ⟨g', k, none⟩ (.int .i64 (z1 k))) := B7b.out.trans ⟨rfl, rfl, rfl, by simp [World.setCell], fun i hi => Below.heap_setCell _ _ _ _ (fun e => by have h2 : i = g' := e; have := hgw.out; omega)⟩
      go_roundw
      case rel => exact ⟨k + 1, F5, _, ⟨by omega, by omega⟩, by go_num, by have := hA'.out; omega, Cs, Gs, hgf.out, Bs⟩
      case measure => simp [intOf]; omega
    · have hx : (len1 : Int) ≤ (k : Int) ∨ ((k : Int) < (len1 : Int) ∧ (len0 : Int) ≤ (k : Int)) := by omega
      clear hlt
      rcases hx with hx | ⟨hx, hy⟩
      · cases a2
        · -- it is aborted
          have ht : turns is num D 3 = true := by simp [turns, hst.out, hnm.out]
          go_wp2_with fail
          refine (cells_turn b0 cb tb ab 1 64 _ _ _ _ B F wr C.out (by have := hA'.out; omega) (by omega) D 3 (WalkArith.wf_i64 (by have := hD.out; omega))).mono ?_
          rw [ht]
          simp only [↓reduceIte]
          rintro e u1 ⟨F1, rfl, C1, S1⟩
          have B1 := Lib.hid (C.out.low S1.out BB.out hb0.out)
          have G1' := G.out.step S1.out hf.out
          have G1 := Lib.hid G1'.1
          have hgf := Lib.hid G1'.2
          have hs1 : Hid (stt is (upd num D 0 3) D = 3) := by unfold Hid stt; rw [if_pos hst.out]; exact upd_hit _ _ _ _
          have ht2 : turns is (upd num D 0 3) D 2 = false := by simp [turns, upd_hit]
          have hv : Hid (∀ j, j < len0 → ∃ y, ValAt (firsts z0 len0 ++ rest z1 D k) (hds D len0 k) is (upd num D 0 3) j y ∧ (vals0 z0 len0)[j]? = some y.val) := fun j hj => by
            obtain ⟨y, hy, e⟩ := valAt z0 z1 len0 D k hD.out (by omega) (by omega) is (upd num D 0 3) j hj 3 hs1.out
            exact ⟨y, hy, by rw [e, if_neg (by omega)]; exact vals0_get _ _ _ hj⟩
          clear C S1 BB G G1' ht
          go_wp2_with fail
          refine (cells_all b0 cb tb ab 1 64 _ _ _ _ _ F1 u1 C1.out (by have := hA'.out; omega) (by omega) (vals0 z0 len0) len0 (headsTo_length _ _ _) (by simp [vals0]) (by omega) hv.out).mono ?_
          rintro e x2a ⟨a2, c2, rfl, R2, _, C2a, S2⟩
          have B2a := Lib.hid (C1.out.low S2.out B1.out hb0.out)
          have G2a := Lib.hid (G1.out.step S2.out hgf.out).1
          clear C1 S2 B1 G1
          go_wp2_with fail
          refine (vals_true a2 (some ⟨b9, off9, none⟩) (vals0 z0 len0) len0 (by simp [vals0]) c2 cap0 x2a R2.out (R0.out.below B2a.out (fun b off e => by cases e; exact hb9)) (by simp [vals0]; omega)).mono ?_
          rintro e x2b ⟨n2, rfl, rfl⟩
          have C2b := Lib.hid (C2a.out.keep (w' := x2a.drewN n2) (fun _ _ => rfl))
          have B2b := Lib.hid (bl_drewN B2a.out n2)
          have G2b := Lib.hid (G2a.out.keep (w' := x2a.drewN n2) rfl)
          clear C2a B2a G2a R2
          generalize x2a.drewN n2 = x2b at *
          go_wp2_with fail
          refine (cells_turn b0 cb tb ab 1 64 _ _ _ _ _ F1 x2b C2b.out (by have := hA'.out; omega) (by omega) D 2 (WalkArith.wf_i64 (by have := hD.out; omega))).mono ?_
          rw [ht2]
          simp only [Bool.false_eq_true, ↓reduceIte]
          rintro e u3 ⟨F3, rfl, C3, S3⟩
          have B3 := Lib.hid (C2b.out.low S3.out B2b.out hb0.out)
          have G3' := G2b.out.step S3.out hgf.out
          have G3 := Lib.hid G3'.1
          have hgf := Lib.hid G3'.2
          clear C2b S3 B2b G2b G3' ht2
          go_wp2_with fail
          refine (cells_all b0 cb tb ab 1 64 _ _ _ _ _ F3 u3 C3.out (by have := hA'.out; omega) (by omega) (vals0 z0 len0) len0 (headsTo_length _ _ _) (by simp [vals0]) (by omega) hv.out).mono ?_
          rintro e x4a ⟨a4, c4, rfl, R4, _, C4a, S4⟩
          have B4a := Lib.hid (C3.out.low S4.out B3.out hb0.out)
          have G4a := Lib.hid (G3.out.step S4.out hgf.out).1
          clear C3 S4 B3 G3
          go_wp2_with fail
          refine (vals_true a4 (some ⟨b9, off9, none⟩) (vals0 z0 len0) len0 (by simp [vals0]) c4 cap0 x4a R4.out (R0.out.below B4a.out (fun b off e => by cases e; exact hb9)) (by simp [vals0]; omega)).mono ?_
          rintro e x4b ⟨n4, rfl, rfl⟩
          have C4b := Lib.hid (C4a.out.keep (w' := x4a.drewN n4) (fun _ _ => rfl))
          have B4b := Lib.hid (bl_drewN B4a.out n4)
          have G4b := Lib.hid (G4a.out.keep (w' := x4a.drewN n4) rfl)
          clear C4a B4a G4a R4
          generalize x4a.drewN n4 = x4b at *
          go_wp2
          go_ret
          exact ⟨by rfl, B4b.out⟩
        · -- it commits
          have ht : turns is num D 2 = true := by simp [turns, hst.out, hnm.out]
          go_wp2_with fail
          refine (cells_turn b0 cb tb ab 1 64 _ _ _ _ B F wr C.out (by have := hA'.out; omega) (by omega) D 2 (WalkArith.wf_i64 (by have := hD.out; omega))).mono ?_
          rw [ht]
          simp only [↓reduceIte]
          rintro e u1 ⟨F1, rfl, C1, S1⟩
          have B1 := Lib.hid (C.out.low S1.out BB.out hb0.out)
          have G1' := G.out.step S1.out hf.out
          have G1 := Lib.hid G1'.1
          have hgf := Lib.hid G1'.2
          have hs1 : Hid (stt is (upd num D 0 2) D = 2) := by unfold Hid stt; rw [if_pos hst.out]; exact upd_hit _ _ _ _
          have ht2 : turns is (upd num D 0 2) D 2 = false := by simp [turns, upd_hit]
          have hv : Hid (∀ j, j < len0 → ∃ y, ValAt (firsts z0 len0 ++ rest z1 D k) (hds D len0 k) is (upd num D 0 2) j y ∧ (valsTo z1 z0 len0 k)[j]? = some y.val) := fun j hj => by
            obtain ⟨y, hy, e⟩ := valAt z0 z1 len0 D k hD.out (by omega) (by omega) is (upd num D 0 2) j hj 2 hs1.out
            exact ⟨y, hy, by rw [e]; simpa using valsTo_get _ _ _ _ _ hj⟩
          clear C S1 BB G G1' ht
          go_wp2_with fail
          refine (cells_all b0 cb tb ab 1 64 _ _ _ _ _ F1 u1 C1.out (by have := hA'.out; omega) (by omega) (valsTo z1 z0 len0 k) len0 (headsTo_length _ _ _) (by simp [valsTo]) (by omega) hv.out).mono ?_
          rintro e x2a ⟨a2, c2, rfl, R2, _, C2a, S2⟩
          have B2a := Lib.hid (C1.out.low S2.out B1.out hb0.out)
          have G2a := Lib.hid (G1.out.step S2.out hgf.out).1
          clear C1 S2 B1 G1
          go_wp2_with fail
          refine (vals_true a2 (some ⟨g', 0, none⟩) (valsTo z1 z0 len0 k) len0 (by simp [valsTo]) c2 c' x2a R2.out G2a.out.rd (by simp [valsTo]; omega)).mono ?_
          rintro e x2b ⟨n2, rfl, rfl⟩
          have C2b := Lib.hid (C2a.out.keep (w' := x2a.drewN n2) (fun _ _ => rfl))
          have B2b := Lib.hid (bl_drewN B2a.out n2)
          have G2b := Lib.hid (G2a.out.keep (w' := x2a.drewN n2) rfl)
          clear C2a B2a G2a R2
          generalize x2a.drewN n2 = x2b at *
          go_wp2_with fail
          refine (cells_turn b0 cb tb ab 1 64 _ _ _ _ _ F1 x2b C2b.out (by have := hA'.out; omega) (by omega) D 2 (WalkArith.wf_i64 (by have := hD.out; omega))).mono ?_
          rw [ht2]
          simp only [Bool.false_eq_true, ↓reduceIte]
          rintro e u3 ⟨F3, rfl, C3, S3⟩
          have B3 := Lib.hid (C2b.out.low S3.out B2b.out hb0.out)
          have G3' := G2b.out.step S3.out hgf.out
          have G3 := Lib.hid G3'.1
          have hgf := Lib.hid G3'.2
          clear C2b S3 B2b G2b G3' ht2
          go_wp2_with fail
          refine (cells_all b0 cb tb ab 1 64 _ _ _ _ _ F3 u3 C3.out (by have := hA'.out; omega) (by omega) (valsTo z1 z0 len0 k) len0 (headsTo_length _ _ _) (by simp [valsTo]) (by omega) hv.out).mono ?_
          rintro e x4a ⟨a4, c4, rfl, R4, _, C4a, S4⟩
          have B4a := Lib.hid (C3.out.low S4.out B3.out hb0.out)
          have G4a := Lib.hid (G3.out.step S4.out hgf.out).1
          clear C3 S4 B3 G3
          go_wp2_with fail
          refine (vals_true a4 (some ⟨g', 0, none⟩) (valsTo z1 z0 len0 k) len0 (by simp [valsTo]) c4 c' x4a R4.out G4a.out.rd (by simp [valsTo]; omega)).mono ?_
          rintro e x4b ⟨n4, rfl, rfl⟩
          have C4b := Lib.hid (C4a.out.keep (w' := x4a.drewN n4) (fun _ _ => rfl))
          have B4b := Lib.hid (bl_drewN B4a.out n4)
          have G4b := Lib.hid (G4a.out.keep (w' := x4a.drewN n4) rfl)
          clear C4a B4a G4a R4
          generalize x4a.drewN n4 = x4b at *
          go_wp2
          go_ret
          exact ⟨by rfl, B4b.out⟩
      · cases a2
        · -- it is aborted
          have ht : turns is num D 3 = true := by simp [turns, hst.out, hnm.out]
          go_wp2_with fail
          refine (cells_turn b0 cb tb ab 1 64 _ _ _ _ B F wr C.out (by have := hA'.out; omega) (by omega) D 3 (WalkArith.wf_i64 (by have := hD.out; omega))).mono ?_
          rw [ht]
          simp only [↓reduceIte]
          rintro e u1 ⟨F1, rfl, C1, S1⟩
          have B1 := Lib.hid (C.out.low S1.out BB.out hb0.out)
          have G1' := G.out.step S1.out hf.out
          have G1 := Lib.hid G1'.1
          have hgf := Lib.hid G1'.2
          have hs1 : Hid (stt is (upd num D 0 3) D = 3) := by unfold Hid stt; rw [if_pos hst.out]; exact upd_hit _ _ _ _
          have ht2 : turns is (upd num D 0 3) D 2 = false := by simp [turns, upd_hit]
          have hv : Hid (∀ j, j < len0 → ∃ y, ValAt (firsts z0 len0 ++ rest z1 D k) (hds D len0 k) is (upd num D 0 3) j y ∧ (vals0 z0 len0)[j]? = some y.val) := fun j hj => by
            obtain ⟨y, hy, e⟩ := valAt z0 z1 len0 D k hD.out (by omega) (by omega) is (upd num D 0 3) j hj 3 hs1.out
            exact ⟨y, hy, by rw [e, if_neg (by omega)]; exact vals0_get _ _ _ hj⟩
          clear C S1 BB G G1' ht
          go_wp2_with fail
          refine (cells_all b0 cb tb ab 1 64 _ _ _ _ _ F1 u1 C1.out (by have := hA'.out; omega) (by omega) (vals0 z0 len0) len0 (headsTo_length _ _ _) (by simp [vals0]) (by omega) hv.out).mono ?_
          rintro e x2a ⟨a2, c2, rfl, R2, _, C2a, S2⟩
          have B2a := Lib.hid (C1.out.low S2.out B1.out hb0.out)
          have G2a := Lib.hid (G1.out.step S2.out hgf.out).1
          clear C1 S2 B1 G1
          go_wp2_with fail
          refine (vals_true a2 (some ⟨b9, off9, none⟩) (vals0 z0 len0) len0 (by simp [vals0]) c2 cap0 x2a R2.out (R0.out.below B2a.out (fun b off e => by cases e; exact hb9)) (by simp [vals0]; omega)).mono ?_
          rintro e x2b ⟨n2, rfl, rfl⟩
          have C2b := Lib.hid (C2a.out.keep (w' := x2a.drewN n2) (fun _ _ => rfl))
          have B2b := Lib.hid (bl_drewN B2a.out n2)
          have G2b := Lib.hid (G2a.out.keep (w' := x2a.drewN n2) rfl)
          clear C2a B2a G2a R2
          generalize x2a.drewN n2 = x2b at *
          go_wp2_with fail
          refine (cells_turn b0 cb tb ab 1 64 _ _ _ _ _ F1 x2b C2b.out (by have := hA'.out; omega) (by omega) D 2 (WalkArith.wf_i64 (by have := hD.out; omega))).mono ?_
          rw [ht2]
          simp only [Bool.false_eq_true, ↓reduceIte]
          rintro e u3 ⟨F3, rfl, C3, S3⟩
          have B3 := Lib.hid (C2b.out.low S3.out B2b.out hb0.out)
          have G3' := G2b.out.step S3.out hgf.out
          have G3 := Lib.hid G3'.1
          have hgf := Lib.hid G3'.2
          clear C2b S3 B2b G2b G3' ht2
          go_wp2_with fail
          refine (cells_all b0 cb tb ab 1 64 _ _ _ _ _ F3 u3 C3.out (by have := hA'.out; omega) (by omega) (vals0 z0 len0) len0 (headsTo_length _ _ _) (by simp [vals0]) (by omega) hv.out).mono ?_
          rintro e x4a ⟨a4, c4, rfl, R4, _, C4a, S4⟩
          have B4a := Lib.hid (C3.out.low S4.out B3.out hb0.out)
          have G4a := Lib.hid (G3.out.step S4.out hgf.out).1
          clear C3 S4 B3 G3
          go_wp2_with fail
          refine (vals_true a4 (some ⟨b9, off9, none⟩) (vals0 z0 len0) len0 (by simp [vals0]) c4 cap0 x4a R4.out (R0.out.below B4a.out (fun b off e => by cases e; exact hb9)) (by simp [vals0]; omega)).mono ?_
          rintro e x4b ⟨n4, rfl, rfl⟩
          have C4b := Lib.hid (C4a.out.keep (w' := x4a.drewN n4) (fun _ _ => rfl))
          have B4b := Lib.hid (bl_drewN B4a.out n4)
          have G4b := Lib.hid (G4a.out.keep (w' := x4a.drewN n4) rfl)
          clear C4a B4a G4a R4
          generalize x4a.drewN n4 = x4b at *
          go_wp2
          go_ret
          exact ⟨by rfl, B4b.out⟩
        · -- it commits
          have ht : turns is num D 2 = true := by simp [turns, hst.out, hnm.out]
          go_wp2_with fail
          refine (cells_turn b0 cb tb ab 1 64 _ _ _ _ B F wr C.out (by have := hA'.out; omega) (by omega) D 2 (WalkArith.wf_i64 (by have := hD.out; omega))).mono ?_
          rw [ht]
          simp only [↓reduceIte]
          rintro e u1 ⟨F1, rfl, C1, S1⟩
          have B1 := Lib.hid (C.out.low S1.out BB.out hb0.out)
          have G1' := G.out.step S1.out hf.out
          have G1 := Lib.hid G1'.1
          have hgf := Lib.hid G1'.2
          have hs1 : Hid (stt is (upd num D 0 2) D = 2) := by unfold Hid stt; rw [if_pos hst.out]; exact upd_hit _ _ _ _
          have ht2 : turns is (upd num D 0 2) D 2 = false := by simp [turns, upd_hit]
          have hv : Hid (∀ j, j < len0 → ∃ y, ValAt (firsts z0 len0 ++ rest z1 D k) (hds D len0 k) is (upd num D 0 2) j y ∧ (valsTo z1 z0 len0 k)[j]? = some y.val) := fun j hj => by
            obtain ⟨y, hy, e⟩ := valAt z0 z1 len0 D k hD.out (by omega) (by omega) is (upd num D 0 2) j hj 2 hs1.out
            exact ⟨y, hy, by rw [e]; simpa using valsTo_get _ _ _ _ _ hj⟩
          clear C S1 BB G G1' ht
          go_wp2_with fail
          refine (cells_all b0 cb tb ab 1 64 _ _ _ _ _ F1 u1 C1.out (by have := hA'.out; omega) (by omega) (valsTo z1 z0 len0 k) len0 (headsTo_length _ _ _) (by simp [valsTo]) (by omega) hv.out).mono ?_
          rintro e x2a ⟨a2, c2, rfl, R2, _, C2a, S2⟩
          have B2a := Lib.hid (C1.out.low S2.out B1.out hb0.out)
          have G2a := Lib.hid (G1.out.step S2.out hgf.out).1
          clear C1 S2 B1 G1
          go_wp2_with fail
          refine (vals_true a2 (some ⟨g', 0, none⟩) (valsTo z1 z0 len0 k) len0 (by simp [valsTo]) c2 c' x2a R2.out G2a.out.rd (by simp [valsTo]; omega)).mono ?_
          rintro e x2b ⟨n2, rfl, rfl⟩
          have C2b := Lib.hid (C2a.out.keep (w' := x2a.drewN n2) (fun _ _ => rfl))
          have B2b := Lib.hid (bl_drewN B2a.out n2)
          have G2b := Lib.hid (G2a.out.keep (w' := x2a.drewN n2) rfl)
          clear C2a B2a G2a R2
          generalize x2a.drewN n2 = x2b at *
          go_wp2_with fail
          refine (cells_turn b0 cb tb ab 1 64 _ _ _ _ _ F1 x2b C2b.out (by have := hA'.out; omega) (by omega) D 2 (WalkArith.wf_i64 (by have := hD.out; omega))).mono ?_
          rw [ht2]
          simp only [Bool.false_eq_true, ↓reduceIte]
          rintro e u3 ⟨F3, rfl, C3, S3⟩
          have B3 := Lib.hid (C2b.out.low S3.out B2b.out hb0.out)
          have G3' := G2b.out.step S3.out hgf.out
          have G3 := Lib.hid G3'.1
          have hgf := Lib.hid G3'.2
          clear C2b S3 B2b G2b G3' ht2
          go_wp2_with fail
          refine (cells_all b0 cb tb ab 1 64 _ _ _ _ _ F3 u3 C3.out (by have := hA'.out; omega) (by omega) (valsTo z1 z0 len0 k) len0 (headsTo_length _ _ _) (by simp [valsTo]) (by omega) hv.out).mono ?_
          rintro e x4a ⟨a4, c4, rfl, R4, _, C4a, S4⟩
          have B4a := Lib.hid (C3.out.low S4.out B3.out hb0.out)
          have G4a := Lib.hid (G3.out.step S4.out hgf.out).1
          clear C3 S4 B3 G3
          go_wp2_with fail
          refine (vals_true a4 (some ⟨g', 0, none⟩) (valsTo z1 z0 len0 k) len0 (by simp [valsTo]) c4 c' x4a R4.out G4a.out.rd (by simp [valsTo]; omega)).mono ?_
          rintro e x4b ⟨n4, rfl, rfl⟩
          have C4b := Lib.hid (C4a.out.keep (w' := x4a.drewN n4) (fun _ _ => rfl))
          have B4b := Lib.hid (bl_drewN B4a.out n4)
          have G4b := Lib.hid (G4a.out.keep (w' := x4a.drewN n4) rfl)
          clear C4a B4a G4a R4
          generalize x4a.drewN n4 = x4b at *
          go_wp2
          go_ret
          exact ⟨by rfl, B4b.out⟩

set_option maxRecDepth 100000 in
theorem walk_out (a0 : Option Addr) (len0 cap0 : Nat) (a1 : Option Addr) (len1 cap1 : Nat) (a2 : Bool) (w : World) (h : (len0 : Int) < 1 ∨ 8 < (len0 : Int) ∨ 8 < (len1 : Int)) :
    Calls Try.prog 5 #[.slice a0 len0 cap0, .slice a1 len1 cap1, .bool a2] w fun e w' => e = .returned (.bool true) ∧ Below w.heap.size w w' := by
  by_cases h1 : (len0 : Int) < 1
  · clear h
    go_enter Try.func5, Try.ntmps5
    go_wp2_with fail
    refine (alive_any _).mono ?_
    rintro e v1 ⟨rfl, B1⟩
    go_wp2
    go_ret
    exact ⟨rfl, B1.out⟩
  · by_cases h2 : 8 < (len0 : Int)
    · clear h
      go_enter Try.func5, Try.ntmps5
      go_wp2_with fail
      refine (alive_any _).mono ?_
      rintro e v1 ⟨rfl, B1⟩
      go_wp2
      go_ret
      exact ⟨rfl, B1.out⟩
    · have h3 : 8 < (len1 : Int) := by omega
      clear h
      go_enter Try.func5, Try.ntmps5
      go_wp2_with fail
      refine (alive_any _).mono ?_
      rintro e v1 ⟨rfl, B1⟩
      go_wp2
      go_ret
      exact ⟨rfl, B1.out⟩

theorem walk (a0 : Option Addr) (len0 cap0 : Nat) (z0 : Nat → Int) (a1 : Option Addr) (len1 cap1 : Nat) (z1 : Nat → Int) (a2 : Bool) (w : World) (w0 : IsRow .i64 w a0 len0 cap0 z0) (w1 : IsRow .i64 w a1 len1 cap1 z1) :
    Calls Try.prog 5 #[.slice a0 len0 cap0, .slice a1 len1 cap1, .bool a2] w fun e w' => e = .returned (.bool true) ∧ Below w.heap.size w w' := by
  by_cases h : (len0 : Int) < 1 ∨ 8 < (len0 : Int) ∨ 8 < (len1 : Int)
  · exact walk_out a0 len0 cap0 a1 len1 cap1 a2 w h
  · exact walkIn a0 len0 cap0 z0 a1 len1 cap1 z1 a2 w w0 w1 (by omega) (by omega) (by omega)

theorem own : ownKnob Try.prog.godebug = none := by kernel_rfl
theorem laidOut : laidOutB Try.prog = true := by kernel_rfl

/-! ### THE ROW's STEP, as the guide has it -/
set_option maxRecDepth 100000 in
theorem lifted (os : Os) (started : os.Started) (H : Type) (enc : TypeId × Value → H) :
    ReturnsInHanded {} Try.checked os 5 .any (Rows.cellsAtOnceSpec.pre6 enc Try.prog Try.f5 Rows.cellsAtOnceRow.domain false) (Rows.cellsAtOnceSpec.post enc Try.prog Try.f5 false true false false) := by
  refine returnsInHanded_of_change (C := Try.checked) own started (by kernel_rfl) Try.func5
    (ChangeSpec.witness6 (enc := enc) (C := Try.checked) false ⟨#[], #[.slice none 0 0, .slice none 0 0, .bool false], []⟩ 8 (by kernel_rfl) (by kernel_rfl) (by kernel_rfl) (by kernel_rfl)) ?_
  intro W base args ds gs before hval0 hW hcnd _
  have hval : ∀ (j : Nat) t v, Try.f5.params[j]? = some t → args[j]? = some v → Value.okWide Try.prog W .any base t v := hval0
  have hW' := hW
  obtain ⟨p, q, hA0, hV, rfl, hfz, hnd⟩ := hW
  have hA : DataW.TrodAll enc Try.prog W 0 (fun _ => true) true Try.f5.params.toList args.toList ds p := hA0
  rw [Try.params5] at hA hval
  obtain ⟨v0, vs0, d0, ds0, p0, q0, hargs, rfl, rfl, h0, r0⟩ := trodAll_cons hA
  obtain ⟨v1, vs1, d1, ds1, p1, q1, rfl, rfl, rfl, h1, r1⟩ := trodAll_cons r0
  obtain ⟨v2, vs2, d2, ds2, p2, q2, rfl, rfl, rfl, h2, r2⟩ := trodAll_cons r1
  obtain ⟨rfl, rfl, rfl⟩ := trodAll_nil r2
  obtain rfl : args = #[v0, v1, v2] := by cases args; simp_all
  obtain ⟨rfl, rfl⟩ := trodVars_none hV
  obtain ⟨a0, len0, cap0, rfl⟩ := okWide_slice Try.underlying22 (hval 0 22 v0 rfl rfl)
  have k0 := h0
  have lt0 : ∀ x ∈ p0, x.block < W.heap.size := by obtain ⟨m, hm⟩ := k0; exact DataW.trod_lt m _ _ _ hm
  obtain ⟨z0, w0⟩ : ∃ z, IsRow .i64 W a0 len0 cap0 z := by
    obtain ⟨fuel, hf⟩ := h0
    exact isRow_of Try.underlying22 Try.underlying2 (by kernel_rfl) hf
  obtain ⟨a1, len1, cap1, rfl⟩ := okWide_slice Try.underlying22 (hval 1 22 v1 rfl rfl)
  have k1 := h1
  have lt1 : ∀ x ∈ p1, x.block < W.heap.size := by obtain ⟨m, hm⟩ := k1; exact DataW.trod_lt m _ _ _ hm
  obtain ⟨z1, w1⟩ : ∃ z, IsRow .i64 W a1 len1 cap1 z := by
    obtain ⟨fuel, hf⟩ := h1
    exact isRow_of Try.underlying22 Try.underlying2 (by kernel_rfl) hf
  obtain ⟨a2, rfl, rfl, rfl⟩ := open_bool Try.underlying4 (hval 2 4 v2 rfl rfl) h2
  clear hA0 hval0
  refine (walk a0 len0 cap0 z0 a1 len1 cap1 z1 a2 W w0 w1).mono fun e W' ⟨he, bel⟩ => ?_
  subst he
  exact ⟨_, rfl, _, _, _, [], _, [], hW', trodAll_mk1 (shut_bool Try.underlying4 _), (trodAll_cons_mk (Below.trod laidOut (by kernel_rfl) (of_decide_eq_true (by kernel_rfl)) k0 bel lt0) (trodAll_cons_mk (Below.trod laidOut (by kernel_rfl) (of_decide_eq_true (by kernel_rfl)) k1 bel lt1) (trodAll_cons_mk (shut_bool Try.underlying4 _) trodAll_mk0))), rfl, bel.frame _, fun h => by cases h⟩

theorem over : Rows.cellsAtOnceRow.holds Try.pinned (OpenSpec.ofChange Rows.cellsAtOnceSpec) :=
  OpenClaim.holds_of_wide 5 Try.f5 rfl rfl rfl rfl rfl rfl rfl ⟨rfl, rfl, rfl, rfl, rfl⟩ rfl rfl rfl rfl rfl (by kernel_rfl) Try.func5 (by kernel_rfl)
    (of_decide_eq_true (by kernel_rfl)) (by unfold Func.isWrapper; first | (rw [if_pos (by decide +kernel)]; kernel_rfl) | (rw [if_neg (by decide +kernel)]; exact ⟨rfl, rfl⟩))
    (fun os started H enc _ => lifted os started H enc)

theorem proved : Rows.CellsAtOnceSaid := over
#print axioms proved
end Go.Proofs.Yticlmcoegcfanaa.cellsAtOnce
