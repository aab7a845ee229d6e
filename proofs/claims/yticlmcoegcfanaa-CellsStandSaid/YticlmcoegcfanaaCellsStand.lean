/-
  CellsStand: versions have the values, and locators what they were built of, that they were made with, whatever is made, swapped and turned behind that; for any list of first values, any list of values, and whatever the owner is turned to.
  Conditions: none (of no object, of more than 8, and of more than 10 values the law says nothing by itself).
-/
import Derived.Test.YticlmcoegcfanaaRows
import Derived.Test.YticlmcoegcfanaaOpen
import Derived.Test.YticlmcoegcfanaaMade04
import Derived.Test.YticlmcoegcfanaaCellsLem
import Derived.Test.YticlmcoegcfanaaEqRec
namespace Go.Proofs.Yticlmcoegcfanaa.cellsStand
open Go.ChangeShapes Go.WideShapes Go.ChangeAt Go.RowKit Go.Proofs.Yticlmcoegcfanaa.base Go.Proofs.Yticlmcoegcfanaa.ar Go.Proofs.Yticlmcoegcfanaa.ds Go.Proofs.Yticlmcoegcfanaa.mm Go.Proofs.Yticlmcoegcfanaa.rf Go.Proofs.Yticlmcoegcfanaa.vl Go.Proofs.Yticlmcoegcfanaa.ce
set_option linter.unusedVariables false

/-- The old version of the locator number i. -/
def old (D i : Nat) : Int := if i = 0 then 0 else (D : Int) - 1 + 2 * i
/-- The records behind the first ones: the descriptor, and a version and a locator for each value. -/
def rest (z1 : Nat → Int) (D k : Nat) : List Rc := [⟨3, 0, 0, 0, 0, 0, 0, 0, 0⟩] ++ twos (fun i => ⟨1, z1 i, 0, 0, 0, 0, 0, 0, 0⟩) (fun i => ⟨2, 0, D, old D i, D + 1 + 2 * i, 0, 0, 0, 0⟩) k
theorem rest_succ (z1 : Nat → Int) (D k : Nat) : rest z1 D (k + 1) = rest z1 D k ++ [⟨1, z1 k, 0, 0, 0, 0, 0, 0, 0⟩] ++ [⟨2, 0, D, old D k, D + 1 + 2 * k, 0, 0, 0, 0⟩] := by simp [rest, twos_succ]
theorem rest_length (z1 : Nat → Int) (D k : Nat) : (rest z1 D k).length = 2 * k + 1 := by simp [rest, twos_length]

theorem rest_get (z0 z1 : Nat → Int) (L D k j : Nat) (hD : D = 2 * L) (hj : j < k) : recAt (firsts z0 L ++ rest z1 D k) ((D : Int) + 1 + 2 * j) = some ⟨1, z1 j, 0, 0, 0, 0, 0, 0, 0⟩ ∧ recAt (firsts z0 L ++ rest z1 D k) ((D : Int) + 2 + 2 * j) = some ⟨2, 0, D, old D j, D + 1 + 2 * j, 0, 0, 0, 0⟩ := by
  have hfl := firsts_length z0 L
  have h2 := recAt_twos (fun i => ⟨1, z1 i, 0, 0, 0, 0, 0, 0, 0⟩) (fun i => ⟨2, 0, D, old D i, D + 1 + 2 * i, 0, 0, 0, 0⟩) k j hj
  refine ⟨?_, ?_⟩
  · rw [recAt_right _ _ _ (by omega)]
    unfold rest
    rw [recAt_right _ _ _ (by simp; omega)]
    rw [show (D : Int) + 1 + 2 * j - ((firsts z0 L).length : Int) - (([(⟨3, 0, 0, 0, 0, 0, 0, 0, 0⟩ : Rc)] : List Rc).length : Int) = 2 * (j : Int) by simp; omega]
    exact h2.1
  · rw [recAt_right _ _ _ (by omega)]
    unfold rest
    rw [recAt_right _ _ _ (by simp; omega)]
    rw [show (D : Int) + 2 + 2 * j - ((firsts z0 L).length : Int) - (([(⟨3, 0, 0, 0, 0, 0, 0, 0, 0⟩ : Rc)] : List Rc).length : Int) = 2 * (j : Int) + 1 by simp; omega]
    exact h2.2

def ats (D k : Nat) : List Int := (List.range k).map fun (i : Nat) => (D : Int) + 1 + 2 * i
def locs (D k : Nat) : List Int := (List.range k).map fun (i : Nat) => (D : Int) + 2 + 2 * i
theorem ats_succ (D k : Nat) : ints (ats D (k + 1)) = ints (ats D k) ++ [.int .i64 ((D : Int) + 1 + 2 * k)] := by simp [ats, ints, List.range_succ]
theorem locs_succ (D k : Nat) : ints (locs D (k + 1)) = ints (locs D k) ++ [.int .i64 ((D : Int) + 2 + 2 * k)] := by simp [locs, ints, List.range_succ]
theorem ats_get (D k j : Nat) (h : j < k) : (ints (ats D k))[j]? = some (.int .i64 ((D : Int) + 1 + 2 * j)) := by simp [ats, ints, h]
theorem locs_get (D k j : Nat) (h : j < k) : (ints (locs D k))[j]? = some (.int .i64 ((D : Int) + 2 + 2 * j)) := by simp [locs, ints, h]

/-- Two slices of the statement's own, apart from each other, and from what lies in F. -/
structure Two2 (b0 : Nat) (wr : World) (D k : Nat) (F : Nat → Prop) (atv locv : Value) : Prop where
  a : wr.ownsRow b0 3 1 atv k (ints (ats D k))
  l : wr.ownsRow b0 3 1 locv k (ints (locs D k))
  na : ∀ b, atv.ownBlock = some b → ¬ F b
  nl : ∀ b, locv.ownBlock = some b → ¬ F b
  al : ∀ b, atv.ownBlock = some b → locv.ownBlock ≠ some b

theorem Two2.step {b0 : Nat} {wr w' : World} {D k : Nat} {F F' : Nat → Prop} {atv locv : Value} (h : Two2 b0 wr D k F atv locv) (s : Step F F' wr w') : Two2 b0 w' D k F' atv locv := by
  have na : ∀ b, atv.ownBlock = some b → w'.heap[b]? = wr.heap[b]? := fun b e => s.only.block b (h.a.lt b e).2 (h.na b e)
  have nl : ∀ b, locv.ownBlock = some b → w'.heap[b]? = wr.heap[b]? := fun b e => s.only.block b (h.l.lt b e).2 (h.nl b e)
  refine ⟨ownsRow_keep h.a na, ownsRow_keep h.l nl, fun b e hf => ?_, fun b e hf => ?_, h.al⟩
  · rcases s.foot b hf with h1 | h1
    · exact h.na b e h1
    · have := (h.a.lt b e).2; omega
  · rcases s.foot b hf with h1 | h1
    · exact h.nl b e h1
    · have := (h.l.lt b e).2; omega
theorem Two2.shape {b0 : Nat} {wr : World} {D k : Nat} {F : Nat → Prop} {atv locv : Value} (h : Two2 b0 wr D k F atv locv) : ∃ a1 c1 a2 c2, atv = .slice a1 k c1 ∧ locv = .slice a2 k c2 := by
  have f : ∀ {v : Value} {xs : List Value}, wr.ownsRow b0 3 1 v k xs → ∃ a c, v = .slice a k c := by
    intro v xs ho
    rcases ho.2 with ⟨rfl, h0⟩ | ⟨b, cap, cur, rfl, _⟩
    · exact ⟨none, 0, by rw [h0]⟩
    · exact ⟨_, _, rfl⟩
  obtain ⟨a1, c1, e1⟩ := f h.a
  obtain ⟨a2, c2, e2⟩ := f h.l
  exact ⟨a1, c1, a2, c2, e1, e2⟩
theorem Two2.cells {b0 : Nat} {wr : World} {D k : Nat} {F : Nat → Prop} {a1 a2 : Option Addr} {c1 c2 : Nat} (h : Two2 b0 wr D k F (.slice a1 k c1) (.slice a2 k c2)) (j : Nat) (hj : j < k) :
    ∃ g1 g2, a1 = some ⟨g1, 0, none⟩ ∧ a2 = some ⟨g2, 0, none⟩ ∧ wr.cell? ⟨g1, j, none⟩ = some (.int .i64 ((D : Int) + 1 + 2 * j)) ∧ wr.cell? ⟨g2, j, none⟩ = some (.int .i64 ((D : Int) + 2 + 2 * j)) := by
  rcases h.a.2 with ⟨e, h0⟩ | ⟨g, cap, cur, e, _⟩
  · omega
  · rcases h.l.2 with ⟨e', h0⟩ | ⟨g', cap', cur', e', _⟩
    · omega
    · injection e with e1 e2 e3
      injection e' with e1' e2' e3'
      subst e1
      subst e1'
      refine ⟨g, g', rfl, rfl, ?_, ?_⟩
      · rw [← ats_get D k j hj]
        exact h.a.cellAt j (by omega)
      · rw [← locs_get D k j hj]
        exact h.l.cellAt j (by omega)

theorem Two2.cells2 {b0 : Nat} {wr : World} {D k : Nat} {F : Nat → Prop} {g1 g2 c1 c2 : Nat} (h : Two2 b0 wr D k F (.slice (some ⟨g1, 0, none⟩) k c1) (.slice (some ⟨g2, 0, none⟩) k c2)) (j : Nat) (hj : j < k) :
    wr.cell? ⟨g1, j, none⟩ = some (.int .i64 ((D : Int) + 1 + 2 * j)) ∧ wr.cell? ⟨g2, j, none⟩ = some (.int .i64 ((D : Int) + 2 + 2 * j)) := by
  obtain ⟨a, b, e1, e2, h1, h2⟩ := h.cells j hj
  cases e1
  cases e2
  exact ⟨h1, h2⟩

def Rel1 (w : World) (b0 cb tb ab L D : Nat) (is : Int → Bool) (num : Int → Nat → Int) (z0 z1 : Nat → Int) (len : Nat) (atv locv i : Value) (wr : World) : Prop :=
  ∃ (k : Nat) (F : Nat → Prop) (B : Int) (hd : List Int), k ≤ len ∧ i = .int .i64 k ∧ (0 ≤ B ∧ B ≤ 1000 + 600 * k) ∧ hd.length = L ∧ Cel b0 wr cb tb ab 64 (firsts z0 L ++ rest z1 D k) hd 1 is num B F ∧ Two2 b0 wr D k F atv locv ∧ Below w.heap.size w wr

def Rel2 (w : World) (b0 cb tb ab L D : Nat) (is : Int → Bool) (num : Int → Nat → Int) (z0 z1 : Nat → Int) (hd : List Int) (k : Nat) (F : Nat → Prop) (atv locv i : Value) (wr : World) : Prop :=
  ∃ (m : Nat) (B : Int), m ≤ k ∧ i = .int .i64 m ∧ (0 ≤ B ∧ B ≤ 10000 + 600 * m) ∧ Cel b0 wr cb tb ab 64 (firsts z0 L ++ rest z1 D k) hd 1 is num B F ∧ Two2 b0 wr D k F atv locv ∧ Below w.heap.size w wr

/-- Both are appended to, one behind the other. -/
theorem Two2.push {b0 : Nat} {u w1 w2 : World} {D k : Nat} {F : Nat → Prop} {v1 v2 : Value} {o1 o2 : Obj} {g1 c1 g2 c2 : Nat} {x y : Int} (h : Two2 b0 u D k F v1 v2) (hF : ∀ b, F b → b < u.heap.size) (hb0 : b0 ≤ u.heap.size) (hx : x = (D : Int) + 1 + 2 * k) (hy : y = (D : Int) + 2 + 2 * k)
    (ho1 : w1.ownsRow b0 3 1 (.slice (some ⟨g1, 0, none⟩) (k + 1) c1) (k + 1) (ints (ats D k) ++ [.int .i64 x])) (hg1 : (u.alloc o1).grownBy w1 v1.ownBlock) (hv1 : some g1 = v1.ownBlock ∨ (u.alloc o1).heap.size ≤ g1)
    (ho2 : w2.ownsRow b0 3 1 (.slice (some ⟨g2, 0, none⟩) (k + 1) c2) (k + 1) (ints (locs D k) ++ [.int .i64 y])) (hg2 : (w1.alloc o2).grownBy w2 v2.ownBlock) (hv2 : some g2 = v2.ownBlock ∨ (w1.alloc o2).heap.size ≤ g2) :
    Two2 b0 w2 D (k + 1) F (.slice (some ⟨g1, 0, none⟩) (k + 1) c1) (.slice (some ⟨g2, 0, none⟩) (k + 1) c2) ∧ (∀ b, F b → w2.heap[b]? = u.heap[b]?) ∧ Below b0 u w2 := by
  have s0 : (u.alloc o1).heap.size = u.heap.size + 1 := by simp
  have s1 := hg1.size
  have s2 : (w1.alloc o2).heap.size = w1.heap.size + 1 := by simp
  have s3 := hg2.size
  have l1 : g1 < w1.heap.size := (ho1.lt g1 rfl).2
  have n12 : v2.ownBlock ≠ some g1 := fun e => by
    rcases hv1 with e1 | e1
    · exact h.al g1 e1.symm e
    · have := (h.l.lt g1 e).2; omega
  have keep1 : ∀ b, b < u.heap.size → v1.ownBlock ≠ some b → w1.heap[b]? = u.heap[b]? := fun b hb hn => (hg1.block b (by omega) (fun e => hn e.symm)).trans (Below.heap_alloc u o1 b hb)
  have keep2 : ∀ b, b < w1.heap.size → v2.ownBlock ≠ some b → w2.heap[b]? = w1.heap[b]? := fun b hb hn => (hg2.block b (by omega) (fun e => hn e.symm)).trans (Below.heap_alloc w1 o2 b hb)
  refine ⟨⟨?_, ?_, fun b e hf => ?_, fun b e hf => ?_, fun b e e2 => ?_⟩, fun b hb => ?_, ?_⟩
  · rw [ats_succ, ← hx]
    exact ownsRow_keep ho1 (fun b e => by
      have e2 : some g1 = some b := e
      injection e2 with e2
      subst e2
      exact keep2 g1 l1 n12)
  · rw [locs_succ, ← hy]
    exact ho2
  · have e2 : some g1 = some b := e
    injection e2 with e2
    subst e2
    rcases hv1 with e1 | e1
    · exact h.na g1 e1.symm hf
    · have := hF g1 hf; omega
  · have e2 : some g2 = some b := e
    injection e2 with e2
    subst e2
    rcases hv2 with e1 | e1
    · exact h.nl g2 e1.symm hf
    · have := hF g2 hf; omega
  · have e3 : some g1 = some b := e
    have e4 : some g2 = some b := e2
    injection e3 with e3
    injection e4 with e4
    subst e3
    subst e4
    rcases hv2 with e1 | e1
    · exact n12 e1.symm
    · omega
  · have h1 := hF b hb
    rw [keep2 b (by omega) (fun e => h.nl b e hb), keep1 b h1 (fun e => h.na b e hb)]
  · refine ⟨hg2.os.trans hg1.os, hg2.tape.trans hg1.tape, hg2.output.trans hg1.output, by omega, fun b hb => ?_⟩
    rw [keep2 b (by omega) (fun e => by have := (h.l.lt b e).1; omega), keep1 b (by omega) (fun e => by have := (h.a.lt b e).1; omega)]

set_option maxRecDepth 100000 in
set_option maxHeartbeats 8000000 in
theorem walkIn (a0 : Option Addr) (len0 cap0 : Nat) (z0 : Nat → Int) (a1 : Option Addr) (len1 cap1 : Nat) (z1 : Nat → Int) (a2 : Int) (w : World) (w0 : IsRow .i64 w a0 len0 cap0 z0) (w1 : IsRow .i64 w a1 len1 cap1 z1) (h0 : ¬ (len0 : Int) < 1) (h1 : ¬ 8 < (len0 : Int)) (h3 : ¬ 10 < (len1 : Int)) :
    Calls Try.prog 8 #[.slice a0 len0 cap0, .slice a1 len1 cap1, .int .i64 a2] w fun e w' => e = .returned (.bool true) ∧ Below w.heap.size w w' := by
  have W0 := Lib.hid w0
  have W1 := Lib.hid w1
  clear w0 w1
  obtain ⟨D, hD0⟩ : ∃ D : Nat, D = 2 * len0 := ⟨_, rfl⟩
  have hD := Lib.hid hD0
  clear hD0
  obtain ⟨i0, hi0, hz00, hz10, hz20⟩ := info_parts infoInt
  have hi := Lib.hid hi0
  have hz0 := Lib.hid hz00
  have hz1 := Lib.hid hz10
  have hz2 := Lib.hid hz20
  clear hi0 hz00 hz10 hz20
  go_enter Try.func8, Try.ntmps8
  go_wp2_with fail
  refine (alive_any _).mono ?_
  rintro e v1 ⟨rfl, B1⟩
  go_wp2_with fail
  refine (made_ok 64 (by omega) _ len0 cap0 z0 v1 (W0.out.below B1.out) (by omega) (by omega) (by omega)).mono ?_
  rintro e v2 ⟨ab, tb, cb, F2, rfl, C2, g2⟩
  have B2 := Lib.hid (bl_none B1.out g2.out)
  have hb0 : Hid (w.heap.size ≤ v1.heap.size) := B1.out.size
  generalize v1.heap.size = b0 at *
  clear B1 g2
  go_wp2_with fail
  refine (cells_begin b0 cb tb ab 0 64 _ _ _ _ _ F2 v2 C2.out (by omega) (by omega) (by omega) 0 0 0 0 0 D (by rw [firsts_length, hD.out]) (by have := hD.out; omega) (by omega) rfl (by omega)).mono ?_
  rintro e v3 ⟨F3, rfl, C3, S3⟩
  have B3 := Lib.hid (C2.out.low S3.out B2.out hb0.out)
  generalize more (fun _ => false) (D : Int) true = is at *
  generalize more (fun _ _ => (0 : Int)) (D : Int) (fun c => if c = 0 then 1 else if c = 1 then 0 else 0) = num at *
  have E0 : Hid (firsts z0 len0 ++ [(⟨3, 0, 0, 0, 0, 0, 0, 0, 0⟩ : Rc)] = firsts z0 len0 ++ rest z1 D 0) := by simp [Hid, rest, twos]
  clear C2 S3 B2
  go_wp2_with fail
  go_loopw [13, 14, 15] (fun atv locv i wr => Rel1 w b0 cb tb ab len0 D is num z0 z1 len1 atv locv i wr) (fun _ _ i _ => (len1 - intOf i).toNat)
  case atStart => exact ⟨0, F3, 100 + 100, heads len0, by omega, rfl, by omega, by simp [heads], by rw [← E0.out]; exact C3.out, ⟨World.ownsRow_nil _ _ _ _, World.ownsRow_nil _ _ _ _, by simp [Value.ownBlock], by simp [Value.ownBlock], by simp [Value.ownBlock]⟩, B3.out⟩
  case round =>
    clear C3 B3
    obtain ⟨k, F, B, hd, hk, rfl, hA, hh0, C0, T0, BB0⟩ := hrel
    obtain ⟨ao1, cp1, ao2, cp2, rfl, rfl⟩ := T0.shape
    have C := Lib.hid C0
    have T := Lib.hid T0
    have BB := Lib.hid BB0
    have hA' := Lib.hid hA
    have hh := Lib.hid hh0
    clear C0 T0 BB0 hA hh0
    by_cases hlt : k < len1
    · obtain ⟨_, _, h | ⟨b2, off2, rfl, hb2, hz⟩⟩ := W1.out
      · exfalso; omega
      have hcell := (BB.out.cell (p := ⟨b2, off2 + k, none⟩) hb2).trans (hz k hlt).1
      have hlt' : (k : Int) < (len1 : Int) := by omega
      obtain ⟨j, hj, hjl⟩ : ∃ j : Nat, (k : Int).tmod (len0 : Int) = (j : Int) ∧ j < len0 := by
        have h1 : 0 ≤ (k : Int).tmod (len0 : Int) := Int.tmod_nonneg _ (by omega)
        have h2 : (k : Int).tmod (len0 : Int) < (len0 : Int) := Int.tmod_lt_of_pos _ (by omega)
        exact ⟨((k : Int).tmod (len0 : Int)).toNat, by omega, by omega⟩
      have hkz0 : ((len0 : Int) == 0) = false := by simp; omega
      clear hz
      by_cases hk0 : k = 0
      · have hkz : (k : Int) ≤ 0 := by omega
        have hold : old D k = 0 := by simp [old, hk0]
        clear hk0
        go_wp2_with fail
        refine (cells_version b0 cb tb ab 1 64 _ _ _ _ B F wr C.out (by have := hA'.out; omega) (by omega) (z1 k) (D + 1 + 2 * k) (by rw [List.length_append, rest_length, firsts_length, hD.out]; omega) (by have := hD.out; omega)).mono ?_
        rintro e u1 ⟨F1, rfl, C1, S1⟩
        have B1 := Lib.hid (C.out.low S1.out BB.out hb0.out)
        have T1 := Lib.hid (T.out.step S1.out)
        clear C S1 BB T hcell
        have HK1 : Hid (IsK (firsts z0 len0 ++ rest z1 D k ++ [⟨1, z1 k, 0, 0, 0, 0, 0, 0, 0⟩]) 0 1) := ⟨_, by rw [List.append_assoc, recAt_left _ _ _ (by rw [firsts_length]; omega)]; have := (recAt_twos (fun i => ⟨1, z0 i, 0, 0, 0, 0, 0, 0, 0⟩) (fun i => ⟨2, 0, -1, 2 * i, 2 * i, 0, 0, 0, 0⟩) len0 0 (by omega)).1; exact this, rfl⟩
        have HK2 : Hid (IsK (firsts z0 len0 ++ rest z1 D k ++ [⟨1, z1 k, 0, 0, 0, 0, 0, 0, 0⟩]) (((D + 1 + 2 * k : Nat)) : Int) 1) := ⟨_, by
          rw [recAt_right _ _ _ (by rw [List.length_append, rest_length, firsts_length]; have := hD.out; omega)]
          rw [show ((D + 1 + 2 * k : Nat) : Int) - ((firsts z0 len0 ++ rest z1 D k).length : Int) = 0 by rw [List.length_append, rest_length, firsts_length]; have := hD.out; omega]
          rfl, rfl⟩
        go_wp2_with fail
        refine (cells_build b0 cb tb ab 1 64 _ _ _ _ _ F1 u1 C1.out (by have := hA'.out; omega) (by omega) D 0 ((D + 1 + 2 * k : Nat) : Int) (by omega) HK1.out HK2.out (D + 2 + 2 * k) (by rw [List.length_append, List.length_append, rest_length, firsts_length, hD.out]; simp; omega) (by have := hD.out; omega)).mono ?_
        rintro e u2 ⟨F2, rfl, C2', S2⟩
        have B2 := Lib.hid (C1.out.low S2.out B1.out hb0.out)
        have T2 := Lib.hid (T1.out.step S2.out)
        have C2 : Hid (Cel b0 u2 cb tb ab 64 (firsts z0 len0 ++ rest z1 D (k + 1)) hd 1 is num (B + 100 + 100) F2) := by
          have e1 : firsts z0 len0 ++ rest z1 D (k + 1) = firsts z0 len0 ++ rest z1 D k ++ [⟨1, z1 k, 0, 0, 0, 0, 0, 0, 0⟩] ++ [⟨2, 0, D, 0, ((D + 1 + 2 * k : Nat) : Int), 0, 0, 0, 0⟩] := by rw [rest_succ, hold]; simp
          rw [e1]
          exact C2'.out
        clear C1 S2 B1 T1 C2' HK1 HK2
        have hbs : Hid (b0 ≤ u2.heap.size) := C2.out.base_size
        go_wp2_with (first | (at_builtin; refine wpList_append_at _ rfl (.tmp 98) (.tmp 100) 35 rfl b0 3 i0 (.int .i64 0) 1 8 Try.underlying35 hi.out hz0.out hz1.out hz2.out rfl (by decide) _ k (ints (ats D k)) rfl (T2.out.a.alloc _) ⟨u2.heap.size, 0, none⟩ 1 1 [.int .i64 ((D + 1 + 2 * k : Nat) : Int)] rfl rfl (new_cells _ _ _) (by intro u hu; simp at hu; subst hu; rfl) (by unfold maxLen; omega) (by omega) (by have := hbs.out; simp; omega) (by decide) ?_; intro g1 c1 w1 ho1 hg1 hv1; have hl1 : Hid (w1.ownsRow b0 3 1 _ k (ints (locs D k))) := ownsRow_keep T2.out.l (fun b e => (hg1.block b (by have := (T2.out.l.lt b e).2; simp; omega) (fun e2 => T2.out.al b e2.symm e)).trans (Below.heap_alloc u2 _ b (T2.out.l.lt b e).2)); have Ho1 := Lib.hid ho1; have Hg1 := Lib.hid hg1; have Hv1 := Lib.hid hv1; have hs1 := Lib.hid hg1.size; clear ho1 hg1 hv1) | (at_builtin; refine wpList_append_at _ rfl (.tmp 102) (.tmp 104) 35 rfl b0 3 i0 (.int .i64 0) 1 8 Try.underlying35 hi.out hz0.out hz1.out hz2.out rfl (by decide) _ k (ints (locs D k)) rfl (hl1.out.alloc _) ⟨w1.heap.size, 0, none⟩ 1 1 [.int .i64 ((D + 2 + 2 * k : Nat) : Int)] rfl rfl (new_cells _ _ _) (by intro u hu; simp at hu; subst hu; rfl) (by unfold maxLen; omega) (by omega) (by have := hbs.out; have := hs1.out; simp at this ⊢; omega) (by decide) ?_; intro g2 c2 w2 ho2 hg2 hv2; have Ho2 := Lib.hid ho2; have Hg2 := Lib.hid hg2; have Hv2 := Lib.hid hv2; clear ho2 hg2 hv2))
        obtain ⟨TT, KF, KB⟩ := Two2.push T2.out (fun b hb => (C2.out.foot b hb).2) hbs.out (by omega) (by omega) Ho1.out Hg1.out Hv1.out Ho2.out Hg2.out Hv2.out
        have T3 := Lib.hid TT
        have C3 := Lib.hid (C2.out.keep KF)
        have B3 := Lib.hid (B2.out.trans (bl_weak KB hb0.out))
        obtain ⟨p, hp⟩ : ∃ p, hd[j]? = some p := ⟨_, List.getElem?_eq_getElem (by have := hh.out; omega)⟩
        have Hp := Lib.hid hp
        clear TT KF KB C2 B2 T2 hl1 Ho1 Hg1 Hv1 Ho2 Hg2 Hv2 hs1 hp
        refine (cells_load b0 cb tb ab 1 64 _ _ _ _ _ F2 w2 C3.out (by have := hA'.out; omega) (by omega) j p Hp.out).mono ?_
        rintro e u4 ⟨rfl, C4, S4⟩
        have B4 := Lib.hid (C3.out.low S4.out B3.out hb0.out)
        have T4 := Lib.hid (T3.out.step S4.out)
        clear C3 S4 B3 T3
        go_wp2_with fail
        refine (cells_swap b0 cb tb ab 1 64 _ _ _ _ _ F2 u4 C4.out (by have := hA'.out; omega) (by omega) j p p ((D + 2 + 2 * k : Nat) : Int) Hp.out).mono ?_
        simp only [beq_self_eq_true, if_true]
        rintro e u5 ⟨rfl, C5, S5⟩
        have B5 := Lib.hid (C4.out.low S5.out B4.out hb0.out)
        have T5 := Lib.hid (T4.out.step S5.out)
        clear C4 S5 B4 T4
        go_wp2
        go_roundw
        case rel => exact ⟨k + 1, F2, _, hd.set j ((D + 2 + 2 * k : Nat) : Int), by omega, by go_num, by have := hA'.out; omega, by rw [List.length_set]; exact hh.out, C5.out, T5.out, B5.out⟩
        case measure => simp [intOf]; omega
      · obtain ⟨k', hkk0⟩ : ∃ k', k = k' + 1 := ⟨k - 1, by omega⟩
        have hkk := Lib.hid hkk0
        have hsub : (k : Int) - 1 = (k' : Int) := by omega
        have hkp : (0 : Int) < (k : Int) := by omega
        have hkl : (k' : Int) < (k : Int) := by omega
        clear hk0 hkk0
        go_wp2_with fail
        refine (cells_version b0 cb tb ab 1 64 _ _ _ _ B F wr C.out (by have := hA'.out; omega) (by omega) (z1 k) (D + 1 + 2 * k) (by rw [List.length_append, rest_length, firsts_length, hD.out]; omega) (by have := hD.out; omega)).mono ?_
        rintro e u1 ⟨F1, rfl, C1, S1⟩
        have B1 := Lib.hid (C.out.low S1.out BB.out hb0.out)
        have T1 := Lib.hid (T.out.step S1.out)
        clear C S1 BB T hcell
        obtain ⟨gg1, gg2, rfl, rfl, hat, _⟩ := T1.out.cells k' (by have := hkk.out; omega)
        have hat' : u1.cell? ⟨gg1, k', none⟩ = some (.int .i64 (old D k)) := by rw [hat]; congr 2; unfold old; rw [if_neg (by have := hkk.out; omega)]; have := hkk.out; omega
        have hal := World.block_lt_of_cell? _ _ hat'
        clear hat
        have HK1 : Hid (IsK (firsts z0 len0 ++ rest z1 D k ++ [⟨1, z1 k, 0, 0, 0, 0, 0, 0, 0⟩]) (old D k) 1) := ⟨_, by rw [recAt_left _ _ _ (by rw [List.length_append, rest_length, firsts_length]; unfold old; rw [if_neg (by have := hkk.out; omega)]; have := hD.out; omega)]; have := (rest_get z0 z1 len0 D k k' hD.out (by have := hkk.out; omega)).1; rw [show old D k = (D : Int) + 1 + 2 * k' by unfold old; rw [if_neg (by have := hkk.out; omega)]; have := hkk.out; omega]; exact this, rfl⟩
        have HK2 : Hid (IsK (firsts z0 len0 ++ rest z1 D k ++ [⟨1, z1 k, 0, 0, 0, 0, 0, 0, 0⟩]) (((D + 1 + 2 * k : Nat)) : Int) 1) := ⟨_, by
          rw [recAt_right _ _ _ (by rw [List.length_append, rest_length, firsts_length]; have := hD.out; omega)]
          rw [show ((D + 1 + 2 * k : Nat) : Int) - ((firsts z0 len0 ++ rest z1 D k).length : Int) = 0 by rw [List.length_append, rest_length, firsts_length]; have := hD.out; omega]
          rfl, rfl⟩
        go_wp2_with fail
        refine (cells_build b0 cb tb ab 1 64 _ _ _ _ _ F1 u1 C1.out (by have := hA'.out; omega) (by omega) D (old D k) ((D + 1 + 2 * k : Nat) : Int) (by omega) HK1.out HK2.out (D + 2 + 2 * k) (by rw [List.length_append, List.length_append, rest_length, firsts_length, hD.out]; simp; omega) (by have := hD.out; omega)).mono ?_
        rintro e u2 ⟨F2, rfl, C2', S2⟩
        have B2 := Lib.hid (C1.out.low S2.out B1.out hb0.out)
        have T2 := Lib.hid (T1.out.step S2.out)
        have C2 : Hid (Cel b0 u2 cb tb ab 64 (firsts z0 len0 ++ rest z1 D (k + 1)) hd 1 is num (B + 100 + 100) F2) := by
          have e1 : firsts z0 len0 ++ rest z1 D (k + 1) = firsts z0 len0 ++ rest z1 D k ++ [⟨1, z1 k, 0, 0, 0, 0, 0, 0, 0⟩] ++ [⟨2, 0, D, (old D k), ((D + 1 + 2 * k : Nat) : Int), 0, 0, 0, 0⟩] := by rw [rest_succ]; simp
          rw [e1]
          exact C2'.out
        clear C1 S2 B1 T1 C2' HK1 HK2
        have hbs : Hid (b0 ≤ u2.heap.size) := C2.out.base_size
        go_wp2_with (first | (at_builtin; refine wpList_append_at _ rfl (.tmp 98) (.tmp 100) 35 rfl b0 3 i0 (.int .i64 0) 1 8 Try.underlying35 hi.out hz0.out hz1.out hz2.out rfl (by decide) _ k (ints (ats D k)) rfl (T2.out.a.alloc _) ⟨u2.heap.size, 0, none⟩ 1 1 [.int .i64 ((D + 1 + 2 * k : Nat) : Int)] rfl rfl (new_cells _ _ _) (by intro u hu; simp at hu; subst hu; rfl) (by unfold maxLen; omega) (by omega) (by have := hbs.out; simp; omega) (by decide) ?_; intro g1 c1 w1 ho1 hg1 hv1; have hl1 : Hid (w1.ownsRow b0 3 1 _ k (ints (locs D k))) := ownsRow_keep T2.out.l (fun b e => (hg1.block b (by have := (T2.out.l.lt b e).2; simp; omega) (fun e2 => T2.out.al b e2.symm e)).trans (Below.heap_alloc u2 _ b (T2.out.l.lt b e).2)); have Ho1 := Lib.hid ho1; have Hg1 := Lib.hid hg1; have Hv1 := Lib.hid hv1; have hs1 := Lib.hid hg1.size; clear ho1 hg1 hv1) | (at_builtin; refine wpList_append_at _ rfl (.tmp 102) (.tmp 104) 35 rfl b0 3 i0 (.int .i64 0) 1 8 Try.underlying35 hi.out hz0.out hz1.out hz2.out rfl (by decide) _ k (ints (locs D k)) rfl (hl1.out.alloc _) ⟨w1.heap.size, 0, none⟩ 1 1 [.int .i64 ((D + 2 + 2 * k : Nat) : Int)] rfl rfl (new_cells _ _ _) (by intro u hu; simp at hu; subst hu; rfl) (by unfold maxLen; omega) (by omega) (by have := hbs.out; have := hs1.out; simp at this ⊢; omega) (by decide) ?_; intro g2 c2 w2 ho2 hg2 hv2; have Ho2 := Lib.hid ho2; have Hg2 := Lib.hid hg2; have Hv2 := Lib.hid hv2; clear ho2 hg2 hv2))
        obtain ⟨TT, KF, KB⟩ := Two2.push T2.out (fun b hb => (C2.out.foot b hb).2) hbs.out (by omega) (by omega) Ho1.out Hg1.out Hv1.out Ho2.out Hg2.out Hv2.out
        have T3 := Lib.hid TT
        have C3 := Lib.hid (C2.out.keep KF)
        have B3 := Lib.hid (B2.out.trans (bl_weak KB hb0.out))
        obtain ⟨p, hp⟩ : ∃ p, hd[j]? = some p := ⟨_, List.getElem?_eq_getElem (by have := hh.out; omega)⟩
        have Hp := Lib.hid hp
        clear TT KF KB C2 B2 T2 hl1 Ho1 Hg1 Hv1 Ho2 Hg2 Hv2 hs1 hp
        refine (cells_load b0 cb tb ab 1 64 _ _ _ _ _ F2 w2 C3.out (by have := hA'.out; omega) (by omega) j p Hp.out).mono ?_
        rintro e u4 ⟨rfl, C4, S4⟩
        have B4 := Lib.hid (C3.out.low S4.out B3.out hb0.out)
        have T4 := Lib.hid (T3.out.step S4.out)
        clear C3 S4 B3 T3
        go_wp2_with fail
        refine (cells_swap b0 cb tb ab 1 64 _ _ _ _ _ F2 u4 C4.out (by have := hA'.out; omega) (by omega) j p p ((D + 2 + 2 * k : Nat) : Int) Hp.out).mono ?_
        simp only [beq_self_eq_true, if_true]
        rintro e u5 ⟨rfl, C5, S5⟩
        have B5 := Lib.hid (C4.out.low S5.out B4.out hb0.out)
        have T5 := Lib.hid (T4.out.step S5.out)
        clear C4 S5 B4 T4
        go_wp2
        go_roundw
        case rel => exact ⟨k + 1, F2, _, hd.set j ((D + 2 + 2 * k : Nat) : Int), by omega, by go_num, by have := hA'.out; omega, by rw [List.length_set]; exact hh.out, C5.out, T5.out, B5.out⟩
        case measure => simp [intOf]; omega
    · obtain rfl : k = len1 := by omega
      go_wp2_with fail
      refine (cells_turn b0 cb tb ab 1 64 _ _ _ _ B F wr C.out (by have := hA'.out; omega) (by omega) D a2 (WalkArith.wf_i64 (by have := hD.out; omega))).mono ?_
      rintro e u1 ⟨F1, rfl, C1, S1⟩
      have B1 := Lib.hid (C.out.low S1.out BB.out hb0.out)
      have T1 := Lib.hid (T.out.step S1.out)
      clear C S1 BB T
      generalize (if turns is num D a2 = true then upd num D 0 a2 else num) = num5 at *
      have hB9 : Hid (0 ≤ B + 100 ∧ B + 100 ≤ 10000) := by have := hA'.out; unfold Hid; omega
      generalize B + 100 = B9 at *
      clear hA'
      go_wp2_with fail
      go_loopw [23] (fun i wr => Rel2 w b0 cb tb ab len0 D is num5 z0 z1 hd k F1 (.slice ao1 k cp1) (.slice ao2 k cp2) i wr) (fun i _ => (k - intOf i).toNat)
      case atStart => exact ⟨0, B9, by omega, rfl, by have := hB9.out; omega, C1.out, T1.out, B1.out⟩
      case round =>
        clear C1 T1 B1 hB9
        obtain ⟨m, B0, hm, rfl, hA, C0, T0, BB0⟩ := hrel
        have C := Lib.hid C0
        have T := Lib.hid T0
        have BB := Lib.hid BB0
        have hA' := Lib.hid hA
        clear C0 T0 BB0 hA
        by_cases hlm : m < k
        · obtain ⟨_, _, h | ⟨b2, off2, rfl, hb2, hz⟩⟩ := W1.out
          · exfalso; omega
          have hz' := Lib.hid (hz m hlm).1
          obtain ⟨gg1, gg2, rfl, rfl, ca, _⟩ := T.out.cells m hlm
          have hrg := Lib.hid (rest_get z0 z1 len0 D k m hD.out hlm)
          have hlm' : (m : Int) < (k : Int) := by omega
          have la := World.block_lt_of_cell? _ _ ca
          clear hz
          go_wp2_with fail
          refine (cells_value b0 cb tb ab 1 64 _ _ _ _ B0 F1 wr C.out (by have := hA'.out; omega) (by omega) ((D : Int) + 1 + 2 * m) ⟨1, z1 m, 0, 0, 0, 0, 0, 0, 0⟩ hrg.out.1 rfl).mono ?_
          rintro e u2 ⟨rfl, C2, S2⟩
          have B2 := Lib.hid (C.out.low S2.out BB.out hb0.out)
          have T2 := Lib.hid (T.out.step S2.out)
          have cl := (T2.out.cells2 m hlm).2
          have ll := World.block_lt_of_cell? _ _ cl
          have hloc := cells_locator b0 cb tb ab 1 64 _ _ _ _ _ F1 u2 C2.out (by have := hA'.out; omega) (by omega) ((D : Int) + 2 + 2 * m) _ hrg.out.2 rfl
          dsimp only at hloc
          clear C S2 BB T ca la
          go_wp2_with fail
          refine hloc.mono ?_
          rintro e u3 ⟨rfl, C3, S3⟩
          have B3 := Lib.hid (C2.out.low S3.out B2.out hb0.out)
          have T3 := Lib.hid (T2.out.step S3.out)
          have ca := (T3.out.cells2 m hlm).1
          have la := World.block_lt_of_cell? _ _ ca
          have hv := (B3.out.cell (p := ⟨b2, off2 + m, none⟩) hb2).trans hz'.out
          have lv := World.block_lt_of_cell? _ _ hv
          clear C2 S3 B2 T2 cl ll hloc hrg
          by_cases hm0 : m = 0
          · have hmz : (m : Int) ≤ 0 := by omega
            have hold : old D m = 0 := by simp [old, hm0]
            clear hm0
            go_wp2_with fail
            go_quiet (fail)
            have G5 : u3.grownBy ((u3.alloc (.cells #[.int .i64 2, .int .i64 0, .int .i64 D, .int .i64 0, .int .i64 ((D : Int) + 1 + 2 * m), .int .i64 0, .int .i64 0, .int .i64 0, .int .i64 0] 45)).drewN nq) none := gb_drewN (gb_alloc (gb_refl _ _) _) _
            have C5 := Lib.hid (C3.out.grown G5)
            have T5 : Hid (Two2 b0 ((u3.alloc (.cells #[.int .i64 2, .int .i64 0, .int .i64 D, .int .i64 0, .int .i64 ((D : Int) + 1 + 2 * m), .int .i64 0, .int .i64 0, .int .i64 0, .int .i64 0] 45)).drewN nq) D k F1 (.slice (some ⟨gg1, 0, none⟩) k cp1) (.slice (some ⟨gg2, 0, none⟩) k cp2)) := T3.out.step (Step.none G5)
            have B5 := Lib.hid (bl_none B3.out G5)
            clear G5 C3 T3 B3
            generalize ((u3.alloc (.cells #[.int .i64 2, .int .i64 0, .int .i64 D, .int .i64 0, .int .i64 ((D : Int) + 1 + 2 * m), .int .i64 0, .int .i64 0, .int .i64 0, .int .i64 0] 45)).drewN nq) = u5 at *
            go_wp2
            go_roundw
            case rel => exact ⟨m + 1, _, by omega, by go_num, by have := hA'.out; omega, C5.out, T5.out, B5.out⟩
            case measure => simp [intOf]; omega
          · obtain ⟨m', hmm0⟩ : ∃ m', m = m' + 1 := ⟨m - 1, by omega⟩
            have hmm := Lib.hid hmm0
            have cb' := (T3.out.cells2 m' (by omega)).1
            have cb2 : u3.cell? ⟨gg1, m', none⟩ = some (.int .i64 (old D m)) := by rw [cb']; congr 2; unfold old; rw [if_neg (by omega)]; omega
            have hsub : (m : Int) - 1 = (m' : Int) := by omega
            have hmp : (0 : Int) < (m : Int) := by omega
            have hml : (m' : Int) < (k : Int) := by omega
            clear hm0 hmm0 cb'
            go_wp2_with fail
            go_quiet (fail)
            have G5 : u3.grownBy ((u3.alloc (.cells #[.int .i64 2, .int .i64 0, .int .i64 D, .int .i64 (old D m), .int .i64 ((D : Int) + 1 + 2 * m), .int .i64 0, .int .i64 0, .int .i64 0, .int .i64 0] 45)).drewN nq) none := gb_drewN (gb_alloc (gb_refl _ _) _) _
            have C5 := Lib.hid (C3.out.grown G5)
            have T5 : Hid (Two2 b0 ((u3.alloc (.cells #[.int .i64 2, .int .i64 0, .int .i64 D, .int .i64 (old D m), .int .i64 ((D : Int) + 1 + 2 * m), .int .i64 0, .int .i64 0, .int .i64 0, .int .i64 0] 45)).drewN nq) D k F1 (.slice (some ⟨gg1, 0, none⟩) k cp1) (.slice (some ⟨gg2, 0, none⟩) k cp2)) := T3.out.step (Step.none G5)
            have B5 := Lib.hid (bl_none B3.out G5)
            clear G5 C3 T3 B3
            generalize ((u3.alloc (.cells #[.int .i64 2, .int .i64 0, .int .i64 D, .int .i64 (old D m), .int .i64 ((D : Int) + 1 + 2 * m), .int .i64 0, .int .i64 0, .int .i64 0, .int .i64 0] 45)).drewN nq) = u5 at *
            go_wp2
            go_roundw
            case rel => exact ⟨m + 1, _, by omega, by go_num, by have := hA'.out; omega, C5.out, T5.out, B5.out⟩
            case measure => simp [intOf]; omega
        · obtain rfl : m = k := by omega
          go_wp2
          go_ret
          exact ⟨rfl, BB.out⟩

set_option maxRecDepth 100000 in
theorem walk_out (a0 : Option Addr) (len0 cap0 : Nat) (a1 : Option Addr) (len1 cap1 : Nat) (a2 : Int) (w : World) (h : (len0 : Int) < 1 ∨ 8 < (len0 : Int) ∨ 10 < (len1 : Int)) :
    Calls Try.prog 8 #[.slice a0 len0 cap0, .slice a1 len1 cap1, .int .i64 a2] w fun e w' => e = .returned (.bool true) ∧ Below w.heap.size w w' := by
  by_cases h1 : (len0 : Int) < 1
  · clear h
    go_enter Try.func8, Try.ntmps8
    go_wp2_with fail
    refine (alive_any _).mono ?_
    rintro e v1 ⟨rfl, B1⟩
    go_wp2
    go_ret
    exact ⟨rfl, B1.out⟩
  · by_cases h2 : 8 < (len0 : Int)
    · clear h
      go_enter Try.func8, Try.ntmps8
      go_wp2_with fail
      refine (alive_any _).mono ?_
      rintro e v1 ⟨rfl, B1⟩
      go_wp2
      go_ret
      exact ⟨rfl, B1.out⟩
    · have h3 : 10 < (len1 : Int) := by omega
      clear h
      go_enter Try.func8, Try.ntmps8
      go_wp2_with fail
      refine (alive_any _).mono ?_
      rintro e v1 ⟨rfl, B1⟩
      go_wp2
      go_ret
      exact ⟨rfl, B1.out⟩

theorem walk (a0 : Option Addr) (len0 cap0 : Nat) (z0 : Nat → Int) (a1 : Option Addr) (len1 cap1 : Nat) (z1 : Nat → Int) (a2 : Int) (w : World) (w0 : IsRow .i64 w a0 len0 cap0 z0) (w1 : IsRow .i64 w a1 len1 cap1 z1) (w2 : (Lit.int .i64 a2).wf = true) :
    Calls Try.prog 8 #[.slice a0 len0 cap0, .slice a1 len1 cap1, .int .i64 a2] w fun e w' => e = .returned (.bool true) ∧ Below w.heap.size w w' := by
  by_cases h : (len0 : Int) < 1 ∨ 8 < (len0 : Int) ∨ 10 < (len1 : Int)
  · exact walk_out a0 len0 cap0 a1 len1 cap1 a2 w h
  · exact walkIn a0 len0 cap0 z0 a1 len1 cap1 z1 a2 w w0 w1 (by omega) (by omega) (by omega)

theorem own : ownKnob Try.prog.godebug = none := by kernel_rfl
theorem laidOut : laidOutB Try.prog = true := by kernel_rfl

/-! ### THE ROW's STEP, as the guide has it -/
set_option maxRecDepth 100000 in
theorem lifted (os : Os) (started : os.Started) (H : Type) (enc : TypeId × Value → H) :
    ReturnsInHanded {} Try.checked os 8 .any (Rows.cellsStandSpec.pre6 enc Try.prog Try.f8 Rows.cellsStandRow.domain false) (Rows.cellsStandSpec.post enc Try.prog Try.f8 false true false false) := by
  refine returnsInHanded_of_change (C := Try.checked) own started (by kernel_rfl) Try.func8
    (ChangeSpec.witness6 (enc := enc) (C := Try.checked) false ⟨#[], #[.slice none 0 0, .slice none 0 0, .int .i64 0], []⟩ 8 (by kernel_rfl) (by kernel_rfl) (by kernel_rfl) (by kernel_rfl)) ?_
  intro W base args ds gs before hval0 hW hcnd _
  have hval : ∀ (j : Nat) t v, Try.f8.params[j]? = some t → args[j]? = some v → Value.okWide Try.prog W .any base t v := hval0
  have hW' := hW
  obtain ⟨p, q, hA0, hV, rfl, hfz, hnd⟩ := hW
  have hA : DataW.TrodAll enc Try.prog W 0 (fun _ => true) true Try.f8.params.toList args.toList ds p := hA0
  rw [Try.params8] at hA hval
  obtain ⟨v0, vs0, d0, ds0, p0, q0, hargs, rfl, rfl, h0, r0⟩ := trodAll_cons hA
  obtain ⟨v1, vs1, d1, ds1, p1, q1, rfl, rfl, rfl, h1, r1⟩ := trodAll_cons r0
  obtain ⟨v2, vs2, d2, ds2, p2, q2, rfl, rfl, rfl, h2, r2⟩ := trodAll_cons r1
  obtain ⟨rfl, rfl, rfl⟩ := trodAll_nil r2
  obtain rfl : args = #[v0, v1, v2] := by cases args; simp_all
  obtain ⟨rfl, rfl⟩ := trodVars_none hV
  obtain ⟨a0, len0, cap0, rfl⟩ := okWide_slice Try.underlying22 (hval 0 22 v0 rfl rfl)
  have k0 := h0
  have lt0 : ∀ x ∈ p0, x.block < W.heap.size := by obtain ⟨m, hm⟩ := k0; exact DataW.trod_lt m _ _ _ hm
  obtain ⟨z0, w0⟩ : ∃ z, IsRow .i64 W a0 len0 cap0 z := by
    obtain ⟨fuel, hf⟩ := h0
    exact isRow_of Try.underlying22 Try.underlying2 (by kernel_rfl) hf
  obtain ⟨a1, len1, cap1, rfl⟩ := okWide_slice Try.underlying22 (hval 1 22 v1 rfl rfl)
  have k1 := h1
  have lt1 : ∀ x ∈ p1, x.block < W.heap.size := by obtain ⟨m, hm⟩ := k1; exact DataW.trod_lt m _ _ _ hm
  obtain ⟨z1, w1⟩ : ∃ z, IsRow .i64 W a1 len1 cap1 z := by
    obtain ⟨fuel, hf⟩ := h1
    exact isRow_of Try.underlying22 Try.underlying2 (by kernel_rfl) hf
  obtain ⟨a2, rfl, rfl, rfl, w2⟩ := open_int Try.underlying3 (hval 2 3 v2 rfl rfl) h2
  clear hA0 hval0
  refine (walk a0 len0 cap0 z0 a1 len1 cap1 z1 a2 W w0 w1 w2).mono fun e W' ⟨he, bel⟩ => ?_
  subst he
  exact ⟨_, rfl, _, _, _, [], _, [], hW', trodAll_mk1 (shut_bool Try.underlying4 _), (trodAll_cons_mk (Below.trod laidOut (by kernel_rfl) (of_decide_eq_true (by kernel_rfl)) k0 bel lt0) (trodAll_cons_mk (Below.trod laidOut (by kernel_rfl) (of_decide_eq_true (by kernel_rfl)) k1 bel lt1) (trodAll_cons_mk (shut_int Try.underlying3 w2) trodAll_mk0))), rfl, bel.frame _, fun h => by cases h⟩

theorem over : Rows.cellsStandRow.holds Try.pinned (OpenSpec.ofChange Rows.cellsStandSpec) :=
  OpenClaim.holds_of_wide 8 Try.f8 rfl rfl rfl rfl rfl rfl rfl ⟨rfl, rfl, rfl, rfl, rfl⟩ rfl rfl rfl rfl rfl (by kernel_rfl) Try.func8 (by kernel_rfl)
    (of_decide_eq_true (by kernel_rfl)) (by unfold Func.isWrapper; first | (rw [if_pos (by decide +kernel)]; kernel_rfl) | (rw [if_neg (by decide +kernel)]; exact ⟨rfl, rfl⟩))
    (fun os started H enc _ => lifted os started H enc)

theorem proved : Rows.CellsStandSaid := over
#print axioms proved
end Go.Proofs.Yticlmcoegcfanaa.cellsStand
