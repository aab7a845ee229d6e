/- Package floor: its ground: the records, the table, the cells. -/
import Derived.Test.YtnaagcofgnmmlaaFl
namespace Go.Proofs.Ytnaagcofgnmmlaa.fl
open Go Go.RowKit Go.Proofs.Ytnaagcofgnmmlaa.base Go.Proofs.Ytnaagcofgnmmlaa.ar Go.Proofs.Ytnaagcofgnmmlaa.mm Go.Proofs.Ytnaagcofgnmmlaa.ce Go.Proofs.Ytnaagcofgnmmlaa.rf
set_option linter.unusedVariables false

/-- Blocks alone were written that are behind those of L. -/
theorem own_past {w0 : World} {w w' : World} {L : Blks} {S : Nat → Prop} {bs : Nat} (h : base.Own ⟨w0, fun _ => none⟩ w L) (s : Only S w w') (hb : w0.heap.size ≤ bs) (hS : ∀ k, S k → bs ≤ k) (hL : ∀ e ∈ L, e.1 < bs) : base.Own ⟨w0, fun _ => none⟩ w' L := by
  have g := h.grow
  refine ⟨⟨s.os.trans g.os, s.tape.trans g.tape, s.output.trans g.output, Nat.le_trans g.size s.size, fun k hk _ => (s.block k (Nat.lt_of_lt_of_le hk g.size) (fun e => ?_)).trans (g.block k hk (by simp))⟩, fun e he => ⟨(h.blk e he).1, (h.blk e he).2.keep (s.block _ (h.blk e he).2.lt (fun e1 => ?_))⟩, h.down, fun k o hk => ?_, fun k o hk => ?_⟩
  · have := hS k e
    simp at hk
    omega
  · have := hS _ e1
    have := hL e he
    omega
  · simp at hk
  · simp at hk

set_option maxRecDepth 100000 in
theorem ground_ok (o t r k m p : Int) (hr : 1 ≤ r ∧ r ≤ 4096) (a : Option Addr) (len cap : Nat) (z : Nat → Int) (w : World) (hz : IsRow .i64 w a len cap z) (h1 : 1 ≤ len) (h8 : len ≤ 8) (h2 : 2 * (len : Int) ≤ r) :
    Calls Try.prog 10 #[.agg #[.int .i64 o, .int .i64 t, .int .i64 r, .int .i64 k, .int .i64 m, .int .i64 p], .slice a len cap] w fun e w' => ∃ b0 ab tb cb F, e = .returned (.tuple #[.agg #[.pointer (some ⟨ab, 0, none⟩), .pointer (some ⟨tb, 0, none⟩), .pointer (some ⟨cb, 0, none⟩)], .int .i64 0]) ∧
      Hid (w.heap.size ≤ b0) ∧ Hid (Cel b0 w' cb tb ab r (firsts z len) (heads len) 0 (fun _ => false) (fun _ _ => 0) 100 F) ∧ Hid (w.grownBy w' none) := by
  have O0 : base.Own ⟨w, fun _ => none⟩ ((w.alloc (.cells #[.int .i64 o, .int .i64 t, .int .i64 r, .int .i64 k, .int .i64 m, .int .i64 p] 24)).alloc (.cells #[.pointer none, .pointer none, .pointer none] 51)) [(w.heap.size + 1, 51, [.pointer none, .pointer none, .pointer none]), (w.heap.size, 24, [.int .i64 o, .int .i64 t, .int .i64 r, .int .i64 k, .int .i64 m, .int .i64 p])] := by
    have X := ((base.Own.start w).alloc 24 [.int .i64 o, .int .i64 t, .int .i64 r, .int .i64 k, .int .i64 m, .int .i64 p]).alloc 51 [.pointer none, .pointer none, .pointer none]
    simp only [size_alloc] at X
    exact X
  have W0 := Lib.hid (hz.below (gb_below O0.grow))
  have HS := Lib.hid (show ((w.alloc (.cells #[.int .i64 o, .int .i64 t, .int .i64 r, .int .i64 k, .int .i64 m, .int .i64 p] 24)).alloc (.cells #[.pointer none, .pointer none, .pointer none] 51)).heap.size = w.heap.size + 2 by simp)
  have HA := Lib.hid (show ∀ b off, a = some ⟨b, off, none⟩ → len ≠ 0 → b < w.heap.size from fun b off e hn => by
    obtain ⟨_, _, q3⟩ := hz
    rcases q3 with q3 | ⟨b', off', e', hb, _⟩
    · exact absurd q3 hn
    · rw [e'] at e
      cases e
      exact hb)
  have O0 := Lib.hid O0
  clear hz
  generalize hu : ((w.alloc (.cells #[.int .i64 o, .int .i64 t, .int .i64 r, .int .i64 k, .int .i64 m, .int .i64 p] 24)).alloc (.cells #[.pointer none, .pointer none, .pointer none] 51)) = u0 at O0 W0 HS
  have HU := Lib.hid hu
  clear hu
  go_enter Try.func10, Try.ntmps10
  go_wp2_with fail
  rw [HU.out]
  refine (newR_in u0.heap.size r u0 hr.1 hr.2 (Nat.le_refl _)).mono ?_
  rintro e u1 ⟨ab, rfl, hab, A1, g1⟩
  have O1 := Lib.hid (O0.out.grown g1.out)
  go_wp2_with fail
  refine (mem_new u0.heap.size ab r u1 A1.out).mono ?_
  rintro e u2 ⟨tb, F2, rfl, M2, g2⟩
  have O2 := Lib.hid (O1.out.grown g2.out)
  have W2 := Lib.hid (W0.out.below (gb_below (gb_trans g1.out g2.out)))
  go_wp2_with fail
  refine (cells_new u0.heap.size tb ab 0 r (fun _ => false) (fun _ _ => 0) 0 F2 u2 M2.out (by omega) (by omega) a len cap z W2.out (fun b off e hF => by
    have h3 := (M2.out.foot b hF).1
    have h4 := HA.out b off e (by omega)
    have h5 := HS.out
    omega) h1 h8 h2 hr.2).mono ?_
  rintro e u3 ⟨cb, F3, rfl, C3, S3⟩
  have O3 := Lib.hid (own_past (bs := w.heap.size + 2) O2.out S3.out.only (by omega) (fun k hk => by have := (M2.out.foot k hk).1; have := HS.out; omega) (fun e he => by simp at he; rcases he with rfl | rfl <;> simp))
  clear O0 O1 O2 M2 A1 g1 g2 W0 W2 S3 HA
  have O4 := O3.out
  have c0 := O4.cell 0 0 rfl rfl
  have c1 := O4.cell 0 1 rfl rfl
  have c2 := O4.cell 0 2 rfl rfl
  have f0 := O4.free 0 0 rfl
  have f1 := O4.free 0 1 rfl
  have f2 := O4.free 0 2 rfl
  have X0 := O4.set 0 0 (.pointer (some ⟨ab, 0, none⟩)) rfl
  have X1 := X0.set 0 1 (.pointer (some ⟨tb, 0, none⟩)) rfl
  have X2 := X1.set 0 2 (.pointer (some ⟨cb, 0, none⟩)) rfl
  have Y0 := Lib.hid (X0.cell 0 0 rfl rfl)
  have Y1 := Lib.hid (X1.cell 0 1 rfl rfl)
  have Y2 := Lib.hid (X2.cell 0 2 rfl rfl)
  have XX := Lib.hid X2
  clear O4 X0 X1 X2
  go_wp2
  refine bodyPost_ret (v := .tuple #[.agg #[.pointer (some ⟨ab, 0, none⟩), .pointer (some ⟨tb, 0, none⟩), .pointer (some ⟨cb, 0, none⟩)], .int .i64 0]) (by simp [results, Try.results10, go_sem, Y0.out, Y1.out, Y2.out]) rfl ⟨u0.heap.size, ab, tb, cb, F3, rfl, ?_, ?_, ?_⟩
  · have := HS.out
    unfold Hid
    omega
  · refine C3.out.keep fun k hk => ?_
    have h3 := (C3.out.foot k hk).1
    have h5 := HS.out
    have hn : k ≠ w.heap.size + 1 := by omega
    rw [Below.heap_setCell _ _ _ k hn, Below.heap_setCell _ _ _ k hn, Below.heap_setCell _ _ _ k hn]
  · exact XX.out.grow

theorem ground_full (o t r k m p : Int) (hr : 1 ≤ r ∧ r ≤ 4096) (a : Option Addr) (len cap : Nat) (w : World) (h1 : 1 ≤ len) (h8 : len ≤ 8) (h2 : r < 2 * (len : Int)) :
    Calls Try.prog 10 #[.agg #[.int .i64 o, .int .i64 t, .int .i64 r, .int .i64 k, .int .i64 m, .int .i64 p], .slice a len cap] w fun e w' => e = .returned (.tuple #[.agg #[.pointer none, .pointer none, .pointer none], .int .i64 4]) ∧ Hid (w.grownBy w' none) := by
  have O0 : base.Own ⟨w, fun _ => none⟩ ((w.alloc (.cells #[.int .i64 o, .int .i64 t, .int .i64 r, .int .i64 k, .int .i64 m, .int .i64 p] 24)).alloc (.cells #[.pointer none, .pointer none, .pointer none] 51)) [(w.heap.size + 1, 51, [.pointer none, .pointer none, .pointer none]), (w.heap.size, 24, [.int .i64 o, .int .i64 t, .int .i64 r, .int .i64 k, .int .i64 m, .int .i64 p])] := by
    have X := ((base.Own.start w).alloc 24 [.int .i64 o, .int .i64 t, .int .i64 r, .int .i64 k, .int .i64 m, .int .i64 p]).alloc 51 [.pointer none, .pointer none, .pointer none]
    simp only [size_alloc] at X
    exact X
  have O0 := Lib.hid O0
  generalize hu : ((w.alloc (.cells #[.int .i64 o, .int .i64 t, .int .i64 r, .int .i64 k, .int .i64 m, .int .i64 p] 24)).alloc (.cells #[.pointer none, .pointer none, .pointer none] 51)) = u0 at O0
  have HU := Lib.hid hu
  clear hu
  go_enter Try.func10, Try.ntmps10
  go_wp2_with fail
  rw [HU.out]
  refine (newR_in u0.heap.size r u0 hr.1 hr.2 (Nat.le_refl _)).mono ?_
  rintro e u1 ⟨ab, rfl, hab, A1, g1⟩
  have O1 := Lib.hid (O0.out.grown g1.out)
  go_wp2_with fail
  refine (mem_new u0.heap.size ab r u1 A1.out).mono ?_
  rintro e u2 ⟨tb, F2, rfl, M2, g2⟩
  have O2 := Lib.hid (O1.out.grown g2.out)
  go_wp2_with fail
  refine (cells_new_full u0.heap.size tb ab 0 r (fun _ => false) (fun _ _ => 0) 0 F2 u2 M2.out a len cap h1 h8 h2 (by omega)).mono ?_
  rintro e u3 ⟨rfl, g3⟩
  have O3 := Lib.hid (O2.out.grown g3.out)
  clear O0 O1 O2 M2 A1 g1 g2 g3
  have O4 := O3.out
  have c0 := O4.cell 0 0 rfl rfl
  have c1 := O4.cell 0 1 rfl rfl
  have c2 := O4.cell 0 2 rfl rfl
  have f0 := O4.free 0 0 rfl
  have f1 := O4.free 0 1 rfl
  have f2 := O4.free 0 2 rfl
  have X0 := O4.set 0 0 (.pointer none) rfl
  have X1 := X0.set 0 1 (.pointer none) rfl
  have X2 := X1.set 0 2 (.pointer none) rfl
  have Y0 := Lib.hid (X0.cell 0 0 rfl rfl)
  have Y1 := Lib.hid (X1.cell 0 1 rfl rfl)
  have Y2 := Lib.hid (X2.cell 0 2 rfl rfl)
  have XX := Lib.hid X2
  clear O4 X0 X1 X2
  go_wp2
  refine bodyPost_ret (v := .tuple #[.agg #[.pointer none, .pointer none, .pointer none], .int .i64 4]) (by simp [results, Try.results10, go_sem, Y0.out, Y1.out, Y2.out]) rfl ⟨rfl, XX.out.grow⟩

end Go.Proofs.Ytnaagcofgnmmlaa.fl
