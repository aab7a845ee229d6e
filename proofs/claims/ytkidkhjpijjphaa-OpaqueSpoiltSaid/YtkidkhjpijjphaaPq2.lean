/- Texts of one's own, one behind the other: HgE, HgA, HgD, HrM, HrB, HrC, Hv, Hw, HgB, Ho, Hj, Hk, Hi, Rf, Ht, Hs, Hx, App, Lang, LangB, Crs, Ma, Wk, OpenB, Mo. -/
import Derived.Test.YtkidkhjpijjphaaProg
import Derived.Test.YtkidkhjpijjphaaPq1
import Derived.Deep.RegionHeldLaw
import Derived.StillTailTactics
import Derived.IntWalk
import Derived.Deep.QuietTactic
import Derived.BigQuiet
import Derived.Deep.RegionHeld3
import Derived.Deep.CutRange
import Derived.Maps.RangeWalk
import Derived.Maps.OwnIn
import Derived.RangeFuncNested
import Derived.RangeFuncCalls
import Derived.RangeFuncLeaves
import Derived.Shelf.Abstract
import Derived.Shelf.RegionOpen
import Derived.OwnWalkIn
import Derived.TacticsInMore
import Derived.LoopNIn
import Derived.LoopIn
import Derived.RegionIn
import Derived.WalkKit
import Derived.Maps.AppendAt
import Derived.Shelf.SlSortCmp.WholeK
import Derived.Shelf.SlSortCmp.NoneTotal
import Derived.Shelf.SlicesG.Cmp
import Derived.Deep.RegionLaw
import Derived.Deep.DeepCutAuto
import Derived.Laws.StructEq
import Derived.Laws.Tables
import Derived.Deep.OwnRows
import Derived.ChangeArms
/- A try on its way: what an event does to it: releases, ends, others. -/
namespace Go.Proofs.Ytkidkhjpijjphaa.hs
open Go Go.RowKit Go.Proofs.Ytkidkhjpijjphaa.base Go.Maps
set_option linter.unusedVariables false
set_option maxRecDepth 100000

theorem Gng.more {w : World} {F G : Nat → Prop} {b : Nat} {t : Tr} {W : Int → Bool} {R : Int → List Nat} {N : Nat} (h : Gng w F b t W R N) (hG : ∀ k, F k → G k) : Gng w G b t W R (N + 1) := by
  obtain ⟨v, wm, rm, rd, h⟩ := h
  exact ⟨v, wm, rm, rd, ⟨h.blk, h.row, h.wmap.more (Nat.le_succ _), h.rmap.more (Nat.le_succ _), h.nope, h.lst, h.ne, h.apart, hG _ h.fb, fun k e => hG _ (h.fv k e), hG _ h.fw, hG _ h.fr, fun o u k e e2 => hG _ (h.frd o u k e e2)⟩⟩
theorem Gng.alloc {w : World} {F : Nat → Prop} {b : Nat} {t : Tr} {W : Int → Bool} {R : Int → List Nat} {N : Nat} (h : Gng w F b t W R N) (hF : ∀ k, F k → k < w.heap.size) (o : Obj) : Gng (w.alloc o) F b t W R N := h.keep (fun k hk => Below.heap_alloc w o k (hF k hk))
/-- A cell of the try. -/
theorem Gng.at {w : World} {F : Nat → Prop} {b : Nat} {t : Tr} {W : Int → Bool} {R : Int → List Nat} {N : Nat} (h : Gng w F b t W R N) (j : Nat) (hj : j < 8) {u : Value} (hu : (trC t undef)[j]? = some u) : w.cell? ⟨b, j, none⟩ = some u := by
  obtain ⟨v, wm, rm, rd, h⟩ := h
  have := h.blk.cell j
  rw [this]
  match j, hj with
  | 0, _ => exact hu
  | 1, _ => exact hu
  | 2, _ => exact hu
  | 3, _ => exact hu
  | 4, _ => exact hu
  | 5, _ => exact hu
  | 6, _ => exact hu
  | 7, _ => exact hu

/-- The struct alone was changed. -/
theorem GngP.ends {w0 w w' : World} {F : Nat → Prop} {b : Nat} {t t' : Tr} {W : Int → Bool} {R : Int → List Nat} {N : Nat} {v : Value} {wm rm : Nat} {rd : Int → Option Value} (h : GngP w F b t W R N v wm rm rd) (ht : t'.ac = t.ac) (g0 : w0.grownBy w none)
    (g : w.grownBy w' (some b)) (hb : Blk 131 w' b ⟨trC t' v ++ [.map (some wm), .map (some rm)]⟩) : Gng w' (Up F w0 w') b t' W R (N + 1) ∧ Only F w0 w' := by
  obtain ⟨h1, h2⟩ := h.change (t' := t') (v' := v) (Only.of g (fun k e _ => .inl (by cases e; rfl))) hb (by rw [ht]; exact ownsRow_keep h.row (fun k e => g.block k (h.v_lt k e) (by simp; exact (h.v_ne k e).1))) (.inl rfl)
  refine ⟨Gng.more ⟨_, _, _, _, h1⟩ fun k hk => ?_, (Only.none g0).trans h2⟩
  rcases hk with hk | hk
  · exact .inl hk
  · have := g0.size
    exact .inr ⟨by omega, hk.2⟩

set_option maxHeartbeats 1000000 in
theorem does_release (w : World) (F : Nat → Prop) (b : Nat) (t : Tr) (N : Nat) (pl : Nat)  (th tx at_ ob va re : Int) (ho : (Lit.int .i64 ob).wf = true) (hF : ∀ k, F k → k < w.heap.size) (h : Gng w F b t (wrote t.ac) (readsF t.ac) N) (hen : t.en = -1) (hm : t.ac.length < 100000) (hN : N < 100000) :
    Calls Try.prog 63 #[.pointer (some ⟨b, 0, none⟩), .int .i64 pl, .agg #[.int .i64 4, .int .i64 th, .int .i64 tx, .int .i64 at_, .int .i64 ob, .int .i64 va, .int .i64 re]] w fun r w' => r = .returned (.bool false) ∧ Hid (Gng w' (Up F w w') b { t with ac := relAll t.ac ob } (wrote (relAll t.ac ob)) (readsF (relAll t.ac ob)) (N + 1)) ∧ Hid (Only F w w') := by
  have GA := Lib.hid (World.grownBy_alloc w (.cells #[.int .i64 4, .int .i64 th, .int .i64 tx, .int .i64 at_, .int .i64 ob, .int .i64 va, .int .i64 re] 51) none)
  have H := Lib.hid (h.alloc hF (.cells #[.int .i64 4, .int .i64 th, .int .i64 tx, .int .i64 at_, .int .i64 ob, .int .i64 va, .int .i64 re] 51))
  have HO := Lib.hid ho
  have EN := Lib.hid hen
  have HM := Lib.hid hm
  clear h ho hen hF hm
  go_enter Try.func63, Try.ntmps63
  go_wp2_with (first | (go_at_call 74; refine (release_any _ F b t _ _ N ob HO.out H.out (fun n hn => by have := readsAt_lt ob t.ac 0 n hn; omega) (by have := HM.out; omega) (by have := HM.out; have := readsAt_len ob t.ac 0; unfold readsF; omega)).mono ?_; rintro r u1 ⟨rfl, g1, o1⟩; have c5 : u1.cell? ⟨b, 5, none⟩ = some (.int .i64 (-1)) := g1.out.at 5 (by omega) (by simp [trC, EN.out])) | go_in)
  go_ret
  refine ⟨rfl, ?_, (Only.none GA.out).trans o1.out⟩
  have := g1.out
  rw [show readsF t.ac ob = readsAt ob 0 t.ac from rfl, relAt_reads, ← readsF_free, ← wrote_free t.ac ob] at this
  exact this.more (fun k hk => .inl hk)

set_option maxHeartbeats 1000000 in
theorem does_commit (w : World) (F : Nat → Prop) (b : Nat) (t : Tr) (N : Nat) (pl : Nat)  (th tx at_ ob va re : Int) (ho : (Lit.int .i64 ob).wf = true) (hF : ∀ k, F k → k < w.heap.size) (h : Gng w F b t (wrote t.ac) (readsF t.ac) N) (hen : t.en = -1) (hm : t.ac.length < 100000) (hN : N < 100000) :
    Calls Try.prog 63 #[.pointer (some ⟨b, 0, none⟩), .int .i64 pl, .agg #[.int .i64 5, .int .i64 th, .int .i64 tx, .int .i64 at_, .int .i64 ob, .int .i64 va, .int .i64 re]] w fun r w' => r = .returned (.bool true) ∧ Hid (Gng w' (Up F w w') b { t with en := pl, co := true } (wrote t.ac) (readsF t.ac) (N + 1)) ∧ Hid (Only F w w') := by
  obtain ⟨v, wm, rm, rd, h0⟩ := h.alloc hF (.cells #[.int .i64 5, .int .i64 th, .int .i64 tx, .int .i64 at_, .int .i64 ob, .int .i64 va, .int .i64 re] 51)
  have GA := Lib.hid (World.grownBy_alloc w (.cells #[.int .i64 5, .int .i64 th, .int .i64 tx, .int .i64 at_, .int .i64 ob, .int .i64 va, .int .i64 re] 51) none)
  have H := Lib.hid h0
  have hF2 := Lib.hid hF
  have c5 := h0.blk.cell 5
  have c7 := h0.blk.cell 7
  have f5 := h0.blk.free 5
  have f7 := h0.blk.free 7
  have bl := h0.blk.lt
  clear h ho hen hF hm h0
  go_enter Try.func63, Try.ntmps63
  go_wp2
  go_ret
  obtain ⟨q1, q2⟩ := H.out.ends (t' := { t with en := pl, co := true }) rfl GA.out (gb_setB (gb_setB (gb_refl _ _) (.int .i64 pl)) (.bool true)) ((H.out.blk.set 5 (.int .i64 pl)).set 7 (.bool true))
  refine ⟨?_, q1, q2⟩
  have : ((pl : Int) != -1) = true := by simp
  rw [this]
  rfl

set_option maxHeartbeats 1000000 in
theorem does_abort (w : World) (F : Nat → Prop) (b : Nat) (t : Tr) (N : Nat) (pl : Nat)  (th tx at_ ob va re : Int) (ho : (Lit.int .i64 ob).wf = true) (hF : ∀ k, F k → k < w.heap.size) (h : Gng w F b t (wrote t.ac) (readsF t.ac) N) (hen : t.en = -1) (hm : t.ac.length < 100000) (hN : N < 100000) :
    Calls Try.prog 63 #[.pointer (some ⟨b, 0, none⟩), .int .i64 pl, .agg #[.int .i64 6, .int .i64 th, .int .i64 tx, .int .i64 at_, .int .i64 ob, .int .i64 va, .int .i64 re]] w fun r w' => r = .returned (.bool true) ∧ Hid (Gng w' (Up F w w') b { t with en := pl, re := re } (wrote t.ac) (readsF t.ac) (N + 1)) ∧ Hid (Only F w w') := by
  obtain ⟨v, wm, rm, rd, h0⟩ := h.alloc hF (.cells #[.int .i64 6, .int .i64 th, .int .i64 tx, .int .i64 at_, .int .i64 ob, .int .i64 va, .int .i64 re] 51)
  have GA := Lib.hid (World.grownBy_alloc w (.cells #[.int .i64 6, .int .i64 th, .int .i64 tx, .int .i64 at_, .int .i64 ob, .int .i64 va, .int .i64 re] 51) none)
  have EB := Lib.hid (Blk.made w 51 #[.int .i64 6, .int .i64 th, .int .i64 tx, .int .i64 at_, .int .i64 ob, .int .i64 va, .int .i64 re])
  have H := Lib.hid h0
  clear h ho hen hF hm h0
  go_enter Try.func63, Try.ntmps63
  go_upto_region 13 with fail
  generalize w.alloc _ = v1 at *
  generalize w.heap.size = p at *
  have c5 : v1.cell? ⟨b, 5, none⟩ = some (.int .i64 t.en) := H.out.blk.cell 5
  have c6 : v1.cell? ⟨b, 6, none⟩ = some (.int .i64 t.re) := H.out.blk.cell 6
  have e6 : v1.cell? ⟨p, 6, none⟩ = some (.int .i64 re) := EB.out.cell 6
  have f5 := H.out.blk.free 5
  have f6 := H.out.blk.free 6
  have bl := H.out.blk.lt
  have hbp : p ≠ b := by
    intro e
    have := H.out.blk
    have h2 := EB.out
    rw [e] at h2
    unfold Blk at this h2
    rw [this] at h2
    injection h2 with h2
    injection h2 with _ h3
    exact absurd h3 (by decide)
  go_wp2_with fail
  go_region
  all_goals
    go_wp2
    go_ret
    obtain ⟨q1, q2⟩ := H.out.ends (t' := { t with en := pl, re := re }) rfl GA.out (gb_drew (gb_setB (gb_setB (gb_refl _ _) (.int .i64 pl)) (.int .i64 re))) (((H.out.blk.set 5 (.int .i64 pl)).set 6 (.int .i64 re)).drew)
    refine ⟨?_, q1, q2⟩
    have : ((pl : Int) != -1) = true := by simp
    rw [this]
    rfl
end Go.Proofs.Ytkidkhjpijjphaa.hs

/- A try on its way: an access is put behind all others. -/
namespace Go.Proofs.Ytkidkhjpijjphaa.hs
open Go Go.RowKit Go.Proofs.Ytkidkhjpijjphaa.base Go.Maps
set_option linter.unusedVariables false
set_option maxRecDepth 100000

theorem infoAcc : (Try.prog.info? 48).map (fun i => (i.zero, i.size, i.bytes)) = some (some (.agg #[.int .i64 0, .int .i64 0, .int .i64 0, .int .i64 0, .bool false, .bool false]), 6, 40) := by kernel_rfl

set_option maxHeartbeats 60000000 in
theorem access_any (w : World) (F : Nat → Prop) (b : Nat) (t : Tr) (W : Int → Bool) (R : Int → List Nat) (N : Nat) (pl : Int) (e : Ev) (own : Bool) (h : Gng w F b t W R N) (hm : t.ac.length < 1000000) :
    Calls Try.prog 73 #[.pointer (some ⟨b, 0, none⟩), .int .i64 pl, .agg #[.int .i64 e.k, .int .i64 e.th, .int .i64 e.tx, .int .i64 e.at_, .int .i64 e.ob, .int .i64 e.va, .int .i64 e.re], .bool own] w fun r w' => r = .returned (.tuple #[]) ∧ Hid (Gng w' (Up F w w') b { t with ac := t.ac ++ [⟨pl, e.k, e.ob, e.va, own, false⟩] } W R N) ∧ Hid (Only F w w') := by
  obtain ⟨v0, wm, rm, rd, h0⟩ := h
  obtain ⟨a, c, rfl⟩ := owns_slice h0.row
  obtain ⟨i0, hi0, hz00, hz10, hz20⟩ := info_parts infoAcc
  have hi := Lib.hid hi0
  have hz0 := Lib.hid hz00
  have hz1 := Lib.hid hz10
  have hz2 := Lib.hid hz20
  have H := Lib.hid h0
  have EB := Lib.hid (Blk.made w 51 #[.int .i64 e.k, .int .i64 e.th, .int .i64 e.tx, .int .i64 e.at_, .int .i64 e.ob, .int .i64 e.va, .int .i64 e.re])
  have GA := Lib.hid (World.grownBy_alloc w (.cells #[.int .i64 e.k, .int .i64 e.th, .int .i64 e.tx, .int .i64 e.at_, .int .i64 e.ob, .int .i64 e.va, .int .i64 e.re] 51) none)
  clear h0 hi0 hz00 hz10 hz20
  go_enter Try.func73, Try.ntmps73
  go_upto_region 1 with fail
  generalize w.alloc _ = v at *
  generalize hp : w.heap.size = p at *
  have P := Lib.hid hp
  clear hp
  have B2 := Lib.hid (H.out.blk.grown GA.out (by simp))
  have O2 := Lib.hid (ownsRow_keep H.out.row (fun k e => GA.out.block k (H.out.row.lt k e).2 (by simp)))
  have c8 : v.cell? ⟨b, 8, none⟩ = some (.slice a t.ac.length c) := B2.out.cell 8
  have e0 : v.cell? ⟨p, 0, none⟩ = some (.int .i64 e.k) := EB.out.cell 0
  have e4 : v.cell? ⟨p, 4, none⟩ = some (.int .i64 e.ob) := EB.out.cell 4
  have e5 : v.cell? ⟨p, 5, none⟩ = some (.int .i64 e.va) := EB.out.cell 5
  have bl := B2.out.lt
  have pl0 := EB.out.lt
  go_wp2_with fail
  have hbp : b ≠ p := by have := P.out; have := H.out.blk.lt; omega
  go_region_law ((refine step_append_at rfl (.tmp 13) (.tmp 23) 39 rfl 0 48 i0 (.agg #[.int .i64 0, .int .i64 0, .int .i64 0, .int .i64 0, .bool false, .bool false]) 6 40 Try.underlying39 hi.out hz0.out hz1.out hz2.out rfl (by decide) (.slice a t.ac.length c) t.ac.length (rows accC t.ac) (by simp [Act.eval]) ((O2.out.alloc _).drew) ⟨v.heap.size, 0, none⟩ 1 1 (accC ⟨pl, e.k, e.ob, e.va, own, false⟩) (by simp [Act.eval]) rfl (new_cells v.drew _ _) (accC_one [⟨pl, e.k, e.ob, e.va, own, false⟩]) (by unfold maxLen; omega) (by omega) (by simp) (by decide) ?_; intro g' c' w1 ho1 hg1 hv1; have BX := Lib.hid (((B2.out.alloc (.cells ⟨accC ⟨pl, e.k, e.ob, e.va, own, false⟩⟩ 48)).drew).grown hg1 (by intro h9; have := (H.out.v_ne _ h9.symm).1; exact this rfl)); have c2 : w1.cell? ⟨b, 8, none⟩ = some (.slice a t.ac.length c) := BX.out.cell 8; have f2 := BX.out.free 8; have EX := ((EB.out.alloc (.cells ⟨accC ⟨pl, e.k, e.ob, e.va, own, false⟩⟩ 48)).drew).grown hg1 (by intro h9; have := H.out.v_lt _ h9.symm; have := P.out; omega); have x0 : w1.cell? ⟨p, 0, none⟩ = some (.int .i64 e.k) := EX.cell 0; have x4 : w1.cell? ⟨p, 4, none⟩ = some (.int .i64 e.ob) := EX.cell 4; have x5 : w1.cell? ⟨p, 5, none⟩ = some (.int .i64 e.va) := EX.cell 5; clear EX; have HO := Lib.hid ho1; have HG := Lib.hid hg1; have HV := Lib.hid hv1; clear ho1 hg1 hv1))
  all_goals
    go_wp2
    (first | go_end0 | refine bodyPost_ret (results_none rfl _ _ _) rfl ?_)
    have hbl : t.ac.length + 1 = (t.ac ++ [(⟨pl, e.k, e.ob, e.va, own, false⟩ : Acc)]).length := by simp
    have hON : Only (fun k => k = b ∨ (Value.slice a t.ac.length c).ownBlock = some k) w w1 := (Only.none GA.out).trans (Only.of (gb_trans (gb_drew (gb_alloc (gb_refl v _) _)) HG.out) (fun k e1 _ => .inr e1))
    obtain ⟨g1, g2⟩ := H.out.change (t' := { t with ac := t.ac ++ [⟨pl, e.k, e.ob, e.va, own, false⟩] }) (v' := .slice (some ⟨g', 0, none⟩) (t.ac.length + 1) c') (hON.trans (Only.of (gb_setB (gb_refl w1 _) (.slice (some ⟨g', 0, none⟩) (t.ac.length + 1) c')) (fun k e1 _ => .inl (by cases e1; rfl)))) (BX.out.set 8 _) (by
      rw [← hbl, show rows accC (t.ac ++ [⟨pl, e.k, e.ob, e.va, own, false⟩]) = rows accC t.ac ++ accC ⟨pl, e.k, e.ob, e.va, own, false⟩ from rows_snoc _ _]
      refine ownsRow_keep HO.out (fun k e1 => Below.heap_setCell _ _ _ _ ?_)
      cases e1
      rcases HV.out with h | h
      · exact (H.out.v_ne _ h.symm).1
      · have h1 := H.out.blk.lt
        have h2 := GA.out.size
        simp at h
        show g' ≠ b
        omega) (by
      rcases HV.out with h | h
      · exact .inl h
      · have h2 := GA.out.size
        simp at h
        exact .inr ⟨g', rfl, by omega⟩)
    exact ⟨rfl, ⟨_, _, _, _, g1⟩, g2⟩
end Go.Proofs.Ytkidkhjpijjphaa.hs

/- A try on its way: what an event does to it: a write, a reading. -/
namespace Go.Proofs.Ytkidkhjpijjphaa.hs
open Go Go.RowKit Go.Proofs.Ytkidkhjpijjphaa.base Go.Maps
set_option linter.unusedVariables false
set_option maxRecDepth 100000


theorem Gng.wide {w : World} {F G : Nat → Prop} {b : Nat} {t : Tr} {W W' : Int → Bool} {R R' : Int → List Nat} {N : Nat} (h : Gng w F b t W R N) (hG : ∀ k, F k → G k) (hW : W' = W) (hR : R' = R) : Gng w G b t W' R' N := by
  obtain ⟨v, wm, rm, rd, h⟩ := h
  rw [hW, hR]
  exact ⟨v, wm, rm, rd, h.keep (fun _ _ => rfl) hG⟩
theorem only_later {F S : Nat → Prop} {w u v : World} (h : Only F w u) (k : Only S u v) (hs : ∀ i, i < w.heap.size → S i → F i) : Only F w v :=
  ⟨k.os.trans h.os, k.tape.trans h.tape, k.output.trans h.output, Nat.le_trans h.size k.size, fun i hi hn => (k.block i (Nat.lt_of_lt_of_le hi h.size) (fun e => hn (hs i hi e))).trans (h.block i hi hn)⟩
theorem zeroB (w : World) : (zeroValue 4).run Try.prog w = .ok (.bool false) w := by kernel_rfl

set_option maxHeartbeats 4000000 in
theorem does_write (w : World) (F : Nat → Prop) (b : Nat) (t : Tr) (N : Nat) (pl : Nat)  (th tx at_ ob va re : Int) (ho : (Lit.int .i64 ob).wf = true) (hF : ∀ k, F k → k < w.heap.size) (h : Gng w F b t (wrote t.ac) (readsF t.ac) N) (hen : t.en = -1) (hm : t.ac.length < 100000) (hN : N < 100000) :
    Calls Try.prog 63 #[.pointer (some ⟨b, 0, none⟩), .int .i64 pl, .agg #[.int .i64 3, .int .i64 th, .int .i64 tx, .int .i64 at_, .int .i64 ob, .int .i64 va, .int .i64 re]] w fun r w' => r = .returned (.bool false) ∧ Hid (Gng w' (Up F w w') b { t with ac := t.ac ++ [⟨pl, 3, ob, va, false, false⟩] } (wrote (t.ac ++ [⟨pl, 3, ob, va, false, false⟩])) (readsF (t.ac ++ [⟨pl, 3, ob, va, false, false⟩])) (N + 1)) ∧ Hid (Only F w w') := by
  obtain ⟨v, wm, rm, rd, h0⟩ := h.alloc hF (.cells #[.int .i64 3, .int .i64 th, .int .i64 tx, .int .i64 at_, .int .i64 ob, .int .i64 va, .int .i64 re] 51)
  have GA := Lib.hid (World.grownBy_alloc w (.cells #[.int .i64 3, .int .i64 th, .int .i64 tx, .int .i64 at_, .int .i64 ob, .int .i64 va, .int .i64 re] 51) none)
  have EB := Lib.hid (Blk.made w 51 #[.int .i64 3, .int .i64 th, .int .i64 tx, .int .i64 at_, .int .i64 ob, .int .i64 va, .int .i64 re])
  have H := Lib.hid h0
  have HO := Lib.hid ho
  have EN := Lib.hid hen
  clear h ho hen hF h0
  go_enter Try.func63, Try.ntmps63
  go_upto_region 6 with fail
  generalize w.alloc _ = v1 at *
  generalize hp : w.heap.size = p at *
  have c9 : v1.cell? ⟨b, 9, none⟩ = some (.map (some wm)) := H.out.blk.cell 9
  have e4 : v1.cell? ⟨p, 4, none⟩ = some (.int .i64 ob) := EB.out.cell 4
  have bl := H.out.blk.lt
  have pl0 := EB.out.lt
  obtain ⟨u1, hU, hm1, hg1⟩ := (show MapG Try.prog 3 (Value.int .i64) v1.drew wm N (wroteV (wrote t.ac)) from H.out.wmap).set kInt vint_inj Try.underlying128 (by unfold maxLen; omega) (keyInt HO.out) (.bool true)
  obtain ⟨q1, q2⟩ := H.out.wrotes ob hm1 (gb_trans (gb_drew (gb_refl v1 _)) hg1)
  have E2 := EB.out.drew.grown hg1 (by have := H.out.wmap.ne_blk (show Blk 51 v1 p _ from EB.out); simp; exact fun e => this e.symm)
  have r0 : u1.cell? ⟨p, 0, none⟩ = some (.int .i64 3) := E2.cell 0
  have r1 : u1.cell? ⟨p, 1, none⟩ = some (.int .i64 th) := E2.cell 1
  have r2 : u1.cell? ⟨p, 2, none⟩ = some (.int .i64 tx) := E2.cell 2
  have r3 : u1.cell? ⟨p, 3, none⟩ = some (.int .i64 at_) := E2.cell 3
  have r4 : u1.cell? ⟨p, 4, none⟩ = some (.int .i64 ob) := E2.cell 4
  have r5 : u1.cell? ⟨p, 5, none⟩ = some (.int .i64 va) := E2.cell 5
  have r6 : u1.cell? ⟨p, 6, none⟩ = some (.int .i64 re) := E2.cell 6
  have Q1 := Lib.hid q1
  have Q2 := Lib.hid q2
  clear q1 q2 hm1 hg1 E2
  go_wp2_with fail
  go_region
  all_goals
    go_wp2_with (first | (go_at_call 73; refine (access_any u1 F b t _ _ (N + 1) pl ⟨3, th, tx, at_, ob, va, re⟩ false ⟨_, _, _, _, Q1.out⟩ (by omega)).mono ?_; rintro r u2 ⟨rfl, g2, o2⟩; have c5 : u2.cell? ⟨b, 5, none⟩ = some (.int .i64 (-1)) := g2.out.at 5 (by omega) (by simp [trC, EN.out])) | go_in)
    go_ret
    refine ⟨rfl, g2.out.wide (fun k hk => ?_) (funext fun o => wrote_write _ _ _ _ _ _ _) (readsF_write _ _ _ _ _ _), ((Only.none GA.out).trans Q2.out).trans o2.out⟩
    rcases hk with hk | hk
    · exact .inl hk
    · have h1 := GA.out.size
      have h2 := Q2.out.size
      exact .inr ⟨by omega, hk.2⟩

theorem infoInt : (Try.prog.info? 3).map (fun i => (i.zero, i.size, i.bytes)) = some (some (.int .i64 0), 1, 8) := by kernel_rfl

set_option maxHeartbeats 4000000 in
theorem does_read (w : World) (F : Nat → Prop) (b : Nat) (t : Tr) (N : Nat) (pl : Nat)  (th tx at_ ob va re : Int) (ho : (Lit.int .i64 ob).wf = true) (hF : ∀ k, F k → k < w.heap.size) (h : Gng w F b t (wrote t.ac) (readsF t.ac) N) (hen : t.en = -1) (hm : t.ac.length < 100000) (hN : N < 100000) :
    Calls Try.prog 63 #[.pointer (some ⟨b, 0, none⟩), .int .i64 pl, .agg #[.int .i64 2, .int .i64 th, .int .i64 tx, .int .i64 at_, .int .i64 ob, .int .i64 va, .int .i64 re]] w fun r w' => r = .returned (.bool false) ∧ Hid (Gng w' (Up F w w') b { t with ac := t.ac ++ [⟨pl, 2, ob, va, wrote t.ac ob, false⟩] } (wrote (t.ac ++ [⟨pl, 2, ob, va, wrote t.ac ob, false⟩])) (readsF (t.ac ++ [⟨pl, 2, ob, va, wrote t.ac ob, false⟩])) (N + 1)) ∧ Hid (Only F w w') := by
  obtain ⟨v, wm, rm, rd, h0⟩ := h.alloc hF (.cells #[.int .i64 2, .int .i64 th, .int .i64 tx, .int .i64 at_, .int .i64 ob, .int .i64 va, .int .i64 re] 51)
  obtain ⟨u, hu, hrow⟩ : ∃ u, (rd ob).getD (.slice none 0 0) = u ∧ (w.alloc (.cells #[.int .i64 2, .int .i64 th, .int .i64 tx, .int .i64 at_, .int .i64 ob, .int .i64 va, .int .i64 re] 51)).ownsRow 0 3 1 u (readsF t.ac ob).length ((readsF t.ac ob).map natV) := by
    cases e : rd ob with
    | none => exact ⟨_, rfl, by rw [h0.nope ob e]; exact World.ownsRow_nil _ _ _ _⟩
    | some u => exact ⟨u, rfl, h0.lst ob u e⟩
  obtain ⟨ua, uc, rfl⟩ := owns_slice hrow
  obtain ⟨va', vc', rfl⟩ := owns_slice h0.row
  have hune : ∀ k, (Value.slice ua (readsF t.ac ob).length uc).ownBlock = some k → k ≠ b ∧ k ≠ wm ∧ k ≠ rm ∧ k < (w.alloc (.cells #[.int .i64 2, .int .i64 th, .int .i64 tx, .int .i64 at_, .int .i64 ob, .int .i64 va, .int .i64 re] 51)).heap.size ∧ ∃ cs, (w.alloc (.cells #[.int .i64 2, .int .i64 th, .int .i64 tx, .int .i64 at_, .int .i64 ob, .int .i64 va, .int .i64 re] 51)).heap[k]? = some (.cells cs 3 (0, 0)) := fun k e => by
    cases hrd : rd ob with
    | none =>
      rw [hrd] at hu
      have h2 : (Value.slice none 0 0).ownBlock = some k := by rw [show (Value.slice none 0 0) = .slice ua (readsF t.ac ob).length uc from hu]; exact e
      cases h2
    | some x =>
      rw [hrd] at hu
      have := h0.rd_ne (show rd ob = some (.slice ua (readsF t.ac ob).length uc) by rw [hrd]; exact congrArg some hu) k e
      exact ⟨this.1, this.2.1, this.2.2.1, this.2.2.2.2, ownsRow_type hrow e⟩
  have GA := Lib.hid (World.grownBy_alloc w (.cells #[.int .i64 2, .int .i64 th, .int .i64 tx, .int .i64 at_, .int .i64 ob, .int .i64 va, .int .i64 re] 51) none)
  have EB := Lib.hid (Blk.made w 51 #[.int .i64 2, .int .i64 th, .int .i64 tx, .int .i64 at_, .int .i64 ob, .int .i64 va, .int .i64 re])
  obtain ⟨i0, hi0, hz00, hz10, hz20⟩ := info_parts infoInt
  have hi := Lib.hid hi0
  have hz0 := Lib.hid hz00
  have hz1 := Lib.hid hz10
  have hz2 := Lib.hid hz20
  have H := Lib.hid h0
  have HO := Lib.hid ho
  have EN := Lib.hid hen
  have HU := Lib.hid hu
  have RW := Lib.hid hrow
  have UN := Lib.hid hune
  have hrl := readsAt_len ob t.ac 0
  obtain ⟨n, hn⟩ : ∃ n, n = (readsF t.ac ob).length := ⟨_, rfl⟩
  have hn1 : n < 100000 := by rw [hn]; unfold readsF; omega
  rw [← hn] at HU RW UN
  have HN := Lib.hid hn
  clear h ho hen hF h0 hu hrow hune hi0 hz00 hz10 hz20 hn hrl
  go_enter Try.func63, Try.ntmps63
  go_upto_region 3 with fail
  generalize w.alloc _ = v1 at *
  generalize hp : w.heap.size = p at *
  have HP := Lib.hid hp
  clear hp
  have c8 : v1.cell? ⟨b, 8, none⟩ = some (.slice va' t.ac.length vc') := H.out.blk.cell 8
  have c10 : v1.cell? ⟨b, 10, none⟩ = some (.map (some rm)) := H.out.blk.cell 10
  have e4 : v1.cell? ⟨p, 4, none⟩ = some (.int .i64 ob) := EB.out.cell 4
  have bl := H.out.blk.lt
  have pl0 := EB.out.lt
  have hrb : rm ≠ b := H.out.rm_ne
  have hrp : rm ≠ p := H.out.rmap.ne_blk EB.out
  have hup : ∀ k, (Value.slice ua n uc).ownBlock = some k → k ≠ p := fun k e h => by
    obtain ⟨cs, hc⟩ := (UN.out k e).2.2.2.2
    have h2 := EB.out
    rw [h] at hc
    unfold Blk at h2
    rw [hc] at h2
    injection h2 with h2
    injection h2 with _ h3
    exact absurd h3 (by decide)
  have hget0 : (Instr.lookup 129 (.map (some rm)) (.int .i64 ob) false).run Try.prog v1.drew = .ok (.slice ua n uc) v1.drew := by
    have := (show MapG Try.prog 3 (Value.int .i64) v1.drew rm N rd from H.out.rmap).get kInt Try.underlying129 (zeroL _) (keyInt HO.out)
    rwa [HU.out] at this
  have hget1 : (Instr.lookup 129 (.map (some rm)) (.int .i64 ob) false).run Try.prog (v1.alloc (.cells #[.int .i64 t.ac.length] 3)).drew = .ok (.slice ua n uc) (v1.alloc (.cells #[.int .i64 t.ac.length] 3)).drew := by
    have := (show MapG Try.prog 3 (Value.int .i64) (v1.alloc (.cells #[.int .i64 t.ac.length] 3)).drew rm N rd from H.out.rmap.grown (show World.grownBy v1 (v1.alloc (.cells #[.int .i64 t.ac.length] 3)).drew none from (by repeat (first | exact gb_refl _ _ | refine gb_drewN ?_ _ | refine gb_drew ?_ | refine gb_alloc ?_ _))) (by simp)).get kInt Try.underlying129 (zeroL _) (keyInt HO.out)
    rwa [HU.out] at this
  go_wp2_with fail
  go_region_held_law (fun w' => w'.cell? ⟨b, 8, none⟩ = some (.slice va' t.ac.length vc') ∧ w'.cell? ⟨b, 10, none⟩ = some (.map (some rm)) ∧ w'.cell? ⟨p, 4, none⟩ = some (.int .i64 ob)) (go_keep) ((refine step_append_at rfl (.tmp 23) (.tmp 30) 25 rfl 0 3 i0 (.int .i64 0) 1 8 Try.underlying25 hi.out hz0.out hz1.out hz2.out rfl (by decide) (.slice ua n uc) n ((readsF t.ac ob).map natV) (by simp [Act.eval]) ((RW.out.alloc _).drew) ⟨v1.heap.size, 0, none⟩ 1 1 [.int .i64 t.ac.length] (by simp [Act.eval]) rfl (new_cells v1.drew _ _) (by simp [Value.oneCell']) (by unfold maxLen; omega) (by omega) (by simp) (by decide) ?_; intro g' c' w1 ho1 hg1 hv1; have B1 := ((H.out.blk.alloc (.cells #[.int .i64 t.ac.length] 3)).drew).grown hg1 (by intro h9; exact (UN.out _ h9.symm).1 rfl); have E1 := ((EB.out.alloc (.cells #[.int .i64 t.ac.length] 3)).drew).grown hg1 (by intro h9; exact hup _ h9.symm rfl); obtain ⟨u3, hU, hm3, hg3⟩ := ((H.out.rmap.grown (show World.grownBy v1 (v1.alloc (.cells #[.int .i64 t.ac.length] 3)).drew none from (by repeat (first | exact gb_refl _ _ | refine gb_drewN ?_ _ | refine gb_drew ?_ | refine gb_alloc ?_ _))) (by simp)).grown hg1 (by intro h9; exact (UN.out _ h9.symm).2.2.1 rfl)).set kInt vint_inj Try.underlying129 (by unfold maxLen; omega) (keyInt HO.out) (.slice (some ⟨g', 0, none⟩) (n + 1) c'); have x8 : w1.cell? ⟨b, 8, none⟩ = some (.slice va' t.ac.length vc') := B1.cell 8; have x10 : w1.cell? ⟨b, 10, none⟩ = some (.map (some rm)) := B1.cell 10; have x4 : w1.cell? ⟨p, 4, none⟩ = some (.int .i64 ob) := E1.cell 4; have B3 := Lib.hid (B1.grown hg3 (by simp; exact fun e => hrb e.symm)); have E3 := Lib.hid (E1.grown hg3 (by simp; exact fun e => hrp e.symm)); have y8 : u3.cell? ⟨b, 8, none⟩ = some (.slice va' t.ac.length vc') := B3.out.cell 8; have y10 : u3.cell? ⟨b, 10, none⟩ = some (.map (some rm)) := B3.out.cell 10; have y4 : u3.cell? ⟨p, 4, none⟩ = some (.int .i64 ob) := E3.out.cell 4; have G1 := Lib.hid hg1; have G3 := Lib.hid hg3; have M3 := Lib.hid hm3; have O1 := Lib.hid ho1; have V1 := Lib.hid hv1; clear hg1 hg3 hm3 ho1 hv1 B1 E1))
  all_goals
    have hgm : ∀ k, (some g' : Option Nat) = some k → k ≠ rm := fun k e h => by
      cases e
      obtain ⟨cs, hc⟩ := ownsRow_type O1.out (k := g') rfl
      have hm1 := (H.out.rmap.grown (show World.grownBy v1 (v1.alloc (.cells #[.int .i64 t.ac.length] 3)).drew none from (by repeat (first | exact gb_refl _ _ | refine gb_drewN ?_ _ | refine gb_drew ?_ | refine gb_alloc ?_ _))) (by simp)).grown G1.out (by intro h9; exact (UN.out _ h9.symm).2.2.1 rfl)
      exact hm1.not_cells (h ▸ hc)
    have hns : n + 1 = (readsF t.ac ob ++ [t.ac.length]).length := by rw [List.length_append, ← HN.out]; rfl
    obtain ⟨q1, q2⟩ := H.out.push ob (.slice (some ⟨g', 0, none⟩) (n + 1) c') (readsF t.ac ob ++ [t.ac.length])
      (((Only.none (show World.grownBy v1 (v1.alloc (.cells #[.int .i64 t.ac.length] 3)).drew none from (by repeat (first | exact gb_refl _ _ | refine gb_drewN ?_ _ | refine gb_drew ?_ | refine gb_alloc ?_ _)))).trans (Only.of G1.out (fun k e _ => .inr (by rw [HU.out]; exact e)))).trans (Only.of G3.out (fun k e _ => .inl (by cases e; rfl)))) M3.out
      (by
        rw [← hns, List.map_append]
        exact ownsRow_keep O1.out (fun k e => G3.out.block k ((O1.out).lt k e).2 (by simp; exact hgm k e)))
      (by
        rw [HU.out]
        rcases V1.out with h | h
        · exact .inl h
        · exact .inr ⟨g', rfl, by simp at h; omega⟩)
    have Q1 := Lib.hid q1
    have Q2 := Lib.hid q2
    obtain ⟨u4, hU4⟩ : ∃ u : World, u = u3.drew := ⟨_, rfl⟩
    have Q1 := Lib.hid (q1.keep (w' := u4) (G := Up F v1 u3) (fun _ _ => by rw [hU4]; rfl) (fun _ h => h))
    have Q2 := Lib.hid (show Only F v1 u4 by rw [hU4]; exact q2.trans (Only.none (gb_drew (gb_refl u3 none))))
    have E4 := Lib.hid (show Blk 51 u4 p #[.int .i64 2, .int .i64 th, .int .i64 tx, .int .i64 at_, .int .i64 ob, .int .i64 va, .int .i64 re] by rw [hU4]; exact E3.out)
    have hU5 := Lib.hid hU4
    have HSZ := Lib.hid (show u3.heap.size = u4.heap.size by rw [hU4]; rfl)
    have hgw : (Instr.lookup 128 (.map (some wm)) (.int .i64 ob) false).run Try.prog u4 = .ok (.bool (wrote t.ac ob)) u4 := by
      have := Q1.out.wmap.get kInt Try.underlying128 (zeroB _) (keyInt HO.out)
      rw [this]
      unfold wroteV
      cases wrote t.ac ob <;> rfl
    have c9 : u4.cell? ⟨b, 9, none⟩ = some (.map (some wm)) := Q1.out.blk.cell 9
    have r0 : u4.cell? ⟨p, 0, none⟩ = some (.int .i64 2) := E4.out.cell 0
    have r1 : u4.cell? ⟨p, 1, none⟩ = some (.int .i64 th) := E4.out.cell 1
    have r2 : u4.cell? ⟨p, 2, none⟩ = some (.int .i64 tx) := E4.out.cell 2
    have r3 : u4.cell? ⟨p, 3, none⟩ = some (.int .i64 at_) := E4.out.cell 3
    have r4 : u4.cell? ⟨p, 4, none⟩ = some (.int .i64 ob) := E4.out.cell 4
    have r5 : u4.cell? ⟨p, 5, none⟩ = some (.int .i64 va) := E4.out.cell 5
    have r6 : u4.cell? ⟨p, 6, none⟩ = some (.int .i64 re) := E4.out.cell 6
    go_wp2_with fail
    refine wp_region_still_tail 10 (by kernel_rfl) (by kernel_rfl) ?_
    simp only [List.take_succ_cons, List.take_zero, List.drop_succ_cons, List.drop_zero]
    change wpStill _ _ u3.drew (fun a' => wpList _ _ _ _ a' u3.drew) _ _
    rw [← hU4]
    clear hU4 q1 q2 hgm hns x8 x10 x4 y8 y10 y4 hU M3 O1 V1 G1 G3 E3 B3 hget0 hget1 c8 c10 e4
    repeat still_step
    refine wpStill_nil ?_
    go_wp2_with (first | (go_at_call 73; refine (access_any u4 (Up F v1 u3) b t _ _ (N + 1) pl ⟨2, th, tx, at_, ob, va, re⟩ (wrote t.ac ob) ⟨_, _, _, _, Q1.out⟩ (by omega)).mono ?_; rintro r u5 ⟨rfl, g5, o5⟩; have c5 : u5.cell? ⟨b, 5, none⟩ = some (.int .i64 (-1)) := g5.out.at 5 (by omega) (by simp [trC, EN.out])) | go_in)
    go_ret
    have z1 := GA.out.size
    have z2 := Q2.out.size
    have z3 := o5.out.size
    have z4 := HSZ.out
    have z5 := HP.out
    refine ⟨rfl, g5.out.wide (fun k hk => ?_) (funext fun o => wrote_read _ _ _ _ _ _ _) (readsF_read _ _ _ _ _), only_later ((Only.none GA.out).trans Q2.out) o5.out (fun k hk h => ?_)⟩
    · rcases hk with (hk | hk) | hk
      · exact .inl hk
      · exact .inr ⟨by omega, by omega⟩
      · exact .inr ⟨by omega, hk.2⟩
    · rcases h with h | h
      · exact h
      · omega
end Go.Proofs.Ytkidkhjpijjphaa.hs

/- Whether a trace is right: may an event come? -/
namespace Go.Proofs.Ytkidkhjpijjphaa.hs
open Go Go.RowKit Go.Proofs.Ytkidkhjpijjphaa.base Go.Maps
set_option linter.unusedVariables false
set_option maxRecDepth 100000

set_option maxHeartbeats 1000000 in
theorem may_any (om tm n1 n2 : Nat) (f : Int → Option Value) (g : Int × Int → Option Value) (e : Ev) (o : Option Ev) (c : Int) (w : World) (he : Ev.Wf e) (hf : MapG Try.prog 3 (Value.int .i64) w om n1 f) (hg : MapG Try.prog 138 two w tm n2 g) (ho : f e.th = opnV o) (hc : (g (e.th, e.tx)).getD (.int .i64 0) = .int .i64 c) :
    Calls Try.prog 55 #[.agg #[.map (some om), .map (some tm)], .agg #[.int .i64 e.k, .int .i64 e.th, .int .i64 e.tx, .int .i64 e.at_, .int .i64 e.ob, .int .i64 e.va, .int .i64 e.re]] w fun r w' => r = .returned (.bool (mayB o c e)) ∧ Hid (w.grownBy w' none) := by
  obtain ⟨k, th, tx, at_, ob, va, re⟩ := e
  have M1 := Lib.hid hf
  have M2 := Lib.hid hg
  have E := Lib.hid he
  have C := Lib.hid hc
  obtain ⟨kl, hkl⟩ := keyTxn (x := (th, tx)) he.th he.tx
  have KL := Lib.hid hkl
  have O := Lib.hid ho
  clear hf hg he hc hkl ho
  dsimp only at *
  cases o with
  | none =>
    by_cases h1 : k = 1
    · subst h1
      go_enter Try.func55, Try.ntmps55
      go_wp2_with (first | (at_lookup; refine wpList_look_mapG rfl _ _ 104 rfl 3 51 kInt Try.underlying104 _ (zeroEv _) (Value.int .i64) om n1 f rfl (M1.out.grown (show World.grownBy w _ none from (by repeat (first | exact gb_refl _ _ | refine gb_drewN ?_ _ | refine gb_drew ?_ | refine gb_alloc ?_ _))) (by simp)) th _ rfl (keyInt E.out.th) (.agg #[.int .i64 0, .int .i64 0, .int .i64 0, .int .i64 0, .int .i64 0, .int .i64 0, .int .i64 0]) false (by rw [O.out]; rfl) (by rw [O.out]; rfl) ?_) | go_in)
      have hget : ∀ n, (Instr.lookup 105 (.map (some tm)) (.agg #[.int .i64 th, .int .i64 tx]) false).run Try.prog ((((w.alloc (.cells #[.map (some om), .map (some tm)] 107)).alloc (.cells #[.int .i64 1, .int .i64 th, .int .i64 tx, .int .i64 at_, .int .i64 ob, .int .i64 va, .int .i64 re] 51)).alloc (.cells #[.int .i64 0, .int .i64 0, .int .i64 0, .int .i64 0, .int .i64 0, .int .i64 0, .int .i64 0] 51)).drewN n) = .ok (.int .i64 c) ((((w.alloc (.cells #[.map (some om), .map (some tm)] 107)).alloc (.cells #[.int .i64 1, .int .i64 th, .int .i64 tx, .int .i64 at_, .int .i64 ob, .int .i64 va, .int .i64 re] 51)).alloc (.cells #[.int .i64 0, .int .i64 0, .int .i64 0, .int .i64 0, .int .i64 0, .int .i64 0, .int .i64 0] 51)).drewN n) := fun n => by
        have h := (M2.out.grown (show World.grownBy w ((((w.alloc (.cells #[.map (some om), .map (some tm)] 107)).alloc (.cells #[.int .i64 1, .int .i64 th, .int .i64 tx, .int .i64 at_, .int .i64 ob, .int .i64 va, .int .i64 re] 51)).alloc (.cells #[.int .i64 0, .int .i64 0, .int .i64 0, .int .i64 0, .int .i64 0, .int .i64 0, .int .i64 0] 51)).drewN n) none from (by repeat (first | exact gb_refl _ _ | refine gb_drewN ?_ _ | refine gb_drew ?_ | refine gb_alloc ?_ _))) (by simp)).get kTxn Try.underlying105 (zeroInt _) KL.out
        rw [C.out] at h
        exact h
      go_quiet (fail)
      go_wp2
      go_ret
      refine ⟨?_, (by repeat (first | exact gb_refl _ _ | refine gb_drewN ?_ _ | refine gb_drew ?_ | refine gb_alloc ?_ _))⟩
      simp [mayB, IntWalk.i64_left]
    have f1 : (k == 1) = false := by simp [h1]
    clear h1
    by_cases h7 : k = 7
    · subst h7
      go_enter Try.func55, Try.ntmps55
      go_wp2_with (first | (at_lookup; refine wpList_look_mapG rfl _ _ 104 rfl 3 51 kInt Try.underlying104 _ (zeroEv _) (Value.int .i64) om n1 f rfl (M1.out.grown (show World.grownBy w _ none from (by repeat (first | exact gb_refl _ _ | refine gb_drewN ?_ _ | refine gb_drew ?_ | refine gb_alloc ?_ _))) (by simp)) th _ rfl (keyInt E.out.th) (.agg #[.int .i64 0, .int .i64 0, .int .i64 0, .int .i64 0, .int .i64 0, .int .i64 0, .int .i64 0]) false (by rw [O.out]; rfl) (by rw [O.out]; rfl) ?_) | go_in)
      go_ret
      refine ⟨?_, (by repeat (first | exact gb_refl _ _ | refine gb_drewN ?_ _ | refine gb_drew ?_ | refine gb_alloc ?_ _))⟩
      simp [mayB]
    have f7 : (k == 7) = false := by simp [h7]
    by_cases h2 : k = 2
    · subst h2
      go_enter Try.func55, Try.ntmps55
      go_wp2_with (first | (at_lookup; refine wpList_look_mapG rfl _ _ 104 rfl 3 51 kInt Try.underlying104 _ (zeroEv _) (Value.int .i64) om n1 f rfl (M1.out.grown (show World.grownBy w _ none from (by repeat (first | exact gb_refl _ _ | refine gb_drewN ?_ _ | refine gb_drew ?_ | refine gb_alloc ?_ _))) (by simp)) th _ rfl (keyInt E.out.th) (.agg #[.int .i64 0, .int .i64 0, .int .i64 0, .int .i64 0, .int .i64 0, .int .i64 0, .int .i64 0]) false (by rw [O.out]; rfl) (by rw [O.out]; rfl) ?_) | go_in)
      go_ret
      refine ⟨?_, (by repeat (first | exact gb_refl _ _ | refine gb_drewN ?_ _ | refine gb_drew ?_ | refine gb_alloc ?_ _))⟩
      simp [mayB]
    have f2 : (k == 2) = false := by simp [h2]
    by_cases h3 : k = 3
    · subst h3
      go_enter Try.func55, Try.ntmps55
      go_wp2_with (first | (at_lookup; refine wpList_look_mapG rfl _ _ 104 rfl 3 51 kInt Try.underlying104 _ (zeroEv _) (Value.int .i64) om n1 f rfl (M1.out.grown (show World.grownBy w _ none from (by repeat (first | exact gb_refl _ _ | refine gb_drewN ?_ _ | refine gb_drew ?_ | refine gb_alloc ?_ _))) (by simp)) th _ rfl (keyInt E.out.th) (.agg #[.int .i64 0, .int .i64 0, .int .i64 0, .int .i64 0, .int .i64 0, .int .i64 0, .int .i64 0]) false (by rw [O.out]; rfl) (by rw [O.out]; rfl) ?_) | go_in)
      go_ret
      refine ⟨?_, (by repeat (first | exact gb_refl _ _ | refine gb_drewN ?_ _ | refine gb_drew ?_ | refine gb_alloc ?_ _))⟩
      simp [mayB]
    have f3 : (k == 3) = false := by simp [h3]
    by_cases h4 : k = 4
    · subst h4
      go_enter Try.func55, Try.ntmps55
      go_wp2_with (first | (at_lookup; refine wpList_look_mapG rfl _ _ 104 rfl 3 51 kInt Try.underlying104 _ (zeroEv _) (Value.int .i64) om n1 f rfl (M1.out.grown (show World.grownBy w _ none from (by repeat (first | exact gb_refl _ _ | refine gb_drewN ?_ _ | refine gb_drew ?_ | refine gb_alloc ?_ _))) (by simp)) th _ rfl (keyInt E.out.th) (.agg #[.int .i64 0, .int .i64 0, .int .i64 0, .int .i64 0, .int .i64 0, .int .i64 0, .int .i64 0]) false (by rw [O.out]; rfl) (by rw [O.out]; rfl) ?_) | go_in)
      go_ret
      refine ⟨?_, (by repeat (first | exact gb_refl _ _ | refine gb_drewN ?_ _ | refine gb_drew ?_ | refine gb_alloc ?_ _))⟩
      simp [mayB]
    have f4 : (k == 4) = false := by simp [h4]
    by_cases h5 : k = 5
    · subst h5
      go_enter Try.func55, Try.ntmps55
      go_wp2_with (first | (at_lookup; refine wpList_look_mapG rfl _ _ 104 rfl 3 51 kInt Try.underlying104 _ (zeroEv _) (Value.int .i64) om n1 f rfl (M1.out.grown (show World.grownBy w _ none from (by repeat (first | exact gb_refl _ _ | refine gb_drewN ?_ _ | refine gb_drew ?_ | refine gb_alloc ?_ _))) (by simp)) th _ rfl (keyInt E.out.th) (.agg #[.int .i64 0, .int .i64 0, .int .i64 0, .int .i64 0, .int .i64 0, .int .i64 0, .int .i64 0]) false (by rw [O.out]; rfl) (by rw [O.out]; rfl) ?_) | go_in)
      go_ret
      refine ⟨?_, (by repeat (first | exact gb_refl _ _ | refine gb_drewN ?_ _ | refine gb_drew ?_ | refine gb_alloc ?_ _))⟩
      simp [mayB]
    have f5 : (k == 5) = false := by simp [h5]
    by_cases h6 : k = 6
    · subst h6
      go_enter Try.func55, Try.ntmps55
      go_wp2_with (first | (at_lookup; refine wpList_look_mapG rfl _ _ 104 rfl 3 51 kInt Try.underlying104 _ (zeroEv _) (Value.int .i64) om n1 f rfl (M1.out.grown (show World.grownBy w _ none from (by repeat (first | exact gb_refl _ _ | refine gb_drewN ?_ _ | refine gb_drew ?_ | refine gb_alloc ?_ _))) (by simp)) th _ rfl (keyInt E.out.th) (.agg #[.int .i64 0, .int .i64 0, .int .i64 0, .int .i64 0, .int .i64 0, .int .i64 0, .int .i64 0]) false (by rw [O.out]; rfl) (by rw [O.out]; rfl) ?_) | go_in)
      go_ret
      refine ⟨?_, (by repeat (first | exact gb_refl _ _ | refine gb_drewN ?_ _ | refine gb_drew ?_ | refine gb_alloc ?_ _))⟩
      simp [mayB]
    have f6 : (k == 6) = false := by simp [h6]
    go_enter Try.func55, Try.ntmps55
    go_wp2_with (first | (at_lookup; refine wpList_look_mapG rfl _ _ 104 rfl 3 51 kInt Try.underlying104 _ (zeroEv _) (Value.int .i64) om n1 f rfl (M1.out.grown (show World.grownBy w _ none from (by repeat (first | exact gb_refl _ _ | refine gb_drewN ?_ _ | refine gb_drew ?_ | refine gb_alloc ?_ _))) (by simp)) th _ rfl (keyInt E.out.th) (.agg #[.int .i64 0, .int .i64 0, .int .i64 0, .int .i64 0, .int .i64 0, .int .i64 0, .int .i64 0]) false (by rw [O.out]; rfl) (by rw [O.out]; rfl) ?_) | go_in)
    go_ret
    refine ⟨?_, (by repeat (first | exact gb_refl _ _ | refine gb_drewN ?_ _ | refine gb_drew ?_ | refine gb_alloc ?_ _))⟩
    have hm : mayB none c ⟨k, th, tx, at_, ob, va, re⟩ = false := by simp only [mayB, f1, f7, Bool.false_and, Bool.or_self]
    rw [hm]
    rfl
  | some b =>
    by_cases h1 : k = 1
    · subst h1
      go_enter Try.func55, Try.ntmps55
      go_wp2_with (first | (at_lookup; refine wpList_look_mapG rfl _ _ 104 rfl 3 51 kInt Try.underlying104 _ (zeroEv _) (Value.int .i64) om n1 f rfl (M1.out.grown (show World.grownBy w _ none from (by repeat (first | exact gb_refl _ _ | refine gb_drewN ?_ _ | refine gb_drew ?_ | refine gb_alloc ?_ _))) (by simp)) th _ rfl (keyInt E.out.th) (.agg #[.int .i64 b.k, .int .i64 b.th, .int .i64 b.tx, .int .i64 b.at_, .int .i64 b.ob, .int .i64 b.va, .int .i64 b.re]) true (by rw [O.out]; rfl) (by rw [O.out]; rfl) ?_) | go_in)
      go_quiet (fail)
      go_wp2
      go_ret
      refine ⟨?_, (by repeat (first | exact gb_refl _ _ | refine gb_drewN ?_ _ | refine gb_drew ?_ | refine gb_alloc ?_ _))⟩
      simp [mayB]
    have f1 : (k == 1) = false := by simp [h1]
    clear h1
    by_cases h7 : k = 7
    · subst h7
      go_enter Try.func55, Try.ntmps55
      go_wp2_with (first | (at_lookup; refine wpList_look_mapG rfl _ _ 104 rfl 3 51 kInt Try.underlying104 _ (zeroEv _) (Value.int .i64) om n1 f rfl (M1.out.grown (show World.grownBy w _ none from (by repeat (first | exact gb_refl _ _ | refine gb_drewN ?_ _ | refine gb_drew ?_ | refine gb_alloc ?_ _))) (by simp)) th _ rfl (keyInt E.out.th) (.agg #[.int .i64 b.k, .int .i64 b.th, .int .i64 b.tx, .int .i64 b.at_, .int .i64 b.ob, .int .i64 b.va, .int .i64 b.re]) true (by rw [O.out]; rfl) (by rw [O.out]; rfl) ?_) | go_in)
      go_ret
      refine ⟨?_, (by repeat (first | exact gb_refl _ _ | refine gb_drewN ?_ _ | refine gb_drew ?_ | refine gb_alloc ?_ _))⟩
      simp [mayB]
    have f7 : (k == 7) = false := by simp [h7]
    by_cases h2 : k = 2
    · subst h2
      go_enter Try.func55, Try.ntmps55
      go_wp2_with (first | (at_lookup; refine wpList_look_mapG rfl _ _ 104 rfl 3 51 kInt Try.underlying104 _ (zeroEv _) (Value.int .i64) om n1 f rfl (M1.out.grown (show World.grownBy w _ none from (by repeat (first | exact gb_refl _ _ | refine gb_drewN ?_ _ | refine gb_drew ?_ | refine gb_alloc ?_ _))) (by simp)) th _ rfl (keyInt E.out.th) (.agg #[.int .i64 b.k, .int .i64 b.th, .int .i64 b.tx, .int .i64 b.at_, .int .i64 b.ob, .int .i64 b.va, .int .i64 b.re]) true (by rw [O.out]; rfl) (by rw [O.out]; rfl) ?_) | go_in)
      all_goals go_ret
      all_goals refine ⟨?_, (by repeat (first | exact gb_refl _ _ | refine gb_drewN ?_ _ | refine gb_drew ?_ | refine gb_alloc ?_ _))⟩
      all_goals simp_all [mayB]
    have f2 : (k == 2) = false := by simp [h2]
    by_cases h3 : k = 3
    · subst h3
      go_enter Try.func55, Try.ntmps55
      go_wp2_with (first | (at_lookup; refine wpList_look_mapG rfl _ _ 104 rfl 3 51 kInt Try.underlying104 _ (zeroEv _) (Value.int .i64) om n1 f rfl (M1.out.grown (show World.grownBy w _ none from (by repeat (first | exact gb_refl _ _ | refine gb_drewN ?_ _ | refine gb_drew ?_ | refine gb_alloc ?_ _))) (by simp)) th _ rfl (keyInt E.out.th) (.agg #[.int .i64 b.k, .int .i64 b.th, .int .i64 b.tx, .int .i64 b.at_, .int .i64 b.ob, .int .i64 b.va, .int .i64 b.re]) true (by rw [O.out]; rfl) (by rw [O.out]; rfl) ?_) | go_in)
      all_goals go_ret
      all_goals refine ⟨?_, (by repeat (first | exact gb_refl _ _ | refine gb_drewN ?_ _ | refine gb_drew ?_ | refine gb_alloc ?_ _))⟩
      all_goals simp_all [mayB]
    have f3 : (k == 3) = false := by simp [h3]
    by_cases h4 : k = 4
    · subst h4
      go_enter Try.func55, Try.ntmps55
      go_wp2_with (first | (at_lookup; refine wpList_look_mapG rfl _ _ 104 rfl 3 51 kInt Try.underlying104 _ (zeroEv _) (Value.int .i64) om n1 f rfl (M1.out.grown (show World.grownBy w _ none from (by repeat (first | exact gb_refl _ _ | refine gb_drewN ?_ _ | refine gb_drew ?_ | refine gb_alloc ?_ _))) (by simp)) th _ rfl (keyInt E.out.th) (.agg #[.int .i64 b.k, .int .i64 b.th, .int .i64 b.tx, .int .i64 b.at_, .int .i64 b.ob, .int .i64 b.va, .int .i64 b.re]) true (by rw [O.out]; rfl) (by rw [O.out]; rfl) ?_) | go_in)
      all_goals go_ret
      all_goals refine ⟨?_, (by repeat (first | exact gb_refl _ _ | refine gb_drewN ?_ _ | refine gb_drew ?_ | refine gb_alloc ?_ _))⟩
      all_goals simp_all [mayB]
    have f4 : (k == 4) = false := by simp [h4]
    by_cases h5 : k = 5
    · subst h5
      go_enter Try.func55, Try.ntmps55
      go_wp2_with (first | (at_lookup; refine wpList_look_mapG rfl _ _ 104 rfl 3 51 kInt Try.underlying104 _ (zeroEv _) (Value.int .i64) om n1 f rfl (M1.out.grown (show World.grownBy w _ none from (by repeat (first | exact gb_refl _ _ | refine gb_drewN ?_ _ | refine gb_drew ?_ | refine gb_alloc ?_ _))) (by simp)) th _ rfl (keyInt E.out.th) (.agg #[.int .i64 b.k, .int .i64 b.th, .int .i64 b.tx, .int .i64 b.at_, .int .i64 b.ob, .int .i64 b.va, .int .i64 b.re]) true (by rw [O.out]; rfl) (by rw [O.out]; rfl) ?_) | go_in)
      all_goals go_ret
      all_goals refine ⟨?_, (by repeat (first | exact gb_refl _ _ | refine gb_drewN ?_ _ | refine gb_drew ?_ | refine gb_alloc ?_ _))⟩
      all_goals simp_all [mayB]
    have f5 : (k == 5) = false := by simp [h5]
    by_cases h6 : k = 6
    · subst h6
      go_enter Try.func55, Try.ntmps55
      go_wp2_with (first | (at_lookup; refine wpList_look_mapG rfl _ _ 104 rfl 3 51 kInt Try.underlying104 _ (zeroEv _) (Value.int .i64) om n1 f rfl (M1.out.grown (show World.grownBy w _ none from (by repeat (first | exact gb_refl _ _ | refine gb_drewN ?_ _ | refine gb_drew ?_ | refine gb_alloc ?_ _))) (by simp)) th _ rfl (keyInt E.out.th) (.agg #[.int .i64 b.k, .int .i64 b.th, .int .i64 b.tx, .int .i64 b.at_, .int .i64 b.ob, .int .i64 b.va, .int .i64 b.re]) true (by rw [O.out]; rfl) (by rw [O.out]; rfl) ?_) | go_in)
      all_goals go_ret
      all_goals refine ⟨?_, (by repeat (first | exact gb_refl _ _ | refine gb_drewN ?_ _ | refine gb_drew ?_ | refine gb_alloc ?_ _))⟩
      all_goals simp_all [mayB]
    have f6 : (k == 6) = false := by simp [h6]
    go_enter Try.func55, Try.ntmps55
    go_wp2_with (first | (at_lookup; refine wpList_look_mapG rfl _ _ 104 rfl 3 51 kInt Try.underlying104 _ (zeroEv _) (Value.int .i64) om n1 f rfl (M1.out.grown (show World.grownBy w _ none from (by repeat (first | exact gb_refl _ _ | refine gb_drewN ?_ _ | refine gb_drew ?_ | refine gb_alloc ?_ _))) (by simp)) th _ rfl (keyInt E.out.th) (.agg #[.int .i64 b.k, .int .i64 b.th, .int .i64 b.tx, .int .i64 b.at_, .int .i64 b.ob, .int .i64 b.va, .int .i64 b.re]) true (by rw [O.out]; rfl) (by rw [O.out]; rfl) ?_) | go_in)
    go_ret
    refine ⟨?_, (by repeat (first | exact gb_refl _ _ | refine gb_drewN ?_ _ | refine gb_drew ?_ | refine gb_alloc ?_ _))⟩
    have hno : (decide (2 ≤ k) && decide (k ≤ 6)) = false := by
      by_cases g : 2 ≤ k ∧ k ≤ 6
      · simp at f1
        omega
      · simp
        omega
    have hm : mayB (some b) c ⟨k, th, tx, at_, ob, va, re⟩ = false := by simp only [mayB, hno, Bool.false_and]
    rw [hm]
    rfl
end Go.Proofs.Ytkidkhjpijjphaa.hs

/- Whether a trace is right: what an event changes; Right itself. -/
namespace Go.Proofs.Ytkidkhjpijjphaa.hs
open Go Go.RowKit Go.Proofs.Ytkidkhjpijjphaa.base Go.Maps
set_option linter.unusedVariables false
set_option maxRecDepth 100000

noncomputable def enterF (f : Int → Option Value) (e : Ev) : Int → Option Value := if e.k = 1 then upd f e.th (some (.agg ⟨evc e⟩)) else if e.k = 5 ∨ e.k = 6 then upd f e.th none else f
noncomputable def enterG (g : Int × Int → Option Value) (e : Ev) : Int × Int → Option Value := if e.k = 1 then upd g (e.th, e.tx) (some (.int .i64 e.at_)) else g

set_option maxHeartbeats 1000000 in
theorem enter_any (om tm n1 n2 : Nat) (f : Int → Option Value) (g : Int × Int → Option Value) (e : Ev) (w : World) (he : Ev.Wf e) (hne : om ≠ tm) (hn1 : n1 < maxLen) (hn2 : n2 < maxLen) (hf : MapG Try.prog 3 (Value.int .i64) w om n1 f) (hg : MapG Try.prog 138 two w tm n2 g) :
    Calls Try.prog 56 #[.agg #[.map (some om), .map (some tm)], .agg #[.int .i64 e.k, .int .i64 e.th, .int .i64 e.tx, .int .i64 e.at_, .int .i64 e.ob, .int .i64 e.va, .int .i64 e.re]] w fun r w' => r = .returned (.tuple #[]) ∧ Hid (MapG Try.prog 3 (Value.int .i64) w' om (n1 + 1) (enterF f e)) ∧ Hid (MapG Try.prog 138 two w' tm (n2 + 1) (enterG g e)) ∧ Hid (Only (fun k => k = om ∨ k = tm) w w') := by
  obtain ⟨k, th, tx, at_, ob, va, re⟩ := e
  have M1 := Lib.hid hf
  have M2 := Lib.hid hg
  have E := Lib.hid he
  have NE := Lib.hid hne
  obtain ⟨kl, hkl⟩ := keyTxn (x := (th, tx)) he.th he.tx
  have KL := Lib.hid hkl
  clear hf hg he hkl hne
  dsimp only at *
  by_cases h1 : k = 1
  · subst h1
    have GA := Lib.hid (show World.grownBy w ((w.alloc (.cells #[.map (some om), .map (some tm)] 107)).alloc (.cells #[.int .i64 1, .int .i64 th, .int .i64 tx, .int .i64 at_, .int .i64 ob, .int .i64 va, .int .i64 re] 51)) none from (by repeat (first | exact gb_refl _ _ | refine gb_drewN ?_ _ | refine gb_drew ?_ | refine gb_alloc ?_ _)))
    have om_lt := M1.out.lt
    have tm_lt := M2.out.lt
    have BB := Lib.hid ((Blk.made w 107 #[.map (some om), .map (some tm)]).alloc (.cells #[.int .i64 1, .int .i64 th, .int .i64 tx, .int .i64 at_, .int .i64 ob, .int .i64 va, .int .i64 re] 51))
    have EB : Hid (Blk 51 ((w.alloc (.cells #[.map (some om), .map (some tm)] 107)).alloc (.cells #[.int .i64 1, .int .i64 th, .int .i64 tx, .int .i64 at_, .int .i64 ob, .int .i64 va, .int .i64 re] 51)) (w.heap.size + 1) #[.int .i64 1, .int .i64 th, .int .i64 tx, .int .i64 at_, .int .i64 ob, .int .i64 va, .int .i64 re]) := Lib.hid (by have := Blk.made (w.alloc (.cells #[.map (some om), .map (some tm)] 107)) 51 #[.int .i64 1, .int .i64 th, .int .i64 tx, .int .i64 at_, .int .i64 ob, .int .i64 va, .int .i64 re]; rwa [World.size_alloc] at this)
    go_enter Try.func56, Try.ntmps56
    go_wp2_with (first | (at_mapUpdate; (refine wpList_set_mapG rfl (.tmp 9) (.tmp 11) (.tmp 12) 104 rfl 3 51 kInt (Value.int .i64) vint_inj Try.underlying104 om n1 f rfl (M1.out.grown GA.out (by simp)) hn1 th _ rfl (keyInt E.out.th) _ rfl ?_); intro u1 m1 g1; have b1 := BB.out.grown g1 (by simp; omega); have b2 := EB.out.grown g1 (by simp; omega); have q0 := b1.cell 1; have q1 := b2.cell 1; have q2 := b2.cell 2; have q3 := b2.cell 3; have MM := Lib.hid ((M2.out.grown GA.out (by simp)).grown g1 (by simp; exact fun h => NE.out h.symm)); have M1B := Lib.hid m1; have G1 := Lib.hid g1; clear m1 g1 b1 b2) | (at_mapUpdate; (refine wpList_set_mapG rfl (.tmp 14) (.tmp 19) (.tmp 21) 105 rfl 138 3 kTxn two two_inj Try.underlying105 tm n2 g rfl MM.out hn2 (th, tx) _ rfl KL.out _ rfl ?_); intro u2 m2 g2; have M1C := Lib.hid (M1B.out.grown g2 (by simp; exact NE.out)); have M2C := Lib.hid m2; have G2 := Lib.hid g2; clear m2 g2) | go_in)
    go_end0
    refine ⟨rfl, ?_, ?_, ?_⟩
    · rw [enterF, if_pos rfl]; exact M1C.out
    · rw [enterG, if_pos rfl]; exact M2C.out
    · exact ((Only.none GA.out).trans (Only.of G1.out (fun _ e _ => .inl (by cases e; rfl)))).trans (Only.of G2.out (fun _ e _ => .inr (by cases e; rfl)))
  have f1 : (k == 1) = false := by simp [h1]
  by_cases h5 : k = 5
  · subst h5
    have GA := Lib.hid (show World.grownBy w ((w.alloc (.cells #[.map (some om), .map (some tm)] 107)).alloc (.cells #[.int .i64 5, .int .i64 th, .int .i64 tx, .int .i64 at_, .int .i64 ob, .int .i64 va, .int .i64 re] 51)) none from (by repeat (first | exact gb_refl _ _ | refine gb_drewN ?_ _ | refine gb_drew ?_ | refine gb_alloc ?_ _)))
    have om_lt := M1.out.lt
    have tm_lt := M2.out.lt
    have BB := Lib.hid ((Blk.made w 107 #[.map (some om), .map (some tm)]).alloc (.cells #[.int .i64 5, .int .i64 th, .int .i64 tx, .int .i64 at_, .int .i64 ob, .int .i64 va, .int .i64 re] 51))
    have EB : Hid (Blk 51 ((w.alloc (.cells #[.map (some om), .map (some tm)] 107)).alloc (.cells #[.int .i64 5, .int .i64 th, .int .i64 tx, .int .i64 at_, .int .i64 ob, .int .i64 va, .int .i64 re] 51)) (w.heap.size + 1) #[.int .i64 5, .int .i64 th, .int .i64 tx, .int .i64 at_, .int .i64 ob, .int .i64 va, .int .i64 re]) := Lib.hid (by have := Blk.made (w.alloc (.cells #[.map (some om), .map (some tm)] 107)) 51 #[.int .i64 5, .int .i64 th, .int .i64 tx, .int .i64 at_, .int .i64 ob, .int .i64 va, .int .i64 re]; rwa [World.size_alloc] at this)
    go_enter Try.func56, Try.ntmps56
    go_wp2_with (first | (at_delete; refine wpList_del_mapG rfl _ _ 104 3 rfl 51 kInt (Value.int .i64) vint_inj Try.underlying104 om n1 f rfl (M1.out.grown GA.out (by simp)) th _ rfl (keyInt E.out.th) ?_; intro u1 m1 g1; have MM := Lib.hid ((M2.out.grown GA.out (by simp)).grown g1 (by simp; exact fun h => NE.out h.symm)); have M1B := Lib.hid m1; have G1 := Lib.hid g1; clear m1 g1) | go_in)
    go_end0
    refine ⟨rfl, ?_, ?_, ?_⟩
    · rw [enterF, if_neg (by simp), if_pos (by simp)]; exact M1B.out.more (by omega)
    · rw [enterG, if_neg (by simp)]; exact MM.out.more (by omega)
    · exact (Only.none GA.out).trans (Only.of G1.out (fun _ e _ => .inl (by cases e; rfl)))
  have f5 : (k == 5) = false := by simp [h5]
  by_cases h6 : k = 6
  · subst h6
    have GA := Lib.hid (show World.grownBy w ((w.alloc (.cells #[.map (some om), .map (some tm)] 107)).alloc (.cells #[.int .i64 6, .int .i64 th, .int .i64 tx, .int .i64 at_, .int .i64 ob, .int .i64 va, .int .i64 re] 51)) none from (by repeat (first | exact gb_refl _ _ | refine gb_drewN ?_ _ | refine gb_drew ?_ | refine gb_alloc ?_ _)))
    have om_lt := M1.out.lt
    have tm_lt := M2.out.lt
    have BB := Lib.hid ((Blk.made w 107 #[.map (some om), .map (some tm)]).alloc (.cells #[.int .i64 6, .int .i64 th, .int .i64 tx, .int .i64 at_, .int .i64 ob, .int .i64 va, .int .i64 re] 51))
    have EB : Hid (Blk 51 ((w.alloc (.cells #[.map (some om), .map (some tm)] 107)).alloc (.cells #[.int .i64 6, .int .i64 th, .int .i64 tx, .int .i64 at_, .int .i64 ob, .int .i64 va, .int .i64 re] 51)) (w.heap.size + 1) #[.int .i64 6, .int .i64 th, .int .i64 tx, .int .i64 at_, .int .i64 ob, .int .i64 va, .int .i64 re]) := Lib.hid (by have := Blk.made (w.alloc (.cells #[.map (some om), .map (some tm)] 107)) 51 #[.int .i64 6, .int .i64 th, .int .i64 tx, .int .i64 at_, .int .i64 ob, .int .i64 va, .int .i64 re]; rwa [World.size_alloc] at this)
    go_enter Try.func56, Try.ntmps56
    go_wp2_with (first | (at_delete; refine wpList_del_mapG rfl _ _ 104 3 rfl 51 kInt (Value.int .i64) vint_inj Try.underlying104 om n1 f rfl (M1.out.grown GA.out (by simp)) th _ rfl (keyInt E.out.th) ?_; intro u1 m1 g1; have MM := Lib.hid ((M2.out.grown GA.out (by simp)).grown g1 (by simp; exact fun h => NE.out h.symm)); have M1B := Lib.hid m1; have G1 := Lib.hid g1; clear m1 g1) | go_in)
    go_end0
    refine ⟨rfl, ?_, ?_, ?_⟩
    · rw [enterF, if_neg (by simp), if_pos (by simp)]; exact M1B.out.more (by omega)
    · rw [enterG, if_neg (by simp)]; exact MM.out.more (by omega)
    · exact (Only.none GA.out).trans (Only.of G1.out (fun _ e _ => .inl (by cases e; rfl)))
  have f6 : (k == 6) = false := by simp [h6]
  have GA := Lib.hid (show World.grownBy w ((w.alloc (.cells #[.map (some om), .map (some tm)] 107)).alloc (.cells #[.int .i64 k, .int .i64 th, .int .i64 tx, .int .i64 at_, .int .i64 ob, .int .i64 va, .int .i64 re] 51)) none from (by repeat (first | exact gb_refl _ _ | refine gb_drewN ?_ _ | refine gb_drew ?_ | refine gb_alloc ?_ _)))
  have om_lt := M1.out.lt
  have tm_lt := M2.out.lt
  have BB := Lib.hid ((Blk.made w 107 #[.map (some om), .map (some tm)]).alloc (.cells #[.int .i64 k, .int .i64 th, .int .i64 tx, .int .i64 at_, .int .i64 ob, .int .i64 va, .int .i64 re] 51))
  have EB : Hid (Blk 51 ((w.alloc (.cells #[.map (some om), .map (some tm)] 107)).alloc (.cells #[.int .i64 k, .int .i64 th, .int .i64 tx, .int .i64 at_, .int .i64 ob, .int .i64 va, .int .i64 re] 51)) (w.heap.size + 1) #[.int .i64 k, .int .i64 th, .int .i64 tx, .int .i64 at_, .int .i64 ob, .int .i64 va, .int .i64 re]) := Lib.hid (by have := Blk.made (w.alloc (.cells #[.map (some om), .map (some tm)] 107)) 51 #[.int .i64 k, .int .i64 th, .int .i64 tx, .int .i64 at_, .int .i64 ob, .int .i64 va, .int .i64 re]; rwa [World.size_alloc] at this)
  go_enter Try.func56, Try.ntmps56
  go_wp2
  go_end0
  refine ⟨rfl, ?_, ?_, ?_⟩
  · rw [enterF, if_neg h1, if_neg (by rintro (h | h); exact h5 h; exact h6 h)]; exact (M1.out.grown GA.out (by simp)).more (by omega)
  · rw [enterG, if_neg h1]; exact (M2.out.grown GA.out (by simp)).more (by omega)
  · exact Only.none GA.out

/-- What the maps have, one event on. -/
theorem enterF_opn (e : Evs) (i : Nat) (x : Int) : enterF (fun th => opnV ((opn e i th).map e)) (e i) x = opnV ((opn e (i + 1) x).map e) := by
  unfold enterF
  rw [opn]
  by_cases h1 : (e i).k = 1
  · rw [if_pos h1, if_pos h1]
    by_cases hx : x = (e i).th
    · subst hx
      rw [upd_same, if_pos rfl]
      rfl
    · rw [upd_other _ _ hx, if_neg (fun h => hx h.symm)]
  · rw [if_neg h1, if_neg h1]
    by_cases h56 : (e i).k = 5 ∨ (e i).k = 6
    · rw [if_pos h56, if_pos h56]
      by_cases hx : x = (e i).th
      · subst hx
        rw [upd_same, if_pos rfl]
        rfl
      · rw [upd_other _ _ hx, if_neg (fun h => hx h.symm)]
    · rw [if_neg h56, if_neg h56]
      split <;> rfl
theorem enterG_cnt (e : Evs) (i : Nat) (g : Int × Int → Option Value) (h : ∀ th tx, (g (th, tx)).getD (.int .i64 0) = .int .i64 (cnt e i th tx)) (th tx : Int) : (enterG g (e i) (th, tx)).getD (.int .i64 0) = .int .i64 (cnt e (i + 1) th tx) := by
  unfold enterG
  rw [cnt]
  by_cases h1 : (e i).k = 1
  · rw [if_pos h1]
    by_cases hx : (th, tx) = ((e i).th, (e i).tx)
    · cases hx
      rw [upd_same, if_pos ⟨h1, rfl, rfl⟩]
      rfl
    · rw [upd_other _ _ hx, if_neg (fun h => hx (by rw [h.2.1, h.2.2]))]
      exact h th tx
  · rw [if_neg h1, if_neg (fun h => h1 h.1)]
    exact h th tx
theorem may_mayB (e : Evs) (i : Nat) : may e i = mayB ((opn e i (e i).th).map e) (cnt e i (e i).th (e i).tx) (e i) := by
  unfold may mayB
  cases opn e i (e i).th <;> rfl
end Go.Proofs.Ytkidkhjpijjphaa.hs

/- Whether a trace is right: Right itself. -/
namespace Go.Proofs.Ytkidkhjpijjphaa.hs
open Go Go.RowKit Go.Proofs.Ytkidkhjpijjphaa.base Go.Maps
set_option linter.unusedVariables false
set_option maxRecDepth 100000

set_option maxHeartbeats 2000000 in
theorem right_any (a : Option Addr) (len cap : Nat) (e : Evs) (w : World) (hl : IsEvs w a len e) (hlen : len ≤ 1000000) :
    Calls Try.prog 41 #[.slice a len cap] w fun r w' => r = .returned (.bool (right e len)) ∧ Hid (w.grownBy w' none) := by
  have L := Lib.hid hl
  have HL := Lib.hid hlen
  have GA := Lib.hid (show World.grownBy w (((w.alloc (.map #[] 0)).alloc (.map #[] 0)).alloc (.cells #[.map (some w.heap.size), .map (some (w.heap.size + 1))] 107)) none from (by repeat (first | exact gb_refl _ _ | refine gb_drewN ?_ _ | refine gb_drew ?_ | refine gb_alloc ?_ _)))
  have MA : Hid (MapG Try.prog 3 (Value.int .i64) (((w.alloc (.map #[] 0)).alloc (.map #[] 0)).alloc (.cells #[.map (some w.heap.size), .map (some (w.heap.size + 1))] 107)) w.heap.size 0 (fun th => opnV ((opn e 0 th).map e))) := Lib.hid ((MapG.made w Try.prog 3 (Value.int .i64)).grown (r := none) (by repeat (first | exact gb_refl _ _ | refine gb_drewN ?_ _ | refine gb_drew ?_ | refine gb_alloc ?_ _)) (by simp))
  have MB : Hid (MapG Try.prog 138 two (((w.alloc (.map #[] 0)).alloc (.map #[] 0)).alloc (.cells #[.map (some w.heap.size), .map (some (w.heap.size + 1))] 107)) (w.heap.size + 1) 0 (fun _ => none)) := Lib.hid (by have := (MapG.made (w.alloc (.map #[] 0)) Try.prog 138 two).grown (w' := ((w.alloc (.map #[] 0)).alloc (.map #[] 0)).alloc (.cells #[.map (some w.heap.size), .map (some (w.heap.size + 1))] 107)) (r := none) (by repeat (first | exact gb_refl _ _ | refine gb_drewN ?_ _ | refine gb_drew ?_ | refine gb_alloc ?_ _)) (by simp); rwa [World.size_alloc] at this)
  have BA : Hid (Blk 107 (((w.alloc (.map #[] 0)).alloc (.map #[] 0)).alloc (.cells #[.map (some w.heap.size), .map (some (w.heap.size + 1))] 107)) (w.heap.size + 2) #[.map (some w.heap.size), .map (some (w.heap.size + 1))]) := Lib.hid (by have := Blk.made ((w.alloc (.map #[] 0)).alloc (.map #[] 0)) 107 #[.map (some w.heap.size), .map (some (w.heap.size + 1))]; rwa [World.size_alloc, World.size_alloc] at this)
  clear hl hlen
  have hmm := @run_makeMap Try.prog
  go_enter Try.func41, Try.ntmps41
  go_wp2_with fail
  generalize (((w.alloc (.map #[] 0)).alloc (.map #[] 0)).alloc (.cells #[.map (some w.heap.size), .map (some (w.heap.size + 1))] 107)) = wa at *
  generalize hom : w.heap.size = om at *
  have OM := Lib.hid hom
  clear hom
  go_loopw [11] (fun iv wr => ∃ (k : Nat) (g : Int × Int → Option Value), k ≤ len ∧ iv = .int .i64 k ∧ Hid (right e k = true) ∧ Hid (MapG Try.prog 3 (Value.int .i64) wr om k (fun th => opnV ((opn e k th).map e))) ∧ Hid (MapG Try.prog 138 two wr (om + 1) k g) ∧ Hid (∀ th tx, (g (th, tx)).getD (.int .i64 0) = .int .i64 (cnt e k th tx)) ∧ Hid (Blk 107 wr (om + 2) #[.map (some om), .map (some (om + 1))]) ∧ Hid (w.grownBy wr none)) (fun iv _ => (len - intOf iv).toNat)
  case atStart => exact ⟨0, fun _ => none, by omega, rfl, rfl, MA, MB, fun _ _ => rfl, BA, GA⟩
  case round =>
    obtain ⟨k, g, hk, rfl, HR, M1, M2, C, B, G⟩ := hrel
    have om_lt := M1.out.lt
    have tm_lt := M2.out.lt
    have b_lt := B.out.lt
    by_cases hlt : k < len
    · obtain ⟨b, off, rfl, hb, c0, c1, c2, c3, c4, c5, c6, we⟩ := (L.out.grown G.out).at7 hlt
      have WE := Lib.hid we
      clear we
      have hlt' : (k : Int) < (len : Int) := by omega
      have hlk : (k : Int) < 1000000 := by have := HL.out; omega
      have HM := Lib.hid (may_mayB e k)
      have q0 := B.out.cell 0
      have q1 := B.out.cell 1
      have G1 := Lib.hid (World.grownBy_alloc wr (.cells #[.int .i64 ((e k).k), .int .i64 ((e k).th), .int .i64 ((e k).tx), .int .i64 ((e k).at_), .int .i64 ((e k).ob), .int .i64 ((e k).va), .int .i64 ((e k).re)] 51) none)
      have E1 := Lib.hid (Blk.made wr 51 #[.int .i64 ((e k).k), .int .i64 ((e k).th), .int .i64 ((e k).tx), .int .i64 ((e k).at_), .int .i64 ((e k).ob), .int .i64 ((e k).va), .int .i64 ((e k).re)])
      have BB := Lib.hid B.out
      have CC := Lib.hid C.out
      have OMB := Lib.hid (show om + 2 < wr.heap.size from b_lt)
      clear B C
      cases HY : may e k with
      | true =>
        go_wp2_with (first | (go_at_call 55; refine (may_any om (om + 1) k k _ g (e k) ((opn e k (e k).th).map e) (cnt e k (e k).th (e k).tx) _ WE.out (M1.out.grown G1.out (by simp)) (M2.out.grown G1.out (by simp)) rfl (CC.out _ _)).mono ?_; rw [← HM.out, HY]; rintro r u1 ⟨rfl, g1⟩; have E2 := Lib.hid (E1.out.grown g1.out (by simp)); have B2 := Lib.hid ((BB.out.grown G1.out (by simp)).grown g1.out (by simp)); have p0 := B2.out.cell 0; have p1 := B2.out.cell 1; have r0 := E2.out.cell 0; have r1 := E2.out.cell 1; have r2 := E2.out.cell 2; have r3 := E2.out.cell 3; have r4 := E2.out.cell 4; have r5 := E2.out.cell 5; have r6 := E2.out.cell 6; have N1 := Lib.hid ((M1.out.grown G1.out (by simp)).grown g1.out (by simp)); have N2 := Lib.hid ((M2.out.grown G1.out (by simp)).grown g1.out (by simp))) | (go_at_call 56; refine (enter_any om (om + 1) k k _ g (e k) _ WE.out (by omega) (by unfold maxLen; have := HL.out; omega) (by unfold maxLen; have := HL.out; omega) N1.out N2.out).mono ?_; rintro r u2 ⟨rfl, m1, m2, g2⟩) | go_in)
        go_roundw
        case rel =>
          refine ⟨k + 1, enterG g (e k), by omega, by go_num, Lib.hid (by rw [right, HR.out, HY]; rfl), Lib.hid (m1.out.congr fun x _ _ => (enterF_opn e k x).symm), m2, Lib.hid (fun th tx => enterG_cnt e k g CC.out th tx), Lib.hid (B2.out.keep (g2.out.block _ B2.out.lt (by omega))), Lib.hid ?_⟩
          have g0 := gb_trans (gb_trans G.out G1.out) g1.out
          refine ⟨g2.out.os.trans g0.os, g2.out.tape.trans g0.tape, g2.out.output.trans g0.output, Nat.le_trans g0.size g2.out.size, fun i hi _ => (g2.out.block i (Nat.lt_of_lt_of_le hi g0.size) (by have := OM.out; omega)).trans (g0.block i hi (by simp))⟩
        case measure => simp [intOf]; omega
      | false =>
        go_wp2_with (first | (go_at_call 55; refine (may_any om (om + 1) k k _ g (e k) ((opn e k (e k).th).map e) (cnt e k (e k).th (e k).tx) _ WE.out (M1.out.grown G1.out (by simp)) (M2.out.grown G1.out (by simp)) rfl (CC.out _ _)).mono ?_; rw [← HM.out, HY]; rintro r u1 ⟨rfl, g1⟩; have E2 := Lib.hid (E1.out.grown g1.out (by simp)); have B2 := Lib.hid ((BB.out.grown G1.out (by simp)).grown g1.out (by simp)); have p0 := B2.out.cell 0; have p1 := B2.out.cell 1; have r0 := E2.out.cell 0; have r1 := E2.out.cell 1; have r2 := E2.out.cell 2; have r3 := E2.out.cell 3; have r4 := E2.out.cell 4; have r5 := E2.out.cell 5; have r6 := E2.out.cell 6; have N1 := Lib.hid ((M1.out.grown G1.out (by simp)).grown g1.out (by simp)); have N2 := Lib.hid ((M2.out.grown G1.out (by simp)).grown g1.out (by simp))) | go_in)
        go_ret
        refine ⟨?_, gb_trans (gb_trans G.out G1.out) g1.out⟩
        have hno : right e len = false := by
          cases h : right e len with
          | false => rfl
          | true => rw [right_may e h hlt] at HY; cases HY
        rw [hno]
        rfl
    · obtain rfl : k = len := by omega
      go_wp2
      go_ret
      exact ⟨by rw [HR.out]; rfl, G.out⟩
end Go.Proofs.Ytkidkhjpijjphaa.hs

/- The document's own answers of chapter 17: last, open, own, Right. -/
namespace Go.Proofs.Ytkidkhjpijjphaa.hs
open Go Go.RowKit Go.Proofs.Ytkidkhjpijjphaa.base Go.Maps
set_option linter.unusedVariables false
set_option maxRecDepth 100000

/-- Where the events lie. -/
theorem evsAt {w : World} {a : Option Addr} {n : Nat} {e : Evs} (h : IsEvs w a n e) (h0 : 0 < n) : ∃ b off, a = some ⟨b, off, none⟩ ∧ b < w.heap.size ∧ ∀ i, i < n → w.cell? ⟨b, off + i * 7, none⟩ = some (.int .i64 (e i).k) ∧ w.cell? ⟨b, off + i * 7 + 1, none⟩ = some (.int .i64 (e i).th) ∧ w.cell? ⟨b, off + i * 7 + 2, none⟩ = some (.int .i64 (e i).tx) ∧ w.cell? ⟨b, off + i * 7 + 3, none⟩ = some (.int .i64 (e i).at_) ∧ w.cell? ⟨b, off + i * 7 + 4, none⟩ = some (.int .i64 (e i).ob) ∧ w.cell? ⟨b, off + i * 7 + 5, none⟩ = some (.int .i64 (e i).va) ∧ w.cell? ⟨b, off + i * 7 + 6, none⟩ = some (.int .i64 (e i).re) := by
  rcases h with h | ⟨b, off, h1, h2, h3⟩
  · omega
  · refine ⟨b, off, h1, h2, fun i hi => ?_⟩
    have h4 := (h3 i hi).1
    exact ⟨h4 0 (by omega), h4 1 (by omega), h4 2 (by omega), h4 3 (by omega), h4 4 (by omega), h4 5 (by omega), h4 6 (by omega)⟩

theorem evsIn {w : World} {b off : Nat} {n : Nat} {e : Evs} (h : IsEvs w (some ⟨b, off, none⟩) n e) {i : Nat} (hi : i < n) : w.cell? ⟨b, off + i * 7, none⟩ = some (.int .i64 (e i).k) ∧ w.cell? ⟨b, off + i * 7 + 1, none⟩ = some (.int .i64 (e i).th) ∧ w.cell? ⟨b, off + i * 7 + 2, none⟩ = some (.int .i64 (e i).tx) ∧ w.cell? ⟨b, off + i * 7 + 3, none⟩ = some (.int .i64 (e i).at_) ∧ w.cell? ⟨b, off + i * 7 + 4, none⟩ = some (.int .i64 (e i).ob) ∧ w.cell? ⟨b, off + i * 7 + 5, none⟩ = some (.int .i64 (e i).va) ∧ w.cell? ⟨b, off + i * 7 + 6, none⟩ = some (.int .i64 (e i).re) := by
  obtain ⟨b2, off2, h1, _, h2⟩ := evsAt h (show 0 < n by omega)
  cases h1
  exact h2 i hi

set_option maxHeartbeats 1000000 in
theorem last_any (w : World) (a : Option Addr) (len cap : Nat) (e : Evs) (pl : Nat) (th : Int) (hl : IsEvs w a len e) (hp : pl ≤ len) (hlen : len ≤ 1000000) :
    Calls Try.prog 36 #[.slice a len cap, .int .i64 pl, .int .i64 th] w fun r w' => r = .returned (.int .i64 (lastI e pl th)) ∧ Hid (w.grownBy w' none) := by
  have HL := Lib.hid hl
  clear hl
  have hp1 : (pl : Int) ≤ 1000000 := by omega
  go_enter Try.func36, Try.ntmps36
  go_wp2_with fail
  go_loopw [7] (fun iv wr => ∃ i : Int, -1 ≤ i ∧ i < pl ∧ iv = .int .i64 i ∧ Hid (lastI e pl th = lastI e (i + 1).toNat th) ∧ Hid (w.grownBy wr none)) (fun iv _ => (intOf iv + 1).toNat)
  case atStart => exact ⟨(pl : Int) - 1, by omega, by omega, by go_num, by show _ = _; (try (congr 1; omega)), gb_refl _ _⟩
  case round =>
    obtain ⟨i, hi1, hi2, rfl, H, G⟩ := hrel
    by_cases h0 : 0 ≤ i
    · obtain ⟨j, rfl⟩ : ∃ j : Nat, i = j := ⟨i.toNat, by omega⟩
      have hj : j < len := by omega
      obtain ⟨b, off, rfl, hb, c0, c1, c2, c3, c4, c5, c6, we⟩ := (HL.out.grown G.out).at7 hj
      have HJ := Lib.hid (show ((j : Int) + 1).toNat = j + 1 by omega)
      have hj2 : (j : Int) < 1000000 := by omega
      have hj3 : (j : Int) < (len : Int) := by omega
      by_cases h1 : (e j).k = 1
      · have f1 : ((e j).k == 1) = true := by simp [h1]
        by_cases ht : (e j).th = th
        · have ft : ((e j).th == th) = true := by simp [ht]
          have HE := Lib.hid (show lastI e (j + 1) th = (j : Int) by rw [lastI, if_pos ⟨h1, ht⟩])
          clear h1 ht
          go_wp2
          go_ret
          exact ⟨by rw [H.out, HJ.out, HE.out]; rfl, G.out⟩
        · have ft : ((e j).th == th) = false := by simp [ht]
          have HE := Lib.hid (show lastI e (j + 1) th = lastI e j th by rw [lastI, if_neg (fun h => ht h.2)])
          clear h1 ht
          go_wp2
          go_roundw
          case rel => exact ⟨(j : Int) - 1, by omega, by omega, by go_num, by show _ = _; rw [H.out, HJ.out, HE.out]; (try (congr 1; omega)), G⟩
          case measure => simp [intOf] <;> omega
      · have f1 : ((e j).k == 1) = false := by simp [h1]
        have HE := Lib.hid (show lastI e (j + 1) th = lastI e j th by rw [lastI, if_neg (fun h => h1 h.1)])
        clear h1
        go_wp2
        go_roundw
        case rel => exact ⟨(j : Int) - 1, by omega, by omega, by go_num, by show _ = _; rw [H.out, HJ.out, HE.out]; (try (congr 1; omega)), G⟩
        case measure => simp [intOf] <;> omega
    · obtain rfl : i = -1 := by omega
      go_wp2
      go_ret
      exact ⟨by rw [H.out]; rfl, G.out⟩

theorem openB_no (e : Evs) (b k : Nat) (h : openB e b k = false) : ∀ j, openB e b (k + j) = false
  | 0 => h
  | j + 1 => by rw [← Nat.add_assoc, openB, openB_no e b k h j]; rfl
/-- Goes the try that began at a place on, ahead of another one? -/
def opB (e : Evs) (bg : Int) (pl : Nat) : Bool := decide (0 ≤ bg) && openB e bg.toNat pl

set_option maxHeartbeats 1000000 in
theorem open_any (w : World) (a : Option Addr) (len cap : Nat) (e : Evs) (bg : Int) (pl : Nat) (hl : IsEvs w a len e) (hb1 : -1 ≤ bg) (hb2 : bg < pl) (hp : pl ≤ len) (hlen : len ≤ 1000000) :
    Calls Try.prog 37 #[.slice a len cap, .int .i64 bg, .int .i64 pl] w fun r w' => r = .returned (.bool (opB e bg pl)) ∧ Hid (w.grownBy w' none) := by
  have HL := Lib.hid hl
  clear hl
  have hp1 : (pl : Int) ≤ 1000000 := by omega
  by_cases h0 : 0 ≤ bg
  · obtain ⟨b, rfl⟩ : ∃ b : Nat, bg = b := ⟨bg.toNat, by omega⟩
    have hbl : b < len := by omega
    have HS := Lib.hid (openB_self e b (b + 1) (Nat.le_refl _))
    have HO := Lib.hid (show opB e b pl = openB e b pl by unfold opB; simp)
    generalize opB e b pl = res at HO ⊢
    go_enter Try.func37, Try.ntmps37
    go_wp2_with fail
    go_loopw [7] (fun iv wr => ∃ k : Nat, b + 1 ≤ k ∧ k ≤ pl ∧ iv = .int .i64 k ∧ Hid (openB e b k = true) ∧ Hid (w.grownBy wr none)) (fun iv _ => (pl - intOf iv).toNat)
    case atStart => exact ⟨b + 1, by omega, by omega, by go_num, HS, gb_refl _ _⟩
    case round =>
      obtain ⟨k, hk1, hk2, rfl, H, G⟩ := hrel
      have hk3 : (k : Int) ≤ 1000000 := by omega
      by_cases hlt : k < pl
      · have hlt' : (k : Int) < (pl : Int) := by omega
        obtain ⟨eb, off, rfl, heb, fe0⟩ := evsAt (HL.out.grown G.out) (show 0 < len by omega)
        obtain ⟨c0, c1, _⟩ := fe0 k (by omega)
        obtain ⟨_, d1, _⟩ := fe0 b hbl
        have hkl : (k : Int) < (len : Int) := by omega
        have hbl' : (b : Int) < (len : Int) := by omega
        have hbb : (b : Int) < 1000000 := by omega
        clear fe0
        have HE := Lib.hid (show openB e b (k + 1) = !(decide ((e k).th = (e b).th) && (decide ((e k).k = 5) || decide ((e k).k = 6))) by rw [openB, H.out]; simp [show b < k from hk1])
        by_cases ht : (e k).th = (e b).th
        · have ft : ((e k).th == (e b).th) = true := by simp [ht]
          by_cases h5 : (e k).k = 5
          · have f5 : ((e k).k == 5) = true := by simp [h5]
            have HF := Lib.hid (show openB e b pl = false by have := openB_no e b (k + 1) (by rw [HE.out]; simp [ht, h5]) (pl - (k + 1)); rwa [show k + 1 + (pl - (k + 1)) = pl by omega] at this)
            clear ht h5
            go_wp2_with fail
            go_big_quiet (fail)
            go_wp2
            go_ret
            exact ⟨by rw [HO.out, HF.out]; rfl, gb_drewN G.out _⟩
          · have f5 : ((e k).k == 5) = false := by simp [h5]
            by_cases h6 : (e k).k = 6
            · have f6 : ((e k).k == 6) = true := by simp [h6]
              have HF := Lib.hid (show openB e b pl = false by have := openB_no e b (k + 1) (by rw [HE.out]; simp [ht, h6]) (pl - (k + 1)); rwa [show k + 1 + (pl - (k + 1)) = pl by omega] at this)
              clear ht h5 h6
              go_wp2_with fail
              go_big_quiet (fail)
              go_wp2
              go_ret
              exact ⟨by rw [HO.out, HF.out]; rfl, gb_drewN G.out _⟩
            · have f6 : ((e k).k == 6) = false := by simp [h6]
              have HF := Lib.hid (show openB e b (k + 1) = true by rw [HE.out]; simp [h5, h6])
              clear ht h5 h6
              go_wp2_with fail
              go_big_quiet (fail)
              go_wp2
              go_roundw
              case rel => exact ⟨k + 1, by omega, by omega, by go_num, HF, gb_drewN G.out _⟩
              case measure => simp [intOf] <;> omega
        · have ft : ((e k).th == (e b).th) = false := by simp [ht]
          have HF := Lib.hid (show openB e b (k + 1) = true by rw [HE.out]; simp [ht])
          clear ht
          go_wp2_with fail
          go_big_quiet (fail)
          go_wp2
          go_roundw
          case rel => exact ⟨k + 1, by omega, by omega, by go_num, HF, gb_drewN G.out _⟩
          case measure => simp [intOf] <;> omega
      · obtain rfl : k = pl := by omega
        go_wp2
        go_ret
        exact ⟨by rw [HO.out, H.out]; rfl, G.out⟩
  · obtain rfl : bg = -1 := by omega
    go_enter Try.func37, Try.ntmps37
    go_wp2
    go_ret
    exact ⟨by unfold opB; rfl, gb_refl _ _⟩

set_option maxHeartbeats 1000000 in
theorem own_any (x y : Ev) (w : World) : Calls Try.prog 38 #[.agg #[.int .i64 x.k, .int .i64 x.th, .int .i64 x.tx, .int .i64 x.at_, .int .i64 x.ob, .int .i64 x.va, .int .i64 x.re], .agg #[.int .i64 y.k, .int .i64 y.th, .int .i64 y.tx, .int .i64 y.at_, .int .i64 y.ob, .int .i64 y.va, .int .i64 y.re]] w fun r w' => r = .returned (.bool (ownE x y)) ∧ Hid (w.grownBy w' none) := by
  obtain ⟨o, ho⟩ : ∃ o, o = ownE x y := ⟨_, rfl⟩
  have HO := Lib.hid ho
  rw [← ho]
  clear ho
  unfold ownE at HO
  by_cases h1 : x.th = y.th
  · have f1 : (x.th == y.th) = true := by simp [h1]
    by_cases h2 : x.tx = y.tx
    · have f2 : (x.tx == y.tx) = true := by simp [h2]
      by_cases h3 : x.at_ = y.at_
      · have f3 : (x.at_ == y.at_) = true := by simp [h3]
        have HF := Lib.hid (show o = true by rw [HO.out]; simp [h1, h2, h3])
        clear h1 h2 h3 HO
        go_enter Try.func38, Try.ntmps38
        go_wp2
        go_ret
        exact ⟨by rw [HF.out]; rfl, (by repeat (first | exact gb_refl _ _ | refine gb_drewN ?_ _ | refine gb_drew ?_ | refine gb_alloc ?_ _))⟩
      · have f3 : (x.at_ == y.at_) = false := by simp [h3]
        have HF := Lib.hid (show o = false by rw [HO.out]; simp [h3])
        clear h1 h2 h3 HO
        go_enter Try.func38, Try.ntmps38
        go_wp2
        go_ret
        exact ⟨by rw [HF.out]; rfl, (by repeat (first | exact gb_refl _ _ | refine gb_drewN ?_ _ | refine gb_drew ?_ | refine gb_alloc ?_ _))⟩
    · have f2 : (x.tx == y.tx) = false := by simp [h2]
      have HF := Lib.hid (show o = false by rw [HO.out]; simp [h2])
      clear h1 h2 HO
      go_enter Try.func38, Try.ntmps38
      go_wp2
      go_ret
      exact ⟨by rw [HF.out]; rfl, (by repeat (first | exact gb_refl _ _ | refine gb_drewN ?_ _ | refine gb_drew ?_ | refine gb_alloc ?_ _))⟩
  · have f1 : (x.th == y.th) = false := by simp [h1]
    have HF := Lib.hid (show o = false by rw [HO.out]; simp [h1])
    clear h1 HO
    go_enter Try.func38, Try.ntmps38
    go_wp2
    go_ret
    exact ⟨by rw [HF.out]; rfl, (by repeat (first | exact gb_refl _ _ | refine gb_drewN ?_ _ | refine gb_drew ?_ | refine gb_alloc ?_ _))⟩
end Go.Proofs.Ytkidkhjpijjphaa.hs

/- The document's own answer of chapter 17: Right. -/
namespace Go.Proofs.Ytkidkhjpijjphaa.hs
open Go Go.RowKit Go.Proofs.Ytkidkhjpijjphaa.base Go.Maps
set_option linter.unusedVariables false
set_option maxRecDepth 100000

theorem eqb_swap (x y : Int) : (x == y) = decide (y = x) := by
  by_cases h : x = y
  · subst h
    simp
  · have h' : ¬ y = x := fun e => h e.symm
    rw [decide_eq_false h']
    simpa using h
theorem may_open (e : Evs) (k : Nat) (h : opB e (lastI e k (e k).th) k = true) : may e k = (decide (2 ≤ (e k).k) && decide ((e k).k ≤ 6) && ownE (e (lastI e k (e k).th).toNat) (e k)) := by
  unfold opB at h
  rw [Bool.and_eq_true, decide_eq_true_eq] at h
  have ho := opn_ref e k (e k).th
  rw [if_pos h] at ho
  unfold may
  rw [ho]
  have ht := (opn_spec e _ _ _ ho).2.2.1
  generalize (lastI e k (e k).th).toNat = b at *
  unfold ownE
  simp only [ht, decide_true, Bool.true_and]
  rw [eqb_swap (e k).tx, eqb_swap (e k).at_, Bool.and_assoc, Bool.and_assoc]
theorem may_shut (e : Evs) (k : Nat) (h : opB e (lastI e k (e k).th) k = false) : may e k = (((e k).k == 1 && (e k).at_ == IntKind.i64.wrap (cnt e k (e k).th (e k).tx + 1)) || (e k).k == 7) := by
  unfold opB at h
  have ho := opn_ref e k (e k).th
  rw [if_neg (by rintro ⟨h1, h2⟩; simp [h1, h2] at h)] at ho
  unfold may
  rw [ho]

theorem right_no (e : Evs) {k len : Nat} (h : k < len) (hm : may e k = false) : right e len = false := by
  cases hr : right e len with
  | false => rfl
  | true => rw [right_may e hr h] at hm; cases hm

set_option maxHeartbeats 8000000 in
theorem right_doc (a : Option Addr) (len cap : Nat) (e : Evs) (w : World) (hl : IsEvs w a len e) (hlen : len ≤ 1000000) :
    Calls Try.prog 22 #[.slice a len cap] w fun r w' => r = .returned (.bool (right e len)) ∧ Hid (w.grownBy w' none) := by
  have HL := Lib.hid hl
  have HLEN := Lib.hid hlen
  clear hl hlen
  go_enter Try.func22, Try.ntmps22
  go_wp2_with fail
  go_loopw [3] (fun iv wr => ∃ k : Nat, k ≤ len ∧ iv = .int .i64 k ∧ Hid (right e k = true) ∧ Hid (w.grownBy wr none)) (fun iv _ => (len - intOf iv).toNat)
  case atStart => exact ⟨0, by omega, rfl, rfl, gb_refl _ _⟩
  case round =>
    obtain ⟨k, hk, rfl, HR, G⟩ := hrel
    by_cases hlt : k < len
    · obtain ⟨eb, off, rfl, heb, fe0⟩ := evsAt (HL.out.grown G.out) (show 0 < len by omega)
      have FE := Lib.hid fe0
      obtain ⟨c0, c1, c2, c3, c4, c5, c6⟩ := fe0 k hlt
      clear fe0
      have hlt' : (k : Int) < (len : Int) := by omega
      have hlk : (k : Int) < 1000000 := by have := HLEN.out; omega
      have MO := Lib.hid (may_open e k)
      have MS := Lib.hid (may_shut e k)
      have NO := Lib.hid (fun h => right_no e hlt h)
      have YES := Lib.hid (show may e k = true → right e (k + 1) = true from fun h => by rw [right, HR.out, h]; rfl)
      have hL1 := lastI_lt e k (e k).th
      have LA := Lib.hid (fun u h => last_any u (some ⟨eb, off, none⟩) len cap e k (e k).th h (by omega) (by have := HLEN.out; omega))
      generalize lastI e k (e k).th = LI at *
      obtain ⟨hLa, hLb⟩ := hL1
      have OA := Lib.hid (fun u h => open_any u (some ⟨eb, off, none⟩) len cap e LI k h hLa hLb (by omega) (by have := HLEN.out; omega))
      have PO := Lib.hid (show opB e LI k = true → 0 ≤ LI from fun h => by unfold opB at h; rw [Bool.and_eq_true, decide_eq_true_eq] at h; exact h.1)
      generalize opB e LI k = o at *
      have E1 := Lib.hid (Blk.made wr 51 #[.int .i64 ((e k).k), .int .i64 ((e k).th), .int .i64 ((e k).tx), .int .i64 ((e k).at_), .int .i64 ((e k).ob), .int .i64 ((e k).va), .int .i64 ((e k).re)])
      have G1 := Lib.hid (gb_alloc G.out (.cells #[.int .i64 ((e k).k), .int .i64 ((e k).th), .int .i64 ((e k).tx), .int .i64 ((e k).at_), .int .i64 ((e k).ob), .int .i64 ((e k).va), .int .i64 ((e k).re)] 51))
      go_upto_region 5 with fail
      generalize wr.alloc (.cells #[.int .i64 ((e k).k), .int .i64 ((e k).th), .int .i64 ((e k).tx), .int .i64 ((e k).at_), .int .i64 ((e k).ob), .int .i64 ((e k).va), .int .i64 ((e k).re)] 51) = v at *
      generalize wr.heap.size = p at *
      have p_lt := E1.out.lt
      have x0 : v.cell? ⟨p, 0, none⟩ = some (.int .i64 (e k).k) := E1.out.cell 0; have x1 : v.cell? ⟨p, 1, none⟩ = some (.int .i64 (e k).th) := E1.out.cell 1; have x2 : v.cell? ⟨p, 2, none⟩ = some (.int .i64 (e k).tx) := E1.out.cell 2; have x3 : v.cell? ⟨p, 3, none⟩ = some (.int .i64 (e k).at_) := E1.out.cell 3; have x4 : v.cell? ⟨p, 4, none⟩ = some (.int .i64 (e k).ob) := E1.out.cell 4; have x5 : v.cell? ⟨p, 5, none⟩ = some (.int .i64 (e k).va) := E1.out.cell 5; have x6 : v.cell? ⟨p, 6, none⟩ = some (.int .i64 (e k).re) := E1.out.cell 6
      clear c0 c1 c2 c3 c4 c5 c6
      by_cases h1 : (e k).k = 1
      · have f1 : ((e k).k == 1) = true := by simp [h1]
        have W1 := Lib.hid h1
        clear h1
        go_upto_region 10 with (first | (go_at_call 36; refine (LA.out _ (HL.out.grown G1.out)).mono ?_; rintro r u1 ⟨rfl, g1⟩; have E2 := Lib.hid (E1.out.grown g1.out (by simp)); have G2 := Lib.hid (gb_trans G1.out g1.out)) | (go_at_call 37; refine (OA.out _ (HL.out.grown G2.out)).mono ?_; rintro r u2 ⟨rfl, g2⟩; have E3 := Lib.hid (E2.out.grown g2.out (by simp)); have G3 := Lib.hid (gb_trans G2.out g2.out); have p3 := E3.out.lt; have y0 : u2.cell? ⟨p, 0, none⟩ = some (.int .i64 (e k).k) := E3.out.cell 0; have y1 : u2.cell? ⟨p, 1, none⟩ = some (.int .i64 (e k).th) := E3.out.cell 1; have y2 : u2.cell? ⟨p, 2, none⟩ = some (.int .i64 (e k).tx) := E3.out.cell 2; have y3 : u2.cell? ⟨p, 3, none⟩ = some (.int .i64 (e k).at_) := E3.out.cell 3; have y4 : u2.cell? ⟨p, 4, none⟩ = some (.int .i64 (e k).ob) := E3.out.cell 4; have y5 : u2.cell? ⟨p, 5, none⟩ = some (.int .i64 (e k).va) := E3.out.cell 5; have y6 : u2.cell? ⟨p, 6, none⟩ = some (.int .i64 (e k).re) := E3.out.cell 6) | go_in)
        go_wp2
        clear x0 x1 x2 x3 x4 x5 x6 E1 E2 G1 G2 g1 g2 LA OA
        go_loopw [7, 8] (fun nv iv wr => ∃ j : Nat, j ≤ k ∧ iv = .int .i64 j ∧ nv = .int .i64 (cnt e j (e k).th (e k).tx) ∧ Hid (u2.grownBy wr none)) (fun _ iv _ => (k - intOf iv).toNat)
        case atStart => exact ⟨0, by omega, rfl, rfl, gb_refl _ _⟩
        case round =>
          obtain ⟨j, hj, rfl, rfl, GJ⟩ := hrel
          have EJ := Lib.hid (E3.out.grown GJ.out (by simp))
          have z0 : wr.cell? ⟨p, 0, none⟩ = some (.int .i64 (e k).k) := EJ.out.cell 0; have z1 : wr.cell? ⟨p, 1, none⟩ = some (.int .i64 (e k).th) := EJ.out.cell 1; have z2 : wr.cell? ⟨p, 2, none⟩ = some (.int .i64 (e k).tx) := EJ.out.cell 2; have z3 : wr.cell? ⟨p, 3, none⟩ = some (.int .i64 (e k).at_) := EJ.out.cell 3; have z4 : wr.cell? ⟨p, 4, none⟩ = some (.int .i64 (e k).ob) := EJ.out.cell 4; have z5 : wr.cell? ⟨p, 5, none⟩ = some (.int .i64 (e k).va) := EJ.out.cell 5; have z6 : wr.cell? ⟨p, 6, none⟩ = some (.int .i64 (e k).re) := EJ.out.cell 6
          by_cases hjk : j < k
          · have hjk' : (j : Int) < (k : Int) := by omega
            have hjl : (j : Int) < (len : Int) := by omega
            have hj2 : (j : Int) < 1000000 := by omega
            have GG := Lib.hid (gb_trans G3.out GJ.out)
            obtain ⟨c0, c1, c2, c3, c4, c5, c6⟩ := evsIn (HL.out.grown GG.out) (show j < len by omega)
            have hcn := Lib.hid (show cnt e (j + 1) (e k).th (e k).tx = if (e j).k = 1 ∧ (e j).th = (e k).th ∧ (e j).tx = (e k).tx then (e j).at_ else cnt e j (e k).th (e k).tx from rfl)
            generalize cnt e j (e k).th (e k).tx = C0 at *
            by_cases q1 : (e j).k = 1
            · have r1 : ((e j).k == 1) = true := by simp [q1]
              by_cases q2 : (e j).th = (e k).th
              · have r2 : ((e j).th == (e k).th) = true := by simp [q2]
                by_cases q3 : (e j).tx = (e k).tx
                · have r3 : ((e j).tx == (e k).tx) = true := by simp [q3]
                  have HC := Lib.hid (show cnt e (j + 1) (e k).th (e k).tx = (e j).at_ by rw [hcn.out, if_pos ⟨q1, q2, q3⟩])
                  clear q1 q2 q3; go_wp2_with fail; go_big_quiet (fail); go_wp2; go_roundw; (case rel => exact ⟨j + 1, by omega, by go_num, by rw [HC.out], gb_drewN GJ.out _⟩); (case measure => simp [intOf] <;> omega)
                · have r3 : ((e j).tx == (e k).tx) = false := by simp [q3]
                  have HC := Lib.hid (show cnt e (j + 1) (e k).th (e k).tx = C0 by rw [hcn.out, if_neg (fun h => q3 h.2.2)])
                  clear q1 q2 q3; go_wp2_with fail; go_big_quiet (fail); go_wp2; go_roundw; (case rel => exact ⟨j + 1, by omega, by go_num, by rw [HC.out], gb_drewN GJ.out _⟩); (case measure => simp [intOf] <;> omega)
              · have r2 : ((e j).th == (e k).th) = false := by simp [q2]
                have q3 := True.intro
                have HC := Lib.hid (show cnt e (j + 1) (e k).th (e k).tx = C0 by rw [hcn.out, if_neg (fun h => q2 h.2.1)])
                clear q1 q2 q3; go_wp2_with fail; go_big_quiet (fail); go_wp2; go_roundw; (case rel => exact ⟨j + 1, by omega, by go_num, by rw [HC.out], gb_drewN GJ.out _⟩); (case measure => simp [intOf] <;> omega)
            · have r1 : ((e j).k == 1) = false := by simp [q1]
              have q2 := True.intro
              have q3 := True.intro
              have HC := Lib.hid (show cnt e (j + 1) (e k).th (e k).tx = C0 by rw [hcn.out, if_neg (fun h => q1 h.1)])
              clear q1 q2 q3; go_wp2_with fail; go_big_quiet (fail); go_wp2; go_roundw; (case rel => exact ⟨j + 1, by omega, by go_num, by rw [HC.out], gb_drewN GJ.out _⟩); (case measure => simp [intOf] <;> omega)
          · obtain rfl : j = k := by omega
            cases o with
            | true =>
              have HM := Lib.hid (NO.out (by rw [MO.out rfl, W1.out]; rfl))
              go_wp2
              go_ret
              exact ⟨by rw [HM.out]; rfl, gb_trans G3.out GJ.out⟩
            | false =>
              have HS := Lib.hid (MS.out rfl)
              generalize cnt e j (e j).th (e j).tx = CN at *
              have HT := Lib.hid hjk
              obtain ⟨WN, hWN⟩ : ∃ WN, IntKind.i64.wrap (CN + 1) = WN := ⟨_, rfl⟩
              rw [hWN] at HS
              clear hjk hj hLb hLa MO MS
              by_cases q4 : (e j).at_ = WN
              · have r4 : ((e j).at_ != WN) = false := by simp [q4]
                have HM := Lib.hid (YES.out (by rw [HS.out, W1.out, q4]; simp))
                clear q4
                go_wp2
                go_roundw
                case rel => exact ⟨j + 1, by omega, by go_num, HM, gb_trans G3.out GJ.out⟩
                case measure => simp [intOf] <;> omega
              · have r4 : ((e j).at_ != WN) = true := by simp [q4]
                have HM := Lib.hid (NO.out (by rw [HS.out, W1.out]; simp [q4]))
                clear q4
                go_wp2
                go_ret
                exact ⟨by rw [HM.out]; rfl, gb_trans G3.out GJ.out⟩
      · have f1 : ((e k).k == 1) = false := by simp [h1]
        by_cases h7 : (e k).k = 7
        · have f7 : ((e k).k == 7) = true := by simp [h7]
          have W7 := Lib.hid h7
          clear h1 h7
          cases o with
          | true =>
            have HM := Lib.hid (NO.out (by rw [MO.out rfl, W7.out]; rfl))
            go_wp2_with (first | (go_at_call 36; refine (LA.out _ (HL.out.grown G1.out)).mono ?_; rintro r u1 ⟨rfl, g1⟩; have E2 := Lib.hid (E1.out.grown g1.out (by simp)); have G2 := Lib.hid (gb_trans G1.out g1.out)) | (go_at_call 37; refine (OA.out _ (HL.out.grown G2.out)).mono ?_; rintro r u2 ⟨rfl, g2⟩; have E3 := Lib.hid (E2.out.grown g2.out (by simp)); have G3 := Lib.hid (gb_trans G2.out g2.out); have p3 := E3.out.lt; have y0 : u2.cell? ⟨p, 0, none⟩ = some (.int .i64 (e k).k) := E3.out.cell 0; have y1 : u2.cell? ⟨p, 1, none⟩ = some (.int .i64 (e k).th) := E3.out.cell 1; have y2 : u2.cell? ⟨p, 2, none⟩ = some (.int .i64 (e k).tx) := E3.out.cell 2; have y3 : u2.cell? ⟨p, 3, none⟩ = some (.int .i64 (e k).at_) := E3.out.cell 3; have y4 : u2.cell? ⟨p, 4, none⟩ = some (.int .i64 (e k).ob) := E3.out.cell 4; have y5 : u2.cell? ⟨p, 5, none⟩ = some (.int .i64 (e k).va) := E3.out.cell 5; have y6 : u2.cell? ⟨p, 6, none⟩ = some (.int .i64 (e k).re) := E3.out.cell 6) | go_in)
            go_ret
            exact ⟨by rw [HM.out]; rfl, G3.out⟩
          | false =>
            have HM := Lib.hid (YES.out (by rw [MS.out rfl, W7.out]; simp))
            go_wp2_with (first | (go_at_call 36; refine (LA.out _ (HL.out.grown G1.out)).mono ?_; rintro r u1 ⟨rfl, g1⟩; have E2 := Lib.hid (E1.out.grown g1.out (by simp)); have G2 := Lib.hid (gb_trans G1.out g1.out)) | (go_at_call 37; refine (OA.out _ (HL.out.grown G2.out)).mono ?_; rintro r u2 ⟨rfl, g2⟩; have E3 := Lib.hid (E2.out.grown g2.out (by simp)); have G3 := Lib.hid (gb_trans G2.out g2.out); have p3 := E3.out.lt; have y0 : u2.cell? ⟨p, 0, none⟩ = some (.int .i64 (e k).k) := E3.out.cell 0; have y1 : u2.cell? ⟨p, 1, none⟩ = some (.int .i64 (e k).th) := E3.out.cell 1; have y2 : u2.cell? ⟨p, 2, none⟩ = some (.int .i64 (e k).tx) := E3.out.cell 2; have y3 : u2.cell? ⟨p, 3, none⟩ = some (.int .i64 (e k).at_) := E3.out.cell 3; have y4 : u2.cell? ⟨p, 4, none⟩ = some (.int .i64 (e k).ob) := E3.out.cell 4; have y5 : u2.cell? ⟨p, 5, none⟩ = some (.int .i64 (e k).va) := E3.out.cell 5; have y6 : u2.cell? ⟨p, 6, none⟩ = some (.int .i64 (e k).re) := E3.out.cell 6) | go_in)
            go_roundw
            case rel => exact ⟨k + 1, by omega, by go_num, HM, G3⟩
            case measure => simp [intOf] <;> omega
        · have f7 : ((e k).k == 7) = false := by simp [h7]
          by_cases h2 : 2 ≤ (e k).k
          · have f2 : decide (2 ≤ (e k).k) = true := by simp [h2]
            by_cases h6 : (e k).k ≤ 6
            · have f6 : decide ((e k).k ≤ 6) = true := by simp [h6]
              cases o with
              | false =>
                have HM := Lib.hid (NO.out (by rw [MS.out rfl]; simp [h1, h7]))
                clear h1 h7 h2 h6
                go_wp2_with (first | (go_at_call 36; refine (LA.out _ (HL.out.grown G1.out)).mono ?_; rintro r u1 ⟨rfl, g1⟩; have E2 := Lib.hid (E1.out.grown g1.out (by simp)); have G2 := Lib.hid (gb_trans G1.out g1.out)) | (go_at_call 37; refine (OA.out _ (HL.out.grown G2.out)).mono ?_; rintro r u2 ⟨rfl, g2⟩; have E3 := Lib.hid (E2.out.grown g2.out (by simp)); have G3 := Lib.hid (gb_trans G2.out g2.out); have p3 := E3.out.lt; have y0 : u2.cell? ⟨p, 0, none⟩ = some (.int .i64 (e k).k) := E3.out.cell 0; have y1 : u2.cell? ⟨p, 1, none⟩ = some (.int .i64 (e k).th) := E3.out.cell 1; have y2 : u2.cell? ⟨p, 2, none⟩ = some (.int .i64 (e k).tx) := E3.out.cell 2; have y3 : u2.cell? ⟨p, 3, none⟩ = some (.int .i64 (e k).at_) := E3.out.cell 3; have y4 : u2.cell? ⟨p, 4, none⟩ = some (.int .i64 (e k).ob) := E3.out.cell 4; have y5 : u2.cell? ⟨p, 5, none⟩ = some (.int .i64 (e k).va) := E3.out.cell 5; have y6 : u2.cell? ⟨p, 6, none⟩ = some (.int .i64 (e k).re) := E3.out.cell 6) | go_in)
                go_big_quiet (fail)
                go_wp2
                go_ret
                exact ⟨by rw [HM.out]; rfl, gb_drewN G3.out _⟩
              | true =>
                have HM := Lib.hid (MO.out rfl)
                rw [f2, f6, Bool.true_and, Bool.true_and] at HM
                obtain ⟨b, rfl⟩ : ∃ b : Nat, LI = b := ⟨LI.toNat, by have := PO.out rfl; omega⟩
                rw [Int.toNat_natCast] at HM
                have hbk : (b : Int) < (len : Int) := by omega
                have hb6 : (b : Int) < 1000000 := by omega
                clear h1 h7 h2 h6 MO MS PO
                have OW := Lib.hid (own_any (e b) (e k))
                generalize ownE (e b) (e k) = q at *
                go_upto_region 21 with (first | (go_at_call 36; refine (LA.out _ (HL.out.grown G1.out)).mono ?_; rintro r u1 ⟨rfl, g1⟩; have E2 := Lib.hid (E1.out.grown g1.out (by simp)); have G2 := Lib.hid (gb_trans G1.out g1.out)) | (go_at_call 37; refine (OA.out _ (HL.out.grown G2.out)).mono ?_; rintro r u2 ⟨rfl, g2⟩; have E3 := Lib.hid (E2.out.grown g2.out (by simp)); have G3 := Lib.hid (gb_trans G2.out g2.out); have p3 := E3.out.lt; have y0 : u2.cell? ⟨p, 0, none⟩ = some (.int .i64 (e k).k) := E3.out.cell 0; have y1 : u2.cell? ⟨p, 1, none⟩ = some (.int .i64 (e k).th) := E3.out.cell 1; have y2 : u2.cell? ⟨p, 2, none⟩ = some (.int .i64 (e k).tx) := E3.out.cell 2; have y3 : u2.cell? ⟨p, 3, none⟩ = some (.int .i64 (e k).at_) := E3.out.cell 3; have y4 : u2.cell? ⟨p, 4, none⟩ = some (.int .i64 (e k).ob) := E3.out.cell 4; have y5 : u2.cell? ⟨p, 5, none⟩ = some (.int .i64 (e k).va) := E3.out.cell 5; have y6 : u2.cell? ⟨p, 6, none⟩ = some (.int .i64 (e k).re) := E3.out.cell 6) | go_in)
                obtain ⟨d0, d1, d2, d3, d4, d5, d6⟩ := evsIn (HL.out.grown G3.out) (show b < len by omega)
                clear x0 x1 x2 x3 x4 x5 x6
                cases q with
                | true =>
                  have HY := Lib.hid (YES.out HM.out)
                  go_region_held3 (fun w' => w'.cell? ⟨eb, off + b * 7, none⟩ = some (.int .i64 (e b).k) ∧ w'.cell? ⟨eb, off + b * 7 + 1, none⟩ = some (.int .i64 (e b).th) ∧ w'.cell? ⟨eb, off + b * 7 + 2, none⟩ = some (.int .i64 (e b).tx) ∧ w'.cell? ⟨eb, off + b * 7 + 3, none⟩ = some (.int .i64 (e b).at_) ∧ w'.cell? ⟨eb, off + b * 7 + 4, none⟩ = some (.int .i64 (e b).ob) ∧ w'.cell? ⟨eb, off + b * 7 + 5, none⟩ = some (.int .i64 (e b).va) ∧ w'.cell? ⟨eb, off + b * 7 + 6, none⟩ = some (.int .i64 (e b).re) ∧ w'.cell? ⟨p, 0, none⟩ = some (.int .i64 ((e k).k)) ∧ w'.cell? ⟨p, 1, none⟩ = some (.int .i64 ((e k).th)) ∧ w'.cell? ⟨p, 2, none⟩ = some (.int .i64 ((e k).tx)) ∧ w'.cell? ⟨p, 3, none⟩ = some (.int .i64 ((e k).at_)) ∧ w'.cell? ⟨p, 4, none⟩ = some (.int .i64 ((e k).ob)) ∧ w'.cell? ⟨p, 5, none⟩ = some (.int .i64 ((e k).va)) ∧ w'.cell? ⟨p, 6, none⟩ = some (.int .i64 ((e k).re))) (go_keep) ((go_at_call 38; refine (OW.out _).mono ?_; rintro r u3 ⟨rfl, g3⟩; have m0 := g3.out.cell d0 (by simp); have m1 := g3.out.cell d1 (by simp); have m2 := g3.out.cell d2 (by simp); have m3 := g3.out.cell d3 (by simp); have m4 := g3.out.cell d4 (by simp); have m5 := g3.out.cell d5 (by simp); have m6 := g3.out.cell d6 (by simp); have n0 := g3.out.cell y0 (by simp); have n1 := g3.out.cell y1 (by simp); have n2 := g3.out.cell y2 (by simp); have n3 := g3.out.cell y3 (by simp); have n4 := g3.out.cell y4 (by simp); have n5 := g3.out.cell y5 (by simp); have n6 := g3.out.cell y6 (by simp)))
                  go_wp2
                  go_roundw
                  case rel => exact ⟨k + 1, by omega, by go_num, HY, gb_trans (gb_drew G3.out) g3.out⟩
                  case measure => simp [intOf] <;> omega
                | false =>
                  have HY := Lib.hid (NO.out HM.out)
                  go_region_held3 (fun w' => w'.cell? ⟨eb, off + b * 7, none⟩ = some (.int .i64 (e b).k) ∧ w'.cell? ⟨eb, off + b * 7 + 1, none⟩ = some (.int .i64 (e b).th) ∧ w'.cell? ⟨eb, off + b * 7 + 2, none⟩ = some (.int .i64 (e b).tx) ∧ w'.cell? ⟨eb, off + b * 7 + 3, none⟩ = some (.int .i64 (e b).at_) ∧ w'.cell? ⟨eb, off + b * 7 + 4, none⟩ = some (.int .i64 (e b).ob) ∧ w'.cell? ⟨eb, off + b * 7 + 5, none⟩ = some (.int .i64 (e b).va) ∧ w'.cell? ⟨eb, off + b * 7 + 6, none⟩ = some (.int .i64 (e b).re) ∧ w'.cell? ⟨p, 0, none⟩ = some (.int .i64 ((e k).k)) ∧ w'.cell? ⟨p, 1, none⟩ = some (.int .i64 ((e k).th)) ∧ w'.cell? ⟨p, 2, none⟩ = some (.int .i64 ((e k).tx)) ∧ w'.cell? ⟨p, 3, none⟩ = some (.int .i64 ((e k).at_)) ∧ w'.cell? ⟨p, 4, none⟩ = some (.int .i64 ((e k).ob)) ∧ w'.cell? ⟨p, 5, none⟩ = some (.int .i64 ((e k).va)) ∧ w'.cell? ⟨p, 6, none⟩ = some (.int .i64 ((e k).re))) (go_keep) ((go_at_call 38; refine (OW.out _).mono ?_; rintro r u3 ⟨rfl, g3⟩; have m0 := g3.out.cell d0 (by simp); have m1 := g3.out.cell d1 (by simp); have m2 := g3.out.cell d2 (by simp); have m3 := g3.out.cell d3 (by simp); have m4 := g3.out.cell d4 (by simp); have m5 := g3.out.cell d5 (by simp); have m6 := g3.out.cell d6 (by simp); have n0 := g3.out.cell y0 (by simp); have n1 := g3.out.cell y1 (by simp); have n2 := g3.out.cell y2 (by simp); have n3 := g3.out.cell y3 (by simp); have n4 := g3.out.cell y4 (by simp); have n5 := g3.out.cell y5 (by simp); have n6 := g3.out.cell y6 (by simp)))
                  go_wp2
                  go_ret
                  exact ⟨by rw [HY.out]; rfl, gb_trans (gb_drew G3.out) g3.out⟩
            · have f6 : decide ((e k).k ≤ 6) = false := by simpa using h6
              have HM := Lib.hid (NO.out (by cases o with | true => rw [MO.out rfl, f6]; simp | false => rw [MS.out rfl]; simp [h1, h7]))
              clear h1 h7 h2 h6
              go_wp2_with (first | (go_at_call 36; refine (LA.out _ (HL.out.grown G1.out)).mono ?_; rintro r u1 ⟨rfl, g1⟩; have E2 := Lib.hid (E1.out.grown g1.out (by simp)); have G2 := Lib.hid (gb_trans G1.out g1.out)) | (go_at_call 37; refine (OA.out _ (HL.out.grown G2.out)).mono ?_; rintro r u2 ⟨rfl, g2⟩; have E3 := Lib.hid (E2.out.grown g2.out (by simp)); have G3 := Lib.hid (gb_trans G2.out g2.out); have p3 := E3.out.lt; have y0 : u2.cell? ⟨p, 0, none⟩ = some (.int .i64 (e k).k) := E3.out.cell 0; have y1 : u2.cell? ⟨p, 1, none⟩ = some (.int .i64 (e k).th) := E3.out.cell 1; have y2 : u2.cell? ⟨p, 2, none⟩ = some (.int .i64 (e k).tx) := E3.out.cell 2; have y3 : u2.cell? ⟨p, 3, none⟩ = some (.int .i64 (e k).at_) := E3.out.cell 3; have y4 : u2.cell? ⟨p, 4, none⟩ = some (.int .i64 (e k).ob) := E3.out.cell 4; have y5 : u2.cell? ⟨p, 5, none⟩ = some (.int .i64 (e k).va) := E3.out.cell 5; have y6 : u2.cell? ⟨p, 6, none⟩ = some (.int .i64 (e k).re) := E3.out.cell 6) | go_in)
              go_ret
              exact ⟨by rw [HM.out]; rfl, G3.out⟩
          · have f2 : decide (2 ≤ (e k).k) = false := by simpa using h2
            have HM := Lib.hid (NO.out (by cases o with | true => rw [MO.out rfl, f2]; simp | false => rw [MS.out rfl]; simp [h1, h7]))
            clear h1 h7 h2
            go_wp2_with (first | (go_at_call 36; refine (LA.out _ (HL.out.grown G1.out)).mono ?_; rintro r u1 ⟨rfl, g1⟩; have E2 := Lib.hid (E1.out.grown g1.out (by simp)); have G2 := Lib.hid (gb_trans G1.out g1.out)) | (go_at_call 37; refine (OA.out _ (HL.out.grown G2.out)).mono ?_; rintro r u2 ⟨rfl, g2⟩; have E3 := Lib.hid (E2.out.grown g2.out (by simp)); have G3 := Lib.hid (gb_trans G2.out g2.out); have p3 := E3.out.lt; have y0 : u2.cell? ⟨p, 0, none⟩ = some (.int .i64 (e k).k) := E3.out.cell 0; have y1 : u2.cell? ⟨p, 1, none⟩ = some (.int .i64 (e k).th) := E3.out.cell 1; have y2 : u2.cell? ⟨p, 2, none⟩ = some (.int .i64 (e k).tx) := E3.out.cell 2; have y3 : u2.cell? ⟨p, 3, none⟩ = some (.int .i64 (e k).at_) := E3.out.cell 3; have y4 : u2.cell? ⟨p, 4, none⟩ = some (.int .i64 (e k).ob) := E3.out.cell 4; have y5 : u2.cell? ⟨p, 5, none⟩ = some (.int .i64 (e k).va) := E3.out.cell 5; have y6 : u2.cell? ⟨p, 6, none⟩ = some (.int .i64 (e k).re) := E3.out.cell 6) | go_in)
            go_ret
            exact ⟨by rw [HM.out]; rfl, G3.out⟩
    · obtain rfl : k = len := by omega
      go_wp2
      go_ret
      exact ⟨by rw [HR.out]; rfl, G.out⟩
end Go.Proofs.Ytkidkhjpijjphaa.hs

/- A try begins: hist's begun. -/
namespace Go.Proofs.Ytkidkhjpijjphaa.hs
open Go Go.RowKit Go.Proofs.Ytkidkhjpijjphaa.base Go.Maps
set_option linter.unusedVariables false
set_option maxRecDepth 100000

set_option maxHeartbeats 1000000 in
theorem begun_any (pl : Nat) (e : Ev) (w : World) :
    Calls Try.prog 62 #[.int .i64 pl, .agg #[.int .i64 e.k, .int .i64 e.th, .int .i64 e.tx, .int .i64 e.at_, .int .i64 e.ob, .int .i64 e.va, .int .i64 e.re]] w fun r w' => ∃ b, r = .returned (.pointer (some ⟨b, 0, none⟩)) ∧ Hid (Gng w' (fun k => w.heap.size ≤ k ∧ k < w'.heap.size) b (init pl e) (fun _ => false) (fun _ => []) 0) ∧ Hid (w.grownBy w' none) := by
  have hmm := @run_makeMap Try.prog
  go_enter Try.func62, Try.ntmps62
  go_wp2
  go_ret
  have G : w.grownBy (((((w.alloc (.cells #[.int .i64 e.k, .int .i64 e.th, .int .i64 e.tx, .int .i64 e.at_, .int .i64 e.ob, .int .i64 e.va, .int .i64 e.re] 51)).alloc (.cells #[.int .i64 e.th, .int .i64 e.tx, .int .i64 e.at_, .int .i64 e.va, .int .i64 pl, .int .i64 (-1), .int .i64 0, .bool false, .slice none 0 0] 41)).alloc (.map #[] 0)).alloc (.map #[] 0)).alloc (.cells #[.int .i64 e.th, .int .i64 e.tx, .int .i64 e.at_, .int .i64 e.va, .int .i64 pl, .int .i64 (-1), .int .i64 0, .bool false, .slice none 0 0, .map (some (w.heap.size + 2)), .map (some (w.heap.size + 3))] 131)) none := (by repeat (first | exact gb_refl _ _ | refine gb_drewN ?_ _ | refine gb_drew ?_ | refine gb_alloc ?_ _))
  refine ⟨w.heap.size + 4, rfl, ⟨.slice none 0 0, w.heap.size + 2, w.heap.size + 3, fun _ => none, ?_, ?_, ?_, ?_, fun _ _ => rfl, by simp, by omega, by simp, by simp, by simp [Value.ownBlock], by simp, by simp, by simp⟩, G⟩
  · have := Blk.made ((((w.alloc (.cells #[.int .i64 e.k, .int .i64 e.th, .int .i64 e.tx, .int .i64 e.at_, .int .i64 e.ob, .int .i64 e.va, .int .i64 e.re] 51)).alloc (.cells #[.int .i64 e.th, .int .i64 e.tx, .int .i64 e.at_, .int .i64 e.va, .int .i64 pl, .int .i64 (-1), .int .i64 0, .bool false, .slice none 0 0] 41)).alloc (.map #[] 0)).alloc (.map #[] 0)) 131 #[.int .i64 e.th, .int .i64 e.tx, .int .i64 e.at_, .int .i64 e.va, .int .i64 pl, .int .i64 (-1), .int .i64 0, .bool false, .slice none 0 0, .map (some (w.heap.size + 2)), .map (some (w.heap.size + 3))]
    simp only [World.size_alloc] at this
    exact this
  · exact World.ownsRow_nil _ _ _ _
  · have := (MapG.made ((w.alloc (.cells #[.int .i64 e.k, .int .i64 e.th, .int .i64 e.tx, .int .i64 e.at_, .int .i64 e.ob, .int .i64 e.va, .int .i64 e.re] 51)).alloc (.cells #[.int .i64 e.th, .int .i64 e.tx, .int .i64 e.at_, .int .i64 e.va, .int .i64 pl, .int .i64 (-1), .int .i64 0, .bool false, .slice none 0 0] 41)) Try.prog 3 (Value.int .i64)).grown (w' := (((((w.alloc (.cells #[.int .i64 e.k, .int .i64 e.th, .int .i64 e.tx, .int .i64 e.at_, .int .i64 e.ob, .int .i64 e.va, .int .i64 e.re] 51)).alloc (.cells #[.int .i64 e.th, .int .i64 e.tx, .int .i64 e.at_, .int .i64 e.va, .int .i64 pl, .int .i64 (-1), .int .i64 0, .bool false, .slice none 0 0] 41)).alloc (.map #[] 0)).alloc (.map #[] 0)).alloc (.cells #[.int .i64 e.th, .int .i64 e.tx, .int .i64 e.at_, .int .i64 e.va, .int .i64 pl, .int .i64 (-1), .int .i64 0, .bool false, .slice none 0 0, .map (some (w.heap.size + 2)), .map (some (w.heap.size + 3))] 131))) (r := none) (by repeat (first | exact gb_refl _ _ | refine gb_drewN ?_ _ | refine gb_drew ?_ | refine gb_alloc ?_ _)) (by simp)
    simp only [World.size_alloc] at this
    exact this.congr (fun x kl _ => by simp [wroteV])
  · have := (MapG.made (((w.alloc (.cells #[.int .i64 e.k, .int .i64 e.th, .int .i64 e.tx, .int .i64 e.at_, .int .i64 e.ob, .int .i64 e.va, .int .i64 e.re] 51)).alloc (.cells #[.int .i64 e.th, .int .i64 e.tx, .int .i64 e.at_, .int .i64 e.va, .int .i64 pl, .int .i64 (-1), .int .i64 0, .bool false, .slice none 0 0] 41)).alloc (.map #[] 0)) Try.prog 3 (Value.int .i64)).grown (w' := (((((w.alloc (.cells #[.int .i64 e.k, .int .i64 e.th, .int .i64 e.tx, .int .i64 e.at_, .int .i64 e.ob, .int .i64 e.va, .int .i64 e.re] 51)).alloc (.cells #[.int .i64 e.th, .int .i64 e.tx, .int .i64 e.at_, .int .i64 e.va, .int .i64 pl, .int .i64 (-1), .int .i64 0, .bool false, .slice none 0 0] 41)).alloc (.map #[] 0)).alloc (.map #[] 0)).alloc (.cells #[.int .i64 e.th, .int .i64 e.tx, .int .i64 e.at_, .int .i64 e.va, .int .i64 pl, .int .i64 (-1), .int .i64 0, .bool false, .slice none 0 0, .map (some (w.heap.size + 2)), .map (some (w.heap.size + 3))] 131))) (r := none) (by repeat (first | exact gb_refl _ _ | refine gb_drewN ?_ _ | refine gb_drew ?_ | refine gb_alloc ?_ _)) (by simp)
    simp only [World.size_alloc] at this
    exact this
end Go.Proofs.Ytkidkhjpijjphaa.hs

/- The tries that go on, by their threads: hist's map of them. -/
namespace Go.Proofs.Ytkidkhjpijjphaa.hs
open Go Go.RowKit Go.Proofs.Ytkidkhjpijjphaa.base Go.Maps
set_option linter.unusedVariables false
set_option maxRecDepth 100000

theorem does_any (w : World) (F : Nat → Prop) (b : Nat) (t : Tr) (N : Nat) (pl : Nat) (e : Ev) (he : Ev.Wf e) (hk : 2 ≤ e.k ∧ e.k ≤ 6) (hF : ∀ k, F k → k < w.heap.size) (h : Gng w F b t (wrote t.ac) (readsF t.ac) N) (hen : t.en = -1) (hm : t.ac.length < 100000) (hN : N < 100000) :
    Calls Try.prog 63 #[.pointer (some ⟨b, 0, none⟩), .int .i64 pl, .agg #[.int .i64 e.k, .int .i64 e.th, .int .i64 e.tx, .int .i64 e.at_, .int .i64 e.ob, .int .i64 e.va, .int .i64 e.re]] w fun r w' => r = .returned (.bool (decide (e.k = 5 ∨ e.k = 6))) ∧ Hid (Gng w' (Up F w w') b (base.stepT t pl e) (wrote (base.stepT t pl e).ac) (readsF (base.stepT t pl e).ac) (N + 1)) ∧ Hid (Only F w w') := by
  obtain ⟨k, th, tx, at_, ob, va, re⟩ := e
  have hk2 : k = 2 ∨ k = 3 ∨ k = 4 ∨ k = 5 ∨ k = 6 := by dsimp only at hk; omega
  rcases hk2 with rfl | rfl | rfl | rfl | rfl
  · exact does_read w F b t N pl th tx at_ ob va re he.ob hF h hen hm hN
  · exact does_write w F b t N pl th tx at_ ob va re he.ob hF h hen hm hN
  · exact does_release w F b t N pl th tx at_ ob va re he.ob hF h hen hm hN
  · exact does_commit w F b t N pl th tx at_ ob va re he.ob hF h hen hm hN
  · exact does_abort w F b t N pl th tx at_ ob va re he.ob hF h hen hm hN

def ptrV (x : Nat × Tr) : Value := .pointer (some ⟨x.1, 0, none⟩)

/-- Block om is the map of the tries that go on: G says for each thread in which block its try lies, and what it is; it lies in the blocks of Fo; all from block B on. -/
structure Opn (B : Nat) (W : World) (om N : Nat) (G : Int → Option (Nat × Tr)) (Fo : Int → Nat → Prop) : Prop where
  map : MapG Try.prog 3 (Value.int .i64) W om N (fun th => (G th).map ptrV)
  gng : ∀ th b t, G th = some (b, t) → Gng W (Fo th) b t (wrote t.ac) (readsF t.ac) N
  lt : ∀ th k, G th ≠ none → Fo th k → B ≤ k ∧ k < W.heap.size ∧ k ≠ om
  apart : ∀ th th' k, G th ≠ none → G th' ≠ none → Fo th k → Fo th' k → th = th'
  om_le : B ≤ om

/-- The blocks of all of it. -/
def OpnF (om : Nat) (G : Int → Option (Nat × Tr)) (Fo : Int → Nat → Prop) : Nat → Prop := fun k => k = om ∨ ∃ th, G th ≠ none ∧ Fo th k

open Classical in
noncomputable def updG (G : Int → Option (Nat × Tr)) (th : Int) (x : Option (Nat × Tr)) : Int → Option (Nat × Tr) := fun p => if p = th then x else G p
open Classical in
noncomputable def updFo (Fo : Int → Nat → Prop) (th : Int) (F : Nat → Prop) : Int → Nat → Prop := fun p => if p = th then F else Fo p
theorem updG_same (G : Int → Option (Nat × Tr)) (th : Int) (x : Option (Nat × Tr)) : updG G th x th = x := by simp [updG]
theorem updG_other (G : Int → Option (Nat × Tr)) {th p : Int} (x : Option (Nat × Tr)) (h : p ≠ th) : updG G th x p = G p := by simp [updG, h]
theorem updFo_same (Fo : Int → Nat → Prop) (th : Int) (F : Nat → Prop) : updFo Fo th F th = F := by simp [updFo]
theorem updFo_other (Fo : Int → Nat → Prop) {th p : Int} (F : Nat → Prop) (h : p ≠ th) : updFo Fo th F p = Fo p := by simp [updFo, h]

section
variable {B : Nat} {W W' : World} {om N : Nat} {G : Int → Option (Nat × Tr)} {Fo : Int → Nat → Prop}
theorem Opn.frame (h : Opn B W om N G Fo) (hk : ∀ k, OpnF om G Fo k → W'.heap[k]? = W.heap[k]?) (hs : W.heap.size ≤ W'.heap.size) : Opn B W' om N G Fo :=
  ⟨h.map.keep (hk _ (.inl rfl)), fun th b t e => (h.gng th b t e).keep (fun k hF => hk _ (.inr ⟨th, by rw [e]; simp, hF⟩)), fun th k e hF => ⟨(h.lt th k e hF).1, Nat.lt_of_lt_of_le (h.lt th k e hF).2.1 hs, (h.lt th k e hF).2.2⟩, h.apart, h.om_le⟩
theorem Opn.grown (h : Opn B W om N G Fo) (g : W.grownBy W' none) : Opn B W' om N G Fo :=
  h.frame (fun k hk => g.block k (by rcases hk with rfl | ⟨th, h1, h2⟩; exact h.map.lt; exact (h.lt th k h1 h2).2.1) (by simp)) g.size
theorem Opn.more (h : Opn B W om N G Fo) : Opn B W om (N + 1) G Fo :=
  ⟨h.map.more (Nat.le_succ _), fun th b t e => (h.gng th b t e).more (fun _ h => h), h.lt, h.apart, h.om_le⟩
theorem OpnF.lt (h : Opn B W om N G Fo) {k : Nat} (hk : OpnF om G Fo k) : B ≤ k ∧ k < W.heap.size := by
  rcases hk with rfl | ⟨th, h1, h2⟩
  · exact ⟨h.om_le, h.map.lt⟩
  · exact ⟨(h.lt th k h1 h2).1, (h.lt th k h1 h2).2.1⟩

/-- An event of a try that goes on. -/
theorem Opn.step (h : Opn B W om N G Fo) {th : Int} {b : Nat} {t t' : Tr} (e : G th = some (b, t)) (hg : Gng W' (Up (Fo th) W W') b t' (wrote t'.ac) (readsF t'.ac) (N + 1)) (ho : Only (Fo th) W W') (hB : B ≤ W.heap.size) :
    Opn B W' om (N + 1) (updG G th (some (b, t'))) (updFo Fo th (Up (Fo th) W W')) := by
  have hne : G th ≠ none := by rw [e]; simp
  have hold : ∀ p k, p ≠ th → G p ≠ none → Fo p k → ¬ Fo th k := fun p k hp h1 h2 h3 => hp (h.apart p th k h1 hne h2 h3)
  refine ⟨((h.map.keep (ho.block _ h.map.lt (fun h1 => (h.lt th om hne h1).2.2 rfl))).more (Nat.le_succ _)).congr (fun x _ _ => ?_), fun p b' t'' hp => ?_, fun p k hp hk => ?_, fun p q k hp hq hk hk' => ?_, h.om_le⟩
  · by_cases hx : x = th
    · subst hx
      rw [updG_same, e]
      rfl
    · rw [updG_other _ _ hx]
  · by_cases hx : p = th
    · subst hx
      rw [updG_same] at hp
      cases hp
      rw [updFo_same]
      exact hg
    · rw [updG_other _ _ hx] at hp
      rw [updFo_other _ _ hx]
      exact ((h.gng p b' t'' hp).keep (fun k hk => ho.block k (h.lt p k (by rw [hp]; simp) hk).2.1 (hold p k hx (by rw [hp]; simp) hk))).more (fun _ h => h)
  · by_cases hx : p = th
    · subst hx
      rw [updFo_same] at hk
      have := h.map.lt
      rcases hk with hk | hk
      · have := h.lt p k hne hk
        exact ⟨this.1, Nat.lt_of_lt_of_le this.2.1 ho.size, this.2.2⟩
      · exact ⟨by omega, hk.2, by omega⟩
    · rw [updG_other _ _ hx] at hp
      rw [updFo_other _ _ hx] at hk
      have := h.lt p k hp hk
      exact ⟨this.1, Nat.lt_of_lt_of_le this.2.1 ho.size, this.2.2⟩
  · by_cases hx : p = th
    · by_cases hy : q = th
      · rw [hx, hy]
      · subst hx
        rw [updFo_same] at hk
        rw [updG_other _ _ hy] at hq
        rw [updFo_other _ _ hy] at hk'
        rcases hk with hk | hk
        · exact absurd hk (hold q k hy hq hk')
        · have := h.lt q k hq hk'
          omega
    · rw [updG_other _ _ hx] at hp
      rw [updFo_other _ _ hx] at hk
      by_cases hy : q = th
      · subst hy
        rw [updFo_same] at hk'
        rcases hk' with hk' | hk'
        · exact absurd hk' (hold p k hx hp hk)
        · have := h.lt p k hp hk
          omega
      · rw [updG_other _ _ hy] at hq
        rw [updFo_other _ _ hy] at hk'
        exact h.apart p q k hp hq hk hk'

/-- A try begins. -/
theorem Opn.put {W'' : World} (h : Opn B W om N G Fo) (th : Int) {b : Nat} {t : Tr} {Fn : Nat → Prop} (g : W.grownBy W' none) (hg : Gng W' Fn b t (wrote t.ac) (readsF t.ac) 0) (hn : ∀ k, Fn k → W.heap.size ≤ k ∧ k < W'.heap.size) (hB : B ≤ W.heap.size)
    (hm : MapG Try.prog 3 (Value.int .i64) W'' om (N + 1) (upd (fun th => (G th).map ptrV) th (some (ptrV (b, t))))) (g2 : W'.grownBy W'' (some om)) :
    Opn B W'' om (N + 1) (updG G th (some (b, t))) (updFo Fo th Fn) := by
  have hl := h.map.lt
  have keepN : ∀ {F : Nat → Prop} {b : Nat} {t : Tr} {Wf : Int → Bool} {R : Int → List Nat} (m : Nat), Gng W'' F b t Wf R 0 → Gng W'' F b t Wf R m := fun m => by
    induction m with
    | zero => exact fun h => h
    | succ m ih => exact fun h => (ih h).more (fun _ h => h)
  refine ⟨hm.congr (fun x _ _ => ?_), fun p b' t'' hp => ?_, fun p k hp hk => ?_, fun p q k hp hq hk hk' => ?_, h.om_le⟩
  · by_cases hx : x = th
    · subst hx
      rw [updG_same, upd_same]
      rfl
    · rw [updG_other _ _ hx, upd_other _ _ hx]
  · by_cases hx : p = th
    · subst hx
      rw [updG_same] at hp
      cases hp
      rw [updFo_same]
      exact keepN _ (hg.keep (fun k hk => g2.block k (hn k hk).2 (by have := hn k hk; simp; omega)))
    · rw [updG_other _ _ hx] at hp
      rw [updFo_other _ _ hx]
      exact ((h.gng p b' t'' hp).keep (fun k hk => by
        have h1 := h.lt p k (by rw [hp]; simp) hk
        exact (g2.block k (Nat.lt_of_lt_of_le h1.2.1 g.size) (by simp; exact h1.2.2)).trans (g.block k h1.2.1 (by simp)))).more (fun _ h => h)
  · have hsz := g2.size
    have hsz1 := g.size
    by_cases hx : p = th
    · subst hx
      rw [updFo_same] at hk
      have := hn k hk
      exact ⟨by omega, by omega, by omega⟩
    · rw [updG_other _ _ hx] at hp
      rw [updFo_other _ _ hx] at hk
      have := h.lt p k hp hk
      exact ⟨this.1, by omega, this.2.2⟩
  · by_cases hx : p = th
    · by_cases hy : q = th
      · rw [hx, hy]
      · subst hx
        rw [updFo_same] at hk
        rw [updG_other _ _ hy] at hq
        rw [updFo_other _ _ hy] at hk'
        have := h.lt q k hq hk'
        have := hn k hk
        omega
    · rw [updG_other _ _ hx] at hp
      rw [updFo_other _ _ hx] at hk
      by_cases hy : q = th
      · subst hy
        rw [updFo_same] at hk'
        have := h.lt p k hp hk
        have := hn k hk'
        omega
      · rw [updG_other _ _ hy] at hq
        rw [updFo_other _ _ hy] at hk'
        exact h.apart p q k hp hq hk hk'

/-- A try has ended. -/
theorem Opn.del (h : Opn B W om N G Fo) (th : Int) (hm : MapG Try.prog 3 (Value.int .i64) W' om N (upd (fun th => (G th).map ptrV) th none)) (g : W.grownBy W' (some om)) :
    Opn B W' om N (updG G th none) Fo := by
  have back : ∀ p, updG G th none p ≠ none → p ≠ th ∧ G p ≠ none := fun p hp => by
    by_cases hx : p = th
    · subst hx
      rw [updG_same] at hp
      exact absurd rfl hp
    · rw [updG_other _ _ hx] at hp
      exact ⟨hx, hp⟩
  refine ⟨hm.congr (fun x _ _ => ?_), fun p b' t'' hp => ?_, fun p k hp hk => ?_, fun p q k hp hq hk hk' => h.apart p q k (back p hp).2 (back q hq).2 hk hk', h.om_le⟩
  · by_cases hx : x = th
    · subst hx
      rw [updG_same, upd_same]
      rfl
    · rw [updG_other _ _ hx, upd_other _ _ hx]
  · have h1 := back p (by rw [hp]; simp)
    rw [updG_other _ _ h1.1] at hp
    exact (h.gng p b' t'' hp).keep (fun k hk => by
      have h2 := h.lt p k h1.2 hk
      exact g.block k h2.2.1 (by simp; exact h2.2.2))
  · have h2 := h.lt p k (back p hp).2 hk
    exact ⟨h2.1, Nat.lt_of_lt_of_le h2.2.1 g.size, h2.2.2⟩
end
end Go.Proofs.Ytkidkhjpijjphaa.hs

/- What stands at the head of each round of the loop over a trace's events, one event on. -/
namespace Go.Proofs.Ytkidkhjpijjphaa.hs
open Go Go.RowKit Go.Proofs.Ytkidkhjpijjphaa.base Go.Maps
set_option linter.unusedVariables false
set_option maxRecDepth 100000

/-- At the head of the first loop's round. -/
def Rel1 (w0 : World) (om len : Nat) (e : Evs) (J : List (Tr × Value) → World → (Nat → Prop) → Prop) (i : Nat) (wr : World) (G : Int → Option (Nat × Tr)) (Fo : Int → Nat → Prop) (Fc : Nat → Prop) (xs : List (Tr × Value)) : Prop :=
  Opn w0.heap.size wr om i G Fo ∧ (∀ th, (G th).map Prod.snd = (opn e i th).map (fun b => trAt e b i)) ∧ J xs wr Fc ∧ xs.map Prod.fst = (ended e i).map (fun b => trAt e b len) ∧ (∀ k, Fc k → ¬ OpnF om G Fo k) ∧ (∀ k, Fc k → w0.heap.size ≤ k ∧ k < wr.heap.size) ∧ Below w0.heap.size w0 wr

def Firm2 (J : List (Tr × Value) → World → (Nat → Prop) → Prop) : Prop := ∀ pre W W' Fc, J pre W Fc → (∀ k, Fc k → W'.heap[k]? = W.heap[k]?) → J pre W' Fc

section
variable {w0 wr v1 u1 u2 : World} {om len i : Nat} {e : Evs} {J : List (Tr × Value) → World → (Nat → Prop) → Prop} {G : Int → Option (Nat × Tr)} {Fo : Int → Nat → Prop} {Fc : Nat → Prop} {xs : List (Tr × Value)}


/-- What is done beside all of it. -/
theorem Rel1.grown (h : Rel1 w0 om len e J i wr G Fo Fc xs) (firm : Firm2 J) (g : wr.grownBy v1 none) : Rel1 w0 om len e J i v1 G Fo Fc xs := by
  obtain ⟨h1, h2, h3, h4, h5, h6, h7⟩ := h
  exact ⟨h1.grown g, h2, firm _ _ _ _ h3 (fun k hk => g.block k (h6 k hk).2 (by simp)), h4, h5, fun k hk => ⟨(h6 k hk).1, Nat.lt_of_lt_of_le (h6 k hk).2 g.size⟩, bl_none h7 g⟩

/-- An event of no try that goes on, that begins none. -/
theorem rel1_skip (h : Rel1 w0 om len e J i wr G Fo Fc xs) (ho : opn e i (e i).th = none) (h1 : (e i).k ≠ 1) : Rel1 w0 om len e J (i + 1) wr G Fo Fc xs := by
  obtain ⟨r1, r2, r3, r4, r5, r6, r7⟩ := h
  refine ⟨r1.more, fun th => ?_, r3, ?_, r5, r6, r7⟩
  · rw [r2 th]
    have hop : opn e (i + 1) th = opn e i th := by
      rw [opn]
      by_cases hth : (e i).th = th
      · subst hth
        rw [if_pos rfl, if_neg h1, ho]
        split <;> rfl
      · rw [if_neg hth]
    rw [hop]
    cases hb : opn e i th with
    | none => rfl
    | some b =>
      have hth : (e i).th ≠ th := fun e1 => by rw [e1, hb] at ho; cases ho
      simp only [Option.map_some]
      rw [trAt_other e hb hth]
  · rw [r4, ended, ho]

/-- A try begins. -/
theorem rel1_put (h : Rel1 w0 om len e J i v1 G Fo Fc xs) (firm : Firm2 J) (ho : opn e i (e i).th = none) (h1 : (e i).k = 1) {bn : Nat} {ev : Ev} (hev : init i ev = init i (e i)) (g : v1.grownBy u1 none)
    (hg : Gng u1 (fun k => v1.heap.size ≤ k ∧ k < u1.heap.size) bn (init i ev) (fun _ => false) (fun _ => []) 0) (hm : MapG Try.prog 3 (Value.int .i64) u2 om (i + 1) (upd (fun th => (G th).map ptrV) (e i).th (some (.pointer (some ⟨bn, 0, none⟩))))) (g2 : u1.grownBy u2 (some om)) :
    ∃ G' Fo', Rel1 w0 om len e J (i + 1) u2 G' Fo' Fc xs := by
  obtain ⟨r1, r2, r3, r4, r5, r6, r7⟩ := h
  have hom := r1.map.lt
  have P := r1.put (e i).th (W'' := u2) (t := init i ev) g hg (fun k hk => hk) r7.size hm g2
  refine ⟨_, _, P, fun th => ?_, firm _ _ _ _ r3 (fun k hk => ?_), ?_, fun k hk hO => ?_, fun k hk => ⟨(r6 k hk).1, ?_⟩, ?_⟩
  · by_cases hth : th = (e i).th
    · subst hth
      rw [updG_same, opn, if_pos rfl, if_pos h1]
      simp only [Option.map_some]
      rw [trAt_init e i (i + 1) (Nat.le_refl _), hev]
    · rw [updG_other _ _ hth, r2 th, opn, if_neg (fun e1 => hth e1.symm)]
      cases hb : opn e i th with
      | none => rfl
      | some b =>
        simp only [Option.map_some]
        rw [trAt_other e hb (fun e1 => hth e1.symm)]
  · have hl := (r6 k hk).2
    exact (g2.block k (Nat.lt_of_lt_of_le hl g.size) (by simp; exact fun e1 => r5 k hk (.inl e1))).trans (g.block k hl (by simp))
  · rw [r4, ended, ho]
  · rcases hO with hO | ⟨th, hn, hF⟩
    · exact r5 k hk (.inl hO)
    · by_cases hth : th = (e i).th
      · subst hth
        rw [updFo_same] at hF
        have := (r6 k hk).2
        omega
      · rw [updG_other _ _ hth] at hn
        rw [updFo_other _ _ hth] at hF
        exact r5 k hk (.inr ⟨th, hn, hF⟩)
  · exact Nat.lt_of_lt_of_le (Nat.lt_of_lt_of_le (r6 k hk).2 g.size) g2.size
  · exact (bl_none r7 g).grown g2 (Nat.le_trans r7.size g.size) (fun k e1 => by cases e1; exact r1.om_le)

theorem G_of (h : Rel1 w0 om len e J i wr G Fo Fc xs) {th : Int} {b : Nat} (ho : opn e i th = some b) : ∃ bk, G th = some (bk, trAt e b i) := by
  have := h.2.1 th
  rw [ho] at this
  cases hG : G th with
  | none => rw [hG] at this; cases this
  | some x =>
    obtain ⟨bk, t⟩ := x
    rw [hG] at this
    simp only [Option.map_some, Option.some.injEq] at this
    exact ⟨bk, by rw [this]⟩
theorem G_no (h : Rel1 w0 om len e J i wr G Fo Fc xs) {th : Int} (ho : opn e i th = none) : G th = none := by
  have := h.2.1 th
  rw [ho] at this
  cases hG : G th with
  | none => rfl
  | some x => rw [hG] at this; cases this

/-- An event of a try that goes on, that doesn't end it. -/
theorem rel1_does (h : Rel1 w0 om len e J i v1 G Fo Fc xs) (firm : Firm2 J) {b bk : Nat} (ho : opn e i (e i).th = some b) (hG : G (e i).th = some (bk, trAt e b i)) (h1 : (e i).k ≠ 1) (h56 : ¬ ((e i).k = 5 ∨ (e i).k = 6))
    (hg : Gng u1 (Up (Fo (e i).th) v1 u1) bk (base.stepT (trAt e b i) i (e i)) (wrote (base.stepT (trAt e b i) i (e i)).ac) (readsF (base.stepT (trAt e b i) i (e i)).ac) (i + 1)) (go : Only (Fo (e i).th) v1 u1) :
    ∃ G' Fo', Rel1 w0 om len e J (i + 1) u1 G' Fo' Fc xs := by
  obtain ⟨r1, r2, r3, r4, r5, r6, r7⟩ := h
  have hne : G (e i).th ≠ none := by rw [hG]; simp
  have P := r1.step hG hg go r7.size
  refine ⟨_, _, P, fun th => ?_, firm _ _ _ _ r3 (fun k hk => go.block k (r6 k hk).2 (fun hF => r5 k hk (.inr ⟨_, hne, hF⟩))), ?_, fun k hk hO => ?_, fun k hk => ⟨(r6 k hk).1, Nat.lt_of_lt_of_le (r6 k hk).2 go.size⟩, go.below r7 r7.size (fun k hF => (r1.lt _ k hne hF).1)⟩
  · by_cases hth : th = (e i).th
    · subst hth
      rw [updG_same, opn, if_pos rfl, if_neg h1, if_neg h56, ho]
      simp only [Option.map_some]
      rw [trAt_step e ho]
    · rw [updG_other _ _ hth, r2 th, opn, if_neg (fun e1 => hth e1.symm)]
      cases hb : opn e i th with
      | none => rfl
      | some b =>
        simp only [Option.map_some]
        rw [trAt_other e hb (fun e1 => hth e1.symm)]
  · rw [r4, ended, ho]
    simp only [if_neg h56]
  · rcases hO with hO | ⟨th, hn, hF⟩
    · exact r5 k hk (.inl hO)
    · by_cases hth : th = (e i).th
      · subst hth
        rw [updFo_same] at hF
        rcases hF with hF | hF
        · exact r5 k hk (.inr ⟨_, hne, hF⟩)
        · have := (r6 k hk).2
          omega
      · rw [updG_other _ _ hth] at hn
        rw [updFo_other _ _ hth] at hF
        exact r5 k hk (.inr ⟨th, hn, hF⟩)

/-- What stands when a try has ended, and is no more in the map. -/
def Mid (w0 : World) (om len : Nat) (e : Evs) (J : List (Tr × Value) → World → (Nat → Prop) → Prop) (i : Nat) (th : Int) (wr : World) (G : Int → Option (Nat × Tr)) (Fo : Int → Nat → Prop) (Fc : Nat → Prop) (xs : List (Tr × Value)) : Prop :=
  Opn w0.heap.size wr om (i + 1) G Fo ∧ (∀ th, (G th).map Prod.snd = (opn e (i + 1) th).map (fun b => trAt e b (i + 1))) ∧ J xs wr Fc ∧ xs.map Prod.fst = (ended e i).map (fun b => trAt e b len) ∧ (∀ k, Fc k → ¬ OpnF om G Fo k) ∧ (∀ k, Fc k → w0.heap.size ≤ k ∧ k < wr.heap.size) ∧ Below w0.heap.size w0 wr ∧ G th = none ∧ (∀ k, Fo th k → ¬ Fc k ∧ w0.heap.size ≤ k ∧ k < wr.heap.size ∧ ¬ OpnF om G Fo k)

theorem rel1_mid (h : Rel1 w0 om len e J i v1 G Fo Fc xs) (firm : Firm2 J) {b bk : Nat} (ho : opn e i (e i).th = some b) (hG : G (e i).th = some (bk, trAt e b i)) (h56 : (e i).k = 5 ∨ (e i).k = 6)
    (hg : Gng u1 (Up (Fo (e i).th) v1 u1) bk (base.stepT (trAt e b i) i (e i)) (wrote (base.stepT (trAt e b i) i (e i)).ac) (readsF (base.stepT (trAt e b i) i (e i)).ac) (i + 1)) (go : Only (Fo (e i).th) v1 u1)
    (hm : MapG Try.prog 3 (Value.int .i64) u2 om (i + 1) (upd (fun th => (G th).map ptrV) (e i).th none)) (g2 : u1.grownBy u2 (some om)) :
    ∃ G' Fo', Mid w0 om len e J i (e i).th u2 G' Fo' Fc xs ∧ Fo' (e i).th = Up (Fo (e i).th) v1 u1 ∧ Gng u2 (Up (Fo (e i).th) v1 u1) bk (trAt e b (i + 1)) (wrote (trAt e b (i + 1)).ac) (readsF (trAt e b (i + 1)).ac) (i + 1) := by
  obtain ⟨r1, r2, r3, r4, r5, r6, r7⟩ := h
  have h1 : (e i).k ≠ 1 := by rcases h56 with h | h <;> omega
  have hne : G (e i).th ≠ none := by rw [hG]; simp
  have hom := r1.map.lt
  have P := r1.step hG hg go r7.size
  have hup : ∀ k, Up (Fo (e i).th) v1 u1 k → k ≠ om ∧ k < u1.heap.size ∧ w0.heap.size ≤ k ∧ ¬ Fc k := fun k hk => by
    have hB := r7.size
    rcases hk with hk | hk
    · have := r1.lt _ k hne hk
      exact ⟨this.2.2, Nat.lt_of_lt_of_le this.2.1 go.size, this.1, fun hc => r5 k hc (.inr ⟨_, hne, hk⟩)⟩
    · exact ⟨by omega, hk.2, by omega, fun hc => by have := (r6 k hc).2; omega⟩
  have D := P.del (e i).th (W' := u2) (hm.congr (fun x _ _ => by
    by_cases hx : x = (e i).th
    · subst hx
      rw [upd_same, upd_same]
    · rw [upd_other _ _ hx, upd_other _ _ hx, updG_other _ _ hx])) g2
  have hs1 := go.size
  have hs2 := g2.size
  refine ⟨_, _, ⟨D, fun th => ?_, firm _ _ _ _ r3 (fun k hk => ?_), r4, fun k hk hO => ?_, fun k hk => ⟨(r6 k hk).1, by have := (r6 k hk).2; omega⟩, (go.below r7 r7.size (fun k hF => (r1.lt _ k hne hF).1)).grown g2 (by have := r7.size; omega) (fun k e1 => by cases e1; exact r1.om_le), updG_same _ _ _, fun k hk => ?_⟩, updFo_same _ _ _, ?_⟩
  · by_cases hth : th = (e i).th
    · subst hth
      rw [updG_same, opn, if_pos rfl, if_neg h1, if_pos h56]
      rfl
    · rw [updG_other _ _ hth, updG_other _ _ hth, r2 th, opn, if_neg (fun e1 => hth e1.symm)]
      cases hb : opn e i th with
      | none => rfl
      | some b =>
        simp only [Option.map_some]
        rw [trAt_other e hb (fun e1 => hth e1.symm)]
  · have hl := (r6 k hk).2
    exact (g2.block k (Nat.lt_of_lt_of_le hl go.size) (by simp; exact fun e1 => r5 k hk (.inl e1))).trans (go.block k hl (fun hF => r5 k hk (.inr ⟨_, hne, hF⟩)))
  · rcases hO with hO | ⟨th, hn, hF⟩
    · exact r5 k hk (.inl hO)
    · by_cases hth : th = (e i).th
      · subst hth
        rw [updG_same] at hn
        exact hn rfl
      · rw [updG_other _ _ hth, updG_other _ _ hth] at hn
        rw [updFo_other _ _ hth] at hF
        exact r5 k hk (.inr ⟨th, hn, hF⟩)
  · rw [updFo_same] at hk
    obtain ⟨q1, q2, q3, q4⟩ := hup k hk
    refine ⟨q4, q3, by omega, fun hO => ?_⟩
    rcases hO with hO | ⟨th, hn, hF⟩
    · exact q1 hO
    · by_cases hth : th = (e i).th
      · subst hth
        rw [updG_same] at hn
        exact hn rfl
      · rw [updG_other _ _ hth, updG_other _ _ hth] at hn
        rw [updFo_other _ _ hth] at hF
        have h3 := r1.lt th k hn hF
        rcases hk with hk | hk
        · exact hth (r1.apart th _ k hn hne hF hk)
        · omega
  · rw [trAt_step e ho]
    exact hg.keep (fun k hk => g2.block k (hup k hk).2.1 (by simp; exact (hup k hk).1))

/-- The try has been told. -/
theorem mid_rel1 (h : Mid w0 om len e J i (e i).th u1 G Fo Fc xs) {b : Nat} (ho : opn e i (e i).th = some b) (h56 : (e i).k = 5 ∨ (e i).k = 6) (hi : i < len) {v : Value} {Fc' : Nat → Prop} (hJ : J (xs ++ [(trAt e b (i + 1), v)]) u2 Fc')
    (hF : ∀ k, Fc' k → Fc k ∨ Fo (e i).th k ∨ (u1.heap.size ≤ k ∧ k < u2.heap.size)) (go : Only Fc u1 u2) : Rel1 w0 om len e J (i + 1) u2 G Fo Fc' (xs ++ [(trAt e b (i + 1), v)]) := by
  obtain ⟨r1, r2, r3, r4, r5, r6, r7, r8, r9⟩ := h
  refine ⟨r1.frame (fun k hk => go.block k (OpnF.lt r1 hk).2 (fun hc => r5 k hc hk)) go.size, r2, hJ, ?_, fun k hk hO => ?_, fun k hk => ?_, go.below r7 r7.size (fun k hk => (r6 k hk).1)⟩
  · rw [List.map_append, r4, ended, ho]
    simp only [if_pos h56]
    rw [List.map_append]
    congr 1
    have he := trAt_ends e ho h56
    have := trAt_end e b (n := len) (by rw [he]; omega) (by omega : i + 1 ≤ len)
    simp [this]
  · rcases hF k hk with h | h | h
    · exact r5 k h hO
    · exact (r9 k h).2.2.2 hO
    · have := (OpnF.lt r1 hO).2
      omega
  · have hB := r7.size
    have hs := go.size
    rcases hF k hk with h | h | h
    · exact ⟨(r6 k h).1, Nat.lt_of_lt_of_le (r6 k h).2 go.size⟩
    · exact ⟨(r9 k h).2.1, Nat.lt_of_lt_of_le (r9 k h).2.2.1 go.size⟩
    · exact ⟨by omega, h.2⟩
end
end Go.Proofs.Ytkidkhjpijjphaa.hs

/- The second loop: the tries that haven't ended, in whatever order the map gives them. -/
namespace Go.Proofs.Ytkidkhjpijjphaa.hs
open Go Go.RowKit Go.Proofs.Ytkidkhjpijjphaa.base Go.Maps
set_option linter.unusedVariables false
set_option maxRecDepth 100000

theorem ranges_keep {w w' : World} {P : Program} {k : TypeId} {R : Value → Option (DataW Value × List MemPlace)} {b r n : Nat} {D : DataW Value} {left : Lit → Bool} {cnt : Nat} (h : w.ranges P k R b r n D left cnt) (hb : w'.heap[b]? = w.heap[b]?) (hr : w'.heap[r]? = w.heap[r]?) : w'.ranges P k R b r n D left cnt := by
  obtain ⟨es, clock, since, seen, c0, h1, h2, h3, h4, h5, h6⟩ := h
  exact ⟨es, clock, since, seen, c0, hb.trans h1, h2, h3, h4, hr.trans h5, h6⟩

/-- What D says of G. -/
def Says (D : DataW Value) (G : Int → Option (Nat × Tr)) : Prop := ∀ x kl, keyOf Try.prog 3 (.int .i64 x) = some kl → Maps.has D kl = ((G x).map ptrV).isSome ∧ ∀ v z, (G x).map ptrV = some v → D.atKey kl z = .held v

/-- The step of such a loop: a try comes, whichever. -/
theorem wpListIn_next_G {ops : Array Oper} {rest : List Oper} {o : Oper} {a : Act} {Q : Exit → Act → World → Prop} {w : World} {F : Fence} {nF : Nat} (hg : o.guard = none) (it : Operand) (hop : o.op = Op.next it false) (om r n : Nat) (D : DataW Value) (G : Int → Option (Nat × Tr)) (hD : Says D G) (left : Lit → Bool) (hl : ∀ kl, left kl = true → Maps.has D kl = true) (cnt : Nat)
    (hit : a.eval it = .pointer (some ⟨r, 0, none⟩)) (h : w.ranges Try.prog 3 heldR om r n D left cnt)
    (hDone : (∀ kl, left kl = false) → wpListIn F nF Try.prog ops Q rest (a.put o.dst (.tuple #[.bool false])) w)
    (hMore : ∀ (x : Int) (b : Nat) (t : Tr) (w' : World) (cnt' : Nat), G x = some (b, t) → left (.int .i64 x) = true → w'.ranges Try.prog 3 heldR om r n D (fun z => left z && !z.sameKey (.int .i64 x)) cnt' → cnt' < cnt →
      w.grownBy w' (some r) → w'.heap.size = w.heap.size → (Instr.entry (.pointer (some ⟨r, 0, none⟩))).run Try.prog w' = .ok (.tuple #[.int .i64 x, .pointer (some ⟨b, 0, none⟩)]) w' → wpListIn F nF Try.prog ops Q rest (a.put o.dst (.tuple #[.bool true, .int .i64 x, .pointer (some ⟨b, 0, none⟩)])) w') :
    wpListIn F nF Try.prog ops Q (o :: rest) a w :=
  wpListIn_next_ranges w hg it hop 3 kInt heldR (Value.int .i64) id (fun key kl hkey => by obtain ⟨x, rfl, _⟩ := Maps.keyOf_int_inv Try.underlying3 hkey; exact ⟨x, rfl⟩) (fun v _ _ => ⟨v, rfl⟩)
    om r n D left cnt hit h (fun _ h => hDone h) (fun x c kl y w' cnt' hkey hlk hv hat hrg hlt hgr hsz hen => by
      obtain ⟨x', ex, rfl, hwx⟩ := Maps.keyOf_int_inv Try.underlying3 hkey
      cases ex
      obtain ⟨h1, h2⟩ := hD x _ hkey
      rw [hl _ hlk] at h1
      cases hG : G x with
      | none => rw [hG] at h1; cases h1
      | some p =>
        obtain ⟨b, t⟩ := p
        rw [hG] at h2
        have h3 := h2 (ptrV (b, t)) (.held undef) rfl
        rw [hat] at h3
        unfold heldR at hv
        cases hv
        injection h3 with h4
        have h5 : c = .pointer (some ⟨b, 0, none⟩) := h4
        subst h5
        exact hMore x b t w' cnt' hG hlk hrg hlt hgr hsz hen)

def Rel2 (w0 : World) (om r len : Nat) (e : Evs) (J : List (Tr × Value) → World → (Nat → Prop) → Prop) (D : DataW Value) (G : Int → Option (Nat × Tr)) (Fo : Int → Nat → Prop) (wr : World) (left : Lit → Bool) (cnt : Nat) (xs : List (Tr × Value)) (Fc : Nat → Prop) (rest : List Nat) : Prop :=
  wr.ranges Try.prog 3 heldR om r len D left cnt ∧ (∀ kl, left kl = true → Maps.has D kl = true) ∧ (∀ th b t, G th = some (b, t) → left (.int .i64 th) = true → Gng wr (Fo th) b t (wrote t.ac) (readsF t.ac) len) ∧
  J xs wr Fc ∧ xs.map Prod.fst = (ended e len ++ rest).map (fun b => trAt e b len) ∧ rest.Nodup ∧ (∀ b, b ∈ rest ↔ ∃ th, opn e len th = some b ∧ left (.int .i64 th) = false) ∧
  (∀ k, Fc k → k ≠ om ∧ k ≠ r ∧ ∀ th, G th ≠ none → left (.int .i64 th) = true → ¬ Fo th k) ∧ (∀ k, Fc k → w0.heap.size ≤ k ∧ k < wr.heap.size) ∧ Below w0.heap.size w0 wr ∧
  (∀ th k, G th ≠ none → Fo th k → w0.heap.size ≤ k ∧ k < r ∧ k ≠ om) ∧ (∀ th th' k, G th ≠ none → G th' ≠ none → Fo th k → Fo th' k → th = th') ∧ om < r ∧ w0.heap.size ≤ r ∧ r < wr.heap.size ∧ (∀ th, (G th).map Prod.snd = (opn e len th).map (fun b => trAt e b len))

section
variable {w0 w1 w2 u3 wr w' : World} {om r len : Nat} {e : Evs} {J : List (Tr × Value) → World → (Nat → Prop) → Prop} {D : DataW Value} {G : Int → Option (Nat × Tr)} {Fo : Int → Nat → Prop} {Fc : Nat → Prop} {xs : List (Tr × Value)} {left : Lit → Bool} {cnt : Nat} {rest : List Nat}

theorem rel2_start (h : Rel1 w0 om len e J len wr G Fo Fc xs) (firm : Firm2 J) (hwf : ∀ th b, opn e len th = some b → (Lit.int .i64 th).wf = true) (hD : Says D G) (hrg : w'.ranges Try.prog 3 heldR om wr.heap.size len D (Maps.has D) (Maps.size D)) (hg : wr.grownBy w' none) (hs : w'.heap.size = wr.heap.size + 1) :
    Rel2 w0 om wr.heap.size len e J D G Fo w' (Maps.has D) (Maps.size D) xs Fc [] := by
  have h' := h.grown firm hg
  obtain ⟨r1, r2, r3, r4, r5, r6, r7⟩ := h
  obtain ⟨q1, q2, q3, q4, q5, q6, q7⟩ := h'
  refine ⟨hrg, fun _ h => h, fun th b t hG _ => q1.gng th b t hG, q3, by rw [List.append_nil]; exact r4, List.nodup_nil, fun b => ⟨fun h => by simp at h, ?_⟩, fun k hk => ⟨fun e1 => r5 k hk (.inl e1), by have := (r6 k hk).2; omega, fun th hn _ hF => r5 k hk (.inr ⟨th, hn, hF⟩)⟩, q6, q7, fun th k hn hF => r1.lt th k hn hF, r1.apart, r1.map.lt, r7.size, by omega, r2⟩
  rintro ⟨th, ho, hl⟩
  obtain ⟨bk, hG⟩ := G_of ⟨r1, r2, r3, r4, r5, r6, r7⟩ ho
  have := (hD th _ (keyInt (hwf th b ho))).1
  rw [hG] at this
  rw [hl] at this
  cases this

/-- One of them has come. -/
theorem rel2_came (h : Rel2 w0 om r len e J D G Fo w1 left cnt xs Fc rest) (firm : Firm2 J) (hg : w1.grownBy w2 (some r)) {x : Int} {b : Nat} {t : Tr} (hG : G x = some (b, t)) (hl : left (.int .i64 x) = true) :
    J xs w2 Fc ∧ Gng w2 (Fo x) b t (wrote t.ac) (readsF t.ac) len ∧ (∀ k, Fc k → ¬ Fo x k) ∧ (∀ k, Fo x k → k < w2.heap.size) ∧ (∃ p, opn e len x = some p ∧ t = trAt e p len) := by
  obtain ⟨h1, h2, h3, h4, h5, h6, h7, h8, h9, h10, h11, h12, h13, h14, h15, h16⟩ := h
  have hne : G x ≠ none := by rw [hG]; simp
  refine ⟨firm _ _ _ _ h4 (fun k hk => hg.block k (h9 k hk).2 (by simp; exact (h8 k hk).2.1)), (h3 x b t hG hl).keep (fun k hk => hg.block k (by have := (h11 x k hne hk).2.1; omega) (by simp; have := (h11 x k hne hk).2.1; omega)), fun k hk hF => (h8 k hk).2.2 x hne hl hF, fun k hF => by have := (h11 x k hne hF).2.1; have := hg.size; omega, ?_⟩
  have := h16 x
  rw [hG] at this
  cases ho : opn e len x with
  | none => rw [ho] at this; cases this
  | some p =>
    rw [ho] at this
    simp only [Option.map_some, Option.some.injEq] at this
    exact ⟨p, rfl, this⟩

theorem sameKey_int (a b : Int) : (Lit.int .i64 a).sameKey (.int .i64 b) = decide (a = b) := by simp [Lit.sameKey]

theorem rel2_step (h : Rel2 w0 om r len e J D G Fo w1 left cnt xs Fc rest) (firm : Firm2 J) {cnt' : Nat} {x : Int} (hrg : w2.ranges Try.prog 3 heldR om r len D (fun z => left z && !z.sameKey (.int .i64 x)) cnt') (hg : w1.grownBy w2 (some r)) {b p : Nat} {t : Tr} (hG : G x = some (b, t)) (hl : left (.int .i64 x) = true)
    (ho : opn e len x = some p) (ht : t = trAt e p len) {v : Value} {Fc' : Nat → Prop} (hJ : J (xs ++ [(t, v)]) u3 Fc') (hF : ∀ k, Fc' k → Fc k ∨ Fo x k ∨ (w2.heap.size ≤ k ∧ k < u3.heap.size)) (go : Only Fc w2 u3) :
    Rel2 w0 om r len e J D G Fo u3 (fun z => left z && !z.sameKey (.int .i64 x)) cnt' (xs ++ [(t, v)]) Fc' (rest ++ [p]) := by
  obtain ⟨h1, h2, h3, h4, h5, h6, h7, h8, h9, h10, h11, h12, h13, h14, h15, h16⟩ := h
  have hne : G x ≠ none := by rw [hG]; simp
  have hs := hg.size
  have hs2 := go.size
  have hleft : ∀ th, (left (.int .i64 th) && !(Lit.int .i64 th).sameKey (.int .i64 x)) = true → left (.int .i64 th) = true ∧ th ≠ x := fun th h => by
    rw [sameKey_int] at h
    simpa using h
  refine ⟨ranges_keep hrg (go.block om (by omega) (fun hc => (h8 om hc).1 rfl)) (go.block r (by omega) (fun hc => (h8 r hc).2.1 rfl)), fun kl hk => h2 kl (by simp at hk; exact hk.1), fun th b' t' hG' hl' => ?_, hJ, ?_, ?_, fun q => ?_, fun k hk => ?_, fun k hk => ?_, (go.below (h10.grown hg h10.size (fun k e1 => by cases e1; exact h14)) (by have := h10.size; omega) (fun k hk => (h9 k hk).1)), h11, h12, h13, h14, by omega, h16⟩
  · obtain ⟨q1, q2⟩ := hleft th hl'
    have hn' : G th ≠ none := by rw [hG']; simp
    exact (h3 th b' t' hG' q1).keep (fun k hk => by
      have h17 := h11 th k hn' hk
      exact (go.block k (by omega) (fun hc => (h8 k hc).2.2 th hn' q1 hk)).trans (hg.block k (by omega) (by simp; omega)))
  · rw [List.map_append, h5, ← List.append_assoc, List.map_append (l₁ := ended e len ++ rest)]
    simp [ht]
  · refine List.nodup_append.2 ⟨h6, by simp, fun a ha c hc hac => ?_⟩
    have : c = p := by simpa using hc
    subst this
    subst hac
    obtain ⟨th, h17, h18⟩ := (h7 a).1 ha
    have h19 := (opn_spec e _ _ _ h17).2.2.1
    have h20 := (opn_spec e _ _ _ ho).2.2.1
    rw [← h19, h20, hl] at h18
    cases h18
  · rw [List.mem_append, h7]
    constructor
    · rintro (⟨th, h17, h18⟩ | h17)
      · exact ⟨th, h17, by simp [h18]⟩
      · have : q = p := by simpa using h17
        subst this
        exact ⟨x, ho, by simp [sameKey_int]⟩
    · rintro ⟨th, h17, h18⟩
      simp only [sameKey_int] at h18
      by_cases hx : th = x
      · subst hx
        rw [ho] at h17
        cases h17
        exact .inr (by simp)
      · left
        refine ⟨th, h17, ?_⟩
        simpa [hx] using h18
  · rcases hF k hk with h17 | h17 | h17
    · exact ⟨(h8 k h17).1, (h8 k h17).2.1, fun th hn hl' => (h8 k h17).2.2 th hn (hleft th hl').1⟩
    · have h18 := h11 x k hne h17
      exact ⟨h18.2.2, by omega, fun th hn hl' hF' => (hleft th hl').2 (h12 th x k hn hne hF' h17)⟩
    · exact ⟨by omega, by omega, fun th hn _ hF' => by have := h11 th k hn hF'; omega⟩
  · have hB := h10.size
    rcases hF k hk with h17 | h17 | h17
    · exact ⟨(h9 k h17).1, by have := (h9 k h17).2; omega⟩
    · have h18 := h11 x k hne h17
      exact ⟨h18.1, by omega⟩
    · exact ⟨by omega, h17.2⟩

theorem rel2_done (h : Rel2 w0 om r len e J D G Fo w1 left cnt xs Fc rest) (hl : ∀ kl, left kl = false) : rest.Nodup ∧ (∀ b, b ∈ rest ↔ ∃ th, opn e len th = some b) ∧ xs.map Prod.fst = (ended e len ++ rest).map (fun b => trAt e b len) := by
  obtain ⟨h1, h2, h3, h4, h5, h6, h7, h8⟩ := h
  refine ⟨h6, fun b => ?_, h5⟩
  rw [h7]
  exact ⟨fun ⟨th, h, _⟩ => ⟨th, h⟩, fun ⟨th, h⟩ => ⟨th, h, hl _⟩⟩
end
end Go.Proofs.Ytkidkhjpijjphaa.hs

/- The tries of a trace, one behind the other: hist's function that is ranged over. -/
namespace Go.Proofs.Ytkidkhjpijjphaa.hs
open Go Go.RowKit Go.Proofs.Ytkidkhjpijjphaa.base Go.Maps
set_option linter.unusedVariables false
set_option maxRecDepth 100000
attribute [local go_sem] Oper.semAt_some

/-- Wherever J has seen the tries of pre, it takes one more, whose accesses lie apart, and gives word. -/
def Takes (m l : Nat) (J : List (Tr × Value) → World → (Nat → Prop) → Prop) : Prop :=
  ∀ (pre : List (Tr × Value)) (t : Tr) (v : Value) (W : World) (Fc G : Nat → Prop), J pre W Fc → W.ownsRow 0 48 6 v t.ac.length (rows accC t.ac) → (∀ k, v.ownBlock = some k → G k) → (∀ k, Fc k → ¬ G k) → (∀ k, G k → k < W.heap.size) → (∀ k, Fc k → k < W.heap.size) → t.ac.length ≤ 100000 → pre.length < 100000 →
    YieldAt Fence.wide m Try.prog l #[.agg ⟨trC t v⟩] W fun e W' => e = .returned (.bool true) ∧ ∃ Fc', J (pre ++ [(t, v)]) W' Fc' ∧ (∀ k, Fc' k → Fc k ∨ G k ∨ (W.heap.size ≤ k ∧ k < W'.heap.size)) ∧ Only Fc W W'

theorem ended_len (e : Evs) : ∀ n, (ended e n).length ≤ n
  | 0 => by simp [ended]
  | n + 1 => by
    have := ended_len e n
    unfold ended
    cases opn e n (e n).th with
    | none => simp; omega
    | some b => dsimp only; split <;> simp <;> omega
theorem trAt_ac (e : Evs) (b : Nat) : ∀ n, (trAt e b n).ac.length ≤ n
  | 0 => by simp [trAt, init]
  | n + 1 => by
    have := trAt_ac e b n
    unfold trAt
    split
    · unfold base.stepT
      repeat' split
      all_goals simp [relAll] <;> omega
    · omega
theorem zeroP (w : World) : (zeroValue 124).run Try.prog w = .ok (.pointer none) w := by kernel_rfl

set_option maxHeartbeats 4000000 in
theorem tries_in (n : Nat) (hn : 1 ≤ n) (l : Nat) (a : Option Addr) (len cap : Nat) (e : Evs) (J : List (Tr × Value) → World → (Nat → Prop) → Prop) (firm : Firm2 J)
    (hY : Takes (n - 1) l J) (w0 W : World) (hL : IsEvs w0 a len e) (hr : right e len = true) (hlen : len ≤ 10000) (Fc0 : Nat → Prop) (h0 : J [] W Fc0) (hF0 : ∀ k, Fc0 k → w0.heap.size ≤ k ∧ k < W.heap.size) (hB : Below w0.heap.size w0 W) :
    CallsIn Fence.wide n Try.prog 49 #[.slice a len cap, .func (.yield l) #[] #[]] W fun r W' => r = .returned (.tuple #[]) ∧ ∃ xs Fc rest, J xs W' Fc ∧ (∀ k, Fc k → w0.heap.size ≤ k ∧ k < W'.heap.size) ∧ Below w0.heap.size w0 W' ∧
      rest.Nodup ∧ (∀ b, b ∈ rest ↔ ∃ th, opn e len th = some b) ∧ xs.map Prod.fst = (ended e len ++ rest).map (fun b => trAt e b len) := by
  have hmm := @run_makeMap Try.prog
  refine callsIn_of_wp Try.func49 rfl trivial ?_ rfl
  simp only [Try.ntmps49, List.size_toArray, List.length_cons, List.length_nil, Nat.reduceAdd, Nat.reduceSub, Array.replicate_succ, Array.replicate_zero, List.push_toArray, List.append_toArray, List.nil_append, List.cons_append]
  gi_wp2
  have R0 : Rel1 w0 W.heap.size len e J 0 (W.alloc (.map #[] 0)) (fun _ => none) (fun _ _ => False) Fc0 [] := by
    refine ⟨⟨(MapG.made W Try.prog 3 (Value.int .i64)).congr (fun _ _ _ => rfl), by simp, by simp, by simp, hB.size⟩, fun th => rfl, firm _ _ _ _ h0 (fun k hk => Below.heap_alloc W _ k (hF0 k hk).2), rfl, fun k hk h => ?_, fun k hk => ⟨(hF0 k hk).1, by have := (hF0 k hk).2; simp; omega⟩, bl_none hB (World.grownBy_alloc W _ none)⟩
    rcases h with h | ⟨_, h, _⟩
    · have := (hF0 k hk).2
      omega
    · exact h rfl
  have HR0 := Lib.hid R0
  have HL := Lib.hid hL
  have HRT := Lib.hid hr
  have HLEN := Lib.hid hlen
  have FIRM := Lib.hid firm
  have HY := Lib.hid hY
  have HBS := Lib.hid (show w0.heap.size ≤ W.heap.size from hB.size)
  clear R0 hL hr h0 hF0 hB firm hY
  gi_loopw [14] (fun iv wr => ∃ (i : Nat) (G : Int → Option (Nat × Tr)) (Fo : Int → Nat → Prop) (Fc : Nat → Prop) (xs : List (Tr × Value)), i ≤ len ∧ iv = .int .i64 i ∧ Hid (Rel1 w0 W.heap.size len e J i wr G Fo Fc xs)) (fun iv _ => (len - intOf iv).toNat)
  case atStart => exact ⟨0, _, _, _, _, by omega, rfl, HR0⟩
  case round =>
    obtain ⟨i, G, Fo, Fc, xs, hi, rfl, HR⟩ := hrel
    by_cases hlt : i < len
    · have hlt' : (i : Int) < (len : Int) := by omega
      have hin : (i : Int) < 10000 := by have := HLEN.out; omega
      obtain ⟨b0, off, rfl, hb0, c0, c1, c2, c3, c4, c5, c6, we⟩ := (HL.out.below HR.out.2.2.2.2.2.2 (Nat.le_refl _)).at7 hlt
      have WE := Lib.hid we
      have hmay := right_may e HRT.out hlt
      have hxl : xs.length ≤ i := by
        have := congrArg List.length HR.out.2.2.2.1
        rw [List.length_map, List.length_map] at this
        rw [this]
        exact ended_len e i
      cases ho : opn e i (e i).th with
      | none =>
        have HG := Lib.hid (G_no HR.out ho)
        unfold may at hmay
        rw [ho] at hmay
        by_cases h1 : (e i).k = 1
        · have HR1 := Lib.hid (HR.out.grown FIRM.out (World.grownBy_alloc wr (.cells #[.int .i64 1, .int .i64 ((e i).th), .int .i64 ((e i).tx), .int .i64 ((e i).at_), .int .i64 ((e i).ob), .int .i64 ((e i).va), .int .i64 ((e i).re)] 51) none))
          have EB := Lib.hid (Blk.made wr 51 #[.int .i64 1, .int .i64 ((e i).th), .int .i64 ((e i).tx), .int .i64 ((e i).at_), .int .i64 ((e i).ob), .int .i64 ((e i).va), .int .i64 ((e i).re)])
          rw [h1] at c0
          have H1 := Lib.hid h1
          have HO := Lib.hid ho
          clear hmay h1 ho we HR
          have RO1 := Lib.hid HR1.out.1
          gi_wp2_with (first | (gi_at_lookup; refine wpListIn_look_mapG rfl _ _ 123 rfl 3 124 kInt Try.underlying123 _ (zeroP _) (Value.int .i64) W.heap.size i (fun th => (G th).map ptrV) rfl RO1.out.map (e i).th _ rfl (keyInt WE.out.th) (.pointer none) false (by rw [HG.out]; rfl) (by rw [HG.out]; rfl) ?_) | gi_in)
          generalize wr.alloc _ = v1 at *
          have e1 : v1.cell? ⟨wr.heap.size, 1, none⟩ = some (.int .i64 (e i).th) := EB.out.cell 1
          have e0 : v1.cell? ⟨wr.heap.size, 0, none⟩ = some (.int .i64 1) := EB.out.cell 0
          have e2 : v1.cell? ⟨wr.heap.size, 2, none⟩ = some (.int .i64 (e i).tx) := EB.out.cell 2
          have e3 : v1.cell? ⟨wr.heap.size, 3, none⟩ = some (.int .i64 (e i).at_) := EB.out.cell 3
          have e4 : v1.cell? ⟨wr.heap.size, 4, none⟩ = some (.int .i64 (e i).ob) := EB.out.cell 4
          have e5 : v1.cell? ⟨wr.heap.size, 5, none⟩ = some (.int .i64 (e i).va) := EB.out.cell 5
          have e6 : v1.cell? ⟨wr.heap.size, 6, none⟩ = some (.int .i64 (e i).re) := EB.out.cell 6
          gi_region_with (refine ⟨trivial, ?_⟩; gi_at_call 62; refine (callsIn_wide.2 (begun_any i ⟨1, (e i).th, (e i).tx, (e i).at_, (e i).ob, (e i).va, (e i).re⟩ _)).mono ?_; rintro r u1 ⟨bn, rfl, g1, gg1⟩; have E1 := EB.out.drew.grown gg1.out (by simp); have x1 : u1.cell? ⟨wr.heap.size, 1, none⟩ = some (.int .i64 (e i).th) := E1.cell 1; obtain ⟨u2, hU, hm2, hg2⟩ := ((show MapG Try.prog 3 (Value.int .i64) v1.drew W.heap.size i (fun th => (G th).map ptrV) from RO1.out.map).grown gg1.out (by simp)).set kInt vint_inj Try.underlying123 (by unfold maxLen; omega) (keyInt WE.out.th) (.pointer (some ⟨bn, 0, none⟩)); have HM2 := Lib.hid hm2; have HG2 := Lib.hid hg2; clear hm2 hg2 E1)
          all_goals
            gi_wp2
            go_roundw
            case rel =>
              obtain ⟨G', Fo', q⟩ := rel1_put HR1.out FIRM.out HO.out H1.out (ev := ⟨1, (e i).th, (e i).tx, (e i).at_, (e i).ob, (e i).va, (e i).re⟩) rfl (gb_trans (gb_drew (gb_refl v1 none)) gg1.out) g1.out HM2.out HG2.out
              exact ⟨i + 1, G', Fo', Fc, xs, by omega, by go_num, q⟩
            case measure => simp [intOf]; omega
        · have hk7 : (e i).k = 7 := by
            simp only [Bool.or_eq_true, Bool.and_eq_true, beq_iff_eq] at hmay
            omega
          have HR1 := Lib.hid (HR.out.grown FIRM.out (World.grownBy_alloc wr (.cells #[.int .i64 7, .int .i64 ((e i).th), .int .i64 ((e i).tx), .int .i64 ((e i).at_), .int .i64 ((e i).ob), .int .i64 ((e i).va), .int .i64 ((e i).re)] 51) none))
          rw [hk7] at c0
          have H1 := Lib.hid h1
          have HO := Lib.hid ho
          clear hmay h1 ho we HR hk7
          have RO1 := Lib.hid HR1.out.1
          gi_wp2_with (first | (gi_at_lookup; refine wpListIn_look_mapG rfl _ _ 123 rfl 3 124 kInt Try.underlying123 _ (zeroP _) (Value.int .i64) W.heap.size i (fun th => (G th).map ptrV) rfl RO1.out.map (e i).th _ rfl (keyInt WE.out.th) (.pointer none) false (by rw [HG.out]; rfl) (by rw [HG.out]; rfl) ?_) | gi_in)
          refine ⟨trivial, ?_⟩
          gi_wp2
          go_roundw
          case rel => exact ⟨i + 1, G, Fo, Fc, xs, by omega, by go_num, rel1_skip HR1.out HO.out H1.out⟩
          case measure => simp [intOf]; omega
      | some b =>
        obtain ⟨bk, hG⟩ := G_of HR.out ho
        have HG := Lib.hid hG
        obtain ⟨_, hk2, hk6⟩ := may_own e hmay ho
        have hob := opn_spec e i _ b ho
        have HR1 := Lib.hid (HR.out.grown FIRM.out (World.grownBy_alloc wr (.cells #[.int .i64 ((e i).k), .int .i64 ((e i).th), .int .i64 ((e i).tx), .int .i64 ((e i).at_), .int .i64 ((e i).ob), .int .i64 ((e i).va), .int .i64 ((e i).re)] 51) none))
        have EB := Lib.hid (Blk.made wr 51 #[.int .i64 ((e i).k), .int .i64 ((e i).th), .int .i64 ((e i).tx), .int .i64 ((e i).at_), .int .i64 ((e i).ob), .int .i64 ((e i).va), .int .i64 ((e i).re)])
        have f1 : ((e i).k == 1) = false := by simp; omega
        have HK := Lib.hid (show 2 ≤ (e i).k ∧ (e i).k ≤ 6 from ⟨hk2, hk6⟩)
        have HOB := Lib.hid hob
        have HO := Lib.hid ho
        have RO1 := Lib.hid HR1.out.1
        have ELT : Hid (∀ k, Fo (e i).th k → k < wr.heap.size) := Lib.hid (fun k hk => (HR.out.1.lt _ k (by rw [hG]; simp) hk).2.1)
        have ACL := Lib.hid (trAt_ac e b i)
        have HXL := Lib.hid hxl
        clear hmay ho we hG hk2 hk6 hob hxl
        by_cases h56 : (e i).k = 5 ∨ (e i).k = 6
        · have HD := Lib.hid (show decide ((e i).k = 5 ∨ (e i).k = 6) = true by simpa using h56)
          have H56 := Lib.hid h56
          clear h56
          gi_wp2_with (first | (gi_at_lookup; refine wpListIn_look_mapG rfl _ _ 123 rfl 3 124 kInt Try.underlying123 _ (zeroP _) (Value.int .i64) W.heap.size i (fun th => (G th).map ptrV) rfl RO1.out.map (e i).th _ rfl (keyInt WE.out.th) (.pointer (some ⟨bk, 0, none⟩)) true (by rw [HG.out]; rfl) (by rw [HG.out]; rfl) ?_) | (refine ⟨trivial, ?_⟩; gi_at_call 63; refine (callsIn_wide.2 (does_any _ (Fo (e i).th) bk (trAt e b i) i i (e i) WE.out HK.out (fun k hk => by have := ELT.out k hk; simp; omega) (RO1.out.gng _ _ _ HG.out) HOB.out.2.2.2 (by have := ACL.out; omega) (by omega))).mono ?_; rw [HD.out]; rintro r u1 ⟨rfl, g1, o1⟩; have x1 : u1.cell? ⟨wr.heap.size, 1, none⟩ = some (.int .i64 (e i).th) := ((EB.out.keep (o1.out.block wr.heap.size (by simp) (fun hF => Nat.lt_irrefl _ (ELT.out _ hF)))).cell 1); have MU := Lib.hid (RO1.out.map.keep (o1.out.block W.heap.size RO1.out.map.lt (fun hF => (RO1.out.lt _ _ (by rw [HG.out]; simp) hF).2.2 rfl)))) | (gi_at_delete; refine wpListIn_del_mapG rfl _ _ 123 3 rfl 124 kInt (Value.int .i64) vint_inj Try.underlying123 W.heap.size i (fun th => (G th).map ptrV) rfl MU.out (e i).th _ rfl (keyInt WE.out.th) ?_; intro u2 m2 g2; obtain ⟨G', Fo', MID, hFo, GN⟩ := rel1_mid HR1.out FIRM.out HO.out HG.out H56.out g1.out o1.out (m2.more (Nat.le_succ _)) g2; obtain ⟨v, wm, rm, rd, GP⟩ := GN; obtain ⟨va, vc, rfl⟩ := owns_slice GP.row; have d0 : u2.cell? ⟨bk, 0, none⟩ = some (.int .i64 (trAt e b (i + 1)).th) := GP.blk.cell 0; have d1 : u2.cell? ⟨bk, 1, none⟩ = some (.int .i64 (trAt e b (i + 1)).tx) := GP.blk.cell 1; have d2 : u2.cell? ⟨bk, 2, none⟩ = some (.int .i64 (trAt e b (i + 1)).at_) := GP.blk.cell 2; have d3 : u2.cell? ⟨bk, 3, none⟩ = some (.int .i64 (trAt e b (i + 1)).st) := GP.blk.cell 3; have d4 : u2.cell? ⟨bk, 4, none⟩ = some (.int .i64 (trAt e b (i + 1)).b) := GP.blk.cell 4; have d5 : u2.cell? ⟨bk, 5, none⟩ = some (.int .i64 (trAt e b (i + 1)).en) := GP.blk.cell 5; have d6 : u2.cell? ⟨bk, 6, none⟩ = some (.int .i64 (trAt e b (i + 1)).re) := GP.blk.cell 6; have d7 : u2.cell? ⟨bk, 7, none⟩ = some (.bool (trAt e b (i + 1)).co) := GP.blk.cell 7; have d8 : u2.cell? ⟨bk, 8, none⟩ = some (.slice va (trAt e b (i + 1)).ac.length vc) := GP.blk.cell 8; obtain ⟨fn, tmps, assign, body, hy, hRd⟩ := HY.out xs (trAt e b (i + 1)) (.slice va (trAt e b (i + 1)).ac.length vc) u2 Fc (Fo' (e i).th) MID.2.2.1 GP.row (fun k hk => by rw [hFo]; exact GP.fv k hk) (fun k hc hg => (MID.2.2.2.2.2.2.2.2 k hg).1 hc) (fun k hk => (MID.2.2.2.2.2.2.2.2 k hk).2.2.1) (fun k hk => (MID.2.2.2.2.2.1 k hk).2) (by have := trAt_ac e b (i + 1); omega) (by have := HXL.out; omega); have hy' : (Instr.yield l #[.agg #[.int .i64 (trAt e b (i + 1)).th, .int .i64 (trAt e b (i + 1)).tx, .int .i64 (trAt e b (i + 1)).at_, .int .i64 (trAt e b (i + 1)).st, .int .i64 (trAt e b (i + 1)).b, .int .i64 (trAt e b (i + 1)).en, .int .i64 (trAt e b (i + 1)).re, .bool (trAt e b (i + 1)).co, .slice va (trAt e b (i + 1)).ac.length vc]]).run Try.prog u2 = .ok (.round l fn tmps assign body) u2 := hy; have MD := Lib.hid MID; have RD := Lib.hid hRd; clear hy MID hRd GP m2 g2 hFo) | gi_in)
          refine RD.out.mono ?_
          rintro e3 u3 ⟨rfl, Fc', hJ, hF, hO⟩
          have QQ := Lib.hid (mid_rel1 MD.out HO.out H56.out hlt hJ hF hO)
          clear hJ hF hO MD RD
          gi_wp2
          go_roundw
          case rel => exact ⟨i + 1, G', Fo', Fc', _, by omega, by go_num, QQ⟩
          case measure => simp [intOf]; omega
        · have HD := Lib.hid (show decide ((e i).k = 5 ∨ (e i).k = 6) = false by simpa using h56)
          have H56 := Lib.hid h56
          clear h56
          gi_wp2_with (first | (gi_at_lookup; refine wpListIn_look_mapG rfl _ _ 123 rfl 3 124 kInt Try.underlying123 _ (zeroP _) (Value.int .i64) W.heap.size i (fun th => (G th).map ptrV) rfl RO1.out.map (e i).th _ rfl (keyInt WE.out.th) (.pointer (some ⟨bk, 0, none⟩)) true (by rw [HG.out]; rfl) (by rw [HG.out]; rfl) ?_) | (refine ⟨trivial, ?_⟩; gi_at_call 63; refine (callsIn_wide.2 (does_any _ (Fo (e i).th) bk (trAt e b i) i i (e i) WE.out HK.out (fun k hk => by have := ELT.out k hk; simp; omega) (RO1.out.gng _ _ _ HG.out) HOB.out.2.2.2 (by have := ACL.out; omega) (by omega))).mono ?_; rw [HD.out]; rintro r u1 ⟨rfl, g1, o1⟩) | gi_in)
          go_roundw
          case rel =>
            obtain ⟨G', Fo', q⟩ := rel1_does HR1.out FIRM.out HO.out HG.out (by have := HK.out; omega) H56.out g1.out o1.out
            exact ⟨i + 1, G', Fo', Fc, xs, by omega, by go_num, q⟩
          case measure => simp [intOf]; omega
    · obtain rfl : i = len := by omega
      obtain ⟨D, hown, hD⟩ := HR.out.1.map
      have hD' : Says D G := hD
      have HWF := Lib.hid (show ∀ th b, opn e i th = some b → (Lit.int .i64 th).wf = true from fun th b h => by
        have := opn_spec e _ _ _ h
        obtain ⟨_, _, _, _, _, _, _, _, _, _, _, we⟩ := HL.out.at7 this.1
        rw [← this.2.2.1]
        exact we.th)
      have HD := Lib.hid hD'
      have HOWN := Lib.hid hown
      have hxl : xs.length ≤ i := by
        have := congrArg List.length HR.out.2.2.2.1
        rw [List.length_map, List.length_map] at this
        rw [this]
        exact ended_len e i
      clear hD hD' hown hxl
      gi_wp2_with (first | (gi_at_range; refine wpListIn_range_own _ rfl _ 123 rfl 3 124 kInt Try.underlying123 heldR W.heap.size i D rfl HOWN.out ?_; intro wq hrg0 hg0 hs0; have R2 := Lib.hid (rel2_start HR.out FIRM.out HWF.out HD.out hrg0 hg0 hs0); clear hrg0 hg0 hs0) | gi_in)
      go_frame
      generalize wr.heap.size = ro at R2 ⊢
      gi_loopw [10] (fun _ wq => ∃ (left : Lit → Bool) (cnt : Nat) (ys : List (Tr × Value)) (Fd : Nat → Prop) (rest : List Nat), Hid (Rel2 w0 W.heap.size ro i e J D G Fo wq left cnt ys Fd rest)) (fun _ wq => wq.rangeLeft W.heap.size ro)
      case atStart => exact ⟨_, _, _, _, _, R2⟩
      case round =>
        obtain ⟨left, cnt, ys, Fd, rest, RR⟩ := hrel
        gi_wp2_with (first | (gi_at_next; refine wpListIn_next_G rfl _ rfl W.heap.size ro i D G HD.out left RR.out.2.1 cnt rfl RR.out.1 ?_ ?_) | gi_in)
        · intro hl0
          gi_wp2
          go_end0
          obtain ⟨q1, q2, q3⟩ := rel2_done RR.out hl0
          exact ⟨rfl, ys, Fd, rest, RR.out.2.2.2.1, RR.out.2.2.2.2.2.2.2.2.1, RR.out.2.2.2.2.2.2.2.2.2.1, q1, q2, q3⟩
        · intro x bk t u2 cnt2 hGx hlx hrg2 hlt2 hg2 hs2 hen
          obtain ⟨qJ, qG, qA, qB, p, qo, qt⟩ := rel2_came RR.out FIRM.out hg2 hGx hlx
          obtain ⟨v, wm, rm, rd, GP⟩ := qG
          obtain ⟨va, vc, rfl⟩ := owns_slice GP.row
          have d0 : u2.cell? ⟨bk, 0, none⟩ = some (.int .i64 t.th) := GP.blk.cell 0; have d1 : u2.cell? ⟨bk, 1, none⟩ = some (.int .i64 t.tx) := GP.blk.cell 1; have d2 : u2.cell? ⟨bk, 2, none⟩ = some (.int .i64 t.at_) := GP.blk.cell 2; have d3 : u2.cell? ⟨bk, 3, none⟩ = some (.int .i64 t.st) := GP.blk.cell 3; have d4 : u2.cell? ⟨bk, 4, none⟩ = some (.int .i64 t.b) := GP.blk.cell 4; have d5 : u2.cell? ⟨bk, 5, none⟩ = some (.int .i64 t.en) := GP.blk.cell 5; have d6 : u2.cell? ⟨bk, 6, none⟩ = some (.int .i64 t.re) := GP.blk.cell 6; have d7 : u2.cell? ⟨bk, 7, none⟩ = some (.bool t.co) := GP.blk.cell 7; have d8 : u2.cell? ⟨bk, 8, none⟩ = some (.slice va t.ac.length vc) := GP.blk.cell 8
          obtain ⟨fn, tmps, assign, body, hy, hRd⟩ := HY.out ys t (.slice va t.ac.length vc) u2 Fd (Fo x) qJ GP.row GP.fv qA qB (fun k hk => by have := (RR.out.2.2.2.2.2.2.2.2.1 k hk).2; omega) (by rw [qt]; have := trAt_ac e p i; omega) (by
            have h1 := congrArg List.length RR.out.2.2.2.2.1
            rw [List.length_map, List.length_map, List.length_append] at h1
            have h2 := ended_len e i
            have h3 : rest.Perm ((List.range i).filter (fun b => decide (b ∈ rest))) := (List.perm_ext_iff_of_nodup RR.out.2.2.2.2.2.1 (List.nodup_range.filter _)).2 fun b => by
              simp only [List.mem_filter, List.mem_range, decide_eq_true_eq]
              refine ⟨fun h => ⟨?_, h⟩, fun h => h.2⟩
              obtain ⟨th, ho, _⟩ := (RR.out.2.2.2.2.2.2.1 b).1 h
              exact (opn_spec e _ _ _ ho).1
            have h4 := h3.length_eq
            have h5 := List.length_filter_le (fun b => decide (b ∈ rest)) (List.range i)
            rw [List.length_range] at h5
            omega)
          have hy' : (Instr.yield l #[.agg #[.int .i64 t.th, .int .i64 t.tx, .int .i64 t.at_, .int .i64 t.st, .int .i64 t.b, .int .i64 t.en, .int .i64 t.re, .bool t.co, .slice va t.ac.length vc]]).run Try.prog u2 = .ok (.round l fn tmps assign body) u2 := hy
          have RD := Lib.hid hRd
          have XX := Lib.hid (show ∀ v Fc' u3, J (ys ++ [(t, v)]) u3 Fc' → (∀ k, Fc' k → Fd k ∨ Fo x k ∨ (u2.heap.size ≤ k ∧ k < u3.heap.size)) → Only Fd u2 u3 → Rel2 w0 W.heap.size ro i e J D G Fo u3 (fun z => left z && !z.sameKey (.int .i64 x)) cnt2 (ys ++ [(t, v)]) Fc' (rest ++ [p]) from fun v Fc' u3 h1 h2 h3 => rel2_step RR.out FIRM.out hrg2 hg2 hGx hlx qo qt h1 h2 h3)
          have LT := Lib.hid hlt2
          clear hy hRd GP qJ qA qB qo qt hrg2 hg2 hs2 hlt2
          gi_wp2
          refine RD.out.mono ?_
          rintro e3 u3 ⟨rfl, Fc', hJ, hF, hO⟩
          have QQ := Lib.hid (XX.out _ _ _ hJ hF hO)
          clear hJ hF hO XX RD
          gi_wp2
          go_roundw
          case rel => exact ⟨_, _, _, _, _, QQ⟩
          case measure =>
            rw [QQ.out.1.left_eq, RR.out.1.left_eq]
            exact LT.out
end Go.Proofs.Ytkidkhjpijjphaa.hs

/- A range over a function whose value has arguments bound (a method's value): the statement, and a round, by what the loop's record says. Of no program. -/
namespace Go.Proofs.Ytkidkhjpijjphaa.base
open Go Go.RowKit

section
variable {F : Fence} {n : Nat} {P : Program}

/-- The record of the loop, ready, and the block for its rounds' deferred calls. -/
def LoopAt (l D : Nat) (rec : Loop) (W : World) : Prop := W.heap[l]? = some (.loop rec) ∧ W.heap[D]? = some (.deferred (some []))

theorem LoopAt.keep {l D : Nat} {rec : Loop} {W W' : World} (h : LoopAt l D rec W) (h1 : W'.heap[l]? = W.heap[l]?) (h2 : W'.heap[D]? = W.heap[D]?) : LoopAt l D rec W' := ⟨h1.trans h.1, h2.trans h.2⟩

theorem only_put (w : World) (l : Nat) (o : Obj) : Only (fun k => k = l) w (w.putObj l o) := ⟨rfl, rfl, rfl, by simp, fun k _ h => World.putObj_heap_other h⟩

/-- One round that goes on. -/
theorem yield_take {m l D fn : Nat} {tmps : Array Value} {ps : Array Tmp} {assign body : Code} {rec : Loop} {args : Array Value} {W : World} {R : Ending → World → Prop} (hrec : rec = { state := .ready, pending := none, fn, tmps, params := ps, assign, body, defers := D }) (hl : W.heap[l]? = some (.loop rec)) (hps : args.size = ps.size) (hfn : F.fn fn)
    (h : assign.wpIn (F.inRound l) m P (Exit.then (fun a₁ w₁ => w₁.heap[l]? = some (.loop rec) ∧ body.wpIn (F.inRound l) m P (fun ex _ W3 => ex = .normal ∧ W3.heap[l]? = some (.loop { rec with state := .busy }) ∧ R (.returned (.bool true)) (W3.putObj l (.loop rec))) a₁ (w₁.putObj l (.loop { rec with state := .busy }))) (fun _ _ _ => False))
      { tmps := (ps.zip args).foldl (fun t (p, v) => t.setIfInBounds p v) tmps, defers := [] } W) :
    YieldAt F m P l args W R := by
  subst hrec
  refine ⟨fn, _, assign, body, run_yield hl hps, roundIn_of_wpIn hfn (wpIn_mono h ?_)⟩
  intro e a w hq
  cases e with
  | normal =>
    obtain ⟨h1, h2⟩ := hq
    refine ⟨_, run_beginRound h1 rfl, wpIn_mono h2 ?_⟩
    rintro e3 a3 W3 ⟨rfl, h4, h5⟩
    exact ⟨_, _, run_endRound (P := P) none h4, h5⟩
  | ret => exact hq
  | exit id => exact hq
  | goto t => exact hq
  | panic c => exact hq
  | outgrown => exact hq

/-- The statement. -/
theorem wpIn_range_take {g : Operand} {ps : Array Tmp} {assign body : Code} {Q : Exit → Act → World → Prop} {a : Act} {w : World} (hro : F.round = none) (h1 : 1 ≤ n) {gf : Nat} {bnd lb : Array Value} (hg : a.eval g = .func (.func gf) bnd lb) (hFg : F.fn gf) (eg : ∀ args w, (callFunc gf args).run P w = .ok (.enter gf args) w)
    (H : ∀ fn, F.fn fn → ∀ rec : Loop, rec = { state := .ready, pending := none, fn, tmps := a.tmps, params := ps, assign, body, defers := w.heap.size } →
      CallsIn F (n - 1) P gf (bnd ++ #[.func (.yield (w.heap.size + 1)) #[] #[]] ++ lb) ((w.alloc (.deferred (some []))).alloc (.loop rec)) fun e W2 =>
        (∃ v, e = .returned v) ∧ LoopAt (w.heap.size + 1) w.heap.size rec W2 ∧ ∀ o', Q .normal { a with defers := { target := .collected w.heap.size, args := #[] } :: a.defers } (W2.putObj (w.heap.size + 1) o')) :
    (Code.rangeFunc g ps assign body).wpIn F n P Q a w := by
  refine wpIn_rangeFunc ?_
  intro fn hfn
  rw [hro]
  obtain ⟨rec, hrec⟩ : ∃ rec : Loop, rec = { state := .ready, pending := none, fn, tmps := a.tmps, params := ps, assign, body, defers := w.heap.size } := ⟨_, rfl⟩
  have HC := H fn hfn rec hrec
  refine ⟨w.heap.size + 1, [{ target := .collected w.heap.size, args := #[] }], (w.alloc (.deferred (some []))).alloc (.loop rec), { target := .fn (.func gf) lb, args := bnd ++ #[.func (.yield (w.heap.size + 1)) #[] #[]] }, (w.alloc (.deferred (some []))).alloc (.loop rec), gf,
    bnd ++ #[.func (.yield (w.heap.size + 1)) #[] #[]] ++ lb, (w.alloc (.deferred (some []))).alloc (.loop rec), ?_, ?_, ?_, ?_, fun _ => h1, ?_⟩
  · rw [hrec]; exact run_enterLoop_outer _ _ _ _ _
  · simp only [resolve, hg]
    simp [go_sem]
  · intro f' hf'; simp [Target.leads] at hf'; subst hf'; exact hFg
  · simp [invoke, go_sem, eg]
  · refine HC.mono ?_
    rintro e W2 ⟨⟨v, rfl⟩, hL, hQ⟩
    have hE := run_endLoop (P := P) hL.1 (by rw [hrec]; simp)
    have hp : rec.pending = none := by rw [hrec]
    rw [hp] at hE
    exact ⟨none, _, hE, hQ _⟩

/-- append, inside a fence. -/
theorem wpListIn_append_at (w : World) {ops : Array Oper} {rest : List Oper} {o : Oper} {a : Act} {Q : Exit → Act → World → Prop} {nF : Nat}
    (hgd : o.guard = none) (s x : Operand) (t : TypeId) (hop : o.op = Op.call { callee := Callee.builtin Builtin.append, args := #[s, x], argTypes := #[t, t] })
    (base : Nat) (e : TypeId) (i : TypeInfo) (z : Value) (size bytes : Nat) (h1 : P.underlying t = some (.slice e)) (h2 : P.info? e = some i) (h3 : i.zero = some z) (h4 : i.size = size) (h5 : i.bytes = bytes) (h6 : z.cells.size = size) (h7 : 0 < size)
    (v : Value) (n : Nat) (xs : List Value) (hs : a.eval s = v) (hown : w.ownsRow base e size v n xs)
    (ad : Addr) (m c : Nat) (news : List Value) (hx : a.eval x = .slice (some ad) m c) (hl : news.length = m * size) (hnews : ∀ j u, news[j]? = some u → w.cell? (ad.add j) = some u) (h1c : ∀ u ∈ news, u.oneCell' = true)
    (h63 : n + m ≤ maxLen) (hbytes : (n + m) * bytes ≤ 140737488355328) (hbase : base ≤ w.heap.size) (hm : 0 < m)
    (hK : ∀ g cap w', w'.ownsRow base e size (.slice (some ⟨g, 0, none⟩) (n + m) cap) (n + m) (xs ++ news) → w.grownBy w' v.ownBlock → (some g = v.ownBlock ∨ w.heap.size ≤ g) → wpListIn F nF P ops Q rest (a.put o.dst (.slice (some ⟨g, 0, none⟩) (n + m) cap)) w') :
    wpListIn F nF P ops Q (o :: rest) a w := by
  refine wpListIn_plain hgd fun K hK' => ?_
  obtain ⟨v', w', hrun, r1, r2, r3⟩ := run_append_at (P := P) w base t o.type e i z size bytes h1 h2 h3 h4 h5 h6 h7 v n xs hown ad m c news hl hnews h1c h63 hbytes hbase
  have r0 := r1
  rcases r0.2 with ⟨_, h0⟩ | ⟨g, cap, _, rfl, _⟩
  · omega
  unfold Oper.wpIn
  refine ⟨by simp [Oper.about, hop, resolve, Target.leads, Sem.run_pure], ?_⟩
  rw [Oper.semAt_plain F _ _ (by rw [hop]; intro c hc'; cases hc')]
  simp [execOp, hop, resolve, invoke, builtin, hs, hx, hrun, Result.andThen]
  exact hK' _ _ (hK g cap w' r1 r2 (by
    rcases r3 with h | ⟨k, h, hk⟩
    · exact .inl h
    · cases h; exact .inr hk))
end
end Go.Proofs.Ytkidkhjpijjphaa.base

/- The tries that are asked for: hist's told. -/
namespace Go.Proofs.Ytkidkhjpijjphaa.hs
open Go Go.RowKit Go.Proofs.Ytkidkhjpijjphaa.base Go.Maps
set_option linter.unusedVariables false
set_option maxRecDepth 100000
attribute [local go_sem] Oper.semAt_some

def tvC (x : Tr × Value) : List Value := trC x.1 x.2
theorem tvC_len (x : Tr × Value) : (tvC x).length = 9 := rfl

/-- What told holds while the tries come. -/
structure JTP (l D : Nat) (rec : Loop) (bw : Nat) (fw : Value) (bt : Nat) (Cap : List (Nat × TypeId × List Value)) (ys : List (Tr × Value)) (W : World) (Fc : Nat → Prop) (a : Option Addr) (c : Nat) : Prop where
  box : Blk 34 W bt #[.slice a ys.length c]
  row : W.ownsRow 0 41 9 (.slice a ys.length c) ys.length (rows tvC ys)
  acc : ∀ x ∈ ys, W.ownsRow 0 48 6 x.2 x.1.ac.length (rows accC x.1.ac)
  wan : Blk 69 W bw #[fw]
  loop : LoopAt l D rec W
  fbt : Fc bt
  fbw : Fc bw
  fl : Fc l
  fD : Fc D
  frow : ∀ k, (Value.slice a ys.length c).ownBlock = some k → Fc k
  facc : ∀ x ∈ ys, ∀ k, x.2.ownBlock = some k → Fc k
  cap : ∀ x ∈ Cap, Blk x.2.1 W x.1 ⟨x.2.2⟩ ∧ Fc x.1
def JT (l D : Nat) (rec : Loop) (bw : Nat) (fw : Value) (bt : Nat) (Cap : List (Nat × TypeId × List Value)) (p : Tr → Bool) (pre : List (Tr × Value)) (W : World) (Fc : Nat → Prop) : Prop := ∃ a c, JTP l D rec bw fw bt Cap (pre.filter fun x => p x.1) W Fc a c

theorem JTP.keep {l D : Nat} {rec : Loop} {bw : Nat} {fw : Value} {bt : Nat} {Cap : List (Nat × TypeId × List Value)} {ys : List (Tr × Value)} {W W' : World} {Fc Fd : Nat → Prop} {a : Option Addr} {c : Nat} (h : JTP l D rec bw fw bt Cap ys W Fc a c) (hk : ∀ k, Fc k → W'.heap[k]? = W.heap[k]?) (hF : ∀ k, Fc k → Fd k) : JTP l D rec bw fw bt Cap ys W' Fd a c :=
  ⟨h.box.keep (hk _ h.fbt), ownsRow_keep h.row (fun k e => hk _ (h.frow k e)), fun x hx => ownsRow_keep (h.acc x hx) (fun k e => hk _ (h.facc x hx k e)), h.wan.keep (hk _ h.fbw), h.loop.keep (hk _ h.fl) (hk _ h.fD), hF _ h.fbt, hF _ h.fbw, hF _ h.fl, hF _ h.fD, fun k e => hF _ (h.frow k e), fun x hx k e => hF _ (h.facc x hx k e), fun x hx => ⟨(h.cap x hx).1.keep (hk _ (h.cap x hx).2), hF _ (h.cap x hx).2⟩⟩
theorem jt_firm (l D : Nat) (rec : Loop) (bw : Nat) (fw : Value) (bt : Nat) (Cap : List (Nat × TypeId × List Value)) (p : Tr → Bool) : Firm2 (JT l D rec bw fw bt Cap p) := by
  rintro pre W W' Fc ⟨a, c, h⟩ hk
  exact ⟨a, c, h.keep hk (fun _ h => h)⟩

theorem infoTry : (Try.prog.info? 41).map (fun i => (i.zero, i.size, i.bytes)) = some (some (.agg #[.int .i64 0, .int .i64 0, .int .i64 0, .int .i64 0, .int .i64 0, .int .i64 0, .int .i64 0, .bool false, .slice none 0 0]), 9, 88) := by kernel_rfl

/-- The function value that says which tries are wanted: it says p, wherever its captured variables lie. -/
def Wants (Cap : List (Nat × TypeId × List Value)) (gw : Nat) (cw : Array Value) (p : Tr → Bool) : Prop :=
  (∀ args w, (callFunc gw args).run Try.prog w = .ok (.enter gw args) w) ∧ ∀ u t v, (∀ x ∈ Cap, Blk x.2.1 u x.1 ⟨x.2.2⟩) → Calls Try.prog gw (#[.agg ⟨trC t v⟩] ++ cw) u fun r u' => r = .returned (.bool (p t)) ∧ Hid (u.grownBy u' none)

section
variable {l D : Nat} {rec : Loop} {bw : Nat} {fw : Value} {bt : Nat} {Cap : List (Nat × TypeId × List Value)} {p : Tr → Bool} {pre : List (Tr × Value)} {W W' : World} {Fc G : Nat → Prop} {t : Tr} {v : Value}

theorem jt_skip (h : JT l D rec bw fw bt Cap p pre W Fc) (hp : p t = false) (hk : ∀ k, Fc k → W'.heap[k]? = W.heap[k]?) (hF : ∀ k, Fc k → G k) : JT l D rec bw fw bt Cap p (pre ++ [(t, v)]) W' G := by
  obtain ⟨a, c, h⟩ := h
  refine ⟨a, c, ?_⟩
  have : (pre ++ [(t, v)]).filter (fun x => p x.1) = pre.filter (fun x => p x.1) := by simp [hp]
  rw [this]
  exact h.keep hk hF

theorem jt_add {a : Option Addr} {c : Nat} (hCap : ∀ x ∈ Cap, x.2.1 = 3) (h : JTP l D rec bw fw bt Cap (pre.filter fun x => p x.1) W Fc a c) (hp : p t = true) (hv : W'.ownsRow 0 48 6 v t.ac.length (rows accC t.ac)) (hvG : ∀ k, v.ownBlock = some k → G k)
    (ho : Only (fun k => k = bt ∨ k = l ∨ (Value.slice a (pre.filter fun x => p x.1).length c).ownBlock = some k) W W') (hlt : ∀ k, Fc k → k < W.heap.size) {g c' : Nat} (hb : Blk 34 W' bt #[.slice (some ⟨g, 0, none⟩) ((pre.filter fun x => p x.1).length + 1) c'])
    (hr : W'.ownsRow 0 41 9 (.slice (some ⟨g, 0, none⟩) ((pre.filter fun x => p x.1).length + 1) c') ((pre.filter fun x => p x.1).length + 1) (rows tvC (pre.filter fun x => p x.1) ++ tvC (t, v))) (hL : W'.heap[l]? = some (.loop rec)) (hF : ∀ k, Fc k → G k) (hg : G g) :
    JT l D rec bw fw bt Cap p (pre ++ [(t, v)]) W' G := by
  have e1 : (pre ++ [(t, v)]).filter (fun x => p x.1) = pre.filter (fun x => p x.1) ++ [(t, v)] := by simp [hp]
  refine ⟨some ⟨g, 0, none⟩, c', ?_⟩
  rw [e1]
  generalize pre.filter (fun x => p x.1) = ys at *
  have hcell : ∀ k ty cs, W.heap[k]? = some (.cells cs ty (0, 0)) → ty ≠ 34 → ty ≠ 41 → Fc k → W'.heap[k]? = W.heap[k]? := fun k ty cs hk h1 h2 hf => by
    refine ho.block k (hlt k hf) ?_
    rintro (e | e | e)
    · have := h.box
      unfold Blk at this
      rw [← e, hk] at this
      injection this with this
      injection this with _ this
      exact h1 this
    · have := h.loop.1
      rw [← e, hk] at this
      cases this
    · obtain ⟨ds, hd⟩ := ownsRow_type h.row e
      rw [hk] at hd
      injection hd with hd
      injection hd with _ hd
      exact h2 hd
  have hl2 : (ys ++ [(t, v)]).length = ys.length + 1 := by simp
  refine ⟨by rw [hl2]; exact hb, by rw [hl2, show rows tvC (ys ++ [(t, v)]) = rows tvC ys ++ tvC (t, v) from rows_snoc _ _]; exact hr, fun x hx => ?_, ?_, ⟨hL, ?_⟩, hF _ h.fbt, hF _ h.fbw, hF _ h.fl, hF _ h.fD, fun k e => by cases e; exact hg, fun x hx k e => ?_, fun x hx => ⟨?_, hF _ (h.cap x hx).2⟩⟩
  · rcases List.mem_append.1 hx with hx | hx
    · refine ownsRow_keep (h.acc x hx) (fun k e => ?_)
      obtain ⟨cs, hc⟩ := ownsRow_type (h.acc x hx) e
      exact hcell k _ cs hc (by decide) (by decide) (h.facc x hx k e)
    · have : x = (t, v) := by simpa using hx
      subst this
      exact hv
  · exact h.wan.keep (hcell bw _ _ h.wan (by decide) (by decide) h.fbw)
  · refine (ho.block D (hlt D h.fD) ?_).trans h.loop.2
    have hd := h.loop.2
    rintro (e | e | e)
    · have := h.box
      unfold Blk at this
      rw [← e, hd] at this
      cases this
    · have := h.loop.1
      rw [← e, hd] at this
      cases this
    · obtain ⟨ds, hd2⟩ := ownsRow_type h.row e
      rw [hd] at hd2
      cases hd2
  · rcases List.mem_append.1 hx with hx | hx
    · exact hF _ (h.facc x hx k e)
    · have : x = (t, v) := by simpa using hx
      subst this
      exact hvG k e
  · exact (h.cap x hx).1.keep (hcell _ _ _ (h.cap x hx).1 (by rw [hCap x hx]; decide) (by rw [hCap x hx]; decide) (h.cap x hx).2)
end
end Go.Proofs.Ytkidkhjpijjphaa.hs

/- The order of tries: what slices.SortFunc asks (laid by hand: its bodies are those of the kit's own, the kernel compares them), and the two orders. -/
namespace Go.Proofs.Ytkidkhjpijjphaa.hs
open Go Go.RowKit Go.Proofs.Ytkidkhjpijjphaa.base Go.Maps Go.Shelf Go.Lib Go.Sort
set_option linter.unusedVariables false
set_option maxRecDepth 100000

def sortTryRen : Go.Shelf.Ren where
  f := fun x => match x with
    | 6 => 50
    | 15 => 65
    | 14 => 64
    | 28 => 83
    | 29 => 84
    | 20 => 75
    | 21 => 76
    | 22 => 77
    | 23 => 78
    | 24 => 79
    | 25 => 80
    | 26 => 81
    | 27 => 82
    | 46 => 89
    | 47 => 90
    | 48 => 91
    | 49 => 92
    | 50 => 93
    | 57 => 95
    | n => n
  t := fun x => match x with
    | 22 => 34
    | 24 => 41
    | 25 => 70
    | 3 => 3
    | 39 => 134
    | 0 => 0
    | 53 => 155
    | 55 => 157
    | 4 => 4
    | 46 => 149
    | 45 => 148
    | 50 => 37
    | 5 => 5
    | 9 => 9
    | 66 => 164
    | 70 => 168
    | 76 => 171
    | 77 => 172
    | n => n
  g := fun n => n

theorem sortTryLaid : SlLaysF0.n6 Try.prog sortTryRen where
  mixed := by kernel_rfl
  f6 := ⟨"slices.SortFunc[[]quarrel/hist.Try,quarrel/hist.Try]", by kernel_rfl, Try.func50.trans (congrArg some (by kernel_rfl))⟩
  f14 := ⟨"slices.pdqsortCmpFunc[quarrel/hist.Try]", by kernel_rfl, Try.func64.trans (congrArg some (by kernel_rfl))⟩
  f20 := ⟨"slices.insertionSortCmpFunc[quarrel/hist.Try]", by kernel_rfl, Try.func75.trans (congrArg some (by kernel_rfl))⟩
  f21 := ⟨"slices.heapSortCmpFunc[quarrel/hist.Try]", by kernel_rfl, Try.func76.trans (congrArg some (by kernel_rfl))⟩
  f22 := ⟨"slices.breakPatternsCmpFunc[quarrel/hist.Try]", by kernel_rfl, Try.func77.trans (congrArg some (by kernel_rfl))⟩
  f23 := ⟨"slices.choosePivotCmpFunc[quarrel/hist.Try]", by kernel_rfl, Try.func78.trans (congrArg some (by kernel_rfl))⟩
  f24 := ⟨"slices.reverseRangeCmpFunc[quarrel/hist.Try]", by kernel_rfl, Try.func79.trans (congrArg some (by kernel_rfl))⟩
  f25 := ⟨"slices.partialInsertionSortCmpFunc[quarrel/hist.Try]", by kernel_rfl, Try.func80.trans (congrArg some (by kernel_rfl))⟩
  f26 := ⟨"slices.partitionEqualCmpFunc[quarrel/hist.Try]", by kernel_rfl, Try.func81.trans (congrArg some (by kernel_rfl))⟩
  f27 := ⟨"slices.partitionCmpFunc[quarrel/hist.Try]", by kernel_rfl, Try.func82.trans (congrArg some (by kernel_rfl))⟩
  f46 := ⟨"slices.siftDownCmpFunc[quarrel/hist.Try]", by kernel_rfl, Try.func89.trans (congrArg some (by kernel_rfl))⟩
  f49 := ⟨"slices.medianAdjacentCmpFunc[quarrel/hist.Try]", by kernel_rfl, Try.func92.trans (congrArg some (by kernel_rfl))⟩
  f50 := ⟨"slices.medianCmpFunc[quarrel/hist.Try]", by kernel_rfl, Try.func93.trans (congrArg some (by kernel_rfl))⟩
  f57 := ⟨"slices.order2CmpFunc[quarrel/hist.Try]", by kernel_rfl, Try.func95.trans (congrArg some (by kernel_rfl))⟩
  f15 := Try.func65.trans (congrArg some (by kernel_rfl))
  f28 := Try.func83.trans (congrArg some (by kernel_rfl))
  f29 := Try.func84.trans (congrArg some (by kernel_rfl))
  f47 := Try.func90.trans (congrArg some (by kernel_rfl))
  f48 := Try.func91.trans (congrArg some (by kernel_rfl))
  t0 := Try.underlying0
  a0 := Try.isAgg0
  z0 := Try.sizeOf0
  v0 := Try.zeroValue0
  t3 := Try.underlying3
  a3 := Try.isAgg3
  z3 := Try.sizeOf3
  v3 := Try.zeroValue3
  t4 := Try.underlying4
  a4 := Try.isAgg4
  z4 := Try.sizeOf4
  v4 := Try.zeroValue4
  t5 := Try.underlying5
  a5 := Try.isAgg5
  z5 := Try.sizeOf5
  v5 := Try.zeroValue5
  t9 := Try.underlying9
  a9 := Try.isAgg9
  z9 := Try.sizeOf9
  v9 := Try.zeroValue9
  t22 := Try.underlying34
  a22 := Try.isAgg34
  z22 := Try.sizeOf34
  v22 := Try.zeroValue34
  t25 := Try.underlying70
  a25 := Try.isAgg70
  z25 := Try.sizeOf70
  v25 := Try.zeroValue70
  t39 := Try.underlying134
  a39 := Try.isAgg134
  z39 := Try.sizeOf134
  v39 := Try.zeroValue134
  t45 := Try.underlying148
  a45 := Try.isAgg148
  z45 := Try.sizeOf148
  v45 := Try.zeroValue148
  t46 := Try.underlying149
  a46 := Try.isAgg149
  z46 := Try.sizeOf149
  v46 := Try.zeroValue149
  t50 := Try.underlying37
  a50 := Try.isAgg37
  z50 := Try.sizeOf37
  v50 := Try.zeroValue37
  t53 := Try.underlying155
  a53 := Try.isAgg155
  z53 := Try.sizeOf155
  v53 := Try.zeroValue155
  t55 := Try.underlying157
  a55 := Try.isAgg157
  z55 := Try.sizeOf157
  v55 := Try.zeroValue157
  t66 := Try.underlying164
  a66 := Try.isAgg164
  z66 := Try.sizeOf164
  v66 := Try.zeroValue164
  t70 := Try.underlying168
  a70 := Try.isAgg168
  z70 := Try.sizeOf168
  v70 := Try.zeroValue168
  t76 := Try.underlying171
  a76 := Try.isAgg171
  z76 := Try.sizeOf171
  v76 := Try.zeroValue171
  t77 := Try.underlying172
  a77 := Try.isAgg172
  z77 := Try.sizeOf172
  v77 := Try.zeroValue172

def cmpIntRen : Go.Shelf.Ren where
  f := fun x => match x with
    | 5 => 51
    | 7 => 66
    | n => n
  t := fun x => match x with
    | 22 => 3
    | 3 => 3
    | 4 => 4
    | n => n
  g := fun n => n

theorem cmpIntLaid : SlLaysC2.n5 Try.prog cmpIntRen where
  mixed := by kernel_rfl
  f5 := ⟨"cmp.Compare[int]", by kernel_rfl, Try.func51.trans (congrArg some (by kernel_rfl))⟩
  f7 := ⟨"cmp.isNaN[int]", by kernel_rfl, Try.func66.trans (congrArg some (by kernel_rfl))⟩
  t3 := Try.underlying3
  a3 := Try.isAgg3
  z3 := Try.sizeOf3
  v3 := Try.zeroValue3
  t4 := Try.underlying4
  a4 := Try.isAgg4
  z4 := Try.sizeOf4
  v4 := Try.zeroValue4
  t22 := Try.underlying3
  a22 := Try.isAgg3
  z22 := Try.sizeOf3
  v22 := Try.zeroValue3

theorem aggTry : ∀ w, (isAgg (sortTryRen.t 24)).run Try.prog w = .ok true w := Try.isAgg41

theorem sizeTry : ∀ w, (Go.sizeOf (sortTryRen.t 24)).run Try.prog w = .ok 9 w := Try.sizeOf41

def tvI (x : Tr × Value) : Tr × Value := (x.1, if x.2.oneCell' = true then x.2 else .slice none 0 0)
/-- A try's cells, whatever its accesses are. -/
def encT (x : Tr × Value) : List Value := tvC (tvI x)

theorem encT_len (x : Tr × Value) : (encT x).length = 9 := rfl

theorem encT_one (x : Tr × Value) : ∀ v ∈ encT x, v.oneCell' = true := by
  intro v hv
  simp [encT, tvC, trC, tvI] at hv
  rcases hv with rfl | rfl | rfl | rfl | rfl | rfl | rfl | rfl | rfl
  all_goals first | rfl | (split <;> first | assumption | rfl)

theorem encT_slice (t : Tr) (a : Option Addr) (n c : Nat) : encT (t, .slice a n c) = tvC (t, .slice a n c) := rfl

theorem ltOf_cmp {α : Type} (f : α → Int) (x y : α) : ltOf (fun x y : α => Lib.compareInt (f x) (f y)) x y = decide (f x < f y) := by
  unfold ltOf Lib.compareInt
  by_cases h1 : f x < f y
  · simp [h1]
  · by_cases h2 : f y < f x <;> simp [h1, h2]

theorem swo_cmp {α : Type} (f : α → Int) : SWO (ltOf fun x y : α => Lib.compareInt (f x) (f y)) where
  irrefl x := by rw [ltOf_cmp]; simp
  trans x y z h1 h2 := by rw [ltOf_cmp] at *; simp at *; omega
  ntrans x y z h1 h2 := by rw [ltOf_cmp] at *; simp at *; omega

set_option maxHeartbeats 1000000 in
theorem byBegin_any : ∀ (x y : Tr × Value) (W : World), Calls Try.prog 31 #[.agg ⟨encT x⟩, .agg ⟨encT y⟩] W fun e w' => e = .returned (.int .i64 (Lib.compareInt x.1.b y.1.b)) ∧ ∃ q os', w' = grow (W.drewN q) os' := by
  intro x y W
  have hcon := fun W' => AnyG.cmp_Compare_int cmpIntLaid x.1.b y.1.b W'
  change ∀ W', Calls Try.prog 51 _ _ _ at hcon
  generalize Lib.compareInt x.1.b y.1.b = r at hcon ⊢
  show Calls Try.prog 31 #[.agg #[.int .i64 x.1.th, .int .i64 x.1.tx, .int .i64 x.1.at_, .int .i64 x.1.st, .int .i64 x.1.b, .int .i64 x.1.en, .int .i64 x.1.re, .bool x.1.co, (tvI x).2], .agg #[.int .i64 y.1.th, .int .i64 y.1.tx, .int .i64 y.1.at_, .int .i64 y.1.st, .int .i64 y.1.b, .int .i64 y.1.en, .int .i64 y.1.re, .bool y.1.co, (tvI y).2]] W _
  generalize (tvI x).2 = vx
  generalize (tvI y).2 = vy
  go_enter Try.func31, Try.ntmps31
  go_wp2_with (go_at_call 51; refine (hcon _).mono ?_; rintro e w' ⟨rfl, rfl⟩)
  go_ret
  exact ⟨rfl, 0, _, by rw [alloc_eq_grow, alloc_eq_grow, grow_grow]; rfl⟩

theorem byBegin_lays (blk off size : Nat) (w : World) : CmpLays Try.prog 31 #[] encT 9 (fun x y : Tr × Value => Lib.compareInt x.1.b y.1.b) blk off size w :=
  fun _ _ _ _ x y => byBegin_any x y _

set_option maxHeartbeats 1000000 in
theorem byEnd_any : ∀ (x y : Tr × Value) (W : World), Calls Try.prog 68 #[.agg ⟨encT x⟩, .agg ⟨encT y⟩] W fun e w' => e = .returned (.int .i64 (Lib.compareInt x.1.en y.1.en)) ∧ ∃ q os', w' = grow (W.drewN q) os' := by
  intro x y W
  have hcon := fun W' => AnyG.cmp_Compare_int cmpIntLaid x.1.en y.1.en W'
  change ∀ W', Calls Try.prog 51 _ _ _ at hcon
  generalize Lib.compareInt x.1.en y.1.en = r at hcon ⊢
  show Calls Try.prog 68 #[.agg #[.int .i64 x.1.th, .int .i64 x.1.tx, .int .i64 x.1.at_, .int .i64 x.1.st, .int .i64 x.1.b, .int .i64 x.1.en, .int .i64 x.1.re, .bool x.1.co, (tvI x).2], .agg #[.int .i64 y.1.th, .int .i64 y.1.tx, .int .i64 y.1.at_, .int .i64 y.1.st, .int .i64 y.1.b, .int .i64 y.1.en, .int .i64 y.1.re, .bool y.1.co, (tvI y).2]] W _
  generalize (tvI x).2 = vx
  generalize (tvI y).2 = vy
  go_enter Try.func68, Try.ntmps68
  go_wp2_with (go_at_call 51; refine (hcon _).mono ?_; rintro e w' ⟨rfl, rfl⟩)
  go_ret
  exact ⟨rfl, 0, _, by rw [alloc_eq_grow, alloc_eq_grow, grow_grow]; rfl⟩

theorem byEnd_lays (blk off size : Nat) (w : World) : CmpLays Try.prog 68 #[] encT 9 (fun x y : Tr × Value => Lib.compareInt x.1.en y.1.en) blk off size w :=
  fun _ _ _ _ x y => byEnd_any x y _

/-- What the order that told is given must do: it goes by a number. -/
def Orders (go : Nat) (f : Tr → Int) : Prop := (∀ args w, (callFunc go args).run Try.prog w = .ok (.enter go args) w) ∧ ∀ blk off size w, CmpLays Try.prog go #[] encT 9 (fun x y : Tr × Value => Lib.compareInt (f x.1) (f y.1)) blk off size w

theorem byBegin_orders : Orders 31 Tr.b := ⟨enters_of Try.func31 (by kernel_rfl) rfl, byBegin_lays⟩

theorem byEnd_orders : Orders 68 Tr.en := ⟨enters_of Try.func68 (by kernel_rfl) rfl, byEnd_lays⟩

/-- The tries of ys lie there. -/
def IsTries (w : World) (a : Option Addr) (ys : List (Tr × Value)) : Prop :=
  (ys = [] ∨ ∃ g, a = some ⟨g, 0, none⟩ ∧ g < w.heap.size ∧ ∀ i x, ys[i]? = some x → ∀ j u, (tvC x)[j]? = some u → w.cell? ⟨g, i * 9 + j, none⟩ = some u) ∧
  ∀ x ∈ ys, w.ownsRow 0 48 6 x.2 x.1.ac.length (rows accC x.1.ac)

theorem IsTries.grown {w w' : World} {a : Option Addr} {ys : List (Tr × Value)} (h : IsTries w a ys) (g : w.grownBy w' none) : IsTries w' a ys := by
  refine ⟨?_, fun x hx => ownsRow_keep (h.2 x hx) (fun k e => g.block k ((h.2 x hx).lt k e).2 (by simp))⟩
  rcases h.1 with h1 | ⟨b, rfl, hb, hc⟩
  · exact .inl h1
  · exact .inr ⟨b, rfl, Nat.lt_of_lt_of_le hb g.size, fun i x hx j u hu => g.cell (hc i x hx j u hu) (by simp)⟩

/-- A row's elements, in their cells. -/
theorem holdsK_of {w : World} {g n cap : Nat} {ys : List (Tr × Value)} (hs : ∀ x ∈ ys, ∃ a m c, x.2 = .slice a m c) (hn : n = ys.length) (h : w.ownsRow 0 41 9 (.slice (some ⟨g, 0, none⟩) n cap) n (rows tvC ys)) : HoldsK encT 9 w g 0 ys.toArray := by
  intro t ht
  simp only [size_flatK, List.size_toArray] at ht
  rw [get_flatK _ _ _ _ (by simpa using ht)]
  have h1 : t / 9 < ys.length := by omega
  have h2 : t % 9 < 9 := Nat.mod_lt _ (by omega)
  have e1 : ys.toArray[t / 9]! = ys[t / 9] := by simp [h1]
  rw [e1]
  obtain ⟨va, vm, vc, hx⟩ := hs _ (List.getElem_mem h1)
  have e2 : encT ys[t / 9] = tvC ys[t / 9] := by
    generalize ys[t / 9] = x at hx
    obtain ⟨tt, v⟩ := x
    dsimp only at hx
    subst hx
    rfl
  rw [e2]
  have h3 := rows_get tvC_len ys (t / 9) (t % 9) ys[t / 9] (List.getElem?_eq_getElem h1) h2
  have e3 : t / 9 * 9 + t % 9 = t := Nat.div_add_mod' t 9
  rw [e3] at h3
  have h4 : (tvC ys[t / 9])[t % 9]? = some ((tvC ys[t / 9])[t % 9]!) := by
    rw [List.getElem?_eq_getElem (by rw [tvC_len]; exact h2), getElem!_pos _ _ (by rw [tvC_len]; exact h2)]
  rw [h4] at h3
  have h5 := h.cells (g := g) rfl t _ h3
  rw [add_eq] at h5
  obtain ⟨cs, hc⟩ := ownsRow_type h (k := g) rfl
  exact ⟨h5, Blk.free (t := 41) hc _⟩

theorem sortW_block {w : World} {g n : Nat} {d : Array (Tr × Value)} {os : Array Obj} {k : Nat} (hk : k < w.heap.size) (hne : k ≠ g) : (sortWorldK encT 9 w g 0 n d os).heap[k]? = w.heap[k]? := by
  unfold sortWorldK grow putRowK putRow mapBlock
  simp only
  rw [Array.getElem?_append_left (by simp [Sort.ahead]; exact hk)]
  rw [Array.getElem?_modify]
  rw [if_neg (fun e => hne e.symm)]
  rfl

theorem sortW_only {w : World} {g n : Nat} {d : Array (Tr × Value)} {os : Array Obj} : Only (fun k => k = g) w (sortWorldK encT 9 w g 0 n d os) :=
  ⟨rfl, rfl, rfl, by simp [sortWorldK, grow, putRowK, putRow, mapBlock, Sort.ahead], fun k hk hn => sortW_block hk hn⟩
end Go.Proofs.Ytkidkhjpijjphaa.hs

/- The document's own tries of chapter 17: plain facts. -/
namespace Go.Proofs.Ytkidkhjpijjphaa.hs
open Go Go.RowKit Go.Proofs.Ytkidkhjpijjphaa.base Go.Maps
set_option linter.unusedVariables false
set_option maxRecDepth 100000

theorem wp_pcs {P : Program} {c c' : Code} {Q : Exit → Act → World → Prop} {a : Act} {w : World} (h : c = c') (hw : Code.wp P c' Q a w) : Code.wp P c Q a w := h ▸ hw
theorem own_flip {w0 w : World} {A B : Blks} (h : base.Own w0 w (A ++ B)) : base.Own w0 w (B ++ A) := h.perm List.perm_append_comm
theorem owns_zero {base : Nat} {e : TypeId} {sz : Nat} {w : World} {v : Value} {n : Nat} {xs : List Value} (h : w.ownsRow base e sz v n xs) : w.ownsRow 0 e sz v n xs := by
  refine ⟨h.1, ?_⟩
  rcases h.2 with h | ⟨g, cap, cur, h1, _, h3⟩
  · exact .inl h
  · exact .inr ⟨g, cap, cur, h1, Nat.zero_le _, h3⟩

/-- What the document's loop does to a try at a place. -/
theorem doc_step (e : Evs) {len b k : Nat} (hr : right e len = true) (hk1 : (e b).k = 1) (hbk : b < k) (hkl : k < len) (hen : (trAt e b k).en < 0) : trAt e b (k + 1) = if ownE (e b) (e k) = true then base.stepT (trAt e b k) k (e k) else trAt e b k := by
  have h1 := docAt_eq e b hk1 (k + 1) (right_le e hr (k + 1) hkl)
  have h0 := docAt_eq e b hk1 k (right_le e hr k (by omega))
  rw [docAt, h0] at h1
  rw [← h1]
  by_cases h : ownE (e b) (e k) = true
  · rw [if_pos ⟨hbk, h, hen⟩, if_pos h]
  · rw [if_neg (fun h2 => h h2.2.1), if_neg h]

theorem stepT_2 (t : Tr) (i : Nat) {e : Ev} (h : e.k = 2) : base.stepT t i e = { t with ac := t.ac ++ [⟨i, 2, e.ob, e.va, wrote t.ac e.ob, false⟩] } := by unfold base.stepT; rw [if_pos h]
theorem stepT_3 (t : Tr) (i : Nat) {e : Ev} (h : e.k = 3) : base.stepT t i e = { t with ac := t.ac ++ [⟨i, 3, e.ob, e.va, false, false⟩] } := by unfold base.stepT; rw [if_neg (by omega), if_pos h]
theorem stepT_4 (t : Tr) (i : Nat) {e : Ev} (h : e.k = 4) : base.stepT t i e = { t with ac := relAll t.ac e.ob } := by unfold base.stepT; rw [if_neg (by omega), if_neg (by omega), if_pos h]
theorem stepT_5 (t : Tr) (i : Nat) {e : Ev} (h : e.k = 5) : base.stepT t i e = { t with en := i, co := true } := by unfold base.stepT; rw [if_neg (by omega), if_neg (by omega), if_neg (by omega), if_pos h]
theorem stepT_6 (t : Tr) (i : Nat) {e : Ev} (h : e.k = 6) : base.stepT t i e = { t with en := i, re := e.re } := by unfold base.stepT; rw [if_neg (by omega), if_neg (by omega), if_neg (by omega), if_neg (by omega), if_pos h]
theorem stepT_no (t : Tr) (i : Nat) {e : Ev} (h2 : e.k ≠ 2) (h3 : e.k ≠ 3) (h4 : e.k ≠ 4) (h5 : e.k ≠ 5) (h6 : e.k ≠ 6) : base.stepT t i e = t := by unfold base.stepT; rw [if_neg h2, if_neg h3, if_neg h4, if_neg h5, if_neg h6]

theorem wrote_take {l : List Acc} {n : Nat} {a : Acc} (h : l[n]? = some a) (o : Int) : wrote (l.take (n + 1)) o = (wrote (l.take n) o || (decide (a.k = 3) && decide (a.ob = o))) := by
  rw [List.take_add_one, h]
  simp [wrote]
theorem wrote_all (l : List Acc) (o : Int) : wrote (l.take l.length) o = wrote l o := by rw [List.take_length]
theorem wrote_zero (l : List Acc) (o : Int) : wrote (l.take 0) o = false := rfl

/-- The readings of an object among the first n accesses are released. -/
def relN (l : List Acc) (o : Int) (n : Nat) : List Acc := (l.take n).map (Acc.free o) ++ l.drop n
theorem relN_zero (l : List Acc) (o : Int) : relN l o 0 = l := by simp [relN]
theorem relN_all (l : List Acc) (o : Int) : relN l o l.length = relAll l o := by simp [relN, relAll]
theorem relN_len (l : List Acc) (o : Int) (n : Nat) : (relN l o n).length = l.length := by simp [relN]; omega
theorem relN_get {l : List Acc} {o : Int} {n : Nat} (h : n < l.length) : (relN l o n)[n]? = some l[n] := by
  unfold relN
  rw [List.getElem?_append_right (by simp; omega)]
  simp [Nat.min_eq_left (Nat.le_of_lt h)]
theorem setRel_mid (x : Acc) (B : List Acc) : ∀ A : List Acc, setRel (A ++ x :: B) A.length = A ++ { x with rel := true } :: B
  | [] => by simp [setRel]
  | a :: A => by
    rw [List.cons_append, List.length_cons, setRel_cons, setRel_mid x B A]
    rfl
theorem relN_step {l : List Acc} {o : Int} {n : Nat} (h : n < l.length) : relN l o (n + 1) = if l[n].k = 2 ∧ l[n].ob = o then setRel (relN l o n) n else relN l o n := by
  have e1 : relN l o (n + 1) = (l.take n).map (Acc.free o) ++ Acc.free o l[n] :: l.drop (n + 1) := by
    unfold relN
    rw [List.take_add_one, List.getElem?_eq_getElem h, List.map_append, List.append_assoc]
    rfl
  have e2 : relN l o n = (l.take n).map (Acc.free o) ++ l[n] :: l.drop (n + 1) := by
    unfold relN
    rw [List.drop_eq_getElem_cons h]
  have e3 : ((l.take n).map (Acc.free o)).length = n := by simp; omega
  rw [e1]
  split
  · next hc =>
    rw [e2]
    have e4 := setRel_mid l[n] (l.drop (n + 1)) ((l.take n).map (Acc.free o))
    rw [e3] at e4
    rw [e4]
    simp [Acc.free, hc]
  · next hc =>
    rw [e2]
    simp [Acc.free, hc]

/-- The tries of ys lie there, each with its accesses, wherever. -/
def TsAt (w : World) (a : Option Addr) (ys : List (Tr × Value)) : Prop :=
  (∀ i x, ys[i]? = some x → ∃ b off, a = some ⟨b, off, none⟩ ∧ b < w.heap.size ∧ ∀ j u, (tvC x)[j]? = some u → w.cell? ⟨b, off + i * 9 + j, none⟩ = some u) ∧
  ∀ x ∈ ys, ∃ va vc, x.2 = .slice va x.1.ac.length vc ∧ IsL accC w va x.1.ac
theorem TsAt.grown {w w' : World} {a : Option Addr} {ys : List (Tr × Value)} (h : TsAt w a ys) (g : w.grownBy w' none) : TsAt w' a ys := by
  refine ⟨fun i x hx => ?_, fun x hx => ?_⟩
  · obtain ⟨b, off, h1, h2, h3⟩ := h.1 i x hx
    exact ⟨b, off, h1, Nat.lt_of_lt_of_le h2 g.size, fun j u hu => g.cell (h3 j u hu) (by simp)⟩
  · obtain ⟨va, vc, h1, h2⟩ := h.2 x hx
    exact ⟨va, vc, h1, h2.grown g⟩
theorem TsAt.of_isTries {w : World} {a : Option Addr} {ys : List (Tr × Value)} (h : IsTries w a ys) : TsAt w a ys := by
  obtain ⟨h1, h2⟩ := h
  refine ⟨fun i x hx => ?_, fun x hx => ?_⟩
  · rcases h1 with rfl | ⟨g, rfl, hg, hc⟩
    · simp at hx
    · exact ⟨g, 0, rfl, hg, fun j u hu => by rw [Nat.zero_add]; exact hc i x hx j u hu⟩
  · have h3 := h2 x hx
    obtain ⟨va, vc, hv⟩ := owns_slice h3
    exact ⟨va, vc, hv, IsL.of_own (by rw [← hv]; exact h3) accC_len rfl⟩
theorem TsAt.of_row {w0 w : World} {e : TypeId} {v : Value} {ys : List (Tr × Value)} {L R : Blks} (h : Row tvC 9 e ys v L) (o : base.Own w0 w (L ++ R)) (ha : ∀ x ∈ ys, ∃ va vc, x.2 = .slice va x.1.ac.length vc ∧ IsL accC w va x.1.ac) : ∃ a c, v = .slice a ys.length c ∧ TsAt w a ys := by
  obtain ⟨a, c, hv, hi⟩ := h.isL tvC_len o
  exact ⟨a, c, hv, fun i x hx => hi.at tvC_len hx, ha⟩
/-- The fields of a try, in their cells. -/
theorem TsAt.at {w : World} {a : Option Addr} {ys : List (Tr × Value)} (h : TsAt w a ys) {i : Nat} {x : Tr × Value} (hx : ys[i]? = some x) : ∃ b off va vc, a = some ⟨b, off, none⟩ ∧ b < w.heap.size ∧ x.2 = .slice va x.1.ac.length vc ∧ IsL accC w va x.1.ac ∧
    w.cell? ⟨b, off + i * 9, none⟩ = some (.int .i64 x.1.th) ∧ w.cell? ⟨b, off + i * 9 + 1, none⟩ = some (.int .i64 x.1.tx) ∧ w.cell? ⟨b, off + i * 9 + 2, none⟩ = some (.int .i64 x.1.at_) ∧ w.cell? ⟨b, off + i * 9 + 3, none⟩ = some (.int .i64 x.1.st) ∧ w.cell? ⟨b, off + i * 9 + 4, none⟩ = some (.int .i64 x.1.b) ∧ w.cell? ⟨b, off + i * 9 + 5, none⟩ = some (.int .i64 x.1.en) ∧ w.cell? ⟨b, off + i * 9 + 6, none⟩ = some (.int .i64 x.1.re) ∧ w.cell? ⟨b, off + i * 9 + 7, none⟩ = some (.bool x.1.co) ∧ w.cell? ⟨b, off + i * 9 + 8, none⟩ = some (.slice va x.1.ac.length vc) := by
  obtain ⟨b, off, h1, h2, h3⟩ := h.1 i x hx
  obtain ⟨va, vc, h4, h5⟩ := h.2 x (List.mem_of_getElem? hx)
  exact ⟨b, off, va, vc, h1, h2, h4, h5, h3 0 _ rfl, h3 1 _ rfl, h3 2 _ rfl, h3 3 _ rfl, h3 4 _ rfl, h3 5 _ rfl, h3 6 _ rfl, h3 7 _ rfl, by rw [← h4]; exact h3 8 _ rfl⟩
/-- An access, in its cells. -/
theorem accAt {w : World} {va : Option Addr} {l : List Acc} (h : IsL accC w va l) {j : Nat} {a : Acc} (hj : l[j]? = some a) : ∃ b off, va = some ⟨b, off, none⟩ ∧ b < w.heap.size ∧ w.cell? ⟨b, off + j * 6, none⟩ = some (.int .i64 a.pl) ∧ w.cell? ⟨b, off + j * 6 + 1, none⟩ = some (.int .i64 a.k) ∧ w.cell? ⟨b, off + j * 6 + 2, none⟩ = some (.int .i64 a.ob) ∧ w.cell? ⟨b, off + j * 6 + 3, none⟩ = some (.int .i64 a.va) ∧ w.cell? ⟨b, off + j * 6 + 4, none⟩ = some (.bool a.own) ∧ w.cell? ⟨b, off + j * 6 + 5, none⟩ = some (.bool a.rel) := by
  obtain ⟨b, off, h1, h2, h3⟩ := h.at accC_len hj
  exact ⟨b, off, h1, h2, h3 0 _ rfl, h3 1 _ rfl, h3 2 _ rfl, h3 3 _ rfl, h3 4 _ rfl, h3 5 _ rfl⟩
/-- Accesses of one's own, as long as only others' blocks are written. -/
theorem isL_owns {w : World} {v : Value} {t : Tr} {e : TypeId} {base : Nat} (h : w.ownsRow base e 6 v t.ac.length (rows accC t.ac)) : ∃ va vc, v = .slice va t.ac.length vc ∧ IsL accC w va t.ac := by
  obtain ⟨va, vc, hv⟩ := owns_slice h
  exact ⟨va, vc, hv, IsL.of_own (by rw [← hv]; exact h) accC_len rfl⟩

/-- Rows of two types have no block in common. -/
theorem owns_other {w w' : World} {b1 b2 : Nat} {E1 E2 : TypeId} {s1 s2 n1 n2 : Nat} {v1 v2 : Value} {x1 x2 : List Value} (h1 : w.ownsRow b1 E1 s1 v1 n1 x1) (h2 : w.ownsRow b2 E2 s2 v2 n2 x2) (hne : E1 ≠ E2) (g : w.grownBy w' v2.ownBlock) : w'.ownsRow b1 E1 s1 v1 n1 x1 := by
  refine ownsRow_keep h1 (fun k e => g.block k (h1.lt k e).2 (fun e2 => ?_))
  obtain ⟨cs, hc⟩ := ownsRow_type h1 e
  obtain ⟨ds, hd⟩ := ownsRow_type h2 e2.symm
  rw [hc] at hd
  injection hd with hd
  injection hd with _ hd
  exact hne hd
/-- One more try, and its accesses. -/
theorem acs_snoc {u w w' : World} {E E2 : TypeId} {b2 s2 n2 : Nat} {v2 : Value} {x2 : List Value} {ys : List (Tr × Value)} {x : Tr × Value} {base : Nat} (hy : ∀ y ∈ ys, u.ownsRow 0 E 6 y.2 y.1.ac.length (rows accC y.1.ac)) (g : u.grownBy w none) (hx : w.ownsRow base E 6 x.2 x.1.ac.length (rows accC x.1.ac)) (h2 : w.ownsRow b2 E2 s2 v2 n2 x2) (hne : E ≠ E2) (g2 : w.grownBy w' v2.ownBlock) : ∀ y ∈ ys ++ [x], w'.ownsRow 0 E 6 y.2 y.1.ac.length (rows accC y.1.ac) := by
  intro y hm
  rcases List.mem_append.1 hm with hm | hm
  · exact owns_other (ownsRow_keep (hy y hm) (fun k e => g.block k ((hy y hm).lt k e).2 (by simp))) h2 hne g2
  · have : y = x := by simpa using hm
    subst this
    exact owns_other (owns_zero hx) h2 hne g2

/-- One of one's own accesses is marked as released. -/
theorem row_mark {w0 w : World} {E : TypeId} {l : List Acc} {g m cap n : Nat} {L R : Blks} (h : Row accC 6 E l (.slice (some ⟨g, 0, none⟩) m cap) L) (hm : m = l.length) (o : base.Own w0 w (L ++ R)) (hn : n < l.length) :
    ∃ L', Row accC 6 E (setRel l n) (.slice (some ⟨g, 0, none⟩) m cap) L' ∧ base.Own w0 (w.setCell ⟨g, n * 6 + 5, none⟩ (.bool true)) (L' ++ R) := by
  subst hm
  obtain ⟨cur, h1, h2, h3, h4, h5⟩ := h.open o
  have hb : Blk E (w.setCell ⟨g, n * 6 + 5, none⟩ (.bool true)) g ⟨cur.set (n * 6 + 5) (.bool true)⟩ := by simpa using h1.set (n * 6 + 5) (.bool true)
  obtain ⟨L', r1, r2⟩ := Row.write (l' := setRel l n) h o (gb_setB (gb_refl w _) (.bool true)) hb (by rw [List.length_set]; exact h2) (by rw [setRel_len]; exact h3) (by rw [setRel_len, List.take_set, h5, rows_setRel l n hn])
  rw [setRel_len] at r1
  exact ⟨L', r1, r2⟩
theorem row_free {w0 w : World} {E : TypeId} {l : List Acc} {g m cap : Nat} {L R : Blks} (h : Row accC 6 E l (.slice (some ⟨g, 0, none⟩) m cap) L) (hm : m = l.length) (o : base.Own w0 w (L ++ R)) (j : Nat) : w.frozen? ⟨g, j, none⟩ = false := by
  subst hm
  obtain ⟨cur, h1, _⟩ := h.open o
  exact h1.free j

theorem begins_succ (e : Evs) (n : Nat) : begins e (n + 1) = if (e n).k = 1 then begins e n ++ [n] else begins e n := by
  unfold begins
  rw [List.range_succ, List.filter_append]
  by_cases h : (e n).k = 1
  · rw [if_pos h]
    simp [h]
  · rw [if_neg h]
    simp [h]
end Go.Proofs.Ytkidkhjpijjphaa.hs

/- append, at the types of this program: []int64, []api.Op, []byte: onto a slice of one's own, of whatever slice. -/
namespace Go.Proofs.Ytkidkhjpijjphaa.lg
open Go Go.RowKit Go.Proofs.Ytkidkhjpijjphaa.base
set_option linter.unusedVariables false

theorem info64 : (Try.prog.info? 2).map (fun i => (i.zero, i.size, i.bytes)) = some (some (.int .i64 0), 1, 8) := by kernel_rfl

theorem append64 (w : World) {ops : Array Oper} {rest : List Oper} {o : Oper} {a : Act} {Q : Exit → Act → World → Prop}
    (hgd : o.guard = none) (s x : Operand) (hop : o.op = Op.call { callee := Callee.builtin Builtin.append, args := #[s, x], argTypes := #[22, 22] }) (base : Nat)
    (v : Value) (n : Nat) (xs : List Value) (hs : a.eval s = v) (hown : w.ownsRow base 2 1 v n xs)
    (ao : Option Addr) (m c : Nat) (news : List Value) (hx : a.eval x = .slice ao m c) (hl : news.length = m * 1) (hsrc : (m = 0 ∧ news = []) ∨ ∃ ad, ao = some ad ∧ ∀ j u, news[j]? = some u → w.cell? (ad.add j) = some u) (h1c : ∀ u ∈ news, u.oneCell' = true)
    (hn : n + m ≤ 1000000) (hbase : base ≤ w.heap.size)
    (hK : ∀ b' cap w', w'.ownsRow base 2 1 (.slice b' (n + m) cap) (n + m) (xs ++ news) → w.grownBy w' v.ownBlock → ((Value.slice b' (n + m) cap).ownBlock = v.ownBlock ∨ ∃ k, (Value.slice b' (n + m) cap).ownBlock = some k ∧ w.heap.size ≤ k) → wpList Try.prog ops Q rest (a.put o.dst (.slice b' (n + m) cap)) w') :
    wpList Try.prog ops Q (o :: rest) a w := by
  obtain ⟨i0, hi, hz0, hz1, hz2⟩ := info_parts info64
  exact wpList_append_any w hgd s x 22 hop base 2 i0 (.int .i64 0) 1 8 Try.underlying22 hi hz0 hz1 hz2 rfl (by decide) v n xs hs hown ao m c news hx hl hsrc h1c (by unfold maxLen; omega) (by omega) hbase hK

theorem infoU8 : (Try.prog.info? 5).map (fun i => (i.zero, i.size, i.bytes)) = some (some (.int .u8 0), 1, 1) := by kernel_rfl

theorem step64 {w : World} {ops : Array Oper} {o : Oper} {a : Act} {K : Act → World → Prop} {Q : Exit → Act → World → Prop} {E : Prop}
    (hgd : o.guard = none) (s x : Operand) (hop : o.op = Op.call { callee := Callee.builtin Builtin.append, args := #[s, x], argTypes := #[22, 22] }) (base : Nat)
    (v : Value) (n : Nat) (xs : List Value) (hs : a.eval s = v) (hown : w.ownsRow base 2 1 v n xs)
    (ao : Option Addr) (m c : Nat) (news : List Value) (hx : a.eval x = .slice ao m c) (hl : news.length = m * 1) (hsrc : (m = 0 ∧ news = []) ∨ ∃ ad, ao = some ad ∧ ∀ j u, news[j]? = some u → w.cell? (ad.add j) = some u) (h1c : ∀ u ∈ news, u.oneCell' = true)
    (hn : n + m ≤ 1000000) (hbase : base ≤ w.heap.size)
    (hK : ∀ b' cap w', w'.ownsRow base 2 1 (.slice b' (n + m) cap) (n + m) (xs ++ news) → w.grownBy w' v.ownBlock → ((Value.slice b' (n + m) cap).ownBlock = v.ownBlock ∨ ∃ k, (Value.slice b' (n + m) cap).ownBlock = some k ∧ w.heap.size ≤ k) → K (a.put o.dst (.slice b' (n + m) cap)) w') :
    if Region.wanted o (yielded ops a.tmps) = true then Oper.wp Try.prog o a w K Q else E := by
  have hw : Region.wanted o (yielded ops a.tmps) = true := by simp [Region.wanted, hgd]
  rw [if_pos hw]
  obtain ⟨i0, hi, hz0, hz1, hz2⟩ := info_parts info64
  obtain ⟨v', w', hrun, r1, r2, r3⟩ := run_append_any (P := Try.prog) w base 22 o.type 2 i0 (.int .i64 0) 1 8 Try.underlying22 hi hz0 hz1 hz2 rfl (by decide) v n xs hown ao m c news hl hsrc h1c (by unfold maxLen; omega) (by omega) hbase
  obtain ⟨b', cap, rfl⟩ : ∃ b' cap, v' = .slice b' (n + m) cap := by
    rcases r1.2 with ⟨rfl, h0⟩ | ⟨g, cap, cur, rfl, _⟩
    · exact ⟨none, 0, by rw [h0]⟩
    · exact ⟨_, cap, rfl⟩
  unfold Oper.wp
  simp [execOp, hop, resolve, invoke, builtin, hs, hx, hrun, Result.andThen]
  exact hK b' cap w' r1 r2 r3

end Go.Proofs.Ytkidkhjpijjphaa.lg

/- The contracts of package lang's Ok, Right, Opens, and of the document's own (quarrelref11.Ok, Right, Same). -/
namespace Go.Proofs.Ytkidkhjpijjphaa.lg
open Go Go.RowKit Go.Proofs.Ytkidkhjpijjphaa.base
set_option linter.unusedVariables false

theorem ret_bool {a b : Bool} (h : a = b) : Ending.returned (.bool a) = .returned (.bool b) := by rw [h]

end Go.Proofs.Ytkidkhjpijjphaa.lg

/- The contracts of package lang's Right, Opens, and of the document's own (quarrelref11.Right, Same). -/
namespace Go.Proofs.Ytkidkhjpijjphaa.lg
open Go Go.RowKit Go.Proofs.Ytkidkhjpijjphaa.base
set_option linter.unusedVariables false

end Go.Proofs.Ytkidkhjpijjphaa.lg

/- Package lang's course: what it is in memory, and what its methods do. -/
namespace Go.Proofs.Ytkidkhjpijjphaa.lg
open Go Go.RowKit Go.Proofs.Ytkidkhjpijjphaa.base
set_option linter.unusedVariables false

theorem vals_set (f : Nat → Int) (n i : Nat) (u : Int) : (vals f n).set i (.int .i64 u) = vals (fun j => if j = i then u else f j) n := by
  apply List.ext_getElem?
  intro j
  by_cases hj : j < n
  · by_cases e : j = i
    · subst e
      rw [List.getElem?_set_self (by simpa [vals] using hj), vals_get _ _ _ hj]
      simp
    · rw [List.getElem?_set_ne (fun e2 => e e2.symm), vals_get _ _ _ hj, vals_get _ _ _ hj]
      simp [e]
  · rw [List.getElem?_eq_none (by simp [vals]; omega), List.getElem?_eq_none (by simp [vals]; omega)]

/-- A cell of a row of one's own is stored. -/
theorem ownsRow_set {base : Nat} {e : TypeId} {w : World} {v : Value} {n : Nat} {xs : List Value} (h : w.ownsRow base e 1 v n xs) {g i : Nat} (hg : v.ownBlock = some g) (hi : i < n) (u : Value) : (w.setCell ⟨g, i, none⟩ u).ownsRow base e 1 v n (xs.set i u) := by
  refine ⟨by rw [List.length_set]; exact h.1, ?_⟩
  rcases h.2 with ⟨rfl, _⟩ | ⟨g', cap, cur, rfl, h4, h5, h6, h7, h8, h9⟩
  · simp [Value.ownBlock] at hg
  · obtain rfl : g' = g := by simpa [Value.ownBlock] using hg
    have hb : Blk e w g' cur := h5
    refine .inr ⟨g', cap, cur.setIfInBounds i u, rfl, h4, hb.set i u, h6, h7, by simpa using h8, ?_⟩
    have hx := h.1
    have hs : i < cur.size := by rw [h8]; omega
    rw [← h9]
    simp only [Array.toList_setIfInBounds]
    rw [List.take_set]

end Go.Proofs.Ytkidkhjpijjphaa.lg

/- Package model's Apply: the values behind a try. -/
namespace Go.Proofs.Ytkidkhjpijjphaa.md
open Go Go.RowKit Go.Proofs.Ytkidkhjpijjphaa.base Go.Proofs.Ytkidkhjpijjphaa.hs Go.Proofs.Ytkidkhjpijjphaa.lg Go.Maps
set_option linter.unusedVariables false
set_option maxRecDepth 100000

theorem has_yesq (a : Option Addr) (n c i : Nat) (w : World) (h : i < n) : Calls Try.prog 52 #[.slice a n c, .int .i64 (i : Int)] w fun r w' => r = .returned (.bool true) ∧ w' = w := by
  have h1 : (0 : Int) ≤ (i : Int) := by omega
  have h2 : (i : Int) < (n : Int) := by omega
  go_enter Try.func52, Try.ntmps52
  go_wp2
  go_ret
  exact ⟨rfl, rfl⟩

theorem has_noq (a : Option Addr) (n c : Nat) (o : Int) (w : World) (h : o < 0 ∨ (n : Int) ≤ o) : Calls Try.prog 52 #[.slice a n c, .int .i64 o] w fun r w' => r = .returned (.bool false) ∧ w' = w := by
  by_cases h1 : o < 0
  · have q1 : decide (0 ≤ o) = false := by simpa using h1
    clear h h1
    go_enter Try.func52, Try.ntmps52
    go_wp2
    go_ret
    exact ⟨rfl, rfl⟩
  · have q1 : 0 ≤ o := by omega
    have q2 : decide (o < (n : Int)) = false := by simp; omega
    clear h h1
    go_enter Try.func52, Try.ntmps52
    go_wp2
    go_ret
    exact ⟨rfl, rfl⟩

theorem has_yes (a : Option Addr) (n c i : Nat) (w : World) (h : i < n) : Calls Try.prog 52 #[.slice a n c, .int .i64 (i : Int)] w fun r w' => r = .returned (.bool true) ∧ Hid (w.grownBy w' none) :=
  (has_yesq a n c i w h).mono fun r w' ⟨h1, h2⟩ => ⟨h1, by rw [h2]; exact gb_refl _ _⟩

theorem has_no (a : Option Addr) (n c : Nat) (o : Int) (w : World) (h : o < 0 ∨ (n : Int) ≤ o) : Calls Try.prog 52 #[.slice a n c, .int .i64 o] w fun r w' => r = .returned (.bool false) ∧ Hid (w.grownBy w' none) :=
  (has_noq a n c o w h).mono fun r w' ⟨h1, h2⟩ => ⟨h1, by rw [h2]; exact gb_refl _ _⟩

theorem copied_any (a : Option Addr) (n c : Nat) (z : Nat → Int) (w : World) (hz : IsNums .i64 w a n z) (hn : n ≤ 1000000) :
    Calls Try.prog 33 #[.slice a n c] w fun r w' => ∃ a' c', r = .returned (.slice a' n c') ∧ Hid (w'.ownsRow w.heap.size 2 1 (.slice a' n c') n (vals z n)) ∧ Hid (w.grownBy w' none) := by
  have Z := Lib.hid hz.src
  clear hz
  go_enter Try.func33, Try.ntmps33
  go_wp2_with (at_builtin; go_loud (refine append64 _ rfl (.const (.slice none 0 0)) (.tmp 3) rfl w.heap.size _ 0 [] rfl (World.ownsRow_nil _ _ _ _) a n c (vals z n) rfl (by simp [vals]) Z.out (one_nums _ _ _) (by omega) (by simp) ?_); intro b' c' u2 ho hg hv; clear hv)
  simp only [Nat.zero_add, List.nil_append] at ho hg
  go_ret
  exact ⟨b', c', rfl, ho, hg⟩

/-- An access, in its cells. -/
theorem acc6 {w : World} {va : Option Addr} {l : List Acc} (h : IsL accC w va l) {j : Nat} {a : Acc} (hj : l[j]? = some a) : ∃ b off, va = some ⟨b, off, none⟩ ∧ b < w.heap.size ∧ w.cell? ⟨b, off + j * 6, none⟩ = some (.int .i64 a.pl) ∧ w.cell? ⟨b, off + j * 6 + 1, none⟩ = some (.int .i64 a.k) ∧ w.cell? ⟨b, off + j * 6 + 2, none⟩ = some (.int .i64 a.ob) ∧ w.cell? ⟨b, off + j * 6 + 3, none⟩ = some (.int .i64 a.va) ∧ w.cell? ⟨b, off + j * 6 + 4, none⟩ = some (.bool a.own) ∧ w.cell? ⟨b, off + j * 6 + 5, none⟩ = some (.bool a.rel) := by
  obtain ⟨b, off, h1, h2, h3⟩ := h.at accC_len hj
  exact ⟨b, off, h1, h2, h3 0 _ rfl, h3 1 _ rfl, h3 2 _ rfl, h3 3 _ rfl, h3 4 _ rfl, h3 5 _ rfl⟩

/-- Values of one's own, with the first k accesses done to them. -/
structure AR (w : World) (base : Nat) (z : Nat → Int) (l : List Acc) (a : Option Addr) (n c k : Nat) (wr : World) : Prop where
  row : wr.ownsRow base 2 1 (.slice a n c) n (vals (app z (l.take k)) n)
  grow : w.grownBy wr (Value.slice a n c).ownBlock

section
variable {w wr w' : World} {base n k c : Nat} {a : Option Addr} {z : Nat → Int} {l : List Acc}
theorem AR.grown (h : AR w base z l a n c k wr) (g : wr.grownBy w' none) : AR w base z l a n c k w' :=
  ⟨ownsRow_keep h.row fun b e => g.block b (h.row.lt b e).2 (by simp), gb_trans h.grow ⟨g.os, g.tape, g.output, g.size, fun i hi _ => g.block i hi (by simp)⟩⟩
theorem AR.same (h : AR w base z l a n c k wr) (e : app z (l.take (k + 1)) = app z (l.take k)) : AR w base z l a n c (k + 1) wr := ⟨by rw [e]; exact h.row, h.grow⟩
theorem AR.at (h : AR w base z l a n c k wr) {i : Nat} (hi : i < n) : ∃ g, a = some ⟨g, 0, none⟩ ∧ g < wr.heap.size ∧ wr.cell? ⟨g, i, none⟩ = some (.int .i64 (app z (l.take k) i)) ∧ wr.frozen? ⟨g, i, none⟩ = false := by
  rcases h.row.2 with ⟨_, h0⟩ | ⟨g, cap, cur, e, hb, hg, _⟩
  · omega
  · injection e with e1 e2 e3
    subst e1
    refine ⟨g, rfl, lt_of_block hg, (h.row.cellAt i (by omega)).trans (vals_get _ n i hi), by simp [World.frozen?, hg]⟩
theorem AR.set (h : AR w base z l a n c k wr) {i g : Nat} {u : Int} (hi : i < n) (hg : a = some ⟨g, 0, none⟩) (e : app z (l.take (k + 1)) = fun j => if j = i then u else app z (l.take k) j) : AR w base z l a n c (k + 1) (wr.setCell ⟨g, i, none⟩ (.int .i64 u)) := by
  refine ⟨?_, gb_setCell h.grow (by rw [hg]; rfl) _⟩
  rw [e, ← vals_set]
  exact ownsRow_set h.row (by rw [hg]; rfl) hi _
theorem AR.accs (h : AR w base z l a n c k wr) {va : Option Addr} (hl : IsL accC w va l) (hap : l ≠ [] → ∀ b off g, va = some ⟨b, off, none⟩ → a = some ⟨g, 0, none⟩ → b ≠ g) : IsL accC wr va l := by
  by_cases hne : l = []
  · exact .inl hne
  exact hl.keep (fun b off e hb => h.grow.block b hb (fun e2 => by
    rcases h.row.2 with ⟨e3, _⟩ | ⟨g, cap, cur, e3, _⟩
    · rw [e3] at e2; simp [Value.ownBlock] at e2
    · injection e3 with e3
      subst e3
      simp [Value.ownBlock] at e2
      exact hap hne b off g e rfl e2)) h.grow.size
end

set_option maxHeartbeats 1000000 in
theorem change_any (base : Nat) (a : Option Addr) (n c : Nat) (z : Nat → Int) (t : Tr) (av : Option Addr) (vc : Nat) (w : World) (hv : w.ownsRow base 2 1 (.slice a n c) n (vals z n)) (hl : IsL accC w av t.ac) (hap : t.ac ≠ [] → ∀ b off g, av = some ⟨b, off, none⟩ → a = some ⟨g, 0, none⟩ → b ≠ g) (hn : n ≤ 1000000) (hm : t.ac.length ≤ 1000000) :
    Calls Try.prog 34 #[.slice a n c, .agg ⟨trC t (.slice av t.ac.length vc)⟩] w fun r w' => r = .returned (.tuple #[]) ∧ Hid (w'.ownsRow base 2 1 (.slice a n c) n (vals (app z t.ac) n)) ∧ Hid (w.grownBy w' (Value.slice a n c).ownBlock) := by
  obtain ⟨xth, xtx, xat, xst, xb, xen, xre, xco, ac⟩ := t
  dsimp only at hl hm hap
  show Calls Try.prog 34 #[.slice a n c, .agg #[.int .i64 xth, .int .i64 xtx, .int .i64 xat, .int .i64 xst, .int .i64 xb, .int .i64 xen, .int .i64 xre, .bool xco, .slice av ac.length vc]] w _
  have A0 : Hid (AR w base z ac a n c 0 w) := Lib.hid ⟨hv, gb_refl _ _⟩
  have HL := Lib.hid hl
  have HAP := Lib.hid hap
  clear hv hl hap
  go_enter Try.func34, Try.ntmps34
  go_wp2
  go_loopw [9] (fun iv wr => ∃ k : Nat, k ≤ ac.length ∧ iv = .int .i64 k ∧ Hid (AR w base z ac a n c k wr)) (fun iv _ => (ac.length - intOf iv).toNat)
  case atStart => exact ⟨0, by omega, rfl, A0.out.grown (World.grownBy_alloc w _ none)⟩
  case round =>
    obtain ⟨k, hk, rfl, A⟩ := hrel
    clear A0
    by_cases hlt : k < ac.length
    · have hlt' : (k : Int) < (ac.length : Int) := by omega
      have hk6 : (k : Int) < 1000000 := by omega
      obtain ⟨b, off, rfl, hb, c0, c1, c2, c3, c4, c5⟩ := acc6 (A.out.accs HL.out HAP.out) (List.getElem?_eq_getElem hlt)
      have HT := Lib.hid (app_take z (List.getElem?_eq_getElem hlt))
      generalize ac[k] = y at *
      obtain ⟨pl, ak, ob, va, own, rel⟩ := y
      dsimp only at c0 c1 c2 c3 c4 c5
      by_cases h3 : ak = 3
      · subst h3
        have A1 := Lib.hid (A.out.grown (World.grownBy_alloc wr (.cells #[.int .i64 pl, .int .i64 3, .int .i64 ob, .int .i64 va, .bool own, .bool rel] 48) none))
        have EB := Lib.hid (Blk.made wr 48 #[.int .i64 pl, .int .i64 3, .int .i64 ob, .int .i64 va, .bool own, .bool rel])
        by_cases hin : 0 ≤ ob ∧ ob < (n : Int)
        · obtain ⟨i, rfl⟩ : ∃ i : Nat, ob = (i : Int) := ⟨ob.toNat, by omega⟩
          have hi : i < n := by omega
          have hi' : (i : Int) < (n : Int) := by omega
          have HE := Lib.hid (show app z (ac.take (k + 1)) = fun j => if j = i then va else app z (ac.take k) j by rw [HT.out]; exact app1_in _ rfl rfl)
          clear hin A HT
          go_wp2_with (first | (go_at_call 52; refine (has_yes _ n _ i _ hi).mono ?_; rintro r u1 ⟨rfl, g1⟩; have A2 := Lib.hid (A1.out.grown g1.out); have E2 := Lib.hid (EB.out.grown g1.out (by simp)); obtain ⟨g, hg, hgl, cv, fv⟩ := A2.out.at hi; subst hg; have e2 : u1.cell? ⟨wr.heap.size, 2, none⟩ = some (.int .i64 (i : Int)) := E2.out.cell 2; have e3 : u1.cell? ⟨wr.heap.size, 3, none⟩ = some (.int .i64 va) := E2.out.cell 3) | go_in)
          go_roundw
          case rel => exact ⟨k + 1, by omega, by go_num, A2.out.set hi rfl HE.out⟩
          case measure => simp [intOf]; omega
        · have hno : ob < 0 ∨ (n : Int) ≤ ob := by omega
          have HNO := Lib.hid hno
          clear hin hno A
          go_wp2_with (first | (go_at_call 52; refine (has_no _ n _ ob _ HNO.out).mono ?_; rintro r u1 ⟨rfl, g1⟩; have A2 := Lib.hid (A1.out.grown g1.out)) | go_in)
          go_roundw
          case rel => exact ⟨k + 1, by omega, by go_num, by
            have h := A2.out
            refine ⟨?_, h.grow⟩
            have e : vals (app z (ac.take (k + 1))) n = vals (app z (ac.take k)) n := by
              unfold vals
              apply List.map_congr_left
              intro j hj
              rw [HT.out]
              unfold app1
              have hj2 : j < n := by simpa using hj
              have := HNO.out
              rw [if_neg (by dsimp only; omega)]
            rw [e]
            exact h.row⟩
          case measure => simp [intOf]; omega
      · have f3 : (ak == 3) = false := by simp [h3]
        have A1 := Lib.hid (A.out.grown (World.grownBy_alloc wr (.cells #[.int .i64 pl, .int .i64 ak, .int .i64 ob, .int .i64 va, .bool own, .bool rel] 48) none))
        have HE := Lib.hid (show app z (ac.take (k + 1)) = app z (ac.take k) by rw [HT.out]; exact app1_no _ h3)
        clear h3 HT A
        go_wp2
        go_roundw
        case rel => exact ⟨k + 1, by omega, by go_num, A1.out.same HE.out⟩
        case measure => simp [intOf]; omega
    · obtain rfl : k = ac.length := by omega
      go_wp2
      go_end0
      exact ⟨rfl, by have h := A.out.row; rw [app_all] at h; exact h, A.out.grow⟩

theorem apply_any (a : Option Addr) (n c : Nat) (z : Nat → Int) (t : Tr) (av : Option Addr) (vc : Nat) (w : World) (hz : IsNums .i64 w a n z) (hl : IsL accC w av t.ac) (hn : n ≤ 1000000) (hm : t.ac.length ≤ 1000000) :
    Calls Try.prog 17 #[.slice a n c, .agg ⟨trC t (.slice av t.ac.length vc)⟩] w fun r w' => ∃ a' c', r = .returned (.slice a' n c') ∧ Hid (w'.ownsRow w.heap.size 2 1 (.slice a' n c') n (vals (app z t.ac) n)) ∧ Hid (w.grownBy w' none) := by
  have HZ := Lib.hid hz
  have HL := Lib.hid hl
  have BT := Lib.hid (Blk.made w 41 #[.int .i64 t.th, .int .i64 t.tx, .int .i64 t.at_, .int .i64 t.st, .int .i64 t.b, .int .i64 t.en, .int .i64 t.re, .bool t.co, .slice av t.ac.length vc])
  clear hz hl
  show Calls Try.prog 17 #[.slice a n c, .agg #[.int .i64 t.th, .int .i64 t.tx, .int .i64 t.at_, .int .i64 t.st, .int .i64 t.b, .int .i64 t.en, .int .i64 t.re, .bool t.co, .slice av t.ac.length vc]] w _
  have GA := Lib.hid (World.grownBy_alloc w (.cells #[.int .i64 t.th, .int .i64 t.tx, .int .i64 t.at_, .int .i64 t.st, .int .i64 t.b, .int .i64 t.en, .int .i64 t.re, .bool t.co, .slice av t.ac.length vc] 41) none)
  go_enter Try.func17, Try.ntmps17
  go_wp2_with fail
  refine (copied_any a n c z _ (HZ.out.grown GA.out) hn).mono ?_
  rintro r u1 ⟨a', c', rfl, HR, g1⟩
  have B1 := Lib.hid (BT.out.grown g1.out (by simp))
  have q0 := B1.out.at 0 rfl; have q1 := B1.out.at 1 rfl; have q2 := B1.out.at 2 rfl; have q3 := B1.out.at 3 rfl; have q4 := B1.out.at 4 rfl; have q5 := B1.out.at 5 rfl; have q6 := B1.out.at 6 rfl; have q7 := B1.out.at 7 rfl; have q8 := B1.out.at 8 rfl
  have G1 := Lib.hid (gb_trans GA.out g1.out)
  go_wp2_with fail
  refine (change_any _ a' n c' z t av vc _ HR.out (HL.out.grown G1.out) ?_ hn hm).mono ?_
  · intro hne b off g e1 e2
    have h2 := (HR.out.lt g (by rw [e2]; rfl)).1
    rcases HL.out with h | ⟨b', off', e3, h1, _⟩
    · exact absurd h hne
    · rw [e1] at e3
      cases e3
      simp at h2
      omega
  rintro r u2 ⟨rfl, HR2, g2⟩
  go_wp2
  go_ret
  exact ⟨a', c', rfl, ownsRow_drop HR2.out (by simp), gb_overO G1.out g2.out (by intro i e; have := (HR.out.lt i e).1; simp at this; omega)⟩
end Go.Proofs.Ytkidkhjpijjphaa.md

/- Package opaque's walk: where it lies, and what of it is changed. -/
namespace Go.Proofs.Ytkidkhjpijjphaa.oq
open Go Go.RowKit Go.Proofs.Ytkidkhjpijjphaa.base Go.Proofs.Ytkidkhjpijjphaa.hs Go.Proofs.Ytkidkhjpijjphaa.lg Go.Maps
set_option linter.unusedVariables false
set_option maxRecDepth 100000
set_option linter.unusedSimpArgs false

def intV (q : Int) : Value := .int .i64 q

/-- Block b is a walk over the tries tv: a state of n values that z tells, p that committed, and what s says; the map's lists are rd's. -/
structure WkP (w : World) (b : Nat) (tv : Value) (n : Nat) (z : Nat → Int) (p : Int) (s : Wk) (N : Nat) (sv vv : Value) (mb : Nat) (rd : Int × Int → Option Value) : Prop where
  blk : Blk 66 w b #[tv, sv, vv, .int .i64 p, .map (some mb)]
  seen : w.ownsRow 0 3 1 sv s.seen.length (s.seen.map intV)
  vals : w.ownsRow 0 2 1 vv n (base.vals z n)
  map : MapG Try.prog 144 two w mb N rd
  nope : ∀ x, rd x = none → s.M x = []
  lst : ∀ x u, rd x = some u → w.ownsRow 0 3 1 u (s.M x).length ((s.M x).map natV)
  apart : ∀ x y u v k, rd x = some u → rd y = some v → u.ownBlock = some k → v.ownBlock = some k → x = y
  sap : ∀ x u k, rd x = some u → u.ownBlock = some k → sv.ownBlock ≠ some k

/-- Its blocks. -/
def WkF (b : Nat) (sv vv : Value) (mb : Nat) (rd : Int × Int → Option Value) : Nat → Prop := fun k => k = b ∨ sv.ownBlock = some k ∨ vv.ownBlock = some k ∨ k = mb ∨ ∃ x u, rd x = some u ∧ u.ownBlock = some k
def WkM (w : World) (F : Nat → Prop) (b : Nat) (tv : Value) (n : Nat) (z : Nat → Int) (p : Int) (s : Wk) (N : Nat) : Prop := ∃ sv vv mb rd, WkP w b tv n z p s N sv vv mb rd ∧ ∀ k, WkF b sv vv mb rd k → F k

section
variable {w w' : World} {F G : Nat → Prop} {b n N mb : Nat} {tv sv vv : Value} {z : Nat → Int} {p : Int} {s : Wk} {rd : Int × Int → Option Value}
theorem WkP.keep (h : WkP w b tv n z p s N sv vv mb rd) (hk : ∀ k, WkF b sv vv mb rd k → w'.heap[k]? = w.heap[k]?) : WkP w' b tv n z p s N sv vv mb rd :=
  ⟨h.blk.keep (hk _ (.inl rfl)), ownsRow_keep h.seen (fun k e => hk k (.inr (.inl e))), ownsRow_keep h.vals (fun k e => hk k (.inr (.inr (.inl e)))), h.map.keep (hk _ (.inr (.inr (.inr (.inl rfl))))), h.nope, fun x u e => ownsRow_keep (h.lst x u e) (fun k e2 => hk k (.inr (.inr (.inr (.inr ⟨x, u, e, e2⟩))))), h.apart, h.sap⟩
theorem WkP.lts (h : WkP w b tv n z p s N sv vv mb rd) : ∀ k, WkF b sv vv mb rd k → k < w.heap.size := by
  rintro k (rfl | e | e | rfl | ⟨x, u, e, e2⟩)
  · exact h.blk.lt
  · exact (h.seen.lt k e).2
  · exact (h.vals.lt k e).2
  · exact h.map.lt
  · exact ((h.lst x u e).lt k e2).2
theorem WkP.grown (h : WkP w b tv n z p s N sv vv mb rd) (g : w.grownBy w' none) : WkP w' b tv n z p s N sv vv mb rd := h.keep fun k hk => g.block k (h.lts k hk) (by simp)
theorem WkM.grown (h : WkM w F b tv n z p s N) (g : w.grownBy w' none) : WkM w' F b tv n z p s N := by
  obtain ⟨sv, vv, mb, rd, h, hF⟩ := h
  exact ⟨sv, vv, mb, rd, h.grown g, hF⟩
theorem WkP.more (h : WkP w b tv n z p s N sv vv mb rd) {N' : Nat} (hN : N ≤ N') : WkP w b tv n z p s N' sv vv mb rd := ⟨h.blk, h.seen, h.vals, h.map.more hN, h.nope, h.lst, h.apart, h.sap⟩
theorem WkM.more (h : WkM w F b tv n z p s N) {N' : Nat} (hN : N ≤ N') : WkM w F b tv n z p s N' := by
  obtain ⟨sv, vv, mb, rd, h, hF⟩ := h
  exact ⟨sv, vv, mb, rd, h.more hN, hF⟩
theorem not_cells_of {e1 e2 : TypeId} {w : World} {k : Nat} {cs ds : Array Value} (h1 : w.heap[k]? = some (.cells cs e1 (0, 0))) (h2 : w.heap[k]? = some (.cells ds e2 (0, 0))) : e1 = e2 := by
  rw [h1] at h2
  injection h2 with h2
  injection h2 with _ h3
/-- A row of a type has no block of another type's rows, of the struct's, of the map's. -/
theorem WkP.seen_ne (h : WkP w b tv n z p s N sv vv mb rd) : ∀ k, sv.ownBlock = some k → k ≠ b ∧ vv.ownBlock ≠ some k ∧ k ≠ mb ∧ (∀ x u, rd x = some u → u.ownBlock ≠ some k) ∧ k < w.heap.size := fun k e => by
  obtain ⟨cs, hc⟩ := ownsRow_type h.seen e
  refine ⟨fun e2 => ?_, fun e2 => ?_, fun e2 => h.map.not_cells (e2 ▸ hc), fun x u hx e2 => h.sap x u k hx e2 e, (h.seen.lt k e).2⟩
  · exact absurd (not_cells_of (e2 ▸ hc) h.blk) (by decide)
  · obtain ⟨ds, hd⟩ := ownsRow_type h.vals e2
    exact absurd (not_cells_of hc hd) (by decide)
theorem WkP.vals_ne (h : WkP w b tv n z p s N sv vv mb rd) : ∀ k, vv.ownBlock = some k → k ≠ b ∧ sv.ownBlock ≠ some k ∧ k ≠ mb ∧ (∀ x u, rd x = some u → u.ownBlock ≠ some k) ∧ k < w.heap.size := fun k e => by
  obtain ⟨cs, hc⟩ := ownsRow_type h.vals e
  refine ⟨fun e2 => ?_, fun e2 => ?_, fun e2 => h.map.not_cells (e2 ▸ hc), fun x u hx e2 => ?_, (h.vals.lt k e).2⟩
  · exact absurd (not_cells_of (e2 ▸ hc) h.blk) (by decide)
  · obtain ⟨ds, hd⟩ := ownsRow_type h.seen e2
    exact absurd (not_cells_of hc hd) (by decide)
  · obtain ⟨ds, hd⟩ := ownsRow_type (h.lst x u hx) e2
    exact absurd (not_cells_of hc hd) (by decide)
theorem WkP.list_ne (h : WkP w b tv n z p s N sv vv mb rd) {x : Int × Int} {u : Value} (hx : rd x = some u) : ∀ k, u.ownBlock = some k → k ≠ b ∧ sv.ownBlock ≠ some k ∧ vv.ownBlock ≠ some k ∧ k ≠ mb ∧ k < w.heap.size := fun k e => by
  obtain ⟨cs, hc⟩ := ownsRow_type (h.lst x u hx) e
  refine ⟨fun e2 => ?_, h.sap x u k hx e, fun e2 => (h.vals_ne k e2).2.2.2.1 x u hx e, fun e2 => h.map.not_cells (e2 ▸ hc), ((h.lst x u hx).lt k e).2⟩
  exact absurd (not_cells_of (e2 ▸ hc) h.blk) (by decide)
theorem WkP.map_ne (h : WkP w b tv n z p s N sv vv mb rd) : mb ≠ b ∧ sv.ownBlock ≠ some mb ∧ vv.ownBlock ≠ some mb ∧ ∀ x u, rd x = some u → u.ownBlock ≠ some mb :=
  ⟨h.map.ne_blk h.blk, fun e => (h.seen_ne _ e).2.2.1 rfl, fun e => (h.vals_ne _ e).2.2.1 rfl, fun x u hx e => (h.list_ne hx _ e).2.2.2.1 rfl⟩

/-- Where a try is seen is put down. -/
theorem WkP.sees (h : WkP w b tv n z p s N sv vv mb rd) {g no : Nat} (hg : sv.ownBlock = some g) (hno : no < s.seen.length) (q : Int) : WkP (w.setCell ⟨g, no, none⟩ (.int .i64 q)) b tv n z p ⟨s.seen.set no q, s.M⟩ N sv vv mb rd := by
  obtain ⟨n1, n2, n3, n4, n5⟩ := h.seen_ne g hg
  have o : ∀ k, k ≠ g → (w.setCell ⟨g, no, none⟩ (.int .i64 q)).heap[k]? = w.heap[k]? := fun k hk => Below.heap_setCell _ _ _ _ hk
  refine ⟨h.blk.keep (o _ (Ne.symm n1)), ?_, ownsRow_keep h.vals (fun k e => o k (fun e2 => n2 (e2 ▸ e))), h.map.keep (o _ (Ne.symm n3)), h.nope, fun x u e => ownsRow_keep (h.lst x u e) (fun k e2 => o k (fun e3 => n4 x u e (e3 ▸ e2))), h.apart, h.sap⟩
  have := lg.ownsRow_set h.seen hg hno (.int .i64 q)
  rw [List.length_set, List.map_set]
  exact this
/-- An object's value is put down. -/
theorem WkP.puts (h : WkP w b tv n z p s N sv vv mb rd) {g o : Nat} (hg : vv.ownBlock = some g) (ho : o < n) (v : Int) : WkP (w.setCell ⟨g, o, none⟩ (.int .i64 v)) b tv n (fun i => if i = o then v else z i) p s N sv vv mb rd := by
  obtain ⟨n1, n2, n3, n4, n5⟩ := h.vals_ne g hg
  have o' : ∀ k, k ≠ g → (w.setCell ⟨g, o, none⟩ (.int .i64 v)).heap[k]? = w.heap[k]? := fun k hk => Below.heap_setCell _ _ _ _ hk
  refine ⟨h.blk.keep (o' _ (Ne.symm n1)), ownsRow_keep h.seen (fun k e => o' k (fun e2 => n2 (e2 ▸ e))), ?_, h.map.keep (o' _ (Ne.symm n3)), h.nope, fun x u e => ownsRow_keep (h.lst x u e) (fun k e2 => o' k (fun e3 => n4 x u e (e3 ▸ e2))), h.apart, h.sap⟩
  have := lg.ownsRow_set h.vals hg ho (.int .i64 v)
  rwa [vals_set] at this
/-- One more committed. -/
theorem WkP.counts (h : WkP w b tv n z p s N sv vv mb rd) (q : Int) : WkP (w.setCell ⟨b, 3, none⟩ (.int .i64 q)) b tv n z q s N sv vv mb rd := by
  have o : ∀ k, k ≠ b → (w.setCell ⟨b, 3, none⟩ (.int .i64 q)).heap[k]? = w.heap[k]? := fun k hk => Below.heap_setCell _ _ _ _ hk
  exact ⟨h.blk.set 3 _, ownsRow_keep h.seen (fun k e => o k (h.seen_ne k e).1), ownsRow_keep h.vals (fun k e => o k (h.vals_ne k e).1), h.map.keep (o _ h.map_ne.1), h.nope, fun x u e => ownsRow_keep (h.lst x u e) (fun k e2 => o k (h.list_ne e k e2).1), h.apart, h.sap⟩
/-- A key is struck: its list is nobody's. -/
theorem WkP.strike (h : WkP w b tv n z p s N sv vv mb rd) (x : Int × Int) (hm : MapG Try.prog 144 two w' mb N (upd rd x none)) (g : w.grownBy w' (some mb)) : WkP w' b tv n z p ⟨s.seen, fun y => if y = x then [] else s.M y⟩ N sv vv mb (upd rd x none) := by
  obtain ⟨m1, m2, m3, m4⟩ := h.map_ne
  refine ⟨h.blk.grown g (by simp; exact fun e => m1 e.symm), ownsRow_keep h.seen (fun k e => g.block k (h.seen_ne k e).2.2.2.2 (by simp; exact (h.seen_ne k e).2.2.1)), ownsRow_keep h.vals (fun k e => g.block k (h.vals_ne k e).2.2.2.2 (by simp; exact (h.vals_ne k e).2.2.1)), hm, fun y hy => ?_, fun y u hy => ?_, fun y y' u u' k hy hy' => ?_, fun y u k hy => ?_⟩
  · by_cases e : y = x
    · simp [e]
    · rw [upd_other _ _ e] at hy
      simp only [if_neg e]
      exact h.nope y hy
  · by_cases e : y = x
    · subst e
      rw [upd_same] at hy
      cases hy
    · rw [upd_other _ _ e] at hy
      simp only [if_neg e]
      exact ownsRow_keep (h.lst y u hy) (fun k e2 => g.block k (h.list_ne hy k e2).2.2.2.2 (by simp; exact (h.list_ne hy k e2).2.2.2.1))
  · by_cases e : y = x
    · subst e
      rw [upd_same] at hy
      cases hy
    · by_cases e' : y' = x
      · subst e'
        rw [upd_same] at hy'
        cases hy'
      · rw [upd_other _ _ e] at hy
        rw [upd_other _ _ e'] at hy'
        exact h.apart y y' u u' k hy hy'
  · by_cases e : y = x
    · subst e
      rw [upd_same] at hy
      cases hy
    · rw [upd_other _ _ e] at hy
      exact h.sap y u k hy
/-- One more waits for x. -/
theorem WkP.push (h : WkP w b tv n z p s N sv vv mb rd) (x : Int × Int) (u' : Value) (no : Nat)
    (hw : Only (fun k => k = mb ∨ ((rd x).getD (.slice none 0 0)).ownBlock = some k) w w') (hm : MapG Try.prog 144 two w' mb (N + 1) (upd rd x (some u'))) (hr : w'.ownsRow 0 3 1 u' (s.M x ++ [no]).length ((s.M x ++ [no]).map natV))
    (hv : u'.ownBlock = ((rd x).getD (.slice none 0 0)).ownBlock ∨ ∃ k, u'.ownBlock = some k ∧ w.heap.size ≤ k) :
    WkP w' b tv n z p ⟨s.seen, fun y => if y = x then s.M y ++ [no] else s.M y⟩ (N + 1) sv vv mb (upd rd x (some u')) ∧ Step (WkF b sv vv mb rd) (WkF b sv vv mb (upd rd x (some u'))) w w' := by
  obtain ⟨m1, m2, m3, m4⟩ := h.map_ne
  have hold : ∀ k, ((rd x).getD (.slice none 0 0)).ownBlock = some k → ∃ u, rd x = some u ∧ u.ownBlock = some k := fun k e => by
    cases hu : rd x with
    | none => rw [hu] at e; cases e
    | some u => rw [hu] at e; exact ⟨u, rfl, e⟩
  have hu' : ∀ k, u'.ownBlock = some k → (∃ u, rd x = some u ∧ u.ownBlock = some k) ∨ w.heap.size ≤ k := fun k e => by
    rcases hv with hv | ⟨k', hv, hk'⟩
    · exact .inl (hold k (hv ▸ e))
    · rw [e] at hv
      cases hv
      exact .inr hk'
  have noap : ∀ y v k, y ≠ x → rd y = some v → v.ownBlock = some k → u'.ownBlock ≠ some k := fun y v k hy hx hk e => by
    rcases hu' k e with ⟨u, h1, h2⟩ | h1
    · exact hy (h.apart y x v u k hx h1 hk h2)
    · have := (h.list_ne hx k hk).2.2.2.2
      omega
  refine ⟨⟨h.blk.keep (hw.block _ h.blk.lt ?_), ownsRow_keep h.seen (fun k e => hw.block k (h.seen_ne k e).2.2.2.2 ?_), ownsRow_keep h.vals (fun k e => hw.block k (h.vals_ne k e).2.2.2.2 ?_), hm, fun y hy => ?_, fun y u hy => ?_, fun y y' u v k hy hy' hk hk' => ?_, fun y u k hy hk => ?_⟩, ⟨hw.mono fun k _ hk => ?_, fun k hk => ?_⟩⟩
  · rintro (e | e)
    · exact m1 e.symm
    · obtain ⟨u, h1, h2⟩ := hold _ e
      exact (h.list_ne h1 _ h2).1 rfl
  · rintro (e2 | e2)
    · exact (h.seen_ne k e).2.2.1 e2
    · obtain ⟨u, h1, h2⟩ := hold _ e2
      exact (h.seen_ne k e).2.2.2.1 x u h1 h2
  · rintro (e2 | e2)
    · exact (h.vals_ne k e).2.2.1 e2
    · obtain ⟨u, h1, h2⟩ := hold _ e2
      exact (h.vals_ne k e).2.2.2.1 x u h1 h2
  · by_cases e : y = x
    · subst e
      rw [upd_same] at hy
      cases hy
    · rw [upd_other _ _ e] at hy
      simp only [if_neg e]
      exact h.nope y hy
  · by_cases e : y = x
    · subst e
      rw [upd_same] at hy
      cases hy
      simp only [if_true]
      exact hr
    · rw [upd_other _ _ e] at hy
      simp only [if_neg e]
      refine ownsRow_keep (h.lst y u hy) (fun k e2 => hw.block k (h.list_ne hy k e2).2.2.2.2 ?_)
      rintro (e3 | e3)
      · exact (h.list_ne hy k e2).2.2.2.1 e3
      · obtain ⟨u2, h1, h2⟩ := hold _ e3
        exact e (h.apart y x u u2 k hy h1 e2 h2)
  · by_cases e : y = x
    · subst e
      rw [upd_same] at hy
      cases hy
      by_cases e' : y' = y
      · exact e'.symm
      · rw [upd_other _ _ e'] at hy'
        exact absurd hk (noap y' v k e' hy' hk')
    · rw [upd_other _ _ e] at hy
      by_cases e' : y' = x
      · subst e'
        rw [upd_same] at hy'
        cases hy'
        exact absurd hk' (noap y u k e hy hk)
      · rw [upd_other _ _ e'] at hy'
        exact h.apart y y' u v k hy hy' hk hk'
  · by_cases e : y = x
    · subst e
      rw [upd_same] at hy
      cases hy
      rcases hu' k hk with ⟨u, h1, h2⟩ | h1
      · exact h.sap y u k h1 h2
      · intro e2
        have := (h.seen_ne k e2).2.2.2.2
        omega
    · rw [upd_other _ _ e] at hy
      exact h.sap y u k hy hk
  · rcases hk with rfl | e
    · exact .inr (.inr (.inr (.inl rfl)))
    · obtain ⟨u, h1, h2⟩ := hold _ e
      exact .inr (.inr (.inr (.inr ⟨x, u, h1, h2⟩)))
  · rcases hk with hk | hk | hk | hk | ⟨y, u, hy, hk⟩
    · exact .inl (.inl hk)
    · exact .inl (.inr (.inl hk))
    · exact .inl (.inr (.inr (.inl hk)))
    · exact .inl (.inr (.inr (.inr (.inl hk))))
    · by_cases e : y = x
      · subst e
        rw [upd_same] at hy
        cases hy
        rcases hu' k hk with ⟨u, h1, h2⟩ | h1
        · exact .inl (.inr (.inr (.inr (.inr ⟨y, u, h1, h2⟩))))
        · exact .inr h1
      · rw [upd_other _ _ e] at hy
        exact .inl (.inr (.inr (.inr (.inr ⟨y, u, hy, hk⟩))))
end
end Go.Proofs.Ytkidkhjpijjphaa.oq

/- What a walk is told of an argument that is a struct of numbers and bools, by value, and of a slice of such. Plain facts on memory, of no program. -/
namespace Go.Proofs.Ytkidkhjpijjphaa.base
open Go Go.RowKit Go.ChangeShapes Go.WideShapes Go.Deep

/-- Field j: a bool where isB says so, else an int. -/
def mixed (isB : Nat → Bool) (z : Nat → Int) (y : Nat → Bool) (j : Nat) : Value := if isB j then .bool (y j) else .int .i64 (z j)

/-- A slice of structs of n fields, ints and bools. -/
def IsMix (n : Nat) (isB : Nat → Bool) (w : World) (a : Option Addr) (len cap : Nat) (z : Nat → Nat → Int) (y : Nat → Nat → Bool) : Prop :=
  len ≤ cap ∧ cap ≤ maxLen ∧ (len = 0 ∨ ∃ b off, a = some ⟨b, off, none⟩ ∧ b < w.heap.size ∧ ∀ i j, i < len → j < n → w.cell? ⟨b, off + (i * n + j), none⟩ = some (mixed isB (z i) (y i) j) ∧ (Lit.int .i64 (z i j)).wf = true)

theorem IsMix.below {n : Nat} {isB : Nat → Bool} {w w' : World} {a : Option Addr} {len cap : Nat} {z : Nat → Nat → Int} {y : Nat → Nat → Bool} (h : IsMix n isB w a len cap z y) (g : Below w.heap.size w w') : IsMix n isB w' a len cap z y := by
  obtain ⟨q1, q2, q3⟩ := h
  refine ⟨q1, q2, ?_⟩
  rcases q3 with q3 | ⟨b, off, rfl, hb, hc⟩
  · exact .inl q3
  · exact .inr ⟨b, off, rfl, Nat.lt_of_lt_of_le hb g.size, fun i j hi hj => ⟨(g.cell (p := ⟨b, off + (i * n + j), none⟩) hb).trans (hc i j hi hj).1, (hc i j hi hj).2⟩⟩

section
variable {H : Type} {enc : TypeId × Value → H} {P : Program} {w : World} {base : Nat} {held : Bool} {t e : TypeId} {fuel : Nat} {a : Option Addr} {len cap : Nat} {x : DataW H × List MemPlace}

/-- The fields of a struct's cells. -/
theorem mixed_of {fs : Array Field} {ti tb : TypeId} {n : Nat} {isB : Nat → Bool} {cs : List Value} (he : P.underlying t = some (.struct fs)) (hi : P.underlying ti = some (.int .i64)) (hb : P.underlying tb = some .bool) (hc1 : P.cellsOf ti = 1) (hc2 : P.cellsOf tb = 1)
    (hfs : ∀ j, j < n → (fs[j]?.map fun f => (f.offset, f.type)) = some (j, if isB j then tb else ti))
    (h : DataW.trod enc P w base (fun _ => true) held fuel t cs = some x) : ∃ (z : Nat → Int) (y : Nat → Bool), ∀ j, j < n → cs[j]? = some (mixed isB z y j) ∧ (Lit.int .i64 (z j)).wf = true := by
  obtain ⟨xs, n', _, _, hl1, _, hf⟩ := DataW.trod_struct he h
  obtain ⟨g, hg⟩ := choose_lt (α := Int × Bool) (n := n) (p := fun j v => cs[j]? = some (if isB j then .bool v.2 else .int .i64 v.1) ∧ (Lit.int .i64 v.1).wf = true) (fun j hj => by
    obtain ⟨fj, hfj, e2⟩ := Option.map_eq_some_iff.1 (hfs j hj)
    simp only [Prod.mk.injEq] at e2
    have e3 := hf j fj hfj
    have hc : P.cellsOf fj.type = 1 := by rw [e2.2]; split <;> assumption
    rw [hc, e2.1] at e3
    have hxs : j < xs.length := by
      rcases Nat.lt_or_ge j xs.length with h' | h'
      · exact h'
      · have := (Array.getElem?_eq_some_iff.1 hfj).1
        omega
    rw [List.getElem?_eq_getElem hxs] at e3
    have key : ∀ v : Value, (cs.drop j).take 1 = [v] → cs[j]? = some v := fun v hv => by
      have h0 : ((cs.drop j).take 1)[0]? = some v := by rw [hv]; rfl
      simpa using h0
    by_cases hB : isB j = true
    · rw [e2.2, if_pos hB] at e3
      obtain ⟨v, hv, _⟩ := DataW.trod_bool hb e3
      exact ⟨(0, v), by rw [if_pos hB]; exact key _ hv, (by decide : (Lit.int .i64 0).wf = true)⟩
    · rw [e2.2, if_neg hB] at e3
      obtain ⟨v, hv, _, hw⟩ := DataW.trod_int hi e3
      exact ⟨(v, false), by rw [if_neg hB]; exact key _ hv, hw⟩)
  exact ⟨fun j => (g j).1, fun j => (g j).2, fun j hj => hg j hj⟩

/-- A struct by value. -/
theorem isMix_of {fs : Array Field} {ti tb : TypeId} {n : Nat} (isB : Nat → Bool) {cs : Array Value} (he : P.underlying t = some (.struct fs)) (hi : P.underlying ti = some (.int .i64)) (hb : P.underlying tb = some .bool) (hc1 : P.cellsOf ti = 1) (hc2 : P.cellsOf tb = 1) (hsz : cs.size = n)
    (hfs : ∀ j, j < n → (fs[j]?.map fun f => (f.offset, f.type)) = some (j, if isB j then tb else ti))
    (h : DataW.trod enc P w base (fun _ => true) held fuel t (Value.agg cs).cells.toList = some x) : ∃ (z : Nat → Int) (y : Nat → Bool), (∀ j, j < n → (Lit.int .i64 (z j)).wf = true) ∧ cs = ⟨(List.range n).map (mixed isB z y)⟩ := by
  obtain ⟨z, y, hz⟩ := mixed_of (n := n) he hi hb hc1 hc2 hfs h
  refine ⟨z, y, fun j hj => (hz j hj).2, ?_⟩
  apply Array.ext'
  apply List.ext_getElem?
  intro j
  by_cases hj : j < n
  · have := (hz j hj).1
    simp only [Value.cells] at this
    rw [this]
    simp [hj]
  · rw [List.getElem?_eq_none (by simpa [hsz] using hj), List.getElem?_eq_none (by simpa using hj)]

/-- A slice of such. -/
theorem isMixes_of {fs : Array Field} {ti tb : TypeId} {n : Nat} (isB : Nat → Bool) (ht : P.underlying t = some (.slice e)) (he : P.underlying e = some (.struct fs)) (hi : P.underlying ti = some (.int .i64)) (hb : P.underlying tb = some .bool) (hc1 : P.cellsOf ti = 1) (hc2 : P.cellsOf tb = 1) (hc : P.cellsOf e = n) (hn : 0 < n)
    (hfs : ∀ j, j < n → (fs[j]?.map fun f => (f.offset, f.type)) = some (j, if isB j then tb else ti))
    (h : DataW.trod enc P w base (fun _ => true) held fuel t (Value.slice a len cap).cells.toList = some x) : ∃ z y, IsMix n isB w a len cap z y := by
  rcases open_slice ht h with ⟨hcs, _⟩ | ⟨c, l, m, k, f, D, Pl, hcs, _, hl, hm, hk, _, hel⟩
  · simp [Value.cells] at hcs
    obtain ⟨rfl, rfl, rfl⟩ := hcs
    exact ⟨fun _ _ => 0, fun _ _ => false, Nat.le_refl _, Nat.zero_le _, .inl rfl⟩
  · simp [Value.cells] at hcs
    obtain ⟨rfl, rfl, rfl⟩ := hcs
    simp only [if_true] at hk
    subst hk
    rw [hc] at hel
    obtain ⟨g, hg⟩ := choose_lt (α := (Nat → Int) × (Nat → Bool)) (n := len) (p := fun i v => ∀ j, j < n → w.cell? (c.add (i * n + j)) = some (mixed isB v.1 v.2 j) ∧ (Lit.int .i64 (v.1 j)).wf = true) (fun i hi' => by
      obtain ⟨cs', h1, h2⟩ := hel i (by omega)
      obtain ⟨_, hlen, hcell⟩ := World.cells?_some h1
      obtain ⟨z, y, hz⟩ := mixed_of (n := n) he hi hb hc1 hc2 hfs h2
      refine ⟨(z, y), fun j hj => ⟨?_, (hz j hj).2⟩⟩
      rw [← add_add, hcell j hj]
      exact (hz j hj).1)
    refine ⟨fun i => (g i).1, fun i => (g i).2, hl, hm, ?_⟩
    by_cases h0 : len = 0
    · exact .inl h0
    · obtain ⟨b, off, hbo⟩ := plain_of (hg 0 (by omega) 0 (by omega)).1
      have hb' := World.block_lt_of_cell? _ _ (hg 0 (by omega) 0 (by omega)).1
      have hc0 : c = ⟨b, off, none⟩ := by simpa [Addr.add] using hbo
      subst hc0
      refine .inr ⟨b, off, rfl, by simpa [Addr.add] using hb', fun i j hi hj => ⟨by rw [← add_eq]; exact (hg i hi j hj).1, (hg i hi j hj).2⟩⟩
end
end Go.Proofs.Ytkidkhjpijjphaa.base

/- What a walk is told of an argument that is a try, by value. -/
namespace Go.Proofs.Ytkidkhjpijjphaa.hs
open Go Go.RowKit Go.ChangeShapes Go.WideShapes Go.Deep Go.Proofs.Ytkidkhjpijjphaa.base
set_option linter.unusedVariables false
set_option maxRecDepth 100000

/-- Its numbers are ints. -/
structure AccWf (a : Acc) : Prop where
  k : (Lit.int .i64 a.k).wf = true
  ob : (Lit.int .i64 a.ob).wf = true
  va : (Lit.int .i64 a.va).wf = true

section
variable {H : Type} {enc : TypeId × Value → H} {P : Program} {w : World} {base : Nat} {held : Bool} {t : TypeId} {fuel : Nat} {x : DataW H × List MemPlace}
/-- The cells of a struct of ints and bools, of several types. -/
theorem plain_wf {fs : Array Field} {n : Nat} {isB : Nat → Bool} {cs : List Value} (he : P.underlying t = some (.struct fs))
    (hfs : ∀ j, j < n → ∃ ti, (fs[j]?.map fun f => (f.offset, f.type)) = some (j, ti) ∧ P.cellsOf ti = 1 ∧ P.underlying ti = some (if isB j then .bool else .int .i64))
    (h : DataW.trod enc P w base (fun _ => true) held fuel t cs = some x) : ∃ (z : Nat → Int) (y : Nat → Bool), ∀ j, j < n → cs[j]? = some (mixed isB z y j) ∧ (Lit.int .i64 (z j)).wf = true := by
  obtain ⟨xs, n', _, _, hl1, _, hf⟩ := DataW.trod_struct he h
  obtain ⟨g, hg⟩ := choose_lt (α := Int × Bool) (n := n) (p := fun j v => cs[j]? = some (if isB j then .bool v.2 else .int .i64 v.1) ∧ (Lit.int .i64 v.1).wf = true) (fun j hj => by
    obtain ⟨ti, e1, hc, hu⟩ := hfs j hj
    obtain ⟨fj, hfj, e2⟩ := Option.map_eq_some_iff.1 e1
    simp only [Prod.mk.injEq] at e2
    have e3 := hf j fj hfj
    rw [e2.1, e2.2, hc] at e3
    have hxs : j < xs.length := by
      rcases Nat.lt_or_ge j xs.length with h' | h'
      · exact h'
      · have := (Array.getElem?_eq_some_iff.1 hfj).1
        omega
    rw [List.getElem?_eq_getElem hxs] at e3
    have key : ∀ v : Value, (cs.drop j).take 1 = [v] → cs[j]? = some v := fun v hv => by
      have h0 : ((cs.drop j).take 1)[0]? = some v := by rw [hv]; rfl
      simpa using h0
    by_cases hB : isB j = true
    · rw [if_pos hB] at hu
      obtain ⟨v, hv, _⟩ := DataW.trod_bool hu e3
      exact ⟨(0, v), by rw [if_pos hB]; exact key _ hv, (by decide : (Lit.int .i64 0).wf = true)⟩
    · rw [if_neg hB] at hu
      obtain ⟨v, hv, _, hw⟩ := DataW.trod_int hu e3
      exact ⟨(v, false), by rw [if_neg hB]; exact key _ hv, hw⟩)
  exact ⟨fun j => (g j).1, fun j => (g j).2, fun j hj => hg j hj⟩
end

section
variable {H : Type} {enc : TypeId × Value → H} {w : World} {base : Nat} {held : Bool} {fuel : Nat} {x : DataW H × List MemPlace}
theorem acc_of {cs : List Value} (h : DataW.trod enc Try.prog w base (fun _ => true) held fuel 48 cs = some x) : ∃ a : Acc, AccWf a ∧ ∀ (j : Nat) (u : Value), (accC a)[j]? = some u → cs[j]? = some u := by
  obtain ⟨z, y, h1⟩ := plain_wf (n := 6) (isB := fun j => j == 4 || j == 5) Try.underlying48 (by
    intro j hj
    rcases (by omega : j = 0 ∨ j = 1 ∨ j = 2 ∨ j = 3 ∨ j = 4 ∨ j = 5) with rfl | rfl | rfl | rfl | rfl | rfl
    · exact ⟨_, rfl, by kernel_rfl, by kernel_rfl⟩
    · exact ⟨_, rfl, by kernel_rfl, by kernel_rfl⟩
    · exact ⟨_, rfl, by kernel_rfl, by kernel_rfl⟩
    · exact ⟨_, rfl, by kernel_rfl, by kernel_rfl⟩
    · exact ⟨_, rfl, by kernel_rfl, by kernel_rfl⟩
    · exact ⟨_, rfl, by kernel_rfl, by kernel_rfl⟩) h
  refine ⟨⟨z 0, z 1, z 2, z 3, y 4, y 5⟩, ⟨(h1 1 (by omega)).2, (h1 2 (by omega)).2, (h1 3 (by omega)).2⟩, fun j u hu => ?_⟩
  have hj : j < 6 := (List.getElem?_eq_some_iff.1 hu).1
  rcases (by omega : j = 0 ∨ j = 1 ∨ j = 2 ∨ j = 3 ∨ j = 4 ∨ j = 5) with rfl | rfl | rfl | rfl | rfl | rfl
  · exact (h1 0 (by omega)).1.trans hu
  · exact (h1 1 (by omega)).1.trans hu
  · exact (h1 2 (by omega)).1.trans hu
  · exact (h1 3 (by omega)).1.trans hu
  · exact (h1 4 (by omega)).1.trans hu
  · exact (h1 5 (by omega)).1.trans hu

theorem accs_of {cs : List Value} (h : DataW.trod enc Try.prog w base (fun _ => true) held fuel 39 cs = some x) : ∃ (a : Option Addr) (cap : Nat) (l : List Acc), cs = [.slice a l.length cap] ∧ l.length ≤ cap ∧ cap ≤ maxLen ∧ IsL accC w a l ∧ ∀ y ∈ l, AccWf y := by
  rcases open_slice Try.underlying39 h with ⟨hcs, _⟩ | ⟨c, len, cap, k, f, D, Pl, hcs, _, hl, hm, hk, _, hel⟩
  · exact ⟨none, 0, [], hcs, Nat.le_refl _, Nat.zero_le _, .inl rfl, by simp⟩
  · simp only [if_true] at hk
    subst hk
    have k6 : Try.prog.cellsOf 48 = 6 := by kernel_rfl
    rw [k6] at hel
    obtain ⟨g, hg⟩ := choose_lt (α := Acc) (n := len) (p := fun i y => AccWf y ∧ ∀ (j : Nat) (u : Value), (accC y)[j]? = some u → w.cell? (c.add (i * 6 + j)) = some u) (fun i hi' => by
      obtain ⟨cs', h1, h2⟩ := hel i (by omega)
      obtain ⟨_, hlen, hcell⟩ := World.cells?_some h1
      obtain ⟨y, hy0, hy⟩ := acc_of h2
      refine ⟨y, hy0, fun j u hu => ?_⟩
      rw [← add_add, hcell j (by have := (List.getElem?_eq_some_iff.1 hu).1; exact this)]
      exact hy j u hu)
    refine ⟨some c, k, (List.range len).map g, by simpa using hcs, by simpa using hl, hm, ?_, fun y hy => ?_⟩
    · by_cases h0 : len = 0
      · subst h0; exact .inl rfl
      · obtain ⟨b, off, hbo⟩ := plain_of ((hg 0 (by omega)).2 0 _ rfl)
        have hb := World.block_lt_of_cell? _ _ ((hg 0 (by omega)).2 0 _ rfl)
        have hc0 : c = ⟨b, off, none⟩ := by simpa [Addr.add] using hbo
        subst hc0
        refine .inr ⟨b, off, rfl, by simpa [Addr.add] using hb, fun j u hu => ?_⟩
        have hj : j < len * 6 := by have := (List.getElem?_eq_some_iff.1 hu).1; rw [rows_length accC_len] at this; simpa using this
        have hx : ((List.range len).map g)[j / 6]? = some (g (j / 6)) := by simp [show j / 6 < len by omega]
        have e1 : j / 6 * 6 + j % 6 = j := by omega
        have hu2 := rows_get accC_len _ _ (j % 6) _ hx (by omega)
        rw [e1] at hu2
        rw [← add_eq, ← e1]
        exact (hg (j / 6) (by omega)).2 (j % 6) u (hu2.symm.trans hu)
    · obtain ⟨i, hi, rfl⟩ := List.mem_map.1 hy
      exact (hg i (by simpa using hi)).1

/-- A try by value: its cells, and its accesses. -/
theorem try_of {cs : Array Value} (hsz : cs.size = 9) (h0 : DataW.trod enc Try.prog w base (fun _ => true) held fuel 41 (Value.agg cs).cells.toList = some x) : ∃ (t : Tr) (va : Option Addr) (vc : Nat), cs = ⟨trC t (.slice va t.ac.length vc)⟩ ∧ t.ac.length ≤ vc ∧ vc ≤ maxLen ∧ IsL accC w va t.ac ∧ ∀ y ∈ t.ac, AccWf y := by
  have h : DataW.trod enc Try.prog w base (fun _ => true) held fuel 41 cs.toList = some x := h0
  obtain ⟨xs, n', _, _, _, hl1, hf⟩ := DataW.trod_struct Try.underlying41 h
  have hl : xs.length = 9 := hl1
  have k0 : Try.prog.cellsOf 3 = 1 := by kernel_rfl
  have k1 : Try.prog.cellsOf 4 = 1 := by kernel_rfl
  have k2 : Try.prog.cellsOf 39 = 1 := by kernel_rfl
  have key : ∀ (j : Nat) (v : Value), (cs.toList.drop j).take 1 = [v] → cs.toList[j]? = some v := fun j v hv => by
    have h0 : ((cs.toList.drop j).take 1)[0]? = some v := by rw [hv]; rfl
    simpa using h0
  have fi : ∀ j, j < 7 → ∃ v : Int, cs.toList[j]? = some (.int .i64 v) := fun j hj => by
    have e3 : DataW.trod enc Try.prog w base (fun _ => true) held n' 3 ((cs.toList.drop j).take 1) = xs[j]? := by
      rw [← k0]
      rcases (by omega : j = 0 ∨ j = 1 ∨ j = 2 ∨ j = 3 ∨ j = 4 ∨ j = 5 ∨ j = 6) with rfl | rfl | rfl | rfl | rfl | rfl | rfl
      · exact hf 0 _ rfl
      · exact hf 1 _ rfl
      · exact hf 2 _ rfl
      · exact hf 3 _ rfl
      · exact hf 4 _ rfl
      · exact hf 5 _ rfl
      · exact hf 6 _ rfl
    rw [List.getElem?_eq_getElem (by omega)] at e3
    obtain ⟨v, hv, _, _⟩ := DataW.trod_int Try.underlying3 e3
    exact ⟨v, key j _ hv⟩
  obtain ⟨v0, g0⟩ := fi 0 (by omega)
  obtain ⟨v1, g1⟩ := fi 1 (by omega)
  obtain ⟨v2, g2⟩ := fi 2 (by omega)
  obtain ⟨v3, g3⟩ := fi 3 (by omega)
  obtain ⟨v4, g4⟩ := fi 4 (by omega)
  obtain ⟨v5, g5⟩ := fi 5 (by omega)
  obtain ⟨v6, g6⟩ := fi 6 (by omega)
  have f7 : DataW.trod enc Try.prog w base (fun _ => true) held n' 4 ((cs.toList.drop 7).take (Try.prog.cellsOf 4)) = xs[7]? := hf 7 _ rfl
  have f8 : DataW.trod enc Try.prog w base (fun _ => true) held n' 39 ((cs.toList.drop 8).take (Try.prog.cellsOf 39)) = xs[8]? := hf 8 _ rfl
  rw [k1, List.getElem?_eq_getElem (by omega)] at f7
  rw [k2, List.getElem?_eq_getElem (by omega)] at f8
  obtain ⟨v7, g7, _⟩ := DataW.trod_bool Try.underlying4 f7
  obtain ⟨va, vc, l, g8, c1, c2, hL, hW⟩ := accs_of f8
  refine ⟨⟨v0, v1, v2, v3, v4, v5, v6, v7, l⟩, va, vc, ?_, c1, c2, hL, hW⟩
  have g7' := key 7 _ g7
  have g8' := key 8 _ g8
  apply Array.ext'
  apply List.ext_getElem?
  intro j
  by_cases hj : j < 9
  · rcases (by omega : j = 0 ∨ j = 1 ∨ j = 2 ∨ j = 3 ∨ j = 4 ∨ j = 5 ∨ j = 6 ∨ j = 7 ∨ j = 8) with rfl | rfl | rfl | rfl | rfl | rfl | rfl | rfl | rfl
    · exact g0
    · exact g1
    · exact g2
    · exact g3
    · exact g4
    · exact g5
    · exact g6
    · exact g7'
    · exact g8'
  · rw [List.getElem?_eq_none (by simpa [hsz] using hj), List.getElem?_eq_none (by simp [trC]; omega)]
end
end Go.Proofs.Ytkidkhjpijjphaa.hs
