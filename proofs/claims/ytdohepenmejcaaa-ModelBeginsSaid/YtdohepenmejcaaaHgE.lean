/- A try on its way: what an event does to it: releases, ends, others. -/
import Derived.Test.YtdohepenmejcaaaHgM
namespace Go.Proofs.Ytdohepenmejcaaa.hs
open Go Go.RowKit Go.Proofs.Ytdohepenmejcaaa.base Go.Maps
set_option linter.unusedVariables false
set_option maxRecDepth 100000

theorem Gng.more {w : World} {F G : Nat → Prop} {b : Nat} {t : Tr} {W : Int → Bool} {R : Int → List Nat} {N : Nat} (h : Gng w F b t W R N) (hG : ∀ k, F k → G k) : Gng w G b t W R (N + 1) := by
  obtain ⟨v, wm, rm, rd, h⟩ := h
  exact ⟨v, wm, rm, rd, ⟨h.blk, h.row, h.wmap.more (Nat.le_succ _), h.rmap.more (Nat.le_succ _), h.nope, h.lst, h.ne, h.apart, hG _ h.fb, fun k e => hG _ (h.fv k e), hG _ h.fw, hG _ h.fr, fun o u k e e2 => hG _ (h.frd o u k e e2)⟩⟩
theorem Gng.alloc {w : World} {F : Nat → Prop} {b : Nat} {t : Tr} {W : Int → Bool} {R : Int → List Nat} {N : Nat} (h : Gng w F b t W R N) (hF : ∀ k, F k → k < w.heap.size) (o : Obj) : Gng (w.alloc o) F b t W R N := h.keep (fun k hk => Below.heap_alloc w o k (hF k hk))
/-- A cell of the try. -/
theorem Gng.at {w : World} {F : Nat → Prop} {b : Nat} {t : Tr} {W : Int → Bool} {R : Int → List Nat} {N : Nat} (h : Gng w F b t W R N) (j : Nat) (hj : j < 8) {u : Value} (hu : (trC t undef)[j]? = some u) : w.cell? ⟨b, j, none⟩ = some u := by
  obtain ⟨v, wm, rm, rd, h⟩ := h
  have := h.blk.cell j
  rw [this]
  match j, hj with
  | 0, _ => exact hu
  | 1, _ => exact hu
  | 2, _ => exact hu
  | 3, _ => exact hu
  | 4, _ => exact hu
  | 5, _ => exact hu
  | 6, _ => exact hu
  | 7, _ => exact hu

/-- The struct alone was changed. -/
theorem GngP.ends {w0 w w' : World} {F : Nat → Prop} {b : Nat} {t t' : Tr} {W : Int → Bool} {R : Int → List Nat} {N : Nat} {v : Value} {wm rm : Nat} {rd : Int → Option Value} (h : GngP w F b t W R N v wm rm rd) (ht : t'.ac = t.ac) (g0 : w0.grownBy w none)
    (g : w.grownBy w' (some b)) (hb : Blk 124 w' b ⟨trC t' v ++ [.map (some wm), .map (some rm)]⟩) : Gng w' (Up F w0 w') b t' W R (N + 1) ∧ Only F w0 w' := by
  obtain ⟨h1, h2⟩ := h.change (t' := t') (v' := v) (Only.of g (fun k e _ => .inl (by cases e; rfl))) hb (by rw [ht]; exact ownsRow_keep h.row (fun k e => g.block k (h.v_lt k e) (by simp; exact (h.v_ne k e).1))) (.inl rfl)
  refine ⟨Gng.more ⟨_, _, _, _, h1⟩ fun k hk => ?_, (Only.none g0).trans h2⟩
  rcases hk with hk | hk
  · exact .inl hk
  · have := g0.size
    exact .inr ⟨by omega, hk.2⟩

set_option maxHeartbeats 1000000 in
theorem does_release (w : World) (F : Nat → Prop) (b : Nat) (t : Tr) (N : Nat) (pl : Nat)  (th tx at_ ob va re : Int) (ho : (Lit.int .i64 ob).wf = true) (hF : ∀ k, F k → k < w.heap.size) (h : Gng w F b t (wrote t.ac) (readsF t.ac) N) (hen : t.en = -1) (hm : t.ac.length < 100000) (hN : N < 100000) :
    Calls Try.prog 56 #[.pointer (some ⟨b, 0, none⟩), .int .i64 pl, .agg #[.int .i64 4, .int .i64 th, .int .i64 tx, .int .i64 at_, .int .i64 ob, .int .i64 va, .int .i64 re]] w fun r w' => r = .returned (.bool false) ∧ Hid (Gng w' (Up F w w') b { t with ac := relAll t.ac ob } (wrote (relAll t.ac ob)) (readsF (relAll t.ac ob)) (N + 1)) ∧ Hid (Only F w w') := by
  have GA := Lib.hid (World.grownBy_alloc w (.cells #[.int .i64 4, .int .i64 th, .int .i64 tx, .int .i64 at_, .int .i64 ob, .int .i64 va, .int .i64 re] 58) none)
  have H := Lib.hid (h.alloc hF (.cells #[.int .i64 4, .int .i64 th, .int .i64 tx, .int .i64 at_, .int .i64 ob, .int .i64 va, .int .i64 re] 58))
  have HO := Lib.hid ho
  have EN := Lib.hid hen
  have HM := Lib.hid hm
  clear h ho hen hF hm
  go_enter Try.func56, Try.ntmps56
  go_wp2_with (first | (go_at_call 66; refine (release_any _ F b t _ _ N ob HO.out H.out (fun n hn => by have := readsAt_lt ob t.ac 0 n hn; omega) (by have := HM.out; omega) (by have := HM.out; have := readsAt_len ob t.ac 0; unfold readsF; omega)).mono ?_; rintro r u1 ⟨rfl, g1, o1⟩; have c5 : u1.cell? ⟨b, 5, none⟩ = some (.int .i64 (-1)) := g1.out.at 5 (by omega) (by simp [trC, EN.out])) | go_in)
  go_ret
  refine ⟨rfl, ?_, (Only.none GA.out).trans o1.out⟩
  have := g1.out
  rw [show readsF t.ac ob = readsAt ob 0 t.ac from rfl, relAt_reads, ← readsF_free, ← wrote_free t.ac ob] at this
  exact this.more (fun k hk => .inl hk)

set_option maxHeartbeats 1000000 in
theorem does_commit (w : World) (F : Nat → Prop) (b : Nat) (t : Tr) (N : Nat) (pl : Nat)  (th tx at_ ob va re : Int) (ho : (Lit.int .i64 ob).wf = true) (hF : ∀ k, F k → k < w.heap.size) (h : Gng w F b t (wrote t.ac) (readsF t.ac) N) (hen : t.en = -1) (hm : t.ac.length < 100000) (hN : N < 100000) :
    Calls Try.prog 56 #[.pointer (some ⟨b, 0, none⟩), .int .i64 pl, .agg #[.int .i64 5, .int .i64 th, .int .i64 tx, .int .i64 at_, .int .i64 ob, .int .i64 va, .int .i64 re]] w fun r w' => r = .returned (.bool true) ∧ Hid (Gng w' (Up F w w') b { t with en := pl, co := true } (wrote t.ac) (readsF t.ac) (N + 1)) ∧ Hid (Only F w w') := by
  obtain ⟨v, wm, rm, rd, h0⟩ := h.alloc hF (.cells #[.int .i64 5, .int .i64 th, .int .i64 tx, .int .i64 at_, .int .i64 ob, .int .i64 va, .int .i64 re] 58)
  have GA := Lib.hid (World.grownBy_alloc w (.cells #[.int .i64 5, .int .i64 th, .int .i64 tx, .int .i64 at_, .int .i64 ob, .int .i64 va, .int .i64 re] 58) none)
  have H := Lib.hid h0
  have hF2 := Lib.hid hF
  have c5 := h0.blk.cell 5
  have c7 := h0.blk.cell 7
  have f5 := h0.blk.free 5
  have f7 := h0.blk.free 7
  have bl := h0.blk.lt
  clear h ho hen hF hm h0
  go_enter Try.func56, Try.ntmps56
  go_wp2
  go_ret
  obtain ⟨q1, q2⟩ := H.out.ends (t' := { t with en := pl, co := true }) rfl GA.out (gb_setB (gb_setB (gb_refl _ _) (.int .i64 pl)) (.bool true)) ((H.out.blk.set 5 (.int .i64 pl)).set 7 (.bool true))
  refine ⟨?_, q1, q2⟩
  have : ((pl : Int) != -1) = true := by simp
  rw [this]
  rfl

set_option maxHeartbeats 1000000 in
theorem does_abort (w : World) (F : Nat → Prop) (b : Nat) (t : Tr) (N : Nat) (pl : Nat)  (th tx at_ ob va re : Int) (ho : (Lit.int .i64 ob).wf = true) (hF : ∀ k, F k → k < w.heap.size) (h : Gng w F b t (wrote t.ac) (readsF t.ac) N) (hen : t.en = -1) (hm : t.ac.length < 100000) (hN : N < 100000) :
    Calls Try.prog 56 #[.pointer (some ⟨b, 0, none⟩), .int .i64 pl, .agg #[.int .i64 6, .int .i64 th, .int .i64 tx, .int .i64 at_, .int .i64 ob, .int .i64 va, .int .i64 re]] w fun r w' => r = .returned (.bool true) ∧ Hid (Gng w' (Up F w w') b { t with en := pl, re := re } (wrote t.ac) (readsF t.ac) (N + 1)) ∧ Hid (Only F w w') := by
  obtain ⟨v, wm, rm, rd, h0⟩ := h.alloc hF (.cells #[.int .i64 6, .int .i64 th, .int .i64 tx, .int .i64 at_, .int .i64 ob, .int .i64 va, .int .i64 re] 58)
  have GA := Lib.hid (World.grownBy_alloc w (.cells #[.int .i64 6, .int .i64 th, .int .i64 tx, .int .i64 at_, .int .i64 ob, .int .i64 va, .int .i64 re] 58) none)
  have EB := Lib.hid (Blk.made w 58 #[.int .i64 6, .int .i64 th, .int .i64 tx, .int .i64 at_, .int .i64 ob, .int .i64 va, .int .i64 re])
  have H := Lib.hid h0
  clear h ho hen hF hm h0
  go_enter Try.func56, Try.ntmps56
  go_upto_region 13 with fail
  generalize w.alloc _ = v1 at *
  generalize w.heap.size = p at *
  have c5 : v1.cell? ⟨b, 5, none⟩ = some (.int .i64 t.en) := H.out.blk.cell 5
  have c6 : v1.cell? ⟨b, 6, none⟩ = some (.int .i64 t.re) := H.out.blk.cell 6
  have e6 : v1.cell? ⟨p, 6, none⟩ = some (.int .i64 re) := EB.out.cell 6
  have f5 := H.out.blk.free 5
  have f6 := H.out.blk.free 6
  have bl := H.out.blk.lt
  have hbp : p ≠ b := by
    intro e
    have := H.out.blk
    have h2 := EB.out
    rw [e] at h2
    unfold Blk at this h2
    rw [this] at h2
    injection h2 with h2
    injection h2 with _ h3
    exact absurd h3 (by decide)
  go_wp2_with fail
  go_region
  all_goals
    go_wp2
    go_ret
    obtain ⟨q1, q2⟩ := H.out.ends (t' := { t with en := pl, re := re }) rfl GA.out (gb_drew (gb_setB (gb_setB (gb_refl _ _) (.int .i64 pl)) (.int .i64 re))) (((H.out.blk.set 5 (.int .i64 pl)).set 6 (.int .i64 re)).drew)
    refine ⟨?_, q1, q2⟩
    have : ((pl : Int) != -1) = true := by simp
    rw [this]
    rfl
end Go.Proofs.Ytdohepenmejcaaa.hs
