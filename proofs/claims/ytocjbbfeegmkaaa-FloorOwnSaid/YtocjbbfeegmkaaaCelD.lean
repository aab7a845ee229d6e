/- Package cells: what an object's value is. -/
import Derived.Test.YtocjbbfeegmkaaaCelC
namespace Go.Proofs.Ytocjbbfeegmkaaa.ce
open Go Go.RowKit Go.Proofs.Ytocjbbfeegmkaaa.base Go.Proofs.Ytocjbbfeegmkaaa.ar Go.Proofs.Ytocjbbfeegmkaaa.wd Go.Proofs.Ytocjbbfeegmkaaa.rf Go.Proofs.Ytocjbbfeegmkaaa.mm Go.Proofs.Ytocjbbfeegmkaaa.vl Go.Proofs.Ytocjbbfeegmkaaa.ds
set_option linter.unusedVariables false

/-- A locator's version, by its owner's status. -/
def vers (x : Rc) (s : Int) : Int := if x.owner = -1 ∨ s = 2 then x.new else x.old

theorem version_of (x : Rc) (s : Int) (w : World) : Calls Try.prog 74 #[.agg #[.int .i64 x.kind, .int .i64 x.val, .int .i64 x.owner, .int .i64 x.old, .int .i64 x.new, .int .i64 x.thread, .int .i64 x.txn, .int .i64 x.attempt, .int .i64 x.stamp], .int .i64 s] w fun e w' => e = .returned (.int .i64 (vers x s)) ∧ Hid (w.grownBy w' none) := by
  unfold vers
  by_cases h2 : x.owner = -1
  · have e2 : (x.owner == -1) = true := by simp [h2]
    rw [if_pos (.inl h2)]
    clear h2
    go_enter Try.func74, Try.ntmps74
    go_wp2
    go_ret
    exact ⟨rfl, gb_alloc (gb_refl _ _) _⟩
  · have e2 : (x.owner == -1) = false := by simp [h2]
    by_cases h3 : s = 2
    · rw [if_pos (.inr h3)]
      subst h3
      clear h2
      go_enter Try.func74, Try.ntmps74
      go_wp2
      go_ret
      exact ⟨rfl, gb_alloc (gb_refl _ _) _⟩
    · have e3 : (s == 2) = false := by simp [h3]
      rw [if_neg (by simp [h2, h3])]
      clear h2 h3
      go_enter Try.func74, Try.ntmps74
      go_wp2
      go_ret
      exact ⟨rfl, gb_alloc (gb_refl _ _) _⟩

theorem resolve_any (x : Rc) (s : Int) (w : World) : Calls Try.prog 71 #[.agg #[.int .i64 x.kind, .int .i64 x.val, .int .i64 x.owner, .int .i64 x.old, .int .i64 x.new, .int .i64 x.thread, .int .i64 x.txn, .int .i64 x.attempt, .int .i64 x.stamp], .int .i64 s] w fun e w' => e = .returned (.int .i64 (rsv x s)) ∧ Hid (w.grownBy w' none) := by
  by_cases h1 : x.kind = 2
  · have e1 : (x.kind != 2) = false := by simp [h1]
    have hr : rsv x s = vers x s := by simp [rsv, vers, h1]
    rw [hr]
    clear h1 hr
    go_enter Try.func71, Try.ntmps71
    go_wp2_with fail
    refine (version_of x s _).mono ?_
    rintro e u1 ⟨rfl, g1⟩
    go_wp2
    go_ret
    exact ⟨rfl, gb_trans (gb_alloc (gb_refl _ _) _) g1.out⟩
  · have e1 : (x.kind != 2) = true := by simp [h1]
    have hr : rsv x s = 0 := by simp [rsv, h1]
    rw [hr]
    clear h1 hr
    go_enter Try.func71, Try.ntmps71
    go_wp2
    go_ret
    exact ⟨rfl, gb_alloc (gb_refl _ _) _⟩

theorem status1 (base cb tb ab m : Nat) (room : Int) (rs : List Rc) (hd : List Int) (is : Int → Bool) (num : Int → Nat → Int) (B : Int) (F : Nat → Prop) (w : World) (h : Cel base w cb tb ab room rs hd m is num B F) (hB : B ≤ 990000) (hroom : room ≤ 4096) (id : Int) (hw : (Lit.int .i64 id).wf = true) :
    Calls Try.prog 72 #[.pointer (some ⟨tb, 0, none⟩), .int .i64 id] w fun e w' => e = .returned (.int .i64 (stt is num id)) ∧ Hid (Cel base w' cb tb ab room rs hd m is num (B + 1) F) ∧ Hid (Step F F w w') := by
  obtain ⟨G, M, back⟩ := h.memSame
  by_cases hid : is id = true
  · refine (mem_status base tb ab m room rs is num B G w M id hid hw (by omega)).mono ?_
    rintro e w' ⟨rfl, M', S'⟩
    have := back _ _ _ M'.out S'.out (by omega)
    exact ⟨by simp [stt, hid], this.1, this.2⟩
  · have hid' : is id = false := by simpa using hid
    refine (mem_status_miss base tb ab m room rs is num B G w M id hid' hw).mono ?_
    rintro e w' ⟨rfl, g⟩
    exact ⟨by simp [stt, hid'], (h.grown g.out).mono (by omega), Step.none g.out⟩

/-- An object's value is y's: the chain from its cell. -/
def ValAt (rs : List Rc) (hd : List Int) (is : Int → Bool) (num : Int → Nat → Int) (j : Nat) (y : Rc) : Prop :=
  ∃ (p : Int) (x : Rc), hd[j]? = some p ∧ recAt rs p = some x ∧ x.kind = 2 ∧ (Lit.int .i64 x.owner).wf = true ∧ recAt rs (rsv x (stt is num x.owner)) = some y ∧ y.kind = 1

set_option maxRecDepth 100000 in
set_option maxHeartbeats 2000000 in
theorem current_in (base cb tb ab m : Nat) (room : Int) (rs : List Rc) (hd : List Int) (is : Int → Bool) (num : Int → Nat → Int) (B : Int) (F : Nat → Prop) (w : World) (h : Cel base w cb tb ab room rs hd m is num B F) (hB : B ≤ 950000) (hroom : room ≤ 4096) (j : Nat) (y : Rc) (hv : ValAt rs hd is num j y) :
    Calls Try.prog 58 #[.pointer (some ⟨cb, 0, none⟩), .pointer (some ⟨tb, 0, none⟩), .int .i64 j] w fun e w' => e = .returned (.tuple #[.int .i64 y.val, .int .i64 0]) ∧ Hid (Cel base w' cb tb ab room rs hd m is num (B + 2) F) ∧ Hid (Step F F w w') := by
  obtain ⟨p, x, hp, hx0, hk20, hw0, hy0, hk10⟩ := hv
  have hx := Lib.hid hx0
  have hk2 := Lib.hid hk20
  have hw := Lib.hid hw0
  have hy := Lib.hid hy0
  have hk1 := Lib.hid hk10
  have H := Lib.hid h
  clear h hx0 hk20 hw0 hy0 hk10
  go_enter Try.func58, Try.ntmps58
  go_wp2_with fail
  refine (load1 base cb tb ab m room rs hd is num B F w H.out hB hroom j p hp).mono ?_
  rintro e u1 ⟨rfl, C1, S1⟩
  go_wp2_with fail
  refine (locator_in base cb tb ab m room rs hd is num (B + 1) F u1 C1.out hroom p x hx.out hk2.out).mono ?_
  rintro e u2 ⟨rfl, g2⟩
  go_wp2_with fail
  have X' : Blk 56 (u2.alloc (.cells #[.int .i64 x.kind, .int .i64 x.val, .int .i64 x.owner, .int .i64 x.old, .int .i64 x.new, .int .i64 x.thread, .int .i64 x.txn, .int .i64 x.attempt, .int .i64 x.stamp] 56)) u2.heap.size #[.int .i64 x.kind, .int .i64 x.val, .int .i64 x.owner, .int .i64 x.old, .int .i64 x.new, .int .i64 x.thread, .int .i64 x.txn, .int .i64 x.attempt, .int .i64 x.stamp] := Blk.made u2 _ _
  have C3' : Cel base (u2.alloc (.cells #[.int .i64 x.kind, .int .i64 x.val, .int .i64 x.owner, .int .i64 x.old, .int .i64 x.new, .int .i64 x.thread, .int .i64 x.txn, .int .i64 x.attempt, .int .i64 x.stamp] 56)) cb tb ab room rs hd m is num (B + 1) F := (C1.out.grown g2.out).grown (gb_alloc (gb_refl _ _) _)
  have S3' : Step F F w (u2.alloc (.cells #[.int .i64 x.kind, .int .i64 x.val, .int .i64 x.owner, .int .i64 x.old, .int .i64 x.new, .int .i64 x.thread, .int .i64 x.txn, .int .i64 x.attempt, .int .i64 x.stamp] 56)) := S1.out.trans (Step.none (gb_alloc g2.out _))
  have nF' : ¬ F u2.heap.size := fun e => by have := (C1.out.grown g2.out).foot _ e; omega
  generalize (u2.alloc (.cells #[.int .i64 x.kind, .int .i64 x.val, .int .i64 x.owner, .int .i64 x.old, .int .i64 x.new, .int .i64 x.thread, .int .i64 x.txn, .int .i64 x.attempt, .int .i64 x.stamp] 56)) = u3 at *
  generalize u2.heap.size = q at *
  have C3 := Lib.hid C3'
  have S3 := Lib.hid S3'
  have nF := Lib.hid nF'
  have lq := X'.lt
  have x0 := X'.cell 0
  have x1 := X'.cell 1
  have x2 := X'.cell 2
  have x3 := X'.cell 3
  have x4 := X'.cell 4
  have x5 := X'.cell 5
  have x6 := X'.cell 6
  have x7 := X'.cell 7
  have x8 := X'.cell 8
  clear X' C3' S3' nF' C1 S1 g2
  generalize hsv : stt is num x.owner = sv at *
  generalize hrv : rsv x sv = rv at *
  go_region_held3 (fun w' => w'.cell? ⟨q, 0, none⟩ = some (.int .i64 x.kind) ∧ w'.cell? ⟨q, 1, none⟩ = some (.int .i64 x.val) ∧ w'.cell? ⟨q, 2, none⟩ = some (.int .i64 x.owner) ∧ w'.cell? ⟨q, 3, none⟩ = some (.int .i64 x.old) ∧ w'.cell? ⟨q, 4, none⟩ = some (.int .i64 x.new) ∧ w'.cell? ⟨q, 5, none⟩ = some (.int .i64 x.thread) ∧ w'.cell? ⟨q, 6, none⟩ = some (.int .i64 x.txn) ∧ w'.cell? ⟨q, 7, none⟩ = some (.int .i64 x.attempt) ∧ w'.cell? ⟨q, 8, none⟩ = some (.int .i64 x.stamp)) (go_keep) (first | (go_at_call 72; refine (status1 base cb tb ab m room rs hd is num (B + 1) F _ (C3.out.grown (gb_drew (gb_refl _ _))) (by omega) hroom x.owner hw.out).mono ?_; rw [hsv]; rintro e u4 ⟨rfl, C4, S4⟩; have hb4 : u4.heap[q]? = u3.heap[q]? := S4.out.only.block q lq nF.out; have y0 := (World.cell?_of_block (a := ⟨q, 0, none⟩) hb4).trans x0; have y1 := (World.cell?_of_block (a := ⟨q, 1, none⟩) hb4).trans x1; have y2 := (World.cell?_of_block (a := ⟨q, 2, none⟩) hb4).trans x2; have y3 := (World.cell?_of_block (a := ⟨q, 3, none⟩) hb4).trans x3; have y4 := (World.cell?_of_block (a := ⟨q, 4, none⟩) hb4).trans x4; have y5 := (World.cell?_of_block (a := ⟨q, 5, none⟩) hb4).trans x5; have y6 := (World.cell?_of_block (a := ⟨q, 6, none⟩) hb4).trans x6; have y7 := (World.cell?_of_block (a := ⟨q, 7, none⟩) hb4).trans x7; have y8 := (World.cell?_of_block (a := ⟨q, 8, none⟩) hb4).trans x8) | (go_at_call 71; refine (resolve_any x sv _).mono ?_; rw [hrv]; rintro e u5 ⟨rfl, g5⟩; have hb5 : u5.heap[q]? = u4.heap[q]? := g5.out.block q (by have := S4.out.only.size; exact Nat.lt_of_lt_of_le lq this) (by simp); have z0 := (World.cell?_of_block (a := ⟨q, 0, none⟩) hb5).trans y0; have z1 := (World.cell?_of_block (a := ⟨q, 1, none⟩) hb5).trans y1; have z2 := (World.cell?_of_block (a := ⟨q, 2, none⟩) hb5).trans y2; have z3 := (World.cell?_of_block (a := ⟨q, 3, none⟩) hb5).trans y3; have z4 := (World.cell?_of_block (a := ⟨q, 4, none⟩) hb5).trans y4; have z5 := (World.cell?_of_block (a := ⟨q, 5, none⟩) hb5).trans y5; have z6 := (World.cell?_of_block (a := ⟨q, 6, none⟩) hb5).trans y6; have z7 := (World.cell?_of_block (a := ⟨q, 7, none⟩) hb5).trans y7; have z8 := (World.cell?_of_block (a := ⟨q, 8, none⟩) hb5).trans y8) | (go_at_call 67; refine (value_in base cb tb ab m room rs hd is num (B + 1 + 1) F _ (C4.out.grown g5.out) hroom rv y hy.out hk1.out).mono ?_; rintro e u6 ⟨rfl, g6⟩; have hb6 : u6.heap[q]? = u5.heap[q]? := g6.out.block q (Nat.lt_of_lt_of_le (Nat.lt_of_lt_of_le lq S4.out.only.size) g5.out.size) (by simp); have v0 := (World.cell?_of_block (a := ⟨q, 0, none⟩) hb6).trans z0; have v1 := (World.cell?_of_block (a := ⟨q, 1, none⟩) hb6).trans z1; have v2 := (World.cell?_of_block (a := ⟨q, 2, none⟩) hb6).trans z2; have v3 := (World.cell?_of_block (a := ⟨q, 3, none⟩) hb6).trans z3; have v4 := (World.cell?_of_block (a := ⟨q, 4, none⟩) hb6).trans z4; have v5 := (World.cell?_of_block (a := ⟨q, 5, none⟩) hb6).trans z5; have v6 := (World.cell?_of_block (a := ⟨q, 6, none⟩) hb6).trans z6; have v7 := (World.cell?_of_block (a := ⟨q, 7, none⟩) hb6).trans z7; have v8 := (World.cell?_of_block (a := ⟨q, 8, none⟩) hb6).trans z8))
  go_wp2
  go_ret2
  exact ⟨rfl, ((C4.out.grown g5.out).grown g6.out).mono (by omega), ((S3.out.trans (Step.none (gb_drew (gb_refl _ _)))).trans S4.out).trans (Step.none (gb_trans g5.out g6.out))⟩

theorem cells_current (base cb tb ab m : Nat) (room : Int) (rs : List Rc) (hd : List Int) (is : Int → Bool) (num : Int → Nat → Int) (B : Int) (F : Nat → Prop) (w : World) (h : Cel base w cb tb ab room rs hd m is num B F) (hB : B ≤ 900000) (hroom : room ≤ 4096) (j : Nat) (y : Rc) (hv : ValAt rs hd is num j y) :
    Calls Try.prog 58 #[.pointer (some ⟨cb, 0, none⟩), .pointer (some ⟨tb, 0, none⟩), .int .i64 j] w fun e w' => e = .returned (.tuple #[.int .i64 y.val, .int .i64 0]) ∧ Hid (Cel base w' cb tb ab room rs hd m is num (B + 100) F) ∧ Hid (Step F F w w') := by
  refine (current_in base cb tb ab m room rs hd is num B F w h (by omega) hroom j y hv).mono ?_
  rintro e w' ⟨rfl, C1, S1⟩
  exact ⟨rfl, C1.out.mono (by omega), S1⟩

theorem cells_current_out (base cb tb ab m : Nat) (room : Int) (rs : List Rc) (hd : List Int) (is : Int → Bool) (num : Int → Nat → Int) (B : Int) (F : Nat → Prop) (w : World) (h : Cel base w cb tb ab room rs hd m is num B F) (hB : B ≤ 900000) (hroom : room ≤ 4096) (j : Int) (hj : j < 0 ∨ (hd.length : Int) ≤ j) :
    Calls Try.prog 58 #[.pointer (some ⟨cb, 0, none⟩), .pointer (some ⟨tb, 0, none⟩), .int .i64 j] w fun e w' => e = .returned (.tuple #[.int .i64 0, .int .i64 6]) ∧ Hid (Cel base w' cb tb ab room rs hd m is num (B + 100) F) ∧ Hid (Step F F w w') := by
  have H := Lib.hid h
  clear h
  go_enter Try.func58, Try.ntmps58
  go_wp2_with fail
  refine (cells_load_out base cb tb ab m room rs hd is num B F w H.out hB hroom j hj).mono ?_
  rintro e u1 ⟨rfl, C1, S1⟩
  go_wp2
  go_ret2
  exact ⟨rfl, C1, S1⟩

end Go.Proofs.Ytocjbbfeegmkaaa.ce
