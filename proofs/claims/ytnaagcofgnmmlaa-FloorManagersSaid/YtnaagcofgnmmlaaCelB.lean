/- Package cells: its records. -/
import Derived.Deep.Cut
import Derived.Test.YtnaagcofgnmmlaaCelA
namespace Go.Proofs.Ytnaagcofgnmmlaa.ce
open Go Go.RowKit Go.Proofs.Ytnaagcofgnmmlaa.base Go.Proofs.Ytnaagcofgnmmlaa.ar Go.Proofs.Ytnaagcofgnmmlaa.wd Go.Proofs.Ytnaagcofgnmmlaa.rf Go.Proofs.Ytnaagcofgnmmlaa.mm Go.Proofs.Ytnaagcofgnmmlaa.vl Go.Proofs.Ytnaagcofgnmmlaa.ds
set_option linter.unusedVariables false

theorem recAt_some {rs : List Rc} {k : Int} {x : Rc} (h : recAt rs k = some x) : ∃ n : Nat, k = (n : Int) ∧ rs[n]? = some x := by
  unfold recAt at h
  split at h
  · exact ⟨k.toNat, by omega, h⟩
  · cases h
theorem recAt_none {rs : List Rc} {k : Int} (h : recAt rs k = none) : k < 0 ∨ (rs.length : Int) ≤ k := by
  unfold recAt at h
  split at h
  · right
    have := List.getElem?_eq_none_iff.1 h
    omega
  · left; omega

set_option maxHeartbeats 4000000 in
theorem record_hit (base cb tb ab m : Nat) (room : Int) (rs : List Rc) (hd : List Int) (is : Int → Bool) (num : Int → Nat → Int) (B : Int) (F : Nat → Prop) (w : World) (h : Cel base w cb tb ab room rs hd m is num B F) (hroom : room ≤ 4096) (k q : Int) (x : Rc) (hx : recAt rs k = some x) (hk : x.kind = q) :
    Calls Try.prog 28 #[.pointer (some ⟨cb, 0, none⟩), .int .i64 k, .int .i64 q] w fun e w' => e = .returned (.tuple #[.agg #[.int .i64 x.kind, .int .i64 x.val, .int .i64 x.owner, .int .i64 x.old, .int .i64 x.new, .int .i64 x.thread, .int .i64 x.txn, .int .i64 x.attempt, .int .i64 x.stamp], .int .i64 0]) ∧ Hid (w.grownBy w' none) := by
  obtain ⟨G, r, wb, M, K, hs, hl, rfl⟩ := h
  obtain ⟨ao, cap, b1, _, _⟩ := K.fld.open
  have c0 := b1.cell 0
  have lb := b1.lt
  have HM := Lib.hid M
  obtain ⟨n, rfl, hn⟩ := recAt_some hx
  have hq : (x.kind != q) = false := by simp [hk]
  clear hx hk
  clear K hs b1 M
  go_enter Try.func28, Try.ntmps28
  go_wp2_with fail
  refine (mem_at base tb ab m room rs is num B G _ (HM.out.grown (gb_alloc (gb_refl _ _) _)) n x (by omega) hn).mono ?_
  rintro e u1 ⟨rfl, g1⟩
  go_upto_region 4 with fail
  have C1' : Blk 72 (w.alloc (.cells #[.int .i64 0, .int .i64 0, .int .i64 0, .int .i64 0, .int .i64 0, .int .i64 0, .int .i64 0, .int .i64 0, .int .i64 0] 72)) w.heap.size #[.int .i64 0, .int .i64 0, .int .i64 0, .int .i64 0, .int .i64 0, .int .i64 0, .int .i64 0, .int .i64 0, .int .i64 0] := Blk.made _ _ _
  have C2' : Blk 72 (u1.alloc (.cells #[.int .i64 x.kind, .int .i64 x.val, .int .i64 x.owner, .int .i64 x.old, .int .i64 x.new, .int .i64 x.thread, .int .i64 x.txn, .int .i64 x.attempt, .int .i64 x.stamp] 72)) w.heap.size #[.int .i64 0, .int .i64 0, .int .i64 0, .int .i64 0, .int .i64 0, .int .i64 0, .int .i64 0, .int .i64 0, .int .i64 0] := (C1'.grown g1.out (by simp)).alloc _
  have X2' : Blk 72 (u1.alloc (.cells #[.int .i64 x.kind, .int .i64 x.val, .int .i64 x.owner, .int .i64 x.old, .int .i64 x.new, .int .i64 x.thread, .int .i64 x.txn, .int .i64 x.attempt, .int .i64 x.stamp] 72)) u1.heap.size #[.int .i64 x.kind, .int .i64 x.val, .int .i64 x.owner, .int .i64 x.old, .int .i64 x.new, .int .i64 x.thread, .int .i64 x.txn, .int .i64 x.attempt, .int .i64 x.stamp] := Blk.made _ _ _
  have G2' : w.grownBy (u1.alloc (.cells #[.int .i64 x.kind, .int .i64 x.val, .int .i64 x.owner, .int .i64 x.old, .int .i64 x.new, .int .i64 x.thread, .int .i64 x.txn, .int .i64 x.attempt, .int .i64 x.stamp] 72)) none := gb_alloc (gb_trans (gb_alloc (gb_refl _ _) _) g1.out) _
  have hp : w.heap.size < u1.heap.size := by have := g1.out.size; simp at this; omega
  have hsz := G2'.size
  generalize (u1.alloc (.cells #[.int .i64 x.kind, .int .i64 x.val, .int .i64 x.owner, .int .i64 x.old, .int .i64 x.new, .int .i64 x.thread, .int .i64 x.txn, .int .i64 x.attempt, .int .i64 x.stamp] 72)) = u2 at *
  generalize u1.heap.size = q2 at *
  generalize hpe : w.heap.size = p at *
  have ne : q2 ≠ p := by omega
  have X2 := Lib.hid X2'
  have C2 := Lib.hid C2'
  have G2 := Lib.hid G2'
  have d0 := X2'.cell 0
  have d1 := X2'.cell 1
  have d2 := X2'.cell 2
  have d3 := X2'.cell 3
  have d4 := X2'.cell 4
  have d5 := X2'.cell 5
  have d6 := X2'.cell 6
  have d7 := X2'.cell 7
  have d8 := X2'.cell 8
  have e0 := C2'.cell 0
  have f0 := C2'.free 0
  have e1 := C2'.cell 1
  have f1 := C2'.free 1
  have e2 := C2'.cell 2
  have f2 := C2'.free 2
  have e3 := C2'.cell 3
  have f3 := C2'.free 3
  have e4 := C2'.cell 4
  have f4 := C2'.free 4
  have e5 := C2'.cell 5
  have f5 := C2'.free 5
  have e6 := C2'.cell 6
  have f6 := C2'.free 6
  have e7 := C2'.cell 7
  have f7 := C2'.free 7
  have e8 := C2'.cell 8
  have f8 := C2'.free 8
  clear X2' C2' G2' c0 lb HM C1' g1
  go_wp2
  have C9 := ((((((((C2.out.set 0 (.int .i64 x.kind)).set 1 (.int .i64 x.val)).set 2 (.int .i64 x.owner)).set 3 (.int .i64 x.old)).set 4 (.int .i64 x.new)).set 5 (.int .i64 x.thread)).set 6 (.int .i64 x.txn)).set 7 (.int .i64 x.attempt)).set 8 (.int .i64 x.stamp)
  have G9 : w.grownBy ((((((((((u2.setCell ⟨p, 0, none⟩ (.int .i64 x.kind)).setCell ⟨p, 1, none⟩ (.int .i64 x.val)).setCell ⟨p, 2, none⟩ (.int .i64 x.owner)).setCell ⟨p, 3, none⟩ (.int .i64 x.old)).setCell ⟨p, 4, none⟩ (.int .i64 x.new)).setCell ⟨p, 5, none⟩ (.int .i64 x.thread)).setCell ⟨p, 6, none⟩ (.int .i64 x.txn)).setCell ⟨p, 7, none⟩ (.int .i64 x.attempt)).setCell ⟨p, 8, none⟩ (.int .i64 x.stamp))) none := by
    iterate 9 refine gb_setNew ?_ (by show w.heap.size ≤ p; omega) _
    exact G2.out
  generalize ((((((((((u2.setCell ⟨p, 0, none⟩ (.int .i64 x.kind)).setCell ⟨p, 1, none⟩ (.int .i64 x.val)).setCell ⟨p, 2, none⟩ (.int .i64 x.owner)).setCell ⟨p, 3, none⟩ (.int .i64 x.old)).setCell ⟨p, 4, none⟩ (.int .i64 x.new)).setCell ⟨p, 5, none⟩ (.int .i64 x.thread)).setCell ⟨p, 6, none⟩ (.int .i64 x.txn)).setCell ⟨p, 7, none⟩ (.int .i64 x.attempt)).setCell ⟨p, 8, none⟩ (.int .i64 x.stamp))) = u3 at *
  clear d0 e0 f0 d1 e1 f1 d2 e2 f2 d3 e3 f3 d4 e4 f4 d5 e5 f5 d6 e6 f6 d7 e7 f7 d8 e8 f8 X2 C2 G2
  have z0 := C9.cell 0
  have z1 := C9.cell 1
  have z2 := C9.cell 2
  have z3 := C9.cell 3
  have z4 := C9.cell 4
  have z5 := C9.cell 5
  have z6 := C9.cell 6
  have z7 := C9.cell 7
  have z8 := C9.cell 8
  exact bodyPost_ret (v := .tuple #[.agg #[.int .i64 x.kind, .int .i64 x.val, .int .i64 x.owner, .int .i64 x.old, .int .i64 x.new, .int .i64 x.thread, .int .i64 x.txn, .int .i64 x.attempt, .int .i64 x.stamp], .int .i64 0]) (by simp [results, Try.results28, go_sem, *]) rfl ⟨rfl, G9⟩

set_option maxHeartbeats 4000000 in
theorem record_kind (base cb tb ab m : Nat) (room : Int) (rs : List Rc) (hd : List Int) (is : Int → Bool) (num : Int → Nat → Int) (B : Int) (F : Nat → Prop) (w : World) (h : Cel base w cb tb ab room rs hd m is num B F) (hroom : room ≤ 4096) (k q : Int) (x : Rc) (hx : recAt rs k = some x) (hk : x.kind ≠ q) :
    Calls Try.prog 28 #[.pointer (some ⟨cb, 0, none⟩), .int .i64 k, .int .i64 q] w fun e w' => e = .returned (.tuple #[.agg #[.int .i64 0, .int .i64 0, .int .i64 0, .int .i64 0, .int .i64 0, .int .i64 0, .int .i64 0, .int .i64 0, .int .i64 0], .int .i64 6]) ∧ Hid (w.grownBy w' none) := by
  obtain ⟨G, r, wb, M, K, hs, hl, rfl⟩ := h
  obtain ⟨ao, cap, b1, _, _⟩ := K.fld.open
  have c0 := b1.cell 0
  have lb := b1.lt
  have HM := Lib.hid M
  obtain ⟨n, rfl, hn⟩ := recAt_some hx
  have hq : (x.kind != q) = true := by simp [hk]
  clear hx hk
  clear K hs b1 M
  go_enter Try.func28, Try.ntmps28
  go_wp2_with fail
  refine (mem_at base tb ab m room rs is num B G _ (HM.out.grown (gb_alloc (gb_refl _ _) _)) n x (by omega) hn).mono ?_
  rintro e u1 ⟨rfl, g1⟩
  go_upto_region 4 with fail
  have C1' : Blk 72 (w.alloc (.cells #[.int .i64 0, .int .i64 0, .int .i64 0, .int .i64 0, .int .i64 0, .int .i64 0, .int .i64 0, .int .i64 0, .int .i64 0] 72)) w.heap.size #[.int .i64 0, .int .i64 0, .int .i64 0, .int .i64 0, .int .i64 0, .int .i64 0, .int .i64 0, .int .i64 0, .int .i64 0] := Blk.made _ _ _
  have C2' : Blk 72 (u1.alloc (.cells #[.int .i64 x.kind, .int .i64 x.val, .int .i64 x.owner, .int .i64 x.old, .int .i64 x.new, .int .i64 x.thread, .int .i64 x.txn, .int .i64 x.attempt, .int .i64 x.stamp] 72)) w.heap.size #[.int .i64 0, .int .i64 0, .int .i64 0, .int .i64 0, .int .i64 0, .int .i64 0, .int .i64 0, .int .i64 0, .int .i64 0] := (C1'.grown g1.out (by simp)).alloc _
  have X2' : Blk 72 (u1.alloc (.cells #[.int .i64 x.kind, .int .i64 x.val, .int .i64 x.owner, .int .i64 x.old, .int .i64 x.new, .int .i64 x.thread, .int .i64 x.txn, .int .i64 x.attempt, .int .i64 x.stamp] 72)) u1.heap.size #[.int .i64 x.kind, .int .i64 x.val, .int .i64 x.owner, .int .i64 x.old, .int .i64 x.new, .int .i64 x.thread, .int .i64 x.txn, .int .i64 x.attempt, .int .i64 x.stamp] := Blk.made _ _ _
  have G2' : w.grownBy (u1.alloc (.cells #[.int .i64 x.kind, .int .i64 x.val, .int .i64 x.owner, .int .i64 x.old, .int .i64 x.new, .int .i64 x.thread, .int .i64 x.txn, .int .i64 x.attempt, .int .i64 x.stamp] 72)) none := gb_alloc (gb_trans (gb_alloc (gb_refl _ _) _) g1.out) _
  have hp : w.heap.size < u1.heap.size := by have := g1.out.size; simp at this; omega
  have hsz := G2'.size
  generalize (u1.alloc (.cells #[.int .i64 x.kind, .int .i64 x.val, .int .i64 x.owner, .int .i64 x.old, .int .i64 x.new, .int .i64 x.thread, .int .i64 x.txn, .int .i64 x.attempt, .int .i64 x.stamp] 72)) = u2 at *
  generalize u1.heap.size = q2 at *
  generalize hpe : w.heap.size = p at *
  have ne : q2 ≠ p := by omega
  have X2 := Lib.hid X2'
  have C2 := Lib.hid C2'
  have G2 := Lib.hid G2'
  have d0 := X2'.cell 0
  have d1 := X2'.cell 1
  have d2 := X2'.cell 2
  have d3 := X2'.cell 3
  have d4 := X2'.cell 4
  have d5 := X2'.cell 5
  have d6 := X2'.cell 6
  have d7 := X2'.cell 7
  have d8 := X2'.cell 8
  have e0 := C2'.cell 0
  have f0 := C2'.free 0
  have e1 := C2'.cell 1
  have f1 := C2'.free 1
  have e2 := C2'.cell 2
  have f2 := C2'.free 2
  have e3 := C2'.cell 3
  have f3 := C2'.free 3
  have e4 := C2'.cell 4
  have f4 := C2'.free 4
  have e5 := C2'.cell 5
  have f5 := C2'.free 5
  have e6 := C2'.cell 6
  have f6 := C2'.free 6
  have e7 := C2'.cell 7
  have f7 := C2'.free 7
  have e8 := C2'.cell 8
  have f8 := C2'.free 8
  clear X2' C2' G2' c0 lb HM C1' g1
  go_wp2
  have C9 := ((((((((C2.out.set 0 (.int .i64 0)).set 1 (.int .i64 0)).set 2 (.int .i64 0)).set 3 (.int .i64 0)).set 4 (.int .i64 0)).set 5 (.int .i64 0)).set 6 (.int .i64 0)).set 7 (.int .i64 0)).set 8 (.int .i64 0)
  have G9 : w.grownBy ((((((((((u2.setCell ⟨p, 0, none⟩ (.int .i64 0)).setCell ⟨p, 1, none⟩ (.int .i64 0)).setCell ⟨p, 2, none⟩ (.int .i64 0)).setCell ⟨p, 3, none⟩ (.int .i64 0)).setCell ⟨p, 4, none⟩ (.int .i64 0)).setCell ⟨p, 5, none⟩ (.int .i64 0)).setCell ⟨p, 6, none⟩ (.int .i64 0)).setCell ⟨p, 7, none⟩ (.int .i64 0)).setCell ⟨p, 8, none⟩ (.int .i64 0))) none := by
    iterate 9 refine gb_setNew ?_ (by show w.heap.size ≤ p; omega) _
    exact G2.out
  generalize ((((((((((u2.setCell ⟨p, 0, none⟩ (.int .i64 0)).setCell ⟨p, 1, none⟩ (.int .i64 0)).setCell ⟨p, 2, none⟩ (.int .i64 0)).setCell ⟨p, 3, none⟩ (.int .i64 0)).setCell ⟨p, 4, none⟩ (.int .i64 0)).setCell ⟨p, 5, none⟩ (.int .i64 0)).setCell ⟨p, 6, none⟩ (.int .i64 0)).setCell ⟨p, 7, none⟩ (.int .i64 0)).setCell ⟨p, 8, none⟩ (.int .i64 0))) = u3 at *
  clear d0 e0 f0 d1 e1 f1 d2 e2 f2 d3 e3 f3 d4 e4 f4 d5 e5 f5 d6 e6 f6 d7 e7 f7 d8 e8 f8 X2 C2 G2
  have z0 := C9.cell 0
  have z1 := C9.cell 1
  have z2 := C9.cell 2
  have z3 := C9.cell 3
  have z4 := C9.cell 4
  have z5 := C9.cell 5
  have z6 := C9.cell 6
  have z7 := C9.cell 7
  have z8 := C9.cell 8
  exact bodyPost_ret (v := .tuple #[.agg #[.int .i64 0, .int .i64 0, .int .i64 0, .int .i64 0, .int .i64 0, .int .i64 0, .int .i64 0, .int .i64 0, .int .i64 0], .int .i64 6]) (by simp [results, Try.results28, go_sem, *]) rfl ⟨rfl, G9⟩

set_option maxHeartbeats 4000000 in
theorem record_out (base cb tb ab m : Nat) (room : Int) (rs : List Rc) (hd : List Int) (is : Int → Bool) (num : Int → Nat → Int) (B : Int) (F : Nat → Prop) (w : World) (h : Cel base w cb tb ab room rs hd m is num B F) (hroom : room ≤ 4096) (k q : Int) (hx : recAt rs k = none) :
    Calls Try.prog 28 #[.pointer (some ⟨cb, 0, none⟩), .int .i64 k, .int .i64 q] w fun e w' => e = .returned (.tuple #[.agg #[.int .i64 0, .int .i64 0, .int .i64 0, .int .i64 0, .int .i64 0, .int .i64 0, .int .i64 0, .int .i64 0, .int .i64 0], .int .i64 6]) ∧ Hid (w.grownBy w' none) := by
  obtain ⟨G, r, wb, M, K, hs, hl, rfl⟩ := h
  obtain ⟨ao, cap, b1, _, _⟩ := K.fld.open
  have c0 := b1.cell 0
  have lb := b1.lt
  have HM := Lib.hid M
  have hn := recAt_none hx
  clear hx
  clear K hs b1 M
  go_enter Try.func28, Try.ntmps28
  go_wp2_with fail
  refine (mem_at_out base tb ab m room rs is num B G _ (HM.out.grown (gb_alloc (gb_refl _ _) _)) k hn).mono ?_
  rintro e u1 ⟨rfl, g1⟩
  go_upto_region 4 with fail
  have C1' : Blk 72 (w.alloc (.cells #[.int .i64 0, .int .i64 0, .int .i64 0, .int .i64 0, .int .i64 0, .int .i64 0, .int .i64 0, .int .i64 0, .int .i64 0] 72)) w.heap.size #[.int .i64 0, .int .i64 0, .int .i64 0, .int .i64 0, .int .i64 0, .int .i64 0, .int .i64 0, .int .i64 0, .int .i64 0] := Blk.made _ _ _
  have C2' : Blk 72 (u1.alloc (.cells #[.int .i64 0, .int .i64 0, .int .i64 0, .int .i64 0, .int .i64 0, .int .i64 0, .int .i64 0, .int .i64 0, .int .i64 0] 72)) w.heap.size #[.int .i64 0, .int .i64 0, .int .i64 0, .int .i64 0, .int .i64 0, .int .i64 0, .int .i64 0, .int .i64 0, .int .i64 0] := (C1'.grown g1.out (by simp)).alloc _
  have X2' : Blk 72 (u1.alloc (.cells #[.int .i64 0, .int .i64 0, .int .i64 0, .int .i64 0, .int .i64 0, .int .i64 0, .int .i64 0, .int .i64 0, .int .i64 0] 72)) u1.heap.size #[.int .i64 0, .int .i64 0, .int .i64 0, .int .i64 0, .int .i64 0, .int .i64 0, .int .i64 0, .int .i64 0, .int .i64 0] := Blk.made _ _ _
  have G2' : w.grownBy (u1.alloc (.cells #[.int .i64 0, .int .i64 0, .int .i64 0, .int .i64 0, .int .i64 0, .int .i64 0, .int .i64 0, .int .i64 0, .int .i64 0] 72)) none := gb_alloc (gb_trans (gb_alloc (gb_refl _ _) _) g1.out) _
  have hp : w.heap.size < u1.heap.size := by have := g1.out.size; simp at this; omega
  have hsz := G2'.size
  generalize (u1.alloc (.cells #[.int .i64 0, .int .i64 0, .int .i64 0, .int .i64 0, .int .i64 0, .int .i64 0, .int .i64 0, .int .i64 0, .int .i64 0] 72)) = u2 at *
  generalize u1.heap.size = q2 at *
  generalize hpe : w.heap.size = p at *
  have ne : q2 ≠ p := by omega
  have X2 := Lib.hid X2'
  have C2 := Lib.hid C2'
  have G2 := Lib.hid G2'
  have d0 := X2'.cell 0
  have d1 := X2'.cell 1
  have d2 := X2'.cell 2
  have d3 := X2'.cell 3
  have d4 := X2'.cell 4
  have d5 := X2'.cell 5
  have d6 := X2'.cell 6
  have d7 := X2'.cell 7
  have d8 := X2'.cell 8
  have e0 := C2'.cell 0
  have f0 := C2'.free 0
  have e1 := C2'.cell 1
  have f1 := C2'.free 1
  have e2 := C2'.cell 2
  have f2 := C2'.free 2
  have e3 := C2'.cell 3
  have f3 := C2'.free 3
  have e4 := C2'.cell 4
  have f4 := C2'.free 4
  have e5 := C2'.cell 5
  have f5 := C2'.free 5
  have e6 := C2'.cell 6
  have f6 := C2'.free 6
  have e7 := C2'.cell 7
  have f7 := C2'.free 7
  have e8 := C2'.cell 8
  have f8 := C2'.free 8
  clear X2' C2' G2' c0 lb HM C1' g1
  go_wp2
  have C9 := ((((((((C2.out.set 0 (.int .i64 0)).set 1 (.int .i64 0)).set 2 (.int .i64 0)).set 3 (.int .i64 0)).set 4 (.int .i64 0)).set 5 (.int .i64 0)).set 6 (.int .i64 0)).set 7 (.int .i64 0)).set 8 (.int .i64 0)
  have G9 : w.grownBy ((((((((((u2.setCell ⟨p, 0, none⟩ (.int .i64 0)).setCell ⟨p, 1, none⟩ (.int .i64 0)).setCell ⟨p, 2, none⟩ (.int .i64 0)).setCell ⟨p, 3, none⟩ (.int .i64 0)).setCell ⟨p, 4, none⟩ (.int .i64 0)).setCell ⟨p, 5, none⟩ (.int .i64 0)).setCell ⟨p, 6, none⟩ (.int .i64 0)).setCell ⟨p, 7, none⟩ (.int .i64 0)).setCell ⟨p, 8, none⟩ (.int .i64 0))) none := by
    iterate 9 refine gb_setNew ?_ (by show w.heap.size ≤ p; omega) _
    exact G2.out
  generalize ((((((((((u2.setCell ⟨p, 0, none⟩ (.int .i64 0)).setCell ⟨p, 1, none⟩ (.int .i64 0)).setCell ⟨p, 2, none⟩ (.int .i64 0)).setCell ⟨p, 3, none⟩ (.int .i64 0)).setCell ⟨p, 4, none⟩ (.int .i64 0)).setCell ⟨p, 5, none⟩ (.int .i64 0)).setCell ⟨p, 6, none⟩ (.int .i64 0)).setCell ⟨p, 7, none⟩ (.int .i64 0)).setCell ⟨p, 8, none⟩ (.int .i64 0))) = u3 at *
  clear d0 e0 f0 d1 e1 f1 d2 e2 f2 d3 e3 f3 d4 e4 f4 d5 e5 f5 d6 e6 f6 d7 e7 f7 d8 e8 f8 X2 C2 G2
  have z0 := C9.cell 0
  have z1 := C9.cell 1
  have z2 := C9.cell 2
  have z3 := C9.cell 3
  have z4 := C9.cell 4
  have z5 := C9.cell 5
  have z6 := C9.cell 6
  have z7 := C9.cell 7
  have z8 := C9.cell 8
  exact bodyPost_ret (v := .tuple #[.agg #[.int .i64 0, .int .i64 0, .int .i64 0, .int .i64 0, .int .i64 0, .int .i64 0, .int .i64 0, .int .i64 0, .int .i64 0], .int .i64 6]) (by simp [results, Try.results28, go_sem, *]) rfl ⟨rfl, G9⟩

theorem record_none (base cb tb ab m : Nat) (room : Int) (rs : List Rc) (hd : List Int) (is : Int → Bool) (num : Int → Nat → Int) (B : Int) (F : Nat → Prop) (w : World) (h : Cel base w cb tb ab room rs hd m is num B F) (hroom : room ≤ 4096) (k q : Int) (hk : ¬ IsK rs k q) :
    Calls Try.prog 28 #[.pointer (some ⟨cb, 0, none⟩), .int .i64 k, .int .i64 q] w fun e w' => e = .returned (.tuple #[.agg #[.int .i64 0, .int .i64 0, .int .i64 0, .int .i64 0, .int .i64 0, .int .i64 0, .int .i64 0, .int .i64 0, .int .i64 0], .int .i64 6]) ∧ Hid (w.grownBy w' none) := by
  cases hx : recAt rs k with
  | none => exact record_out base cb tb ab m room rs hd is num B F w h hroom k q hx
  | some x => exact record_kind base cb tb ab m room rs hd is num B F w h hroom k q x hx (fun e => hk ⟨x, hx, e⟩)

end Go.Proofs.Ytnaagcofgnmmlaa.ce
