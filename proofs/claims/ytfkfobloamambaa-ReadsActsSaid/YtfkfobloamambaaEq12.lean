/- The law's own, readings, owns. -/
import Derived.Test.YtfkfobloamambaaUnc
import Derived.Laws.StructEq
import Derived.Laws.Tables
namespace Go.Proofs.Ytfkfobloamambaa.rd
open Go Go.RowKit Go.Proofs.Ytfkfobloamambaa.base Go.Proofs.Ytfkfobloamambaa.lg
set_option linter.unusedVariables false

@[go_sem] theorem eqRd (a0 a1 a2 b0 b1 b2 : Int) (w : World) : (Op.equalIn 10000 40 (.agg #[.int .i64 a0, .int .i64 a1, .int .i64 a2]) (.agg #[.int .i64 b0, .int .i64 b1, .int .i64 b2])).run Try.prog w = .ok (a0 == b0 && a1 == b1 && a2 == b2) w := by
  have u3 := Try.underlying3
  have ag3 := Try.isAgg3
  have z3 := Try.sizeOf3
  have u2 := Try.underlying2
  have ag2 := Try.isAgg2
  have z2 := Try.sizeOf2
  rw [show (10000 : Nat) = 9999 + 1 from rfl, run_equalIn_struct _ _ _ _ _ (by kernel_rfl) (by kernel_rfl)]
  simp only [Program.fieldsOf, Try.underlying40]
  go_simp
  have step : ∀ (a b : Int) (X : Result Bool) (Y : Bool), X = .ok Y w → (if a = b then X else .ok false w) = .ok (a == b && Y) w := by
    intro a b X Y h
    by_cases e : a = b
    · simp [e, h]
    · simp [e]
  have last : ∀ (a b : Int), (if a = b then (Result.ok true w : Result Bool) else .ok false w) = .ok (a == b) w := by
    intro a b
    by_cases e : a = b <;> simp [e]
  simp only [Bool.and_assoc]
  iterate 2 refine step _ _ _ _ ?_
  exact last _ _

@[go_sem] theorem eqOw (a0 a1 a2 a3 b0 b1 b2 b3 : Int) (a4 b4 : Bool) (w : World) : (Op.equalIn 10000 44 (.agg #[.int .i64 a0, .int .i64 a1, .int .i64 a2, .int .i64 a3, .bool a4]) (.agg #[.int .i64 b0, .int .i64 b1, .int .i64 b2, .int .i64 b3, .bool b4])).run Try.prog w = .ok (a0 == b0 && a1 == b1 && a2 == b2 && a3 == b3 && a4 == b4) w := by
  have u3 := Try.underlying3
  have ag3 := Try.isAgg3
  have z3 := Try.sizeOf3
  have u2 := Try.underlying2
  have ag2 := Try.isAgg2
  have z2 := Try.sizeOf2
  have u4 := Try.underlying4
  have ag4 := Try.isAgg4
  have z4 := Try.sizeOf4
  rw [show (10000 : Nat) = 9999 + 1 from rfl, run_equalIn_struct _ _ _ _ _ (by kernel_rfl) (by kernel_rfl)]
  simp only [Program.fieldsOf, Try.underlying44]
  go_simp
  have step : ∀ (a b : Int) (X : Result Bool) (Y : Bool), X = .ok Y w → (if a = b then X else .ok false w) = .ok (a == b && Y) w := by
    intro a b X Y h
    by_cases e : a = b
    · simp [e, h]
    · simp [e]
  have last : ∀ (a b : Bool), (if a = b then (Result.ok true w : Result Bool) else .ok false w) = .ok (a == b) w := by
    intro a b
    by_cases e : a = b <;> simp [e]
  simp only [Bool.and_assoc]
  iterate 4 refine step _ _ _ _ ?_
  exact last _ _

theorem own_any (x : Ow) (w : World) : Calls Try.prog 14 #[.agg #[.int .i64 x.o, .int .i64 x.c, .int .i64 x.n, .int .i64 x.v, .bool x.b]] w fun e w' => e = .returned (.agg #[.int .i64 x.o, .int .i64 x.c, .int .i64 x.n, .int .i64 x.v, .bool x.b]) ∧ Hid (w.grownBy w' none) := by
  have O := Lib.hid ((((Own.start w).alloc 34 [.int .i64 x.o, .int .i64 x.c, .int .i64 x.n, .int .i64 x.v, .bool x.b]).alloc 44 [.int .i64 0, .int .i64 0, .int .i64 0, .int .i64 0, .bool false]))
  go_enter Try.func14, Try.ntmps14
  go_upto_region 1 with fail
  simp only [size_alloc] at O
  generalize (w.alloc _).alloc _ = v at *
  generalize hB1 : w.heap.size + 1 = B1 at *
  generalize hB : w.heap.size = B at *
  clear hB1 hB
  have c0 := O.out.cell 0 0 rfl rfl; have c1 := O.out.cell 0 1 rfl rfl; have c2 := O.out.cell 0 2 rfl rfl; have c3 := O.out.cell 0 3 rfl rfl; have c4 := O.out.cell 0 4 rfl rfl; have f0 := O.out.free 0 0 rfl; have f1 := O.out.free 0 1 rfl; have f2 := O.out.free 0 2 rfl; have f3 := O.out.free 0 3 rfl; have f4 := O.out.free 0 4 rfl; have d0 := O.out.cell 1 0 rfl rfl; have d1 := O.out.cell 1 1 rfl rfl; have d2 := O.out.cell 1 2 rfl rfl; have d3 := O.out.cell 1 3 rfl rfl; have d4 := O.out.cell 1 4 rfl rfl
  go_wp2
  refine bodyPost_ret (v := .agg #[.int .i64 x.o, .int .i64 x.c, .int .i64 x.n, .int .i64 x.v, .bool x.b]) ?_ rfl ⟨rfl, ?_⟩
  · simp [results, Try.results14, go_sem, *]
  · exact ((((((O.out.set 0 0 (.int .i64 x.o) rfl).set 0 1 (.int .i64 x.c) rfl).set 0 2 (.int .i64 x.n) rfl).set 0 3 (.int .i64 x.v) rfl).set 0 4 (.bool x.b) rfl)).grow

theorem drewN_more (w : World) (n m : Nat) : Hid (w.drewN (n + m) = (w.drewN n).drewN m) := by
  show _ = _
  simp [World.drewN, Nat.add_assoc]

theorem readings_eq (a b : Option Addr) (n ca cb : Nat) (l : List Rd) (w : World) (ha : IsL Rd.cells w a l) (hb : IsL Rd.cells w b l) (hn : n = l.length) (hm : n ≤ 1000000) :
    Calls Try.prog 19 #[.slice a n ca, .slice b n cb] w fun e w' => ∃ q, e = .returned (.bool true) ∧ w.drewN q = w' := by
  have HA := Lib.hid ha
  have HB := Lib.hid hb
  have HL := Lib.hid hn
  clear ha hb hn
  go_enter Try.func19, Try.ntmps19
  go_wp2_with fail
  go_loopw [5] (fun iv wr => ∃ k q : Nat, k ≤ n ∧ iv = .int .i64 k ∧ Hid (w.drewN q = wr)) (fun iv _ => (n - intOf iv).toNat)
  case atStart => exact ⟨0, 0, by omega, rfl, rfl⟩
  case round =>
    obtain ⟨k, q, hk, rfl, hq⟩ := hrel
    by_cases hlt : k < n
    · obtain ⟨x, hx⟩ : ∃ x, l[k]? = some x := ⟨_, List.getElem?_eq_getElem (by rw [← HL.out]; exact hlt)⟩
      obtain ⟨b1, off1, rfl, hb1, c0, c1, c2⟩ := at3 (show IsL Rd.cells wr a l from hq.out ▸ HA.out.drewN q) hx
      obtain ⟨b2, off2, rfl, hb2, d0, d1, d2⟩ := at3 (show IsL Rd.cells wr b l from hq.out ▸ HB.out.drewN q) hx
      have hlt' : (k : Int) < (n : Int) := by omega
      clear hx
      go_wp2_with fail
      go_quiet (fail)
      go_wp2
      go_roundw
      case rel => exact ⟨k + 1, _, by omega, by go_num, by rw [← hq.out]; exact drewN_more w q _⟩
      case measure => simp [intOf]; omega
    · obtain rfl : k = n := by omega
      go_wp2
      go_ret
      exact ⟨q, rfl, hq.out⟩

set_option maxHeartbeats 1000000 in
theorem owns_eq (a b : Option Addr) (n ca cb : Nat) (l : List Ow) (w : World) (ha : IsL Ow.cells w a l) (hb : IsL Ow.cells w b l) (hn : n = l.length) (hm : n ≤ 1000000) :
    Calls Try.prog 21 #[.slice a n ca, .slice b n cb] w fun e w' => e = .returned (.bool true) ∧ Hid (w.grownBy w' none) := by
  have HA := Lib.hid ha
  have HB := Lib.hid hb
  have HL := Lib.hid hn
  clear ha hb hn
  go_enter Try.func21, Try.ntmps21
  go_wp2_with fail
  go_loopw [5] (fun iv wr => ∃ k : Nat, k ≤ n ∧ iv = .int .i64 k ∧ Hid (w.grownBy wr none)) (fun iv _ => (n - intOf iv).toNat)
  case atStart => exact ⟨0, by omega, rfl, gb_refl _ _⟩
  case round =>
    obtain ⟨k, hk, rfl, G⟩ := hrel
    by_cases hlt : k < n
    · obtain ⟨x, hx⟩ : ∃ x, l[k]? = some x := ⟨_, List.getElem?_eq_getElem (by rw [← HL.out]; exact hlt)⟩
      obtain ⟨b1, off1, rfl, hb1, c0, c1, c2, c3, c4⟩ := at5 (HA.out.grown G.out) hx
      obtain ⟨b2, off2, rfl, hb2, d0, d1, d2, d3, d4⟩ := at5 (HB.out.grown G.out) hx
      have hlt' : (k : Int) < (n : Int) := by omega
      clear hx
      go_wp2_with fail
      go_region_held3 (fun w' => w'.cell? ⟨b1, off1 + k * 5, none⟩ = some (.int .i64 x.o) ∧ w'.cell? ⟨b1, off1 + k * 5 + 1, none⟩ = some (.int .i64 x.c) ∧ w'.cell? ⟨b1, off1 + k * 5 + 2, none⟩ = some (.int .i64 x.n) ∧ w'.cell? ⟨b1, off1 + k * 5 + 3, none⟩ = some (.int .i64 x.v) ∧ w'.cell? ⟨b1, off1 + k * 5 + 4, none⟩ = some (.bool x.b) ∧ w'.cell? ⟨b2, off2 + k * 5, none⟩ = some (.int .i64 x.o) ∧ w'.cell? ⟨b2, off2 + k * 5 + 1, none⟩ = some (.int .i64 x.c) ∧ w'.cell? ⟨b2, off2 + k * 5 + 2, none⟩ = some (.int .i64 x.n) ∧ w'.cell? ⟨b2, off2 + k * 5 + 3, none⟩ = some (.int .i64 x.v) ∧ w'.cell? ⟨b2, off2 + k * 5 + 4, none⟩ = some (.bool x.b)) (go_keep) ((go_at_call 14; refine (own_any x _).mono ?_; rintro e u ⟨rfl, g⟩; have C0 := g.out.cell c0 (by simp); have C1 := g.out.cell c1 (by simp); have C2 := g.out.cell c2 (by simp); have C3 := g.out.cell c3 (by simp); have C4 := g.out.cell c4 (by simp); have D0 := g.out.cell d0 (by simp); have D1 := g.out.cell d1 (by simp); have D2 := g.out.cell d2 (by simp); have D3 := g.out.cell d3 (by simp); have D4 := g.out.cell d4 (by simp); have G2 := Lib.hid (gb_trans (gb_trans G.out (by repeat (first | exact gb_refl _ _ | refine gb_drewN ?_ _ | refine gb_drew ?_ | refine gb_alloc ?_ _))) g.out)))
      go_wp2
      go_roundw
      case rel => exact ⟨k + 1, by omega, by go_num, G2⟩
      case measure => simp [intOf]; omega
    · obtain rfl : k = n := by omega
      go_wp2
      go_ret
      exact ⟨rfl, G⟩

end Go.Proofs.Ytfkfobloamambaa.rd
