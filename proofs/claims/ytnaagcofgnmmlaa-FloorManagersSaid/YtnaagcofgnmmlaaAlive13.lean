/- The law's own plain and alive; the document's Events. -/
import Derived.Test.YtnaagcofgnmmlaaFlN
import Derived.Test.YtnaagcofgnmmlaaFlE
import Derived.Laws.StructEq
import Derived.Laws.Tables
import Derived.BigQuiet
import Derived.Deep.QuietTactic
import Derived.Test.YtnaagcofgnmmlaaVals
namespace Go.Proofs.Ytnaagcofgnmmlaa.fl
open Go Go.RowKit Go.Proofs.Ytnaagcofgnmmlaa.base Go.Proofs.Ytnaagcofgnmmlaa.lg Go.Proofs.Ytnaagcofgnmmlaa.ce Go.Proofs.Ytnaagcofgnmmlaa.rf
set_option linter.unusedVariables false

/-- A slice of numbers that is written out. -/
theorem isRow_lit (k : IntKind) (w : World) (l : List Int) (t : TypeId) (hl : ∀ x ∈ l, (Lit.int k x).wf = true) (hm : l.length ≤ 1000) : IsRow k (w.alloc (.cells ⟨l.map fun x => .int k x⟩ t)) (some ⟨w.heap.size, 0, none⟩) l.length l.length (fun i => l.getD i 0) := by
  refine ⟨Nat.le_refl _, by unfold maxLen; omega, .inr ⟨w.heap.size, 0, rfl, by simp, fun i hi => ?_⟩⟩
  have e : l[i]? = some l[i] := List.getElem?_eq_getElem hi
  have e2 : l.getD i 0 = l[i] := by simp [List.getD, e]
  dsimp only
  rw [e2]
  refine ⟨?_, hl _ (List.getElem_mem hi)⟩
  rw [Nat.zero_add, (Blk.made w t ⟨l.map fun x => .int k x⟩).cell i]
  simp [e]

theorem plain_any (t : Int) (w : World) : Calls Try.prog 5 #[.int .i64 t] w fun e w' => e = .returned (.agg #[.int .i64 2, .int .i64 t, .int .i64 100, .int .i64 9, .int .i64 4, .int .i64 3]) ∧ Hid (w.grownBy w' none) := by
  go_enter Try.func5, Try.ntmps5
  go_wp2
  refine bodyPost_ret (v := .agg #[.int .i64 2, .int .i64 t, .int .i64 100, .int .i64 9, .int .i64 4, .int .i64 3]) (by simp [results, Try.results5, go_sem]) rfl ⟨rfl, ?_⟩
  repeat (first | exact gb_refl _ _ | refine gb_alloc ?_ _ | refine gb_drewN ?_ _ | refine gb_setNew ?_ (by simp) _)

/-- A floor of the law's plain config. -/
theorem new_plain (n : Nat) (hn : 1 ≤ n ∧ n ≤ 6) (a2 : Option Addr) (len2 cap2 : Nat) (z2 : Nat → Int) (hl2 : len2 ≤ 1000000) (w : World) (a1 : Option Addr) (hz1 : IsRow .i64 w a1 2 2 (fun i => [1, 2].getD i 0)) (hz2 : IsRow .u8 w a2 len2 cap2 z2) :
    Calls Try.prog 6 #[.agg #[.int .i64 2, .int .i64 n, .int .i64 100, .int .i64 9, .int .i64 4, .int .i64 3], .slice a1 2 2, .slice a2 len2 cap2] w fun e w' => ∃ fb ab tb cb tk g b0 X, e = .returned (.tuple #[.pointer (some ⟨fb, 0, none⟩), .int .i64 0]) ∧ Hid (FloX fb n (drawn z2 len2) (fun _ => 0) [] ⟨ab, tb, cb, tk, g, 2, 100, 9, 4, 3, 0, false, 0, 0, fun _ => 0, 0⟩ X) ∧
      Hid (Hold (CelP b0 cb tb ab 100 (firsts (fun i => [1, 2].getD i 0) 2) (heads 2) 0 (fun _ => false) (fun _ _ => 0) 100) w w' X) :=
  new_ok 2 100 9 4 3 n (by simp [okC, inB]; omega) a1 2 2 _ rfl (by decide) a2 len2 cap2 z2 hl2 w hz1 hz2

/-- Its own blocks alone. -/
theorem flo_of {P : World → (Nat → Prop) → Prop} (hP : Firm P) {w w' : World} {fb n : Nat} {ds : List Int} {nx : Nat → Nat} {ev : List (Nat → Int)} {C : Core} {X : Blks} (hX : FloX fb n ds nx ev C X) (H : Hold P w w' X) : ∃ bb : Bas, bb.wd = w ∧ Flo bb w' fb n ds nx ev C [] := by
  obtain ⟨bb, hb, o, _⟩ := H.call hP
  exact ⟨bb, hb, X, hX, by rw [List.append_nil]; exact o⟩

theorem draw_eq {w0 : Bas} {w : World} {fb n : Nat} {ds : List Int} {nx : Nat → Nat} {ev : List (Nat → Int)} {C : Core} {R : Blks} (k : Nat) (kk : Int) (ek : (k : Int) = kk) (hk : k < n) (x : Int) (nx' : Nat → Nat) (hx : ds[nx k]? = some x) (hx8 : 0 ≤ x ∧ x ≤ 255) (hn : (fun j => if j = k then (nx k + 1) % ds.length else nx j) = nx') (H : Flo w0 w fb n ds nx ev C R) :
    Calls Try.prog 8 #[.pointer (some ⟨fb, 0, none⟩), .int .i64 kk] w fun e w' => e = .returned (.int .i64 x) ∧ Hid (Flo w0 w' fb n ds nx' ev C R) := by
  subst ek hn
  exact draw_in k hk (by have := (List.getElem?_eq_some_iff.1 hx).1; omega) x hx hx8 H

set_option maxRecDepth 100000 in
theorem alive_any (w : World) : Calls Try.prog 4 #[] w fun e w' => e = .returned (.bool true) ∧ Hid (w.grownBy w' none) := by
  have NN := Lib.hid (fun (u : World) (a1 a2 : Option Addr) (h1 : IsRow .i64 u a1 2 2 (fun i => [1, 2].getD i 0)) (h2 : IsRow .u8 u a2 2 2 (fun i => [7, 9].getD i 0)) =>
    show Calls Try.prog 6 #[.agg #[.int .i64 2, .int .i64 2, .int .i64 100, .int .i64 9, .int .i64 4, .int .i64 3], .slice a1 2 2, .slice a2 2 2] u fun e w' => ∃ fb ab tb cb tk g b0 X, e = .returned (.tuple #[.pointer (some ⟨fb, 0, none⟩), .int .i64 0]) ∧ Hid (FloX fb 2 [7, 9] (fun _ => 0) [] ⟨ab, tb, cb, tk, g, 2, 100, 9, 4, 3, 0, false, 0, 0, fun _ => 0, 0⟩ X) ∧
      Hid (Hold (CelP b0 cb tb ab 100 (firsts (fun i => [1, 2].getD i 0) 2) (heads 2) 0 (fun _ => false) (fun _ _ => 0) 100) u w' X) from new_plain 2 (by omega) a2 2 2 _ (by omega) u a1 h1 h2)
  have D1 := Lib.hid (fun (bb : Bas) (u : World) (fb : Nat) (C : Core) (h : Flo bb u fb 2 [7, 9] (fun _ => 0) [] C []) => draw_eq 0 0 rfl (by omega) 7 (fun j => if j = 0 then 1 else 0) rfl (by omega) rfl h)
  have D2 := Lib.hid (fun (bb : Bas) (u : World) (fb : Nat) (C : Core) (h : Flo bb u fb 2 [7, 9] (fun j => if j = 0 then 1 else 0) [] C []) => draw_eq 1 1 rfl (by omega) 7 (fun j => if j = 1 then 1 else if j = 0 then 1 else 0) rfl (by omega) rfl h)
  have D3 := Lib.hid (fun (bb : Bas) (u : World) (fb : Nat) (C : Core) (h : Flo bb u fb 2 [7, 9] (fun j => if j = 1 then 1 else if j = 0 then 1 else 0) [] C []) => draw_eq 0 0 rfl (by omega) 9 (fun j => if j = 0 then 0 else if j = 1 then 1 else if j = 0 then 1 else 0) rfl (by omega) rfl h)
  have D4 := Lib.hid (fun (bb : Bas) (u : World) (fb : Nat) (C : Core) (h : Flo bb u fb 2 [7, 9] (fun j => if j = 0 then 0 else if j = 1 then 1 else if j = 0 then 1 else 0) [] C []) => draw_eq 0 0 rfl (by omega) 7 _ rfl (by omega) rfl h)
  go_enter Try.func4, Try.ntmps4
  go_wp2_with fail
  refine (plain_any 2 _).mono ?_
  rintro e v ⟨rfl, g⟩
  have A2 : Hid (IsRow .i64 ((v.alloc (.cells #[.int .i64 1, .int .i64 2] 2)).alloc (.cells #[.int .u8 7, .int .u8 9] 5)) (some ⟨v.heap.size, 0, none⟩) 2 2 (fun i => [1, 2].getD i 0)) := (isRow_lit .i64 v [1, 2] 2 (by simp; decide) (by decide)).below (gb_below (World.grownBy_alloc _ _ none))
  have A3 : Hid (IsRow .u8 ((v.alloc (.cells #[.int .i64 1, .int .i64 2] 2)).alloc (.cells #[.int .u8 7, .int .u8 9] 5)) (some ⟨v.heap.size + 1, 0, none⟩) 2 2 (fun i => [7, 9].getD i 0)) := by
    have h := isRow_lit .u8 (v.alloc (.cells #[.int .i64 1, .int .i64 2] 2)) [7, 9] 5 (by simp; decide) (by decide)
    simp only [size_alloc] at h
    exact h
  have G : Hid (w.grownBy ((v.alloc (.cells #[.int .i64 1, .int .i64 2] 2)).alloc (.cells #[.int .u8 7, .int .u8 9] 5)) none) := gb_alloc (gb_alloc g.out _) _
  go_wp2_with fail
  generalize (v.alloc _).alloc _ = u at *
  generalize v.heap.size + 1 = b2 at *
  generalize v.heap.size = b1 at *
  refine (NN.out _ _ _ A2.out A3.out).mono ?_
  rintro e v2 ⟨fb, ab, tb, cb, tk, gg, b0, X, rfl, hX, H⟩
  obtain ⟨bb, hb, F⟩ := flo_of firm_cel hX.out H.out
  have F := Lib.hid F
  have HB := Lib.hid hb
  clear hX H hb A2 A3
  go_wp2_with fail
  refine (D1.out _ _ _ _ F.out).mono ?_
  rintro e v3 ⟨rfl, F3⟩
  clear F
  go_wp2_with fail
  refine (D2.out _ _ _ _ F3.out).mono ?_
  rintro e v4 ⟨rfl, F4⟩
  clear F3
  go_wp2_with fail
  refine (D3.out _ _ _ _ F4.out).mono ?_
  rintro e v5 ⟨rfl, F5⟩
  clear F4
  go_wp2_with fail
  refine (D4.out _ _ _ _ F5.out).mono ?_
  rintro e v6 ⟨rfl, F6⟩
  go_wp2
  go_ret
  have h : bb.wd.grownBy v6 none := F6.out.grow
  rw [HB.out] at h
  exact ⟨rfl, gb_trans G.out h⟩

@[go_sem] theorem eqEv (a0 a1 a2 a3 a4 a5 a6 b0 b1 b2 b3 b4 b5 b6 : Int) (w : World) : (Op.equalIn 10000 139 (.agg #[.int .i64 a0, .int .i64 a1, .int .i64 a2, .int .i64 a3, .int .i64 a4, .int .i64 a5, .int .i64 a6]) (.agg #[.int .i64 b0, .int .i64 b1, .int .i64 b2, .int .i64 b3, .int .i64 b4, .int .i64 b5, .int .i64 b6])).run Try.prog w = .ok (a0 == b0 && a1 == b1 && a2 == b2 && a3 == b3 && a4 == b4 && a5 == b5 && a6 == b6) w := by
  have u3 := Try.underlying3
  have ag3 := Try.isAgg3
  have z3 := Try.sizeOf3
  have u2 := Try.underlying2
  have ag2 := Try.isAgg2
  have z2 := Try.sizeOf2
  rw [show (10000 : Nat) = 9999 + 1 from rfl, run_equalIn_struct _ _ _ _ _ (by kernel_rfl) (by kernel_rfl)]
  simp only [Program.fieldsOf, Try.underlying139]
  go_simp
  have step : ∀ (a b : Int) (X : Result Bool) (Y : Bool), X = .ok Y w → (if a = b then X else .ok false w) = .ok (a == b && Y) w := by
    intro a b X Y h
    by_cases e : a = b
    · simp [e, h]
    · simp [e]
  have last : ∀ (a b : Int), (if a = b then (Result.ok true w : Result Bool) else .ok false w) = .ok (a == b) w := by
    intro a b
    by_cases e : a = b <;> simp [e]
  simp only [Bool.and_assoc]
  iterate 6 refine step _ _ _ _ ?_
  exact last _ _

end Go.Proofs.Ytnaagcofgnmmlaa.fl
