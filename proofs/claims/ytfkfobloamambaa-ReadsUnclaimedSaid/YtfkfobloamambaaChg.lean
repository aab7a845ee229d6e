/- The contracts of package reads: Add, Put. -/
import Derived.Test.YtfkfobloamambaaSet
import Derived.Deep.RegionHeld3
namespace Go.Proofs.Ytfkfobloamambaa.rd
open Go Go.RowKit Go.Proofs.Ytfkfobloamambaa.base Go.Proofs.Ytfkfobloamambaa.lg
set_option linter.unusedVariables false

theorem add_nil (x : Rd) (w : World) : Calls Try.prog 10 #[.pointer none, .agg #[.int .i64 x.o, .int .i64 x.n, .int .i64 x.v]] w fun e w' => e = .returned (.int .i64 6) ∧ Hid (w.grownBy w' none) := by
  go_enter Try.func10, Try.ntmps10
  go_wp2
  go_ret
  exact ⟨rfl, gb_alloc (gb_refl _ _) _⟩

theorem add_has (w0 : World) (R : Blks) (s : Nat) (l : List Rd) (m : List Ow) (x : Rd) (k : Nat) (w : World) (h : Has (SA s l m) w0 w R) (hm : l.length ≤ 1000000) (hk : pl Rd.o x.o l = some k) :
    Calls Try.prog 10 #[.pointer (some ⟨s, 0, none⟩), .agg #[.int .i64 x.o, .int .i64 x.n, .int .i64 x.v]] w fun e w' => e = .returned (.int .i64 7) ∧ Hid (w.grownBy w' none) := by
  have H := Lib.hid h
  have F := Lib.hid (fun u hu => hasR w0 R s l m x.o _ true u hu hm rfl (by rw [hk]; rfl))
  generalize gt Rz Rd.o x.o l = y at F
  clear h hk
  go_enter Try.func10, Try.ntmps10
  go_wp2_with fail
  refine (F.out _ (H.out.skip _)).mono ?_
  rintro e u ⟨rfl, g⟩
  have G := Lib.hid (gb_trans (gb_alloc (gb_refl _ _) (.cells ⟨[.int .i64 x.o, .int .i64 x.n, .int .i64 x.v]⟩ 40)) g.out)
  clear g
  go_wp2
  go_ret
  exact ⟨rfl, gb_alloc G.out _⟩

set_option maxHeartbeats 1000000 in
theorem add_new (w0 : World) (R : Blks) (s : Nat) (l : List Rd) (m : List Ow) (x : Rd) (w : World) (h : Has (SA s l m) w0 w R) (hm : l.length < 1000000) (hk : pl Rd.o x.o l = none) :
    Calls Try.prog 10 #[.pointer (some ⟨s, 0, none⟩), .agg #[.int .i64 x.o, .int .i64 x.n, .int .i64 x.v]] w fun e w' => e = .returned (.int .i64 0) ∧ Hid (Has (SA s (l ++ [x]) m) w0 w' R) := by
  have H := Lib.hid h
  have F := Lib.hid (fun u hu => hasR w0 R s l m x.o Rz false u hu (by omega) (gt_none hk).symm (by rw [hk]; rfl))
  obtain ⟨i0, hi0, hz00, hz10, hz20⟩ := info_parts infoR
  have hi := Lib.hid hi0
  have hz0 := Lib.hid hz00
  have hz1 := Lib.hid hz10
  have hz2 := Lib.hid hz20
  clear h hk hi0 hz00 hz10 hz20
  go_enter Try.func10, Try.ntmps10
  go_wp2_with fail
  refine (F.out _ (H.out.skip _)).mono ?_
  rintro e u ⟨rfl, g⟩
  have H2 := Lib.hid ((H.out.alloc 40 [.int .i64 x.o, .int .i64 x.n, .int .i64 x.v]).grown g.out)
  have hpu : w.heap.size < u.heap.size := H2.out.lt 0 rfl
  clear g H
  generalize w.heap.size = p at *
  go_upto_region 6 with fail
  have H3 := Lib.hid (H2.out.alloc 40 [.int .i64 Rz.o, .int .i64 Rz.n, .int .i64 Rz.v])
  generalize u.alloc _ = v at *
  clear H2
  obtain ⟨V, U, L, M, h1, h2, o3⟩ := SetS.openR H3.out
  obtain ⟨ao, cap, rfl⟩ := h1.slice
  have ho := Lib.hid (h1.owns rlen o3)
  have h1 := Lib.hid h1
  have h2 := Lib.hid h2
  have O3 := Lib.hid o3
  have O3' := Lib.hid (Own.mid.2 o3)
  clear o3
  have c0 := O3'.out.cell 0 0 rfl rfl
  have x0 := H3.out.cell 1 0 rfl rfl; have x1 := H3.out.cell 1 1 rfl rfl; have x2 := H3.out.cell 1 2 rfl rfl
  have hsv := O3'.out.lt 0 rfl
  have hvs := H3.out.size
  have hpv := H3.out.lt 1 rfl
  go_wp2_with fail
  go_region_law (refine step_append_at rfl (.tmp 21) (.tmp 23) 63 rfl w0.heap.size 40 i0 (.agg #[.int .i64 0, .int .i64 0, .int .i64 0]) 3 24 Try.underlying63 hi.out hz0.out hz1.out hz2.out rfl (by decide) (.slice ao l.length cap) l.length (rows Rd.cells l) (by simp [Act.eval]) ((ho.out.alloc _).drew) ⟨v.heap.size, 0, none⟩ 1 1 [.int .i64 x.o, .int .i64 x.n, .int .i64 x.v] (by simp [Act.eval]) rfl (new_cells v.drew _ _) (rone x) (by unfold maxLen; omega) (by omega) (by simp; omega) (by decide) ?_; intro g' c' w1 ho1 hg1 hv1; obtain ⟨L', hr, o4⟩ := Row.snoc (x := x) h1.out O3.out (by repeat (first | exact gb_refl _ _ | refine gb_drewN ?_ _ | refine gb_drew ?_ | refine gb_alloc ?_ _)) ho1 hg1 hv1; have c2 := (Own.mid.2 o4).cell 0 0 rfl rfl; have f2 := (Own.mid.2 o4).free 0 0 rfl; have HR := Lib.hid hr; have O4 := Lib.hid o4; clear ho1 hg1 hv1 hr o4)
  all_goals
    go_wp2
    go_ret
    have X := SetS.putR HR.out h2.out O4.out
    exact ⟨rfl, X.drop (two_less _ _ _)⟩

theorem put_nil (x : Ow) (w : World) : Calls Try.prog 13 #[.pointer none, .agg #[.int .i64 x.o, .int .i64 x.c, .int .i64 x.n, .int .i64 x.v, .bool x.b]] w fun e w' => e = .returned (.tuple #[]) ∧ Hid (w.grownBy w' none) := by
  go_enter Try.func13, Try.ntmps13
  go_wp2
  (first | go_end0 | refine bodyPost_ret (results_none rfl _ _ _) rfl ?_)
  exact ⟨rfl, gb_alloc (gb_refl _ _) _⟩

set_option maxHeartbeats 1000000 in
theorem put_new (w0 : World) (R : Blks) (s : Nat) (l : List Rd) (m : List Ow) (x : Ow) (w : World) (h : Has (SA s l m) w0 w R) (hm : m.length < 1000000) (hk : pl Ow.o x.o m = none) :
    Calls Try.prog 13 #[.pointer (some ⟨s, 0, none⟩), .agg #[.int .i64 x.o, .int .i64 x.c, .int .i64 x.n, .int .i64 x.v, .bool x.b]] w fun e w' => e = .returned (.tuple #[]) ∧ Hid (Has (SA s l (m ++ [x])) w0 w' R) := by
  have H := Lib.hid (h.alloc 44 [.int .i64 x.o, .int .i64 x.c, .int .i64 x.n, .int .i64 x.v, .bool x.b])
  obtain ⟨i0, hi0, hz00, hz10, hz20⟩ := info_parts infoO
  have hi := Lib.hid hi0
  have hz0 := Lib.hid hz00
  have hz1 := Lib.hid hz10
  have hz2 := Lib.hid hz20
  clear h hi0 hz00 hz10 hz20
  go_enter Try.func13, Try.ntmps13
  go_upto_region 2 with fail
  generalize w.alloc _ = v at *
  generalize w.heap.size = p at *
  obtain ⟨_, _, a1, ca1, _, c1, _, i1⟩ := SetS.read H.out
  have F := Lib.hid (fun u hu => placeO a1 m.length ca1 m x.o u hu rfl (by omega))
  rw [hk] at F
  have I := Lib.hid i1
  clear i1
  have x0 := H.out.cell 0 0 rfl rfl; have x1 := H.out.cell 0 1 rfl rfl; have x2 := H.out.cell 0 2 rfl rfl; have x3 := H.out.cell 0 3 rfl rfl; have x4 := H.out.cell 0 4 rfl rfl
  go_region_held3 (fun w' => w'.cell? ⟨s, 1, none⟩ = some (.slice a1 m.length ca1) ∧ w'.cell? ⟨p, 0, none⟩ = some (.int .i64 x.o)) (go_keep) ((go_at_call 28; refine (F.out _ (I.out.grown (by repeat (first | exact gb_refl _ _ | refine gb_drewN ?_ _ | refine gb_drew ?_ | refine gb_alloc ?_ _)))).mono ?_; rintro e u ⟨rfl, g⟩; have d1 := g.out.cell c1 (by simp); have y0 := g.out.cell x0 (by simp); have H2 := Lib.hid ((H.out.grown (by repeat (first | exact gb_refl _ _ | refine gb_drewN ?_ _ | refine gb_drew ?_ | refine gb_alloc ?_ _))).grown g.out)))
  simp only [pv]
  clear g y0 F I c1 x0 x1 x2 x3 x4 H
  go_upto_region 4 with fail
  obtain ⟨V, U, L, M, h1, h2, o3⟩ := SetS.openO H2.out
  obtain ⟨ao, cap, rfl⟩ := h2.slice
  have ho := Lib.hid (h2.owns olen o3)
  have h1 := Lib.hid h1
  have h2 := Lib.hid h2
  have O3 := Lib.hid o3
  have O3' := Lib.hid (Own.mid.2 o3)
  clear o3
  have c1 := O3'.out.cell 0 1 rfl rfl
  obtain ⟨rfl, rfl⟩ : ao = a1 ∧ cap = ca1 := by simpa using c1.symm.trans d1
  clear d1
  have x0 := H2.out.cell 0 0 rfl rfl; have x1 := H2.out.cell 0 1 rfl rfl; have x2 := H2.out.cell 0 2 rfl rfl; have x3 := H2.out.cell 0 3 rfl rfl; have x4 := H2.out.cell 0 4 rfl rfl
  have hsv := O3'.out.lt 0 rfl
  have hvs := H2.out.size
  have hpv := H2.out.lt 0 rfl
  go_region_law (refine step_append_at rfl (.tmp 20) (.tmp 22) 64 rfl w0.heap.size 44 i0 (.agg #[.int .i64 0, .int .i64 0, .int .i64 0, .int .i64 0, .bool false]) 5 40 Try.underlying64 hi.out hz0.out hz1.out hz2.out rfl (by decide) (.slice ao m.length cap) m.length (rows Ow.cells m) (by simp [Act.eval]) ((ho.out.alloc _).drew) ⟨u.heap.size, 0, none⟩ 1 1 [.int .i64 x.o, .int .i64 x.c, .int .i64 x.n, .int .i64 x.v, .bool x.b] (by simp [Act.eval]) rfl (new_cells u.drew _ _) (oone x) (by unfold maxLen; omega) (by omega) (by simp; omega) (by decide) ?_; intro g' c' w1 ho1 hg1 hv1; obtain ⟨M', hr, o4⟩ := Row.snoc (x := x) h2.out O3.out (by repeat (first | exact gb_refl _ _ | refine gb_drewN ?_ _ | refine gb_drew ?_ | refine gb_alloc ?_ _)) ho1 hg1 hv1; have c2 := (Own.mid.2 o4).cell 0 1 rfl rfl; have f2 := (Own.mid.2 o4).free 0 1 rfl; have HR := Lib.hid hr; have O4 := Lib.hid o4; clear ho1 hg1 hv1 hr o4)
  all_goals
    go_wp2
    (first | go_end0 | refine bodyPost_ret (results_none rfl _ _ _) rfl ?_)
    have X := SetS.putO h1.out HR.out O4.out
    exact ⟨rfl, X.drop (one_less _ _)⟩

set_option maxHeartbeats 1000000 in
theorem put_in (w0 : World) (R : Blks) (s : Nat) (l : List Rd) (m : List Ow) (x : Ow) (k : Nat) (w : World) (h : Has (SA s l m) w0 w R) (hm : m.length ≤ 1000000) (hk : pl Ow.o x.o m = some k) (hkm : k < m.length) :
    Calls Try.prog 13 #[.pointer (some ⟨s, 0, none⟩), .agg #[.int .i64 x.o, .int .i64 x.c, .int .i64 x.n, .int .i64 x.v, .bool x.b]] w fun e w' => e = .returned (.tuple #[]) ∧ Hid (Has (SA s l (m.set k x)) w0 w' R) := by
  have H := Lib.hid (h.alloc 44 [.int .i64 x.o, .int .i64 x.c, .int .i64 x.n, .int .i64 x.v, .bool x.b])
  have hkm' : (k : Int) < (m.length : Int) := by omega
  have h0 : ((k : Int) == -1) = false := by first | (simp; done) | (simp; omega)
  have K := Lib.hid hkm
  clear h hkm
  go_enter Try.func13, Try.ntmps13
  go_upto_region 2 with fail
  generalize w.alloc _ = v at *
  generalize w.heap.size = p at *
  obtain ⟨_, _, a1, ca1, _, c1, _, i1⟩ := SetS.read H.out
  have F := Lib.hid (fun u hu => placeO a1 m.length ca1 m x.o u hu rfl (by omega))
  rw [hk] at F
  have I := Lib.hid i1
  clear i1 hk
  have x0 := H.out.cell 0 0 rfl rfl; have x1 := H.out.cell 0 1 rfl rfl; have x2 := H.out.cell 0 2 rfl rfl; have x3 := H.out.cell 0 3 rfl rfl; have x4 := H.out.cell 0 4 rfl rfl
  go_region_held3 (fun w' => w'.cell? ⟨s, 1, none⟩ = some (.slice a1 m.length ca1) ∧ w'.cell? ⟨p, 0, none⟩ = some (.int .i64 x.o)) (go_keep) ((go_at_call 28; refine (F.out _ (I.out.grown (by repeat (first | exact gb_refl _ _ | refine gb_drewN ?_ _ | refine gb_drew ?_ | refine gb_alloc ?_ _)))).mono ?_; rintro e u ⟨rfl, g⟩; have d1 := g.out.cell c1 (by simp); have y0 := g.out.cell x0 (by simp); have H2 := Lib.hid ((H.out.grown (by repeat (first | exact gb_refl _ _ | refine gb_drewN ?_ _ | refine gb_drew ?_ | refine gb_alloc ?_ _))).grown g.out)))
  simp only [pv]
  clear g y0 F I c1 x0 x1 x2 x3 x4 H
  go_upto_region 5 with fail
  obtain ⟨V, U, L, M, h1, h2, o3⟩ := SetS.openO H2.out
  obtain ⟨g1, cap, rfl⟩ := h2.some (by have := K.out; omega)
  obtain ⟨y, hy⟩ : ∃ y, m[k]? = some y := ⟨_, List.getElem?_eq_getElem K.out⟩
  obtain ⟨b1, off1, e1, hb1, z0, z1, z2, z3, z4⟩ := at5 (IsL.of_own (h2.owns olen o3) olen rfl) hy
  cases e1
  simp only [Nat.zero_add] at z0 z1 z2 z3 z4
  have hf : ∀ j, u.frozen? ⟨g1, j, none⟩ = false := by
    obtain ⟨cur, hb, _⟩ := h2.open o3
    exact fun j => hb.free j
  have f0 := hf (k * 5); have f1 := hf (k * 5 + 1); have f2 := hf (k * 5 + 2); have f3 := hf (k * 5 + 3); have f4 := hf (k * 5 + 4)
  obtain ⟨M', hr, o4⟩ := set5 x h2 o3 K.out
  have HR := Lib.hid hr
  have O4 := Lib.hid o4
  have h1 := Lib.hid h1
  have O3' := Lib.hid (Own.mid.2 o3)
  clear o3 o4 hr hf hy h2
  have c1 := O3'.out.cell 0 1 rfl rfl
  obtain ⟨rfl, rfl⟩ : a1 = some ⟨g1, 0, none⟩ ∧ ca1 = cap := by simpa using d1.symm.trans c1
  clear d1
  have x0 := H2.out.cell 0 0 rfl rfl; have x1 := H2.out.cell 0 1 rfl rfl; have x2 := H2.out.cell 0 2 rfl rfl; have x3 := H2.out.cell 0 3 rfl rfl; have x4 := H2.out.cell 0 4 rfl rfl
  go_region
  go_wp2
  (first | go_end0 | refine bodyPost_ret (results_none rfl _ _ _) rfl ?_)
  exact ⟨rfl, ((SetS.closeO h1.out HR.out O4.out).drop (one_less _ _)).drew⟩

end Go.Proofs.Ytfkfobloamambaa.rd
