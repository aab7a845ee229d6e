/- The law's own: is a try the document's; are all? -/
import Derived.Test.YtgnakcahmmdncaaHx
import Derived.Laws.StructEq
import Derived.Laws.Tables
import Derived.Deep.RegionHeld3
import Derived.Deep.CutRange
import Derived.BigRegion
namespace Go.Proofs.Ytgnakcahmmdncaa.hs
open Go Go.RowKit Go.Proofs.Ytgnakcahmmdncaa.base Go.Maps
set_option linter.unusedVariables false
set_option maxRecDepth 100000

@[go_sem] theorem eqAcc (a0 a1 a2 a3 : Int) (a4 a5 : Bool) (w : World) : (Op.equalIn 10000 46 (.agg #[.int .i64 a0, .int .i64 a1, .int .i64 a2, .int .i64 a3, .bool a4, .bool a5]) (.agg #[.int .i64 a0, .int .i64 a1, .int .i64 a2, .int .i64 a3, .bool a4, .bool a5])).run Try.prog w = .ok true w := by
  have u3 := Try.underlying3
  have ag3 := Try.isAgg3
  have z3 := Try.sizeOf3
  have u2 := Try.underlying2
  have ag2 := Try.isAgg2
  have z2 := Try.sizeOf2
  have u4 := Try.underlying4
  have ag4 := Try.isAgg4
  have z4 := Try.sizeOf4
  rw [show (10000 : Nat) = 9999 + 1 from rfl, run_equalIn_struct _ _ _ _ _ (by kernel_rfl) (by kernel_rfl)]
  simp only [Program.fieldsOf, Try.underlying46]
  go_simp

set_option maxHeartbeats 4000000 in
theorem same_any (w : World) (t : Tr) (va vb : Option Addr) (vc vd : Nat) (ha : IsL accC w va t.ac) (hb : IsL accC w vb t.ac) (hn : t.ac.length ≤ 100000) :
    Calls Try.prog 29 #[.agg #[.int .i64 t.th, .int .i64 t.tx, .int .i64 t.at_, .int .i64 t.st, .int .i64 t.b, .int .i64 t.en, .int .i64 t.re, .bool t.co, .slice va t.ac.length vc], .agg #[.int .i64 t.th, .int .i64 t.tx, .int .i64 t.at_, .int .i64 t.st, .int .i64 t.b, .int .i64 t.en, .int .i64 t.re, .bool t.co, .slice vb t.ac.length vd]] w fun r w' => r = .returned (.bool true) ∧ Hid (w.grownBy w' none) := by
  have HA := Lib.hid ha
  have HB := Lib.hid hb
  have hn2 : (t.ac.length : Int) ≤ 100000 := by omega
  clear ha hb
  obtain ⟨xth, xtx, xat, xst, xb, xen, xre, xco, xac⟩ := t
  dsimp only at *
  have O0 := Lib.hid (((base.Own.start w).alloc 41 [.int .i64 xth, .int .i64 xtx, .int .i64 xat, .int .i64 xst, .int .i64 xb, .int .i64 xen, .int .i64 xre, .bool xco, .slice va xac.length vc]).alloc 32 [.int .i64 xth, .int .i64 xtx, .int .i64 xat, .int .i64 xst, .int .i64 xb, .int .i64 xen, .int .i64 xre, .bool xco, .slice vb xac.length vd])
  go_enter Try.func29, Try.ntmps29
  go_upto_region 1 with fail
  simp only [size_alloc] at O0
  generalize (w.alloc _).alloc _ = v at *
  generalize hB1 : w.heap.size + 1 = B1 at *
  generalize hB0 : w.heap.size = B0 at O0
  clear hB1 hB0
  have x0 := O0.out.cell 0 0 rfl rfl; have x1 := O0.out.cell 0 1 rfl rfl; have x2 := O0.out.cell 0 2 rfl rfl; have x3 := O0.out.cell 0 3 rfl rfl; have x4 := O0.out.cell 0 4 rfl rfl; have x5 := O0.out.cell 0 5 rfl rfl; have x6 := O0.out.cell 0 6 rfl rfl; have x7 := O0.out.cell 0 7 rfl rfl; have x8 := O0.out.cell 0 8 rfl rfl; have y0 := O0.out.cell 1 0 rfl rfl; have y1 := O0.out.cell 1 1 rfl rfl; have y2 := O0.out.cell 1 2 rfl rfl; have y3 := O0.out.cell 1 3 rfl rfl; have y4 := O0.out.cell 1 4 rfl rfl; have y5 := O0.out.cell 1 5 rfl rfl; have y6 := O0.out.cell 1 6 rfl rfl; have y7 := O0.out.cell 1 7 rfl rfl; have y8 := O0.out.cell 1 8 rfl rfl
  go_wp2
  go_loopw [5] (fun iv wr => ∃ k : Nat, k ≤ xac.length ∧ iv = .int .i64 k ∧ Hid (base.Own w wr [(B1, 32, [.int .i64 xth, .int .i64 xtx, .int .i64 xat, .int .i64 xst, .int .i64 xb, .int .i64 xen, .int .i64 xre, .bool xco, .slice vb xac.length vd]), (B0, 41, [.int .i64 xth, .int .i64 xtx, .int .i64 xat, .int .i64 xst, .int .i64 xb, .int .i64 xen, .int .i64 xre, .bool xco, .slice va xac.length vc])])) (fun iv _ => (xac.length - intOf iv).toNat)
  case atStart => exact ⟨0, by omega, rfl, O0⟩
  case round =>
    clear x0 x1 x2 x3 x4 x5 x6 x7 x8 y0 y1 y2 y3 y4 y5 y6 y7 y8
    obtain ⟨k, hk, rfl, O⟩ := hrel
    have x0 := O.out.cell 0 0 rfl rfl; have x1 := O.out.cell 0 1 rfl rfl; have x2 := O.out.cell 0 2 rfl rfl; have x3 := O.out.cell 0 3 rfl rfl; have x4 := O.out.cell 0 4 rfl rfl; have x5 := O.out.cell 0 5 rfl rfl; have x6 := O.out.cell 0 6 rfl rfl; have x7 := O.out.cell 0 7 rfl rfl; have x8 := O.out.cell 0 8 rfl rfl; have y0 := O.out.cell 1 0 rfl rfl; have y1 := O.out.cell 1 1 rfl rfl; have y2 := O.out.cell 1 2 rfl rfl; have y3 := O.out.cell 1 3 rfl rfl; have y4 := O.out.cell 1 4 rfl rfl; have y5 := O.out.cell 1 5 rfl rfl; have y6 := O.out.cell 1 6 rfl rfl; have y7 := O.out.cell 1 7 rfl rfl; have y8 := O.out.cell 1 8 rfl rfl
    by_cases hlt : k < xac.length
    · have hlt' : (k : Int) < (xac.length : Int) := by omega
      have hk6 : (k : Int) < 1000000 := by omega
      obtain ⟨ga, oa, rfl, hga, d0, d1, d2, d3, d4, d5⟩ := accAt (HA.out.grown O.out.grow) (List.getElem?_eq_getElem hlt)
      obtain ⟨gb, ob, rfl, hgb, e0, e1, e2, e3, e4, e5⟩ := accAt (HB.out.grown O.out.grow) (List.getElem?_eq_getElem hlt)
      generalize xac[k] = X at *
      obtain ⟨apl, ak, aob, ava, aown, arel⟩ := X
      dsimp only at d0 d1 d2 d3 d4 d5 e0 e1 e2 e3 e4 e5
      have hb0 := O.out.lt 0 rfl
      have hb1 := O.out.lt 1 rfl
      go_wp2_with fail
      refine wp_region_noPanic ?_
      go_region
      · refine NoPanic.normal ?_
        have O1 := Lib.hid (((O.out.alloc 46 [.int .i64 apl, .int .i64 ak, .int .i64 aob, .int .i64 ava, .bool aown, .bool arel]).alloc 59 [.int .i64 apl, .int .i64 ak, .int .i64 aob, .int .i64 ava, .bool aown, .bool arel]).drew)
        simp only [size_alloc] at O1
        generalize ((wr.alloc _).alloc _).drew = v1 at *
        generalize hq1 : wr.heap.size + 1 = q1 at *
        generalize hq0 : wr.heap.size = q0 at *
        clear hq1 hq0 hb0 hb1 hga hgb d0 d1 d2 d3 d4 d5 e0 e1 e2 e3 e4 e5 x0 x1 x2 x3 x4 x5 x6 x7 x8 y0 y1 y2 y3 y4 y5 y6 y7 y8
        have z0 := O1.out.cell 0 0 rfl rfl; have z1 := O1.out.cell 0 1 rfl rfl; have z2 := O1.out.cell 0 2 rfl rfl; have z3 := O1.out.cell 0 3 rfl rfl; have z4 := O1.out.cell 0 4 rfl rfl; have z5 := O1.out.cell 0 5 rfl rfl; have s0 := O1.out.cell 1 0 rfl rfl; have s1 := O1.out.cell 1 1 rfl rfl; have s2 := O1.out.cell 1 2 rfl rfl; have s3 := O1.out.cell 1 3 rfl rfl; have s4 := O1.out.cell 1 4 rfl rfl; have s5 := O1.out.cell 1 5 rfl rfl
        go_wp2
        go_roundw
        case rel => exact ⟨k + 1, by omega, by go_num, O1.out.drop (List.Sublist.cons _ (List.Sublist.cons _ (List.Sublist.refl _)))⟩
        case measure => simp [intOf] <;> omega
      · refine NoPanic.normal ?_
        have O1 := Lib.hid (((O.out.alloc 59 [.int .i64 apl, .int .i64 ak, .int .i64 aob, .int .i64 ava, .bool aown, .bool arel]).alloc 46 [.int .i64 apl, .int .i64 ak, .int .i64 aob, .int .i64 ava, .bool aown, .bool arel]).drew)
        simp only [size_alloc] at O1
        generalize ((wr.alloc _).alloc _).drew = v1 at *
        generalize hq1 : wr.heap.size + 1 = q1 at *
        generalize hq0 : wr.heap.size = q0 at *
        clear hq1 hq0 hb0 hb1 hga hgb d0 d1 d2 d3 d4 d5 e0 e1 e2 e3 e4 e5 x0 x1 x2 x3 x4 x5 x6 x7 x8 y0 y1 y2 y3 y4 y5 y6 y7 y8
        have z0 := O1.out.cell 0 0 rfl rfl; have z1 := O1.out.cell 0 1 rfl rfl; have z2 := O1.out.cell 0 2 rfl rfl; have z3 := O1.out.cell 0 3 rfl rfl; have z4 := O1.out.cell 0 4 rfl rfl; have z5 := O1.out.cell 0 5 rfl rfl; have s0 := O1.out.cell 1 0 rfl rfl; have s1 := O1.out.cell 1 1 rfl rfl; have s2 := O1.out.cell 1 2 rfl rfl; have s3 := O1.out.cell 1 3 rfl rfl; have s4 := O1.out.cell 1 4 rfl rfl; have s5 := O1.out.cell 1 5 rfl rfl
        go_wp2
        go_roundw
        case rel => exact ⟨k + 1, by omega, by go_num, O1.out.drop (List.Sublist.cons _ (List.Sublist.cons _ (List.Sublist.refl _)))⟩
        case measure => simp [intOf] <;> omega
    · obtain rfl : k = xac.length := by omega
      go_wp2
      go_ret
      exact ⟨rfl, O.out.grow⟩

/-- Two rows of tries that are the same ones. -/
theorem alike_any (w : World) (a b : Option Addr) (n c d : Nat) (ys zs : List (Tr × Value)) (ha : TsAt w a ys) (hb : TsAt w b zs) (hn : n = ys.length) (he : ys.map Prod.fst = zs.map Prod.fst) (hl : n ≤ 100000) (hac : ∀ x ∈ ys, x.1.ac.length ≤ 100000) :
    Calls Try.prog 15 #[.slice a n c, .slice b zs.length d] w fun r w' => r = .returned (.bool true) ∧ Hid (w.grownBy w' none) := by
  have hzl : zs.length = n := by
    have := congrArg List.length he
    rw [List.length_map, List.length_map] at this
    omega
  rw [hzl]
  have HA := Lib.hid ha
  have HB := Lib.hid hb
  have HN := Lib.hid hn
  have HZ := Lib.hid hzl
  have HE := Lib.hid he
  have HC := Lib.hid hac
  have hl2 : (n : Int) ≤ 100000 := by omega
  clear ha hb hn hzl he hac
  go_enter Try.func15, Try.ntmps15
  go_wp2
  go_loopw [5] (fun iv wr => ∃ k : Nat, k ≤ n ∧ iv = .int .i64 k ∧ Hid (w.grownBy wr none)) (fun iv _ => (n - intOf iv).toNat)
  case atStart => exact ⟨0, by omega, rfl, gb_refl _ _⟩
  case round =>
    obtain ⟨k, hk, rfl, G⟩ := hrel
    by_cases hlt : k < n
    · have hlt' : (k : Int) < (n : Int) := by omega
      have hk6 : (k : Int) < 1000000 := by omega
      have hy : k < ys.length := by rw [← HN.out]; exact hlt
      have hz : k < zs.length := by rw [HZ.out]; exact hlt
      obtain ⟨ga, oa, va, vc, rfl, hga, hyv, HIA, d0, d1, d2, d3, d4, d5, d6, d7, d8⟩ := (HA.out.grown G.out).at (List.getElem?_eq_getElem hy)
      obtain ⟨gb, ob, vb, vd, rfl, hgb, hzv, HIB, e0, e1, e2, e3, e4, e5, e6, e7, e8⟩ := (HB.out.grown G.out).at (List.getElem?_eq_getElem hz)
      have hyz : ys[k].1 = zs[k].1 := by
        have h1 : (ys.map Prod.fst)[k]? = some ys[k].1 := by rw [List.getElem?_map, List.getElem?_eq_getElem hy]; rfl
        have h2 : (zs.map Prod.fst)[k]? = some zs[k].1 := by rw [List.getElem?_map, List.getElem?_eq_getElem hz]; rfl
        rw [HE.out, h2] at h1
        exact (Option.some.inj h1).symm
      have hca := HC.out ys[k] (List.getElem_mem hy)
      obtain ⟨t, ht⟩ : ∃ t, t = ys[k].1 := ⟨_, rfl⟩
      rw [← hyz] at HIB e0 e1 e2 e3 e4 e5 e6 e7 e8
      rw [← ht] at HIA HIB d0 d1 d2 d3 d4 d5 d6 d7 d8 e0 e1 e2 e3 e4 e5 e6 e7 e8 hca
      clear hyz hyv hzv ht hy hz
      have SM := Lib.hid (fun u hu1 hu2 => same_any u t va vb vc vd hu1 hu2 hca)
      have HI1 := Lib.hid HIA
      have HI2 := Lib.hid HIB
      clear HIA HIB hca
      obtain ⟨xth, xtx, xat, xst, xb, xen, xre, xco, xac⟩ := t
      dsimp only at SM HI1 HI2 d0 d1 d2 d3 d4 d5 d6 d7 d8 e0 e1 e2 e3 e4 e5 e6 e7 e8
      go_wp2_with fail
      go_region_held3 (fun w' => w'.cell? ⟨ga, oa + k * 9, none⟩ = some (.int .i64 xth) ∧ w'.cell? ⟨ga, oa + k * 9 + 1, none⟩ = some (.int .i64 xtx) ∧ w'.cell? ⟨ga, oa + k * 9 + 2, none⟩ = some (.int .i64 xat) ∧ w'.cell? ⟨ga, oa + k * 9 + 3, none⟩ = some (.int .i64 xst) ∧ w'.cell? ⟨ga, oa + k * 9 + 4, none⟩ = some (.int .i64 xb) ∧ w'.cell? ⟨ga, oa + k * 9 + 5, none⟩ = some (.int .i64 xen) ∧ w'.cell? ⟨ga, oa + k * 9 + 6, none⟩ = some (.int .i64 xre) ∧ w'.cell? ⟨ga, oa + k * 9 + 7, none⟩ = some (.bool xco) ∧ w'.cell? ⟨ga, oa + k * 9 + 8, none⟩ = some (.slice va xac.length vc) ∧ w'.cell? ⟨gb, ob + k * 9, none⟩ = some (.int .i64 xth) ∧ w'.cell? ⟨gb, ob + k * 9 + 1, none⟩ = some (.int .i64 xtx) ∧ w'.cell? ⟨gb, ob + k * 9 + 2, none⟩ = some (.int .i64 xat) ∧ w'.cell? ⟨gb, ob + k * 9 + 3, none⟩ = some (.int .i64 xst) ∧ w'.cell? ⟨gb, ob + k * 9 + 4, none⟩ = some (.int .i64 xb) ∧ w'.cell? ⟨gb, ob + k * 9 + 5, none⟩ = some (.int .i64 xen) ∧ w'.cell? ⟨gb, ob + k * 9 + 6, none⟩ = some (.int .i64 xre) ∧ w'.cell? ⟨gb, ob + k * 9 + 7, none⟩ = some (.bool xco) ∧ w'.cell? ⟨gb, ob + k * 9 + 8, none⟩ = some (.slice vb xac.length vd)) (go_keep) ((go_at_call 29; refine (SM.out _ (HI1.out.grown (gb_drew (gb_refl _ _))) (HI2.out.grown (gb_drew (gb_refl _ _)))).mono ?_; rintro r u3 ⟨rfl, g3⟩; have m0 := g3.out.cell d0 (by simp); have m1 := g3.out.cell d1 (by simp); have m2 := g3.out.cell d2 (by simp); have m3 := g3.out.cell d3 (by simp); have m4 := g3.out.cell d4 (by simp); have m5 := g3.out.cell d5 (by simp); have m6 := g3.out.cell d6 (by simp); have m7 := g3.out.cell d7 (by simp); have m8 := g3.out.cell d8 (by simp); have n0 := g3.out.cell e0 (by simp); have n1 := g3.out.cell e1 (by simp); have n2 := g3.out.cell e2 (by simp); have n3 := g3.out.cell e3 (by simp); have n4 := g3.out.cell e4 (by simp); have n5 := g3.out.cell e5 (by simp); have n6 := g3.out.cell e6 (by simp); have n7 := g3.out.cell e7 (by simp); have n8 := g3.out.cell e8 (by simp)))
      go_wp2
      go_roundw
      case rel => exact ⟨k + 1, by omega, by go_num, gb_trans (gb_drew G.out) g3.out⟩
      case measure => simp [intOf] <;> omega
    · obtain rfl : k = n := by omega
      go_wp2
      go_ret
      exact ⟨rfl, G.out⟩
end Go.Proofs.Ytgnakcahmmdncaa.hs
