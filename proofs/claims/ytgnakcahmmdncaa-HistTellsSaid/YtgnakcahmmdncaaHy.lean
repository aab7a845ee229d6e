/- The document's own answer of chapter 17: Tries. -/
import Derived.Test.YtgnakcahmmdncaaHz6
import Derived.Test.YtgnakcahmmdncaaHz2
import Derived.Test.YtgnakcahmmdncaaHz33
namespace Go.Proofs.Ytgnakcahmmdncaa.hs
open Go Go.RowKit Go.Proofs.Ytgnakcahmmdncaa.base Go.Maps
set_option linter.unusedVariables false
set_option maxRecDepth 100000

set_option maxHeartbeats 4000000 in
theorem tries_doc (a : Option Addr) (len cap : Nat) (e : Evs) (w : World) (hl : IsEvs w a len e) (hr : right e len = true) (hlen : len ≤ 10000) :
    Calls Try.prog 14 #[.slice a len cap] w fun r w' => ∃ a' c ys, r = .returned (.slice a' ys.length c) ∧ Hid (TsAt w' a' ys) ∧ Hid (ys.map Prod.fst = tries e len) ∧ Hid (w.grownBy w' none) := by
  have HL := Lib.hid hl
  have HR := Lib.hid hr
  have HLEN := Lib.hid hlen
  clear hl hr hlen
  go_enter Try.func14, Try.ntmps14
  go_wp2_with fail
  go_loopw [3, 4] (fun ov iv wr => ∃ (i : Nat) (ys : List (Tr × Value)) (L : Blks), i ≤ len ∧ iv = .int .i64 i ∧ Hid (Row tvC 9 32 ys ov L) ∧ Hid (base.Own w wr L) ∧ Hid (ys.map Prod.fst = (begins e i).map fun b => trAt e b len) ∧ Hid (∀ x ∈ ys, wr.ownsRow 0 59 6 x.2 x.1.ac.length (rows accC x.1.ac))) (fun _ iv _ => (len - intOf iv).toNat)
  case atStart => exact ⟨0, [], [], by omega, rfl, Row.nil, base.Own.start w, rfl, fun x hx => by simp at hx⟩
  case round =>
    obtain ⟨i, ys, L, hi1, rfl, HROW, HO, HYS, HAC⟩ := hrel
    obtain ⟨oa, oc, rfl⟩ := HROW.out.slice
    by_cases hlt : i < len
    · obtain ⟨eb, off, rfl, heb, fe0⟩ := evsAt (HL.out.grown HO.out.grow) (show 0 < len by omega)
      obtain ⟨c0, c1, c2, c3, c4, c5, c6⟩ := fe0 i hlt
      clear fe0
      have hlt' : (i : Int) < (len : Int) := by omega
      have hil : (i : Int) < 1000000 := by have := HLEN.out; omega
      by_cases h1 : (e i).k = 1
      · have f1 : ((e i).k != 1) = false := by simp [h1]
        have W1 := Lib.hid h1
        clear h1
        have HL0 := Lib.hid (HL.out.grown HO.out.grow)
        have hyl : ys.length ≤ 10000 := by
          have h9 := congrArg List.length HYS.out
          rw [List.length_map, List.length_map] at h9
          have h8 := begins_n e i
          have h7 := HLEN.out
          omega
        obtain ⟨u0, hu0⟩ : ∃ u0, u0 = wr := ⟨_, rfl⟩
        subst hu0
        go_upto_region 6 with fail
        refine wp_pcs (c' := pcs Try.f14 [1, 1, 0, 1, 0, 0, 1, 0, 0, 1, 0]) (by kernel_rfl) ?_
        refine piece6 u0 eb off len cap e i HL0.out hlt HLEN.out ?_
        refine Lib.hid ?_
        intro _ _ _ _ _ _ _ _ _ _ _ _ _ _ _ _ _ _ _ _ _ _
        dsimp only
        have OT := Lib.hid (((base.Own.start u0).alloc 32 [.int .i64 ((e i).th), .int .i64 ((e i).tx), .int .i64 ((e i).at_), .int .i64 ((e i).va), .int .i64 i, .int .i64 (-1), .int .i64 0, .bool false, .slice none 0 0]).drew)
        generalize (u0.alloc _).drew = u1 at *
        generalize hbt : u0.heap.size = bt at OT
        clear hbt c0 c1 c2 c3 c4 c5 c6
        go_wp2
        refine wp_pcs (c' := pcs Try.f14 [1, 1, 0, 1, 0, 0, 1, 0, 0, 1, 1, 0, 1, 0]) (by kernel_rfl) ?_
        refine piece2 _ u0 eb off len cap e i bt HL0.out HR.out hlt W1.out HLEN.out OT ?_
        intro _ _ _ _ _ _ _ _ _ _ _ _ _ _ _ _ _ _ _ _ _ _ _ _ _ _ _ _ _ _ _ _ _ _ _ _ _ _ _ _ _ _ _ _ _ _ _ _ _ _ _ _ _ _ _ _ _ _ _ _ _ _ _ _ _ _ _ _ _ _ _ _ _ _ _ _ _ _ _ _ _ _ _ _ _ _ _ _ _ _ _ _ _ _ _ _ _ _ _ _ _ _ _ _ _ _ _ _ _ _ _ _ _ _ _ _ _ _ _ _ _ _ _ _ _ v L2 w2 R2 O2
        dsimp only
        go_upto_region 33 with fail
        refine wp_pcs (c' := pcs Try.f14 [1, 1, 0, 1, 0, 0, 1, 0, 0, 1, 1, 1]) (by kernel_rfl) ?_
        refine piece33 _ w u0 bt ys (trAt e i len) v oa oc L L2 hyl O2.out.grow HROW HO HAC R2 O2 ?_
        intro _ _ _ _ g' c' L' w3 R3 O3 A3
        dsimp only
        go_wp2
        go_roundw
        case rel => exact ⟨i + 1, ys ++ [(trAt e i len, v)], L', by omega, by go_num, R3, O3, by (rw [begins_succ, if_pos W1.out, List.map_append, List.map_append, HYS.out]; show _ = _; simp), A3⟩
        case measure => simp [intOf] <;> omega
      · have f1 : ((e i).k != 1) = true := by simp [h1]
        have HB := Lib.hid (show begins e (i + 1) = begins e i by rw [begins_succ, if_neg h1])
        clear h1
        go_wp2
        go_roundw
        case rel => exact ⟨i + 1, ys, L, by omega, by go_num, HROW, HO, by rw [HB.out]; exact HYS, HAC⟩
        case measure => simp [intOf] <;> omega
    · obtain rfl : i = len := by omega
      go_wp2
      go_ret
      obtain ⟨a', c', hv, HT⟩ := TsAt.of_row HROW.out (R := []) (by rw [List.append_nil]; exact HO.out) (fun x hx => isL_owns (HAC.out x hx))
      cases hv
      exact ⟨_, _, ys, rfl, HT, HYS.out, HO.out.grow⟩
end Go.Proofs.Ytgnakcahmmdncaa.hs
