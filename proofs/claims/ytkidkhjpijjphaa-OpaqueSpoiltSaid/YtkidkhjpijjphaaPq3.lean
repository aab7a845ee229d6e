/- Texts of one's own, one behind the other: Mf, WkA, MapE, WkB, WkC, WkD, WkE, HtW, Hc, Mi, Rr, Ms, Mv, Mc, OpC, WkF, WkR. -/
import Derived.Test.YtkidkhjpijjphaaProg
import Derived.Test.YtkidkhjpijjphaaPq2
import Derived.Deep.QuietTactic
import Derived.Deep.RegionHeld3
import Derived.Laws.ResultCell
import Derived.Laws.Rows
import Derived.WideKeyEntry
import Derived.Deep.RegionHeldLaw
import Derived.Shelf.AbstractIn
import Derived.RangeFuncNested
import Derived.RangeFuncCalls
import Derived.RangeFuncLeaves
import Derived.Shelf.Abstract
import Derived.Shelf.RegionOpen
import Derived.OwnWalkIn
import Derived.TacticsInMore
import Derived.LoopNIn
import Derived.LoopIn
import Derived.RegionIn
import Derived.OrdersIn
import Derived.BigQuiet
import Derived.Laws.BitsAll
import Derived.Laws.BitsAllLaws
import Derived.IntWalk
import Derived.Laws.CopyRow
import Derived.Laws.MakeOwn
import Derived.Laws.ShiftsVarLaws
/- Package model's Fits: did a try read what it should? -/
namespace Go.Proofs.Ytkidkhjpijjphaa.md
open Go Go.RowKit Go.Proofs.Ytkidkhjpijjphaa.base Go.Proofs.Ytkidkhjpijjphaa.hs Go.Proofs.Ytkidkhjpijjphaa.lg Go.Maps
set_option linter.unusedVariables false
set_option maxRecDepth 100000

theorem zero64 (w : World) : (zeroValue 2).run Try.prog w = .ok (.int .i64 0) w := by kernel_rfl
def lwV (W : Int → Option Int) : Int → Option Value := fun o => (W o).map (Value.int .i64)

set_option maxHeartbeats 1000000 in
theorem tells_any (y : Acc) (a : Option Addr) (n c : Nat) (z : Nat → Int) (mb N : Nat) (W : Int → Option Int) (w : World) (hy : AccWf y) (hz : IsNums .i64 w a n z) (hm : MapG Try.prog 3 (Value.int .i64) w mb N (lwV W)) :
    Calls Try.prog 32 #[.agg ⟨accC y⟩, .slice a n c, .map (some mb)] w fun r w' => r = .returned (.bool (tellsB n z (W y.ob) y)) ∧ Hid (w.grownBy w' none) := by
  have HY := Lib.hid hy
  have HZ := Lib.hid hz
  have HM := Lib.hid hm
  clear hy hz hm
  obtain ⟨pl, k, ob, va, own, rel⟩ := y
  show Calls Try.prog 32 #[.agg #[.int .i64 pl, .int .i64 k, .int .i64 ob, .int .i64 va, .bool own, .bool rel], .slice a n c, .map (some mb)] w fun r w' => r = .returned (.bool (tellsB n z (W ob) ⟨pl, k, ob, va, own, rel⟩)) ∧ _
  cases hW : W ob with
  | some v =>
    have HW := Lib.hid hW
    clear hW
    cases own with
    | true =>
      by_cases hv : va = v
      · have f1 : (va == v) = true := by simp [hv]
        have HB := Lib.hid (show tellsB n z (some v) ⟨pl, k, ob, va, true, rel⟩ = true by simp [tellsB, hv])
        rw [HB.out]
        clear hv
        go_enter Try.func32, Try.ntmps32
        go_wp2_with (first | (at_lookup; refine wpList_look_mapG rfl _ _ 72 rfl 3 2 kInt Try.underlying72 _ (zero64 _) (Value.int .i64) mb N (lwV W) rfl (HM.out.grown (show World.grownBy w _ none from (by repeat (first | exact gb_refl _ _ | refine gb_drewN ?_ _ | refine gb_drew ?_ | refine gb_alloc ?_ _))) (by simp)) _ _ rfl (keyInt HY.out.ob) (.int .i64 v) true (by unfold lwV; rw [HW.out]; rfl) (by unfold lwV; rw [HW.out]; rfl) ?_) | go_in)
        go_ret
        exact ⟨rfl, (by repeat (first | exact gb_refl _ _ | refine gb_drewN ?_ _ | refine gb_drew ?_ | refine gb_alloc ?_ _))⟩
      · have f1 : (va == v) = false := by simp [hv]
        have HB := Lib.hid (show tellsB n z (some v) ⟨pl, k, ob, va, true, rel⟩ = false by simp [tellsB, hv])
        rw [HB.out]
        clear hv
        go_enter Try.func32, Try.ntmps32
        go_wp2_with (first | (at_lookup; refine wpList_look_mapG rfl _ _ 72 rfl 3 2 kInt Try.underlying72 _ (zero64 _) (Value.int .i64) mb N (lwV W) rfl (HM.out.grown (show World.grownBy w _ none from (by repeat (first | exact gb_refl _ _ | refine gb_drewN ?_ _ | refine gb_drew ?_ | refine gb_alloc ?_ _))) (by simp)) _ _ rfl (keyInt HY.out.ob) (.int .i64 v) true (by unfold lwV; rw [HW.out]; rfl) (by unfold lwV; rw [HW.out]; rfl) ?_) | go_in)
        go_ret
        exact ⟨rfl, (by repeat (first | exact gb_refl _ _ | refine gb_drewN ?_ _ | refine gb_drew ?_ | refine gb_alloc ?_ _))⟩
    | false =>
      have HB := Lib.hid (show tellsB n z (some v) ⟨pl, k, ob, va, false, rel⟩ = false by simp [tellsB])
      rw [HB.out]
      go_enter Try.func32, Try.ntmps32
      go_wp2_with (first | (at_lookup; refine wpList_look_mapG rfl _ _ 72 rfl 3 2 kInt Try.underlying72 _ (zero64 _) (Value.int .i64) mb N (lwV W) rfl (HM.out.grown (show World.grownBy w _ none from (by repeat (first | exact gb_refl _ _ | refine gb_drewN ?_ _ | refine gb_drew ?_ | refine gb_alloc ?_ _))) (by simp)) _ _ rfl (keyInt HY.out.ob) (.int .i64 v) true (by unfold lwV; rw [HW.out]; rfl) (by unfold lwV; rw [HW.out]; rfl) ?_) | go_in)
      go_ret
      exact ⟨rfl, (by repeat (first | exact gb_refl _ _ | refine gb_drewN ?_ _ | refine gb_drew ?_ | refine gb_alloc ?_ _))⟩
  | none =>
    have HW := Lib.hid hW
    clear hW
    cases own with
    | true =>
      have HB := Lib.hid (show tellsB n z none ⟨pl, k, ob, va, true, rel⟩ = false by simp [tellsB])
      rw [HB.out]
      go_enter Try.func32, Try.ntmps32
      go_wp2_with (first | (at_lookup; refine wpList_look_mapG rfl _ _ 72 rfl 3 2 kInt Try.underlying72 _ (zero64 _) (Value.int .i64) mb N (lwV W) rfl (HM.out.grown (show World.grownBy w _ none from (by repeat (first | exact gb_refl _ _ | refine gb_drewN ?_ _ | refine gb_drew ?_ | refine gb_alloc ?_ _))) (by simp)) _ _ rfl (keyInt HY.out.ob) (.int .i64 0) false (by unfold lwV; rw [HW.out]; rfl) (by unfold lwV; rw [HW.out]; rfl) ?_) | go_in)
      go_quiet (fail)
      go_wp2
      go_ret
      exact ⟨rfl, (by repeat (first | exact gb_refl _ _ | refine gb_drewN ?_ _ | refine gb_drew ?_ | refine gb_alloc ?_ _))⟩
    | false =>
      by_cases hin : 0 ≤ ob ∧ ob < (n : Int)
      · obtain ⟨i, rfl⟩ : ∃ i : Nat, ob = (i : Int) := ⟨ob.toNat, by omega⟩
        have hi : i < n := by omega
        have hi' : (i : Int) < (n : Int) := by omega
        have HB := Lib.hid (show tellsB n z none ⟨pl, k, i, va, false, rel⟩ = (va == z i) by simp [tellsB, hi])
        rw [HB.out]
        obtain ⟨zb, zo, rfl, hzb, cz⟩ := (HZ.out.at1 hi)
        clear hin
        generalize z i = zi at *
        go_enter Try.func32, Try.ntmps32
        go_wp2_with (first | (at_lookup; refine wpList_look_mapG rfl _ _ 72 rfl 3 2 kInt Try.underlying72 _ (zero64 _) (Value.int .i64) mb N (lwV W) rfl (HM.out.grown (show World.grownBy w _ none from (by repeat (first | exact gb_refl _ _ | refine gb_drewN ?_ _ | refine gb_drew ?_ | refine gb_alloc ?_ _))) (by simp)) _ _ rfl (keyInt HY.out.ob) (.int .i64 0) false (by unfold lwV; rw [HW.out]; rfl) (by unfold lwV; rw [HW.out]; rfl) ?_) | go_in)
        go_quiet ((go_at_call 52; refine Calls.quiet_of_same ((has_yesq _ n _ i _ hi).mono fun _ _ h => ⟨h.1, h.2⟩)))
        go_wp2
        go_ret
        exact ⟨rfl, (by repeat (first | exact gb_refl _ _ | refine gb_drewN ?_ _ | refine gb_drew ?_ | refine gb_alloc ?_ _))⟩
      · have HNO := Lib.hid (show ob < 0 ∨ (n : Int) ≤ ob by omega)
        have HB := Lib.hid (show tellsB n z none ⟨pl, k, ob, va, false, rel⟩ = false by simp [tellsB]; intro h1 h2; omega)
        rw [HB.out]
        clear hin
        go_enter Try.func32, Try.ntmps32
        go_wp2_with (first | (at_lookup; refine wpList_look_mapG rfl _ _ 72 rfl 3 2 kInt Try.underlying72 _ (zero64 _) (Value.int .i64) mb N (lwV W) rfl (HM.out.grown (show World.grownBy w _ none from (by repeat (first | exact gb_refl _ _ | refine gb_drewN ?_ _ | refine gb_drew ?_ | refine gb_alloc ?_ _))) (by simp)) _ _ rfl (keyInt HY.out.ob) (.int .i64 0) false (by unfold lwV; rw [HW.out]; rfl) (by unfold lwV; rw [HW.out]; rfl) ?_) | go_in)
        go_quiet ((go_at_call 52; refine Calls.quiet_of_same ((has_noq _ n _ ob _ HNO.out).mono fun _ _ h => ⟨h.1, h.2⟩)))
        go_wp2
        go_ret
        exact ⟨rfl, (by repeat (first | exact gb_refl _ _ | refine gb_drewN ?_ _ | refine gb_drew ?_ | refine gb_alloc ?_ _))⟩

theorem lwV_put {l : List Acc} {k : Nat} {y : Acc} (h : l[k]? = some y) (h3 : y.k = 3) : lwV (lastW (l.take (k + 1))) = upd (lwV (lastW (l.take k))) y.ob (some (.int .i64 y.va)) := by
  funext o
  unfold lwV
  rw [lastW_take h]
  by_cases e : o = y.ob
  · subst e; rw [upd_same, if_pos ⟨h3, rfl⟩]; rfl
  · rw [upd_other _ _ e, if_neg (fun h => e h.2.symm)]
theorem lwV_same {l : List Acc} {k : Nat} {y : Acc} (h : l[k]? = some y) (h3 : y.k ≠ 3) : lwV (lastW (l.take (k + 1))) = lwV (lastW (l.take k)) := by
  funext o
  unfold lwV
  rw [lastW_take h, if_neg (fun h => h3 h.1)]

set_option maxHeartbeats 2000000 in
theorem fits_any (a : Option Addr) (n c : Nat) (z : Nat → Int) (t : Tr) (av : Option Addr) (vc : Nat) (w : World) (hz : IsNums .i64 w a n z) (hl : IsL accC w av t.ac) (hy : ∀ y ∈ t.ac, AccWf y) (hm : t.ac.length ≤ 1000000) :
    Calls Try.prog 16 #[.slice a n c, .agg ⟨trC t (.slice av t.ac.length vc)⟩] w fun r w' => r = .returned (.bool (fits n z t.ac)) ∧ Hid (w.grownBy w' none) := by
  obtain ⟨xth, xtx, xat, xst, xb, xen, xre, xco, ac⟩ := t
  dsimp only at hl hm hy
  show Calls Try.prog 16 #[.slice a n c, .agg #[.int .i64 xth, .int .i64 xtx, .int .i64 xat, .int .i64 xst, .int .i64 xb, .int .i64 xen, .int .i64 xre, .bool xco, .slice av ac.length vc]] w fun r w' => r = .returned (.bool (fits n z ac)) ∧ _
  have HL := Lib.hid hl
  have HZ := Lib.hid hz
  have HY := Lib.hid hy
  have hmm := @run_makeMap Try.prog
  have GA := Lib.hid (show World.grownBy w ((w.alloc (.cells #[.int .i64 xth, .int .i64 xtx, .int .i64 xat, .int .i64 xst, .int .i64 xb, .int .i64 xen, .int .i64 xre, .bool xco, .slice av ac.length vc] 41)).alloc (.map #[] 0)) none from (by repeat (first | exact gb_refl _ _ | refine gb_drewN ?_ _ | refine gb_drew ?_ | refine gb_alloc ?_ _)))
  have MA : Hid (MapG Try.prog 3 (Value.int .i64) ((w.alloc (.cells #[.int .i64 xth, .int .i64 xtx, .int .i64 xat, .int .i64 xst, .int .i64 xb, .int .i64 xen, .int .i64 xre, .bool xco, .slice av ac.length vc] 41)).alloc (.map #[] 0)) (w.heap.size + 1) 0 (lwV (lastW (ac.take 0)))) := Lib.hid (by have := MapG.made (w.alloc (.cells #[.int .i64 xth, .int .i64 xtx, .int .i64 xat, .int .i64 xst, .int .i64 xb, .int .i64 xen, .int .i64 xre, .bool xco, .slice av ac.length vc] 41)) Try.prog 3 (Value.int .i64); rw [World.size_alloc] at this; exact this)
  clear hl hz hy
  go_enter Try.func16, Try.ntmps16
  go_wp2
  have HMB := Lib.hid (show w.heap.size ≤ w.heap.size + 1 by omega)
  generalize (w.alloc _).alloc _ = w1 at *
  generalize w.heap.size + 1 = mb at *
  go_loopw [12] (fun iv wr => ∃ k : Nat, k ≤ ac.length ∧ iv = .int .i64 k ∧ Hid (fitsN n z ac k = true) ∧ Hid (MapG Try.prog 3 (Value.int .i64) wr mb k (lwV (lastW (ac.take k)))) ∧ Hid (w.grownBy wr none)) (fun iv _ => (ac.length - intOf iv).toNat)
  case atStart => exact ⟨0, by omega, rfl, rfl, MA, GA⟩
  case round =>
    obtain ⟨k, hk, rfl, HF, M, G⟩ := hrel
    clear MA GA
    by_cases hlt : k < ac.length
    · have hlt' : (k : Int) < (ac.length : Int) := by omega
      have hk6 : (k : Int) < 1000000 := by omega
      have hget := List.getElem?_eq_getElem hlt
      obtain ⟨b, off, rfl, hb, c0, c1, c2, c3, c4, c5⟩ := acc6 (HL.out.grown G.out) hget
      have WY := Lib.hid (HY.out ac[k] (List.getElem_mem hlt))
      have HS3 := Lib.hid (lwV_put (l := ac) hget)
      have HSN := Lib.hid (lwV_same (l := ac) hget)
      have HST := Lib.hid (fitsN_step (n := n) (z := z) hget)
      have HBAD := Lib.hid (fun h => fits_bad (n := n) (z := z) hget h)
      clear hget
      generalize ac[k] = y at *
      have mlt := M.out.lt
      by_cases h3 : y.k = 3
      · have HS := Lib.hid (HS3.out h3)
        have HB := Lib.hid (show fitsN n z ac (k + 1) = true by rw [HST.out, HF.out]; unfold readOk; rw [if_neg (by omega)]; rfl)
        clear HS3 HSN HST HBAD
        obtain ⟨pl, ak, ob, va, own, rel⟩ := y
        dsimp only at h3 HS c0 c1 c2 c3 c4 c5
        subst h3
        have G1 := Lib.hid (World.grownBy_alloc wr (.cells #[.int .i64 pl, .int .i64 3, .int .i64 ob, .int .i64 va, .bool own, .bool rel] 48) none)
        have M1 := Lib.hid (M.out.grown G1.out (by simp))
        go_wp2_with (first | (at_mapUpdate; refine wpList_set_mapG rfl _ _ _ 72 rfl 3 2 kInt (Value.int .i64) vint_inj Try.underlying72 mb k (lwV (lastW (ac.take k))) rfl M1.out (by unfold maxLen; omega) ob _ rfl (keyInt WY.out.ob) (.int .i64 va) rfl ?_; intro u2 m2 g2; have M2 := Lib.hid m2; have G2 := Lib.hid g2; clear m2 g2) | go_in)
        go_roundw
        case rel => exact ⟨k + 1, by omega, by go_num, HB.out, M2.out.congr (fun _ _ _ => by rw [HS.out]), gb_over (gb_trans G.out G1.out) G2.out HMB.out⟩
        case measure => simp [intOf]; omega
      · have f3 : (y.k == 3) = false := by simp [h3]
        have HS := Lib.hid (HSN.out h3)
        clear HS3 HSN h3
        by_cases h2 : y.k = 2
        · cases hrel2 : y.rel with
          | true =>
            have HB := Lib.hid (show fitsN n z ac (k + 1) = true by rw [HST.out, HF.out]; unfold readOk; rw [if_neg (by rw [hrel2]; simp)]; rfl)
            clear HST HBAD
            obtain ⟨pl, ak, ob, va, own, rel⟩ := y
            dsimp only at h2 hrel2 f3 c0 c1 c2 c3 c4 c5
            subst h2 hrel2
            have G1 := Lib.hid (World.grownBy_alloc wr (.cells #[.int .i64 pl, .int .i64 2, .int .i64 ob, .int .i64 va, .bool own, .bool true] 48) none)
            go_wp2
            go_roundw
            case rel => exact ⟨k + 1, by omega, by go_num, HB.out, ((M.out.grown G1.out (by simp)).more (Nat.le_succ _)).congr (fun _ _ _ => by rw [HS.out]), gb_trans G.out G1.out⟩
            case measure => simp [intOf]; omega
          | false =>
            have HOK := Lib.hid (show readOk n z (lastW (ac.take k) y.ob) y = tellsB n z (lastW (ac.take k) y.ob) y by unfold readOk; rw [if_pos ⟨h2, hrel2⟩])
            obtain ⟨pl, ak, ob, va, own, rel⟩ := y
            dsimp only at h2 hrel2 f3 c0 c1 c2 c3 c4 c5
            subst h2 hrel2
            have G1 := Lib.hid (World.grownBy_alloc wr (.cells #[.int .i64 pl, .int .i64 2, .int .i64 ob, .int .i64 va, .bool own, .bool false] 48) none)
            have M1 := Lib.hid (M.out.grown G1.out (by simp))
            cases hT : tellsB n z (lastW (ac.take k) ob) ⟨pl, 2, ob, va, own, false⟩ with
            | true =>
              have HB := Lib.hid (show fitsN n z ac (k + 1) = true by rw [HST.out, HF.out, HOK.out]; exact hT)
              have HTT := Lib.hid hT
              clear HST HBAD HOK hT
              go_wp2_with (first | (go_at_call 32; refine (tells_any ⟨pl, 2, ob, va, own, false⟩ _ n _ z mb k _ _ WY.out (HZ.out.grown (gb_trans G.out G1.out)) M1.out).mono ?_; dsimp only; rw [HTT.out]; rintro r u2 ⟨rfl, g2⟩) | go_in)
              go_roundw
              case rel => exact ⟨k + 1, by omega, by go_num, HB.out, ((M1.out.grown g2.out (by simp)).more (Nat.le_succ _)).congr (fun _ _ _ => by rw [HS.out]), gb_trans (gb_trans G.out G1.out) g2.out⟩
              case measure => simp [intOf]; omega
            | false =>
              have HB := Lib.hid (show fits n z ac = false from HBAD.out (by rw [HOK.out]; exact hT))
              have HTT := Lib.hid hT
              clear HST HBAD HOK hT
              go_wp2_with (first | (go_at_call 32; refine (tells_any ⟨pl, 2, ob, va, own, false⟩ _ n _ z mb k _ _ WY.out (HZ.out.grown (gb_trans G.out G1.out)) M1.out).mono ?_; dsimp only; rw [HTT.out]; rintro r u2 ⟨rfl, g2⟩) | go_in)
              go_ret
              exact ⟨by rw [HB.out]; rfl, gb_trans (gb_trans G.out G1.out) g2.out⟩
        · have f2 : (y.k == 2) = false := by simp [h2]
          have HB := Lib.hid (show fitsN n z ac (k + 1) = true by rw [HST.out, HF.out]; unfold readOk; rw [if_neg (fun h => h2 h.1)]; rfl)
          clear HST HBAD h2
          obtain ⟨pl, ak, ob, va, own, rel⟩ := y
          dsimp only at f2 f3 c0 c1 c2 c3 c4 c5
          have G1 := Lib.hid (World.grownBy_alloc wr (.cells #[.int .i64 pl, .int .i64 ak, .int .i64 ob, .int .i64 va, .bool own, .bool rel] 48) none)
          go_wp2
          go_roundw
          case rel => exact ⟨k + 1, by omega, by go_num, HB.out, ((M.out.grown G1.out (by simp)).more (Nat.le_succ _)).congr (fun _ _ _ => by rw [HS.out]), gb_trans G.out G1.out⟩
          case measure => simp [intOf]; omega
    · obtain rfl : k = ac.length := by omega
      go_wp2
      go_ret
      exact ⟨by rw [show fits n z ac = true from HF.out]; rfl, G⟩
end Go.Proofs.Ytkidkhjpijjphaa.md

/- Package opaque's walk: what it reads of a state. -/
namespace Go.Proofs.Ytkidkhjpijjphaa.oq
open Go Go.RowKit Go.Proofs.Ytkidkhjpijjphaa.base Go.Proofs.Ytkidkhjpijjphaa.hs Go.Proofs.Ytkidkhjpijjphaa.lg Go.Proofs.Ytkidkhjpijjphaa.md Go.Maps
set_option linter.unusedVariables false
set_option maxRecDepth 100000
set_option linter.unusedSimpArgs false

theorem has_yes (b : Nat) (a : Option Addr) (n c i : Nat) (w : World) (h : i < n) (c2 : w.cell? ⟨b, 2, none⟩ = some (.slice a n c)) : Calls Try.prog 88 #[.pointer (some ⟨b, 0, none⟩), .int .i64 (i : Int)] w fun r w' => r = .returned (.bool true) ∧ w' = w := by
  have h1 : (0 : Int) ≤ (i : Int) := by omega
  have h2 : (i : Int) < (n : Int) := by omega
  have bl := World.block_lt_of_cell? _ _ c2
  go_enter Try.func88, Try.ntmps88
  go_wp2
  go_ret
  exact ⟨rfl, rfl⟩

theorem has_no (b : Nat) (a : Option Addr) (n c : Nat) (o : Int) (w : World) (h : o < 0 ∨ (n : Int) ≤ o) (c2 : w.cell? ⟨b, 2, none⟩ = some (.slice a n c)) : Calls Try.prog 88 #[.pointer (some ⟨b, 0, none⟩), .int .i64 o] w fun r w' => r = .returned (.bool false) ∧ w' = w := by
  have bl := World.block_lt_of_cell? _ _ c2
  by_cases h1 : o < 0
  · have h0 : ¬ (0 : Int) ≤ o := by omega
    clear h
    go_enter Try.func88, Try.ntmps88
    go_wp2
    go_ret
    exact ⟨rfl, rfl⟩
  · have h0 : (0 : Int) ≤ o := by omega
    have h2 : ¬ o < (n : Int) := by omega
    clear h
    go_enter Try.func88, Try.ntmps88
    go_wp2
    go_ret
    exact ⟨rfl, rfl⟩

set_option maxHeartbeats 2000000 in
theorem holds_any (b : Nat) (a : Option Addr) (n c : Nat) (z : Nat → Int) (y : Acc) (w : World) (c2 : w.cell? ⟨b, 2, none⟩ = some (.slice a n c)) (hz : IsNums .i64 w a n z) :
    Calls Try.prog 94 #[.pointer (some ⟨b, 0, none⟩), .agg ⟨accC y⟩] w fun r w' => r = .returned (.bool (holdsB n z y)) ∧ Hid (w.grownBy w' none) := by
  have HZ := Lib.hid hz
  clear hz
  obtain ⟨pl, k, ob, va, own, rel⟩ := y
  have GA := Lib.hid (World.grownBy_alloc w (.cells #[.int .i64 pl, .int .i64 k, .int .i64 ob, .int .i64 va, .bool own, .bool rel] 48) none)
  have EB := Lib.hid (Blk.made w 48 #[.int .i64 pl, .int .i64 k, .int .i64 ob, .int .i64 va, .bool own, .bool rel])
  show Calls Try.prog 94 #[.pointer (some ⟨b, 0, none⟩), .agg #[.int .i64 pl, .int .i64 k, .int .i64 ob, .int .i64 va, .bool own, .bool rel]] w fun r w' => r = .returned (.bool (holdsB n z ⟨pl, k, ob, va, own, rel⟩)) ∧ _
  by_cases hin : 0 ≤ ob ∧ ob < (n : Int)
  · obtain ⟨i, rfl⟩ : ∃ i : Nat, ob = (i : Int) := ⟨ob.toNat, by omega⟩
    have hi : i < n := by omega
    have hi' : (i : Int) < (n : Int) := by omega
    have HB := Lib.hid (show holdsB n z ⟨pl, k, i, va, own, rel⟩ = (z i == va) by simp [holdsB, hi, Bool.beq_comm])
    rw [HB.out]
    obtain ⟨zb, zo, rfl, hzb, cz⟩ := ((HZ.out.grown GA.out).at1 hi)
    clear hin
    generalize z i = zi at *
    have h0 : (0 : Int) ≤ (i : Int) := by omega
    go_enter Try.func94, Try.ntmps94; go_upto_region 1 with fail; generalize w.alloc _ = v at *; generalize hp : w.heap.size = p at *; clear hp; have d2 : v.cell? ⟨b, 2, none⟩ = some (.slice (some ⟨zb, zo, none⟩) n c) := GA.out.cell c2 (by simp); have e2 : v.cell? ⟨p, 2, none⟩ = some (.int .i64 i) := EB.out.cell 2; have e3 : v.cell? ⟨p, 3, none⟩ = some (.int .i64 va) := EB.out.cell 3; have bv := World.block_lt_of_cell? _ _ d2; have pv := EB.out.lt
    go_wp2_with fail
    have HY : ∀ m, Calls Try.prog 88 #[.pointer (some ⟨b, 0, none⟩), .int .i64 (i : Int)] (v.drewN m) fun r w' => r = .returned (.bool true) ∧ w' = v.drewN m := fun m => has_yes b _ n c i _ hi d2
    go_quiet ((go_at_call 88; refine Calls.quiet_of_same (HY _)))
    go_wp2
    go_ret
    exact ⟨rfl, (by first | exact GA.out | exact gb_drew GA.out | exact gb_drewN GA.out _)⟩
  · have HNO := Lib.hid (show ob < 0 ∨ (n : Int) ≤ ob by omega)
    have HB := Lib.hid (show holdsB n z ⟨pl, k, ob, va, own, rel⟩ = false by simp [holdsB]; intro h1 h2; omega)
    rw [HB.out]
    clear hin
    go_enter Try.func94, Try.ntmps94; go_upto_region 1 with fail; generalize w.alloc _ = v at *; generalize hp : w.heap.size = p at *; clear hp; have d2 : v.cell? ⟨b, 2, none⟩ = some (.slice a n c) := GA.out.cell c2 (by simp); have e2 : v.cell? ⟨p, 2, none⟩ = some (.int .i64 ob) := EB.out.cell 2; have e3 : v.cell? ⟨p, 3, none⟩ = some (.int .i64 va) := EB.out.cell 3; have bv := World.block_lt_of_cell? _ _ d2; have pv := EB.out.lt
    go_wp2_with fail
    have HY : ∀ m, Calls Try.prog 88 #[.pointer (some ⟨b, 0, none⟩), .int .i64 ob] (v.drewN m) fun r w' => r = .returned (.bool false) ∧ w' = v.drewN m := fun m => has_no b a n c ob _ HNO.out d2
    go_quiet ((go_at_call 88; refine Calls.quiet_of_same (HY _)))
    go_wp2
    go_ret
    exact ⟨rfl, (by first | exact GA.out | exact gb_drew GA.out | exact gb_drewN GA.out _)⟩

def missV : Option (Int × Int) → Value
  | some x => .tuple #[.agg #[.int .i64 x.1, .int .i64 x.2], .bool true]
  | none => .tuple #[.agg #[.int .i64 0, .int .i64 0], .bool false]
theorem misses_drop {n : Nat} {z : Nat → Int} {l : List Acc} {k : Nat} {y : Acc} (h : l[k]? = some y) : misses n z (l.drop k) = if y.asks ∧ holdsB n z y = false then some (y.ob, y.va) else misses n z (l.drop (k + 1)) := by
  obtain ⟨hk, hk2⟩ := List.getElem?_eq_some_iff.1 h
  rw [List.drop_eq_getElem_cons hk, hk2, misses]

theorem want_ret (tmps : Array Value) (W : World) (rb : Nat) (x y : Int) (bb : Bool) (h4 : tmps.getD 4 undef = .pointer (some ⟨rb, 0, none⟩)) (h5 : tmps.getD 5 undef = .bool bb) (hb : Blk 144 W rb #[.int .i64 x, .int .i64 y]) :
    (results Try.f87 tmps).run Try.prog W = .ok (.tuple #[.agg #[.int .i64 x, .int .i64 y], .bool bb]) W := by
  rw [results_cell_tmp rfl, h4, h5]
  have h := run_loadVar_row (P := Try.prog) W rb 144 144 #[.int .i64 x, .int .i64 y] (0, 0) _ hb Try.underlying144 rfl (by kernel_rfl)
  show (((loadVar 144 ⟨rb, 0, none⟩).run Try.prog W).andThen _) = _
  rw [h]
  rfl

set_option maxHeartbeats 2000000 in
theorem misses_any (b : Nat) (a : Option Addr) (n c : Nat) (z : Nat → Int) (t : Tr) (av : Option Addr) (vc : Nat) (w : World) (c2 : w.cell? ⟨b, 2, none⟩ = some (.slice a n c)) (hz : IsNums .i64 w a n z) (hl : IsL accC w av t.ac) (hm : t.ac.length ≤ 1000000) :
    Calls Try.prog 87 #[.pointer (some ⟨b, 0, none⟩), .agg ⟨trC t (.slice av t.ac.length vc)⟩] w fun r w' => r = .returned (missV (misses n z t.ac)) ∧ Hid (w.grownBy w' none) := by
  obtain ⟨xth, xtx, xat, xst, xb, xen, xre, xco, ac⟩ := t
  dsimp only at hl hm
  show Calls Try.prog 87 #[.pointer (some ⟨b, 0, none⟩), .agg #[.int .i64 xth, .int .i64 xtx, .int .i64 xat, .int .i64 xst, .int .i64 xb, .int .i64 xen, .int .i64 xre, .bool xco, .slice av ac.length vc]] w fun r w' => r = .returned (missV (misses n z ac)) ∧ _
  have HL := Lib.hid hl
  have HZ := Lib.hid hz
  have HC := Lib.hid c2
  clear hl hz c2
  have G0 := Lib.hid (show World.grownBy w ((w.alloc (.cells #[.int .i64 xth, .int .i64 xtx, .int .i64 xat, .int .i64 xst, .int .i64 xb, .int .i64 xen, .int .i64 xre, .bool xco, .slice av ac.length vc] 41)).alloc (.cells #[.int .i64 0, .int .i64 0] 144)) none from (by repeat (first | exact gb_refl _ _ | refine gb_drewN ?_ _ | refine gb_drew ?_ | refine gb_alloc ?_ _)))
  have R0 : Hid (Blk 144 ((w.alloc (.cells #[.int .i64 xth, .int .i64 xtx, .int .i64 xat, .int .i64 xst, .int .i64 xb, .int .i64 xen, .int .i64 xre, .bool xco, .slice av ac.length vc] 41)).alloc (.cells #[.int .i64 0, .int .i64 0] 144)) (w.heap.size + 1) #[.int .i64 0, .int .i64 0]) := Lib.hid (by have := Blk.made (w.alloc (.cells #[.int .i64 xth, .int .i64 xtx, .int .i64 xat, .int .i64 xst, .int .i64 xb, .int .i64 xen, .int .i64 xre, .bool xco, .slice av ac.length vc] 41)) 144 #[.int .i64 0, .int .i64 0]; rwa [World.size_alloc] at this)
  go_enter Try.func87, Try.ntmps87
  go_wp2_with fail

  generalize (w.alloc _).alloc _ = w1 at *
  generalize hrb : w.heap.size + 1 = rb at *
  have HRB := Lib.hid (show w.heap.size ≤ rb by omega)
  clear hrb
  go_loopw [11] (fun iv wr => ∃ k : Nat, k ≤ ac.length ∧ iv = .int .i64 k ∧ Hid (misses n z (ac.drop k) = misses n z ac) ∧ Hid (w1.grownBy wr none)) (fun iv _ => (ac.length - intOf iv).toNat)
  case atStart => exact ⟨0, by omega, rfl, rfl, gb_refl _ _⟩
  case round =>
    obtain ⟨k, hk, rfl, HM, G⟩ := hrel
    have GG := Lib.hid (gb_trans G0.out G.out)
    have R := Lib.hid (R0.out.grown G.out (by simp))
    have r0 := R.out.cell 0
    have r1 := R.out.cell 1
    have q0 := R.out.free 0
    have q1 := R.out.free 1
    have rl := R.out.lt
    clear R0
    by_cases hlt : k < ac.length
    · have hlt' : (k : Int) < (ac.length : Int) := by omega
      have hk6 : (k : Int) < 1000000 := by omega
      have hget := List.getElem?_eq_getElem hlt
      obtain ⟨lb, off, rfl, hb, c0, c1, c3, c4, c5, c6⟩ := acc6 (HL.out.grown GG.out) hget
      have HD := Lib.hid (misses_drop (n := n) (z := z) hget)
      clear hget
      generalize ac[k] = y at *
      have CC := Lib.hid (GG.out.cell HC.out (by simp))
      obtain ⟨pl, ak, ob, va, own, rel⟩ := y
      dsimp only at c0 c1 c3 c4 c5 c6
      have G1 := fun (kk : Int) (o r : Bool) => World.grownBy_alloc wr (.cells #[.int .i64 pl, .int .i64 kk, .int .i64 ob, .int .i64 va, .bool o, .bool r] 48) none
      by_cases h2 : ak = 2
      · subst h2
        cases own with
        | true =>
          have HN := Lib.hid (show misses n z (ac.drop (k + 1)) = misses n z ac by rw [← HM.out, HD.out, if_neg]; rintro ⟨⟨_, h, _⟩, _⟩; cases h)
          clear HD HM
          go_wp2
          go_roundw; (case rel => exact ⟨k + 1, by omega, by go_num, HN.out, gb_trans G.out (G1 2 true rel)⟩); (case measure => simp [intOf]; omega)
        | false =>
          cases rel with
          | true =>
            have HN := Lib.hid (show misses n z (ac.drop (k + 1)) = misses n z ac by rw [← HM.out, HD.out, if_neg]; rintro ⟨⟨_, _, h⟩, _⟩; cases h)
            clear HD HM
            go_wp2
            go_roundw; (case rel => exact ⟨k + 1, by omega, by go_num, HN.out, gb_trans G.out (G1 2 false true)⟩); (case measure => simp [intOf]; omega)
          | false =>
            have CC1 := (G1 2 false false).cell CC.out (by simp)
            cases hh : holdsB n z ⟨pl, 2, ob, va, false, false⟩ with
            | true =>
              have HH := Lib.hid hh
              have HN := Lib.hid (show misses n z (ac.drop (k + 1)) = misses n z ac by rw [← HM.out, HD.out, if_neg]; rintro ⟨_, h⟩; rw [hh] at h; cases h)
              clear HD HM hh
              go_wp2_with (first | (go_at_call 94; refine (holds_any b a n c z ⟨pl, 2, ob, va, false, false⟩ _ CC1 (HZ.out.grown (gb_trans GG.out (G1 2 false false)))).mono ?_; rw [HH.out]; rintro r u1 ⟨rfl, g1⟩; clear CC1) | go_in)
              go_roundw; (case rel => exact ⟨k + 1, by omega, by go_num, HN.out, gb_trans G.out (gb_trans (G1 2 false false) g1.out)⟩); (case measure => simp [intOf]; omega)
            | false =>
              have HH := Lib.hid hh
              have HN := Lib.hid (show misses n z ac = some (ob, va) by rw [← HM.out, HD.out, if_pos ⟨⟨rfl, rfl, rfl⟩, hh⟩])
              clear HD HM hh
              have R2 := Lib.hid (R.out.grown (G1 2 false false) (by simp))
              have BA := Lib.hid (Blk.made wr 48 #[.int .i64 pl, .int .i64 2, .int .i64 ob, .int .i64 va, .bool false, .bool false])
              go_wp2_with (first | (go_at_call 94; refine (holds_any b a n c z ⟨pl, 2, ob, va, false, false⟩ _ CC1 (HZ.out.grown (gb_trans GG.out (G1 2 false false)))).mono ?_; rw [HH.out]; rintro r u1 ⟨rfl, g1⟩; clear CC1; have R3 := Lib.hid (R2.out.grown g1.out (by simp)); have s0 := R3.out.cell 0; have s1 := R3.out.cell 1; have p0 := R3.out.free 0; have p1 := R3.out.free 1; have BA2 := BA.out.grown g1.out (by simp); have a2 := BA2.cell 2; have a3 := BA2.cell 3; have al := BA2.lt; have rl3 := R3.out.lt; clear BA2 r0 r1 q0 q1) | go_in)
              refine bodyPost_ret (want_ret _ _ rb ob va true rfl rfl ((R3.out.set 0 _).set 1 _)) rfl ?_
              rw [HN.out]
              exact ⟨rfl, gb_over (gb_trans GG.out (gb_trans (G1 2 false false) g1.out)) (gb_setB (gb_setB (gb_refl u1 (some rb)) _) _) HRB.out⟩
      · have f2 : (ak == 2) = false := by simp [h2]
        have HN := Lib.hid (show misses n z (ac.drop (k + 1)) = misses n z ac by rw [← HM.out, HD.out, if_neg]; rintro ⟨⟨h, _⟩, _⟩; exact h2 h)
        clear HD HM h2
        go_wp2
        go_roundw; (case rel => exact ⟨k + 1, by omega, by go_num, HN.out, gb_trans G.out (G1 ak own rel)⟩); (case measure => simp [intOf]; omega)
    · obtain rfl : k = ac.length := by omega
      have HN := Lib.hid (show misses n z ac = none by rw [← HM.out, List.drop_length]; rfl)
      go_wp2
      refine bodyPost_ret (want_ret _ _ rb 0 0 false rfl rfl ((R.out.set 0 _).set 1 _)) rfl ?_
      rw [HN.out]
      exact ⟨rfl, gb_over (gb_trans G0.out G.out) (gb_setB (gb_setB (gb_refl wr (some rb)) _) _) HRB.out⟩
end Go.Proofs.Ytkidkhjpijjphaa.oq

/- 'm[x] = append(m[x], ..)' in two steps: the entry, then what is put into it; of no program. -/
namespace Go.Proofs.Ytkidkhjpijjphaa.base
open Go Go.RowKit Go.Maps Go.ChangeMaps
set_option linter.unusedVariables false
set_option linter.unusedSimpArgs false

section
variable {P : Program} {k e t : TypeId} {κ : Type} {kv : κ → Value} {w w' : World} {b n : Nat} {f : κ → Option Value}
theorem MapG.entry (h : MapG P k kv w b n f) (K : Keyed P k) (KL : WideMaps.KeyLaw P k) (hinj : ∀ x y, kv x = kv y → x = y) (ht : P.underlying t = some (.map k e)) (hn : n < maxLen) {z : Value} (hz : ∀ u : World, (zeroValue e).run P u = .ok z u) {x : κ} {kl : Lit} (hx : keyOf P k (kv x) = some kl) :
    ∃ (st : Nat) (u1 : World), (Instr.mapEntry t (.map (some b)) (kv x)).run P w = .ok (.tuple #[(f x).getD z, goInt st]) u1 ∧ w.grownBy u1 (some b) ∧ (∃ es c, u1.heap[b]? = some (.map es c)) ∧
      ∀ (u2 : World) (val : Value), u2.heap[b]? = u1.heap[b]? → ∃ u3, (Instr.entryStore t (.map (some b)) (goInt st) val).run P u2 = .ok () u3 ∧ MapG P k kv u3 b (n + 1) (upd f x (some val)) ∧ u2.grownBy u3 (some b) := by
  have hg := h.get K ht (hz w) hx
  have hset := fun val => h.set K hinj ht hn hx val
  obtain ⟨D, ⟨es, clock, hb, F, hs, hD⟩, hf⟩ := h
  obtain ⟨v0, st, es1, clock1, hrun, hv0, hstore⟩ := WideElems.entry_then_store KL ht hz hb F hx
  have huniq : ∀ a c : MapEntry, a ∈ es.toList → c ∈ es.toList → a.key = c.key → a = c := fun a c ha hc he => by
    have hn := F.stamped.2.2
    obtain ⟨i, hi, rfl⟩ := List.mem_iff_getElem.1 ha
    obtain ⟨j, hj, rfl⟩ := List.mem_iff_getElem.1 hc
    have hp := List.pairwise_iff_getElem.1 hn
    rcases Nat.lt_trichotomy i j with l | l | l
    · have := hp i j (by simpa using hi) (by simpa using hj) l
      simp only [List.getElem_map] at this
      exact absurd he this
    · subst l; rfl
    · have := hp j i (by simpa using hj) (by simpa using hi) l
      simp only [List.getElem_map] at this
      exact absurd he.symm this
  have hv : v0 = (f x).getD z := by
    rcases Maps.fit_look false K ht (hz w) hb F hx with ⟨hr, hno, _⟩ | ⟨e0, y, he0, hy, hr, _⟩
    · rw [hg] at hr
      simp at hr
      rw [hr]
      rcases hv0 with ⟨e1, h1, h2, _⟩ | ⟨_, h2⟩
      · exact absurd h2 (hno e1 h1)
      · exact h2
    · rw [hg] at hr
      simp at hr
      rw [hr]
      rcases hv0 with ⟨e1, h1, h2, h3⟩ | ⟨h1, _⟩
      · rw [h3, huniq e1 e0 h1 he0 (h2.trans hy.symm)]
      · exact absurd hy (h1 e0 he0)
  have gset : ∀ (u : World) (o : Obj), (∃ es c, u.heap[b]? = some (.map es c)) → u.grownBy (setBlock u b o) (some b) := by
    rintro u o ⟨es, c, hu⟩
    exact ⟨rfl, rfl, rfl, by simp [setBlock], fun i _ hi => heap_setBlock_other hu _ (fun e => hi (by rw [e]))⟩
  refine ⟨st, _, by rw [← hv]; exact hrun, gset w _ ⟨_, _, hb⟩, ⟨_, _, heap_setBlock_same hb _⟩, fun u2 val h2 => ?_⟩
  have h2' : u2.heap[b]? = some (.map es1 clock1) := h2.trans (heap_setBlock_same hb _)
  obtain ⟨es', clock', r1, r2⟩ := hstore u2 val h2'
  obtain ⟨w', r3, r4, _⟩ := hset val
  rw [r2] at r3
  injection r3 with _ r3
  subst r3
  exact ⟨_, r1, r4.keep ((heap_setBlock_same h2' _).trans (heap_setBlock_same hb _).symm), gset u2 _ ⟨_, _, h2'⟩⟩
end
end Go.Proofs.Ytkidkhjpijjphaa.base

/- Package opaque's walk: a try is asked. -/
namespace Go.Proofs.Ytkidkhjpijjphaa.oq
open Go Go.RowKit Go.Proofs.Ytkidkhjpijjphaa.base Go.Proofs.Ytkidkhjpijjphaa.hs Go.Proofs.Ytkidkhjpijjphaa.lg Go.Proofs.Ytkidkhjpijjphaa.md Go.Maps
set_option linter.unusedVariables false
set_option maxRecDepth 100000
set_option linter.unusedSimpArgs false

theorem rowWant : (144 : TypeId) < Try.prog.types.size := of_decide_eq_true (by kernel_rfl)
theorem klWant : WideMaps.KeyLaw Try.prog 144 := deep_law_laid laidOut17 (m := 2) (by omega) rowWant (by kernel_rfl) (by rw [Try.underlying144])
theorem kWant : Keyed Try.prog 144 := Keyed.of_law (deep_law_laid laidOut17 (m := 2) (by omega) rowWant (by kernel_rfl) (by rw [Try.underlying144]))
theorem keyWant {x : Int × Int} (h1 : (Lit.int .i64 x.1).wf = true) (h2 : (Lit.int .i64 x.2).wf = true) : ∃ kl, keyOf Try.prog 144 (two x) = some kl := by
  have hkt : Try.prog.keyType 144 = true := by kernel_rfl
  have hc : Try.prog.cellsOf 144 = 2 := by kernel_rfl
  have hci : Try.prog.cellsOf 3 = 1 := by kernel_rfl
  have hci2 : Try.prog.cellsOf 2 = 1 := by kernel_rfl
  have hs : Try.prog.types.size = (Try.prog.types.size - 1) + 1 := by kernel_rfl
  refine ⟨.string (keyBytes [.int .i64 x.1, .int .i64 x.2]), ?_⟩
  unfold keyOf two
  simp only [Try.underlying144]
  rw [if_pos (by simp [hkt, Value.formed, Try.underlying144, hc]), hs]
  unfold Program.keyLits
  simp only [Try.underlying144, Value.cells]
  have hk : ∀ (m : Nat) (v : Int), (Lit.int .i64 v).wf = true → Try.prog.keyLits (m + 1) 3 [.int .i64 v] = some [.int .i64 v] := fun m v h => by
    unfold Program.keyLits
    simp only [Try.underlying3]
    rw [if_pos ⟨trivial, h⟩]
  have hk2 : ∀ (m : Nat) (v : Int), (Lit.int .i64 v).wf = true → Try.prog.keyLits (m + 1) 2 [.int .i64 v] = some [.int .i64 v] := fun m v h => by
    unfold Program.keyLits
    simp only [Try.underlying2]
    rw [if_pos ⟨trivial, h⟩]
  obtain ⟨m, hm⟩ : ∃ m, Try.prog.types.size - 1 + 1 = m + 1 + 1 := ⟨Try.prog.types.size - 2, by kernel_rfl⟩
  rw [if_pos (by rw [hc]; exact ⟨rfl, by kernel_rfl⟩)]
  simp only [List.mapM_cons, List.mapM_nil, hci, hci2]
  have e1 : Try.prog.types.size - 1 = m + 1 := by omega
  rw [e1]
  simp [hk, hk2, h1, h2]
theorem infoInt2 : (Try.prog.info? 3).map (fun i => (i.zero, i.size, i.bytes)) = some (some (.int .i64 0), 1, 8) := by kernel_rfl
theorem zeroList (w : World) : (zeroValue 25).run Try.prog w = .ok (.slice none 0 0) w := by kernel_rfl

/-- The small numbers of a walk. -/
structure WkOk (ts : List Tr) (n : Nat) (p : Nat) (s : Wk) (N : Nat) : Prop where
  seen : s.seen.length = ts.length
  len : ts.length ≤ 1000
  n : n ≤ 1000000
  p : p ≤ 1000000
  lists : ∀ x, (s.M x).length ≤ N
  N : N ≤ 100000000000
  acs : ∀ t ∈ ts, t.ac.length ≤ 1000 ∧ ∀ a ∈ t.ac, AccWf a

theorem ask_seen (n : Nat) (z : Nat → Int) (p : Nat) (l : List Acc) (no : Nat) (s : Wk) : (base.ask n z p l no s).seen.length = s.seen.length := by
  unfold base.ask
  split
  · simp
  · split <;> rfl
theorem ask_lists (n : Nat) (z : Nat → Int) (p : Nat) (l : List Acc) (no : Nat) (s : Wk) (x : Int × Int) : ((base.ask n z p l no s).M x).length ≤ (s.M x).length + 1 := by
  unfold base.ask
  split
  · exact Nat.le_succ _
  · split
    · dsimp only
      split
      · simp
      · exact Nat.le_succ _
    · exact Nat.le_succ _
theorem WkOk.ask {ts : List Tr} {n p : Nat} {s : Wk} {N : Nat} (h : WkOk ts n p s N) (hN : N + 1 ≤ 100000000000) (z : Nat → Int) (l : List Acc) (no : Nat) : WkOk ts n p (base.ask n z p l no s) (N + 1) :=
  ⟨(ask_seen n z p l no s).trans h.seen, h.len, h.n, h.p, fun x => Nat.le_trans (ask_lists n z p l no s x) (Nat.succ_le_succ (h.lists x)), hN, h.acs⟩
theorem WkOk.more {ts : List Tr} {n p : Nat} {s : Wk} {N M : Nat} (h : WkOk ts n p s N) (hN : N ≤ M) (hM : M ≤ 100000000000) : WkOk ts n p s M := ⟨h.seen, h.len, h.n, h.p, fun x => Nat.le_trans (h.lists x) hN, hM, h.acs⟩

set_option maxHeartbeats 2000000 in
/-- One that fits. -/
theorem ask_fits (w : World) (F : Nat → Prop) (b : Nat) (ta : Option Addr) (tc : Nat) (ys : List (Tr × Value)) (n : Nat) (z : Nat → Int) (p : Nat) (s : Wk) (N : Nat) (no : Nat) (t : Tr) (yv : Value) (hT : TsAt w ta ys) (hy : ys[no]? = some (t, yv)) (h : WkM w F b (.slice ta ys.length tc) n z p s N) (ok : WkOk (ys.map Prod.fst) n p s N) (hf : fits n z t.ac = true) :
    Calls Try.prog 70 #[.pointer (some ⟨b, 0, none⟩), .int .i64 no] w fun r w' => r = .returned (.tuple #[]) ∧ ∃ F', Hid (WkM w' F' b (.slice ta ys.length tc) n z p ⟨s.seen.set no p, s.M⟩ N) ∧ Hid (Step F F' w w') := by
  obtain ⟨sv, vv, mb, rd, h0, hF⟩ := h
  have hno : no < ys.length := (List.getElem?_eq_some_iff.1 hy).1
  obtain ⟨tb, off, va, vc, rfl, htb, hv, hl, c0, c1, c2, c3, c4, c5, c6, c7, c8⟩ := hT.at hy
  dsimp only at hv hl c0 c1 c2 c3 c4 c5 c6 c7 c8
  subst hv
  have hac := ok.acs t (List.mem_map_of_mem (f := Prod.fst) (List.mem_of_getElem? hy))
  have hsl : s.seen.length = ys.length := by rw [ok.seen, List.length_map]
  obtain ⟨sa, sc, hsv⟩ := owns_slice h0.seen
  obtain ⟨g, hg⟩ : ∃ g, sv.ownBlock = some g := by
    rcases h0.seen.2 with ⟨_, h1⟩ | ⟨g, cap, cur, h1, _⟩
    · omega
    · exact ⟨g, by rw [h1]; rfl⟩
  have hsa : sa = some ⟨g, 0, none⟩ := by
    rw [hsv] at hg
    rcases h0.seen.2 with ⟨_, h1⟩ | ⟨g', cap, cur, h1, _⟩
    · omega
    · rw [hsv] at h1
      cases h1
      cases hg
      rfl
  subst hsa
  obtain ⟨ua, uc, hvv⟩ := owns_slice h0.vals
  subst hvv
  have H := Lib.hid h0
  have HF := Lib.hid hF
  have HL := Lib.hid hl
  have HAC := Lib.hid hac.2
  have HNZ := Lib.hid (show IsNums .i64 w ua n z from IsNums.of_own h0.vals)
  have HG := Lib.hid hg
  have FT := Lib.hid hf
  have hp6 : (p : Int) ≤ 1000000 := by have := ok.p; omega
  have hn6 : (no : Int) ≤ 1000000 := by have := ok.len; rw [List.length_map] at this; omega
  have hno' : (no : Int) < (ys.length : Int) := by omega
  have hno2 : (no : Int) < (s.seen.length : Int) := by omega
  have hacl : t.ac.length ≤ 1000000 := by have := hac.1; omega
  have b0 : w.cell? ⟨b, 0, none⟩ = some (.slice (some ⟨tb, off, none⟩) ys.length tc) := h0.blk.cell 0
  have bl := h0.blk.lt
  have GA := Lib.hid (World.grownBy_alloc w (.cells #[.int .i64 t.th, .int .i64 t.tx, .int .i64 t.at_, .int .i64 t.st, .int .i64 t.b, .int .i64 t.en, .int .i64 t.re, .bool t.co, .slice va t.ac.length vc] 41) none)
  have EB := Lib.hid (Blk.made w 41 #[.int .i64 t.th, .int .i64 t.tx, .int .i64 t.at_, .int .i64 t.st, .int .i64 t.b, .int .i64 t.en, .int .i64 t.re, .bool t.co, .slice va t.ac.length vc])
  have OKL := Lib.hid ok
  clear hT hy h0 hF hl hac hg hf ok
  go_enter Try.func70, Try.ntmps70
  go_upto_region 1 with fail
  generalize w.alloc _ = v at *; generalize hq : w.heap.size = q at *; have HQ := Lib.hid hq; clear hq; have d2 : v.cell? ⟨b, 2, none⟩ = some (.slice ua n uc) := GA.out.cell (H.out.blk.cell 2) (by simp); have e0 := EB.out.cell 0; have e1 := EB.out.cell 1; have e2 := EB.out.cell 2; have e3 := EB.out.cell 3; have e4 := EB.out.cell 4; have e5 := EB.out.cell 5; have e6 := EB.out.cell 6; have e7 := EB.out.cell 7; have e8 := EB.out.cell 8; have bv := World.block_lt_of_cell? _ _ d2; have qv := EB.out.lt; have K0 : Hid (v.grownBy v.drew none) := Lib.hid (gb_drew (gb_refl v none))
  go_wp2_with fail
  go_region_held3 (fun w' => Hid (v.grownBy w' none) ∧ w'.cell? ⟨b, 2, none⟩ = some (.slice ua n uc) ∧ w'.cell? ⟨q, 0, none⟩ = some (.int .i64 t.th) ∧ w'.cell? ⟨q, 1, none⟩ = some (.int .i64 t.tx) ∧ w'.cell? ⟨q, 2, none⟩ = some (.int .i64 t.at_) ∧ w'.cell? ⟨q, 3, none⟩ = some (.int .i64 t.st) ∧ w'.cell? ⟨q, 4, none⟩ = some (.int .i64 t.b) ∧ w'.cell? ⟨q, 5, none⟩ = some (.int .i64 t.en) ∧ w'.cell? ⟨q, 6, none⟩ = some (.int .i64 t.re) ∧ w'.cell? ⟨q, 7, none⟩ = some (.bool t.co) ∧ w'.cell? ⟨q, 8, none⟩ = some (.slice va t.ac.length vc)) (go_keep) (first | (go_at_call 16; refine (fits_any ua n uc z t va vc _ (HNZ.out.grown (gb_trans GA.out (by refine Hid.out ?_; assumption))) (HL.out.grown (gb_trans GA.out (by refine Hid.out ?_; assumption))) HAC.out hacl).mono ?_; rw [FT.out]; rintro r u ⟨rfl, gu⟩; have K : Hid (v.grownBy u none) := Lib.hid (gb_trans (by refine Hid.out ?_; assumption) gu.out); have x2 := K.out.cell d2 (by simp); have y0 := K.out.cell e0 (by simp); have y1 := K.out.cell e1 (by simp); have y2 := K.out.cell e2 (by simp); have y3 := K.out.cell e3 (by simp); have y4 := K.out.cell e4 (by simp); have y5 := K.out.cell e5 (by simp); have y6 := K.out.cell e6 (by simp); have y7 := K.out.cell e7 (by simp); have y8 := K.out.cell e8 (by simp)))
  have HU := Lib.hid (H.out.grown (gb_trans GA.out K.out))
  have GU := Lib.hid (gb_trans GA.out K.out)
  clear d2 e0 e1 e2 e3 e4 e5 e6 e7 e8 x2 y0 y1 y2 y3 y4 y5 y6 y7 y8 K0
  have k1 : u.cell? ⟨b, 1, none⟩ = some sv := HU.out.blk.cell 1
  rw [hsv] at k1
  have k3 : u.cell? ⟨b, 3, none⟩ = some (.int .i64 p) := HU.out.blk.cell 3
  obtain ⟨xq, kg⟩ : ∃ xq, u.cell? ⟨g, no, none⟩ = some (.int .i64 xq) := by
    have h1 := HU.out.seen
    rw [hsv] at h1
    have h2 := h1.cellAt no (by omega)
    rw [List.getElem?_map, List.getElem?_eq_getElem (by omega)] at h2
    exact ⟨_, h2⟩
  have kf : u.frozen? ⟨g, no, none⟩ = false := by
    obtain ⟨cs, hc⟩ := ownsRow_type HU.out.seen HG.out
    simp [World.frozen?, hc]
  have kl := HU.out.blk.lt
  have gl : g < u.heap.size := (HU.out.seen.lt g HG.out).2
  go_wp2_with fail
  go_region
  all_goals
    go_wp2
    (first | go_end0 | refine bodyPost_ret (results_none rfl _ _ _) rfl ?_)
    have hW := (HU.out.sees HG.out (no := no) (by omega) (p : Int)).grown (gb_drew (gb_refl _ none))
    exact ⟨rfl, F, ⟨sv, _, mb, rd, hW, HF.out⟩, ⟨((Only.none GU.out).trans (Only.of (gb_setB (gb_refl u (some g)) (.int .i64 p)) (fun i e _ => by cases e; exact HF.out _ (.inr (.inl HG.out))))).trans (Only.none (gb_drew (gb_refl _ none))), fun k hk => .inl hk⟩⟩

set_option maxHeartbeats 2000000 in
/-- One that never fits. -/
theorem ask_never (w : World) (F : Nat → Prop) (b : Nat) (ta : Option Addr) (tc : Nat) (ys : List (Tr × Value)) (n : Nat) (z : Nat → Int) (p : Nat) (s : Wk) (N : Nat) (no : Nat) (t : Tr) (yv : Value) (hT : TsAt w ta ys) (hy : ys[no]? = some (t, yv)) (h : WkM w F b (.slice ta ys.length tc) n z p s N) (ok : WkOk (ys.map Prod.fst) n p s N) (hf : fits n z t.ac = false) (hm : misses n z t.ac = none) :
    Calls Try.prog 70 #[.pointer (some ⟨b, 0, none⟩), .int .i64 no] w fun r w' => r = .returned (.tuple #[]) ∧ ∃ F', Hid (WkM w' F' b (.slice ta ys.length tc) n z p s N) ∧ Hid (Step F F' w w') := by
  obtain ⟨sv, vv, mb, rd, h0, hF⟩ := h; have hno : no < ys.length := (List.getElem?_eq_some_iff.1 hy).1; obtain ⟨tb, off, va, vc, rfl, htb, hv, hl, c0, c1, c2, c3, c4, c5, c6, c7, c8⟩ := hT.at hy; dsimp only at hv hl c0 c1 c2 c3 c4 c5 c6 c7 c8; subst hv; have hac := ok.acs t (List.mem_map_of_mem (f := Prod.fst) (List.mem_of_getElem? hy)); obtain ⟨ua, uc, hvv⟩ := owns_slice h0.vals; subst hvv; have H := Lib.hid h0; have HF := Lib.hid hF; have HL := Lib.hid hl; have HAC := Lib.hid hac.2; have HNZ := Lib.hid (show IsNums .i64 w ua n z from IsNums.of_own h0.vals); have FT := Lib.hid hf; have MS := Lib.hid hm; have hn6 : (no : Int) ≤ 1000000 := (by have := ok.len; rw [List.length_map] at this; omega)
  have hno' : (no : Int) < (ys.length : Int) := (by omega); have hacl : t.ac.length ≤ 1000000 := (by have := hac.1; omega); have b0 : w.cell? ⟨b, 0, none⟩ = some (.slice (some ⟨tb, off, none⟩) ys.length tc) := h0.blk.cell 0; have bl := h0.blk.lt; have GA := Lib.hid (World.grownBy_alloc w (.cells #[.int .i64 t.th, .int .i64 t.tx, .int .i64 t.at_, .int .i64 t.st, .int .i64 t.b, .int .i64 t.en, .int .i64 t.re, .bool t.co, .slice va t.ac.length vc] 41) none); have EB := Lib.hid (Blk.made w 41 #[.int .i64 t.th, .int .i64 t.tx, .int .i64 t.at_, .int .i64 t.st, .int .i64 t.b, .int .i64 t.en, .int .i64 t.re, .bool t.co, .slice va t.ac.length vc]); have OKL := Lib.hid ok; clear hT hy h0 hF hl hac hf hm ok
  go_enter Try.func70, Try.ntmps70
  go_upto_region 1 with fail
  generalize w.alloc _ = v at *; generalize hq : w.heap.size = q at *; have HQ := Lib.hid hq; clear hq; have d2 : v.cell? ⟨b, 2, none⟩ = some (.slice ua n uc) := GA.out.cell (H.out.blk.cell 2) (by simp); have e0 := EB.out.cell 0; have e1 := EB.out.cell 1; have e2 := EB.out.cell 2; have e3 := EB.out.cell 3; have e4 := EB.out.cell 4; have e5 := EB.out.cell 5; have e6 := EB.out.cell 6; have e7 := EB.out.cell 7; have e8 := EB.out.cell 8; have bv := World.block_lt_of_cell? _ _ d2; have qv := EB.out.lt; have K0 : Hid (v.grownBy v.drew none) := Lib.hid (gb_drew (gb_refl v none))
  go_wp2_with fail
  go_region_held3 (fun w' => Hid (v.grownBy w' none) ∧ w'.cell? ⟨b, 2, none⟩ = some (.slice ua n uc) ∧ w'.cell? ⟨q, 0, none⟩ = some (.int .i64 t.th) ∧ w'.cell? ⟨q, 1, none⟩ = some (.int .i64 t.tx) ∧ w'.cell? ⟨q, 2, none⟩ = some (.int .i64 t.at_) ∧ w'.cell? ⟨q, 3, none⟩ = some (.int .i64 t.st) ∧ w'.cell? ⟨q, 4, none⟩ = some (.int .i64 t.b) ∧ w'.cell? ⟨q, 5, none⟩ = some (.int .i64 t.en) ∧ w'.cell? ⟨q, 6, none⟩ = some (.int .i64 t.re) ∧ w'.cell? ⟨q, 7, none⟩ = some (.bool t.co) ∧ w'.cell? ⟨q, 8, none⟩ = some (.slice va t.ac.length vc)) (go_keep) (first | (go_at_call 16; refine (fits_any ua n uc z t va vc _ (HNZ.out.grown (gb_trans GA.out (by refine Hid.out ?_; assumption))) (HL.out.grown (gb_trans GA.out (by refine Hid.out ?_; assumption))) HAC.out hacl).mono ?_; rw [FT.out]; rintro r u ⟨rfl, gu⟩; have K : Hid (v.grownBy u none) := Lib.hid (gb_trans (by refine Hid.out ?_; assumption) gu.out); have x2 := K.out.cell d2 (by simp); have y0 := K.out.cell e0 (by simp); have y1 := K.out.cell e1 (by simp); have y2 := K.out.cell e2 (by simp); have y3 := K.out.cell e3 (by simp); have y4 := K.out.cell e4 (by simp); have y5 := K.out.cell e5 (by simp); have y6 := K.out.cell e6 (by simp); have y7 := K.out.cell e7 (by simp); have y8 := K.out.cell e8 (by simp)))
  go_wp2_with (first | (go_at_call 87; refine (misses_any b ua n uc z t va vc u x2 (HNZ.out.grown (gb_trans GA.out K.out)) (HL.out.grown (gb_trans GA.out K.out)) hacl).mono ?_; rw [MS.out]; dsimp only [missV]; rintro r u2 ⟨rfl, gu2⟩; have GU := Lib.hid (gb_trans (gb_trans GA.out K.out) gu2.out); clear d2 e0 e1 e2 e3 e4 e5 e6 e7 e8 x2 y0 y1 y2 y3 y4 y5 y6 y7 y8 K0 K) | go_in)
  (first | go_end0 | refine bodyPost_ret (results_none rfl _ _ _) rfl ?_)
  exact ⟨rfl, F, ⟨sv, _, mb, rd, H.out.grown (gb_alloc GU.out _), HF.out⟩, Step.none (gb_alloc GU.out _)⟩

theorem waits_done {v1 U w1 u3 : World} {b n N mb : Nat} {tv sv vv : Value} {z : Nat → Int} {p : Int} {s : Wk} {rd : Int × Int → Option Value} (HV : WkP v1 b tv n z p s N sv vv mb rd) (x : Int × Int) (no m : Nat) (la : Option Addr) (lc g' c' : Nat) (LV : (rd x).getD (.slice none 0 0) = .slice la m lc) (HM : m = (s.M x).length)
    (h1 : Only (fun k => k = mb) v1 U) (HO : w1.ownsRow 0 3 1 (.slice (some ⟨g', 0, none⟩) (m + 1) c') (m + 1) ((s.M x).map natV ++ [.int .i64 no])) (G1 : U.grownBy w1 (Value.slice la m lc).ownBlock) (V1 : some g' = (Value.slice la m lc).ownBlock ∨ U.heap.size ≤ g') (hmb : ∃ es c, w1.heap[mb]? = some (.map es c)) (M3 : MapG Try.prog 144 two u3 mb (N + 1) (upd rd x (some (.slice (some ⟨g', 0, none⟩) (m + 1) c')))) (G3 : w1.grownBy u3 (some mb)) :
    WkP u3 b tv n z p ⟨s.seen, fun y => if y = x then s.M y ++ [no] else s.M y⟩ (N + 1) sv vv mb (upd rd x (some (.slice (some ⟨g', 0, none⟩) (m + 1) c'))) ∧ Step (WkF b sv vv mb rd) (WkF b sv vv mb (upd rd x (some (.slice (some ⟨g', 0, none⟩) (m + 1) c')))) v1 u3 := by
  have hgm : ∀ k, (some g' : Option Nat) = some k → k ≠ mb := fun k e h => by
    cases e
    obtain ⟨cs, hc⟩ := ownsRow_type HO (k := g') rfl
    obtain ⟨es, c, hm⟩ := hmb
    rw [h, hm] at hc
    cases hc
  have hns : m + 1 = (s.M x ++ [no]).length := by rw [List.length_append, ← HM]; rfl
  refine HV.push x (.slice (some ⟨g', 0, none⟩) (m + 1) c') no ((h1.mono fun _ _ e => .inl e).trans ((Only.of G1 (fun k e _ => .inr (by rw [LV]; exact e))).trans (Only.of G3 (fun k e _ => .inl (by cases e; rfl))))) M3 ?_ ?_
  · rw [← hns, List.map_append]
    exact ownsRow_keep HO (fun k e => G3.block k (HO.lt k e).2 (by simp; exact hgm k e))
  · rw [LV]
    rcases V1 with h | h
    · exact .inl h
    · exact .inr ⟨g', rfl, Nat.le_trans h1.size h⟩

set_option maxHeartbeats 1000000 in
/-- One that waits. -/
theorem ask_waits (w : World) (F : Nat → Prop) (b : Nat) (ta : Option Addr) (tc : Nat) (ys : List (Tr × Value)) (n : Nat) (z : Nat → Int) (p : Nat) (s : Wk) (N : Nat) (no : Nat) (t : Tr) (yv : Value) (x1 x2 : Int) (hT : TsAt w ta ys) (hy : ys[no]? = some (t, yv)) (h : WkM w F b (.slice ta ys.length tc) n z p s N) (ok : WkOk (ys.map Prod.fst) n p s N) (hf : fits n z t.ac = false) (hm : misses n z t.ac = some (x1, x2)) :
    Calls Try.prog 70 #[.pointer (some ⟨b, 0, none⟩), .int .i64 no] w fun r w' => r = .returned (.tuple #[]) ∧ ∃ F', Hid (WkM w' F' b (.slice ta ys.length tc) n z p ⟨s.seen, fun y => if y = (x1, x2) then s.M y ++ [no] else s.M y⟩ (N + 1)) ∧ Hid (Step F F' w w') := by
  obtain ⟨sv, vv, mb, rd, h0, hF⟩ := h; have hno : no < ys.length := (List.getElem?_eq_some_iff.1 hy).1; obtain ⟨tb, off, va, vc, rfl, htb, hv, hl, c0, c1, c2, c3, c4, c5, c6, c7, c8⟩ := hT.at hy; dsimp only at hv hl c0 c1 c2 c3 c4 c5 c6 c7 c8; subst hv; have hac := ok.acs t (List.mem_map_of_mem (f := Prod.fst) (List.mem_of_getElem? hy)); obtain ⟨ua, uc, hvv⟩ := owns_slice h0.vals; subst hvv; have H := Lib.hid h0; have HF := Lib.hid hF; have HL := Lib.hid hl; have HAC := Lib.hid hac.2; have HNZ := Lib.hid (show IsNums .i64 w ua n z from IsNums.of_own h0.vals); have FT := Lib.hid hf; have MS := Lib.hid hm; have hn6 : (no : Int) ≤ 1000000 := (by have := ok.len; rw [List.length_map] at this; omega)
  have hkey : (Lit.int .i64 x1).wf = true ∧ (Lit.int .i64 x2).wf = true := by
    obtain ⟨a, ha, _, he, _⟩ := misses_some hm
    injection he with he1 he2
    exact ⟨he1 ▸ (hac.2 a ha).ob, he2 ▸ (hac.2 a ha).va⟩
  obtain ⟨kl, hkl⟩ := keyWant (x := (x1, x2)) hkey.1 hkey.2
  have KL := Lib.hid hkl
  have hN := ok.N
  have hlx := ok.lists (x1, x2)
  clear hkey hkl
  have hno' : (no : Int) < (ys.length : Int) := (by omega); have hacl : t.ac.length ≤ 1000000 := (by have := hac.1; omega); have b0 : w.cell? ⟨b, 0, none⟩ = some (.slice (some ⟨tb, off, none⟩) ys.length tc) := h0.blk.cell 0; have bl := h0.blk.lt; have GA := Lib.hid (World.grownBy_alloc w (.cells #[.int .i64 t.th, .int .i64 t.tx, .int .i64 t.at_, .int .i64 t.st, .int .i64 t.b, .int .i64 t.en, .int .i64 t.re, .bool t.co, .slice va t.ac.length vc] 41) none); have EB := Lib.hid (Blk.made w 41 #[.int .i64 t.th, .int .i64 t.tx, .int .i64 t.at_, .int .i64 t.st, .int .i64 t.b, .int .i64 t.en, .int .i64 t.re, .bool t.co, .slice va t.ac.length vc]); have OKL := Lib.hid ok; clear hT hy h0 hF hl hac hf hm ok
  go_enter Try.func70, Try.ntmps70
  go_upto_region 1 with fail
  generalize w.alloc _ = v at *; generalize hq : w.heap.size = q at *; have HQ := Lib.hid hq; clear hq; have d2 : v.cell? ⟨b, 2, none⟩ = some (.slice ua n uc) := GA.out.cell (H.out.blk.cell 2) (by simp); have e0 := EB.out.cell 0; have e1 := EB.out.cell 1; have e2 := EB.out.cell 2; have e3 := EB.out.cell 3; have e4 := EB.out.cell 4; have e5 := EB.out.cell 5; have e6 := EB.out.cell 6; have e7 := EB.out.cell 7; have e8 := EB.out.cell 8; have bv := World.block_lt_of_cell? _ _ d2; have qv := EB.out.lt; have K0 : Hid (v.grownBy v.drew none) := Lib.hid (gb_drew (gb_refl v none))
  go_wp2_with fail
  go_region_held3 (fun w' => Hid (v.grownBy w' none) ∧ w'.cell? ⟨b, 2, none⟩ = some (.slice ua n uc) ∧ w'.cell? ⟨q, 0, none⟩ = some (.int .i64 t.th) ∧ w'.cell? ⟨q, 1, none⟩ = some (.int .i64 t.tx) ∧ w'.cell? ⟨q, 2, none⟩ = some (.int .i64 t.at_) ∧ w'.cell? ⟨q, 3, none⟩ = some (.int .i64 t.st) ∧ w'.cell? ⟨q, 4, none⟩ = some (.int .i64 t.b) ∧ w'.cell? ⟨q, 5, none⟩ = some (.int .i64 t.en) ∧ w'.cell? ⟨q, 6, none⟩ = some (.int .i64 t.re) ∧ w'.cell? ⟨q, 7, none⟩ = some (.bool t.co) ∧ w'.cell? ⟨q, 8, none⟩ = some (.slice va t.ac.length vc)) (go_keep) (first | (go_at_call 16; refine (fits_any ua n uc z t va vc _ (HNZ.out.grown (gb_trans GA.out (by refine Hid.out ?_; assumption))) (HL.out.grown (gb_trans GA.out (by refine Hid.out ?_; assumption))) HAC.out hacl).mono ?_; rw [FT.out]; rintro r u ⟨rfl, gu⟩; have K : Hid (v.grownBy u none) := Lib.hid (gb_trans (by refine Hid.out ?_; assumption) gu.out); have x2 := K.out.cell d2 (by simp); have y0 := K.out.cell e0 (by simp); have y1 := K.out.cell e1 (by simp); have y2 := K.out.cell e2 (by simp); have y3 := K.out.cell e3 (by simp); have y4 := K.out.cell e4 (by simp); have y5 := K.out.cell e5 (by simp); have y6 := K.out.cell e6 (by simp); have y7 := K.out.cell e7 (by simp); have y8 := K.out.cell e8 (by simp)))
  obtain ⟨i0, hi0, hz00, hz10, hz20⟩ := info_parts infoInt2
  have hi := Lib.hid hi0
  have hz0 := Lib.hid hz00
  have hz1 := Lib.hid hz10
  have hz2 := Lib.hid hz20
  clear hi0 hz00 hz10 hz20
  go_upto_region 5 with (first | (go_at_call 87; refine (misses_any b ua n uc z t va vc u x2 (HNZ.out.grown (gb_trans GA.out K.out)) (HL.out.grown (gb_trans GA.out K.out)) hacl).mono ?_; rw [MS.out]; dsimp only [missV]; rintro r u2 ⟨rfl, gu2⟩; have GU := Lib.hid (gb_trans (gb_trans GA.out K.out) gu2.out); clear d2 e0 e1 e2 e3 e4 e5 e6 e7 e8 x2 y0 y1 y2 y3 y4 y5 y6 y7 y8 K0 K) | go_in)
  have GV := Lib.hid (gb_alloc GU.out (.cells #[.int .i64 x1, .int .i64 x2] 144))
  have EW := Lib.hid (Blk.made u2 144 #[.int .i64 x1, .int .i64 x2])
  have HV := Lib.hid (H.out.grown GV.out)
  clear EB GU gu2 gu
  generalize u2.alloc _ = v1 at *
  generalize hq5 : u2.heap.size = q5 at *
  clear hq5
  obtain ⟨lv, hlv, hlrow⟩ : ∃ lv, (rd (x1, x2)).getD (.slice none 0 0) = lv ∧ v1.ownsRow 0 3 1 lv (s.M (x1, x2)).length ((s.M (x1, x2)).map natV) := by
    cases e : rd (x1, x2) with
    | none => exact ⟨_, rfl, by rw [HV.out.nope _ e]; exact World.ownsRow_nil _ _ _ _⟩
    | some u => exact ⟨u, rfl, HV.out.lst _ u e⟩
  obtain ⟨la, lc, rfl⟩ := owns_slice hlrow
  have hune : ∀ k, (Value.slice la (s.M (x1, x2)).length lc).ownBlock = some k → k ≠ b ∧ k ≠ mb ∧ k < v1.heap.size ∧ ∃ cs, v1.heap[k]? = some (.cells cs 3 (0, 0)) := fun k e => by
    cases hrd : rd (x1, x2) with
    | none =>
      rw [hrd] at hlv
      have h2 : (Value.slice none 0 0).ownBlock = some k := by rw [show (Value.slice none 0 0) = .slice la (s.M (x1, x2)).length lc from hlv]; exact e
      cases h2
    | some x =>
      rw [hrd] at hlv
      have := HV.out.list_ne (show rd (x1, x2) = some (.slice la (s.M (x1, x2)).length lc) by rw [hrd]; exact congrArg some hlv) k e
      exact ⟨this.1, this.2.2.2.1, this.2.2.2.2, ownsRow_type hlrow e⟩
  obtain ⟨m, hm⟩ : ∃ m, m = (s.M (x1, x2)).length := ⟨_, rfl⟩
  have HM := Lib.hid hm
  rw [← hm] at hlv hune hlrow hlx
  have UN := Lib.hid hune
  have RW := Lib.hid hlrow
  have LV := Lib.hid hlv
  clear hlv hune hlrow hm
  have c4 : v1.cell? ⟨b, 4, none⟩ = some (.map (some mb)) := HV.out.blk.cell 4
  have w0 : v1.cell? ⟨q5, 0, none⟩ = some (.int .i64 x1) := EW.out.cell 0
  have w1 : v1.cell? ⟨q5, 1, none⟩ = some (.int .i64 x2) := EW.out.cell 1
  have bl1 := HV.out.blk.lt
  have ql := EW.out.lt
  have hMG1 : MapG Try.prog 144 two (v1.alloc (.cells #[.int .i64 no] 3)).drew mb N rd := HV.out.map.grown (show World.grownBy v1 (v1.alloc (.cells #[.int .i64 no] 3)).drew none from (by repeat (first | exact gb_refl _ _ | refine gb_drewN ?_ _ | refine gb_drew ?_ | refine gb_alloc ?_ _))) (by simp)
  have hN6 : N < maxLen := by unfold maxLen; omega
  obtain ⟨stB, uB, runB, gB, mB, nextB⟩ := hMG1.entry kWant klWant two_inj Try.underlying64 hN6 zeroList KL.out
  rw [LV.out] at runB
  have runB' : (Instr.mapEntry 64 (.map (some mb)) (.agg #[.int .i64 x1, .int .i64 x2])).run Try.prog (v1.alloc (.cells #[.int .i64 no] 3)).drew = .ok (.tuple #[.slice la m lc, .int .i64 stB]) uB := runB
  clear runB hMG1
  have nb : (some b : Option Nat) ≠ some mb := by simp; exact fun e => HV.out.map_ne.1 e.symm
  have nq : (some q5 : Option Nat) ≠ some mb := by simp; exact fun e => HV.out.map.ne_blk EW.out e.symm
  have BB := Lib.hid (((HV.out.blk.alloc (.cells #[.int .i64 no] 3)).drew).grown gB nb)
  have EBB := Lib.hid (((EW.out.alloc (.cells #[.int .i64 no] 3)).drew).grown gB nq)
  have b4 : uB.cell? ⟨b, 4, none⟩ = some (.map (some mb)) := BB.out.cell 4
  have b5 : uB.cell? ⟨q5, 0, none⟩ = some (.int .i64 x1) := EBB.out.cell 0
  have b6 : uB.cell? ⟨q5, 1, none⟩ = some (.int .i64 x2) := EBB.out.cell 1
  have lmb : ∀ k, (Value.slice la m lc).ownBlock = some k → (some k : Option Nat) ≠ some mb := fun k e h => (UN.out k e).2.1 (by injection h)
  have RB := Lib.hid (ownsRow_keep (w' := uB) RW.out (fun k e => (gB.block k (by simp; exact Nat.lt_succ_of_lt (UN.out k e).2.2.1) (lmb k e)).trans (Below.heap_alloc _ _ _ (UN.out k e).2.2.1)))
  have OB := Lib.hid ((Only.none (S := fun k => k = mb) (show World.grownBy v1 (v1.alloc (.cells #[.int .i64 no] 3)).drew none from (by repeat (first | exact gb_refl _ _ | refine gb_drewN ?_ _ | refine gb_drew ?_ | refine gb_alloc ?_ _)))).trans (Only.of gB (fun k e _ => by cases e; rfl)))
  have newB : ∀ j u, [Value.int .i64 no][j]? = some u → uB.cell? ((⟨v1.heap.size, 0, none⟩ : Addr).add j) = some u := fun j u hj => by
    have hs := new_cells v1 [.int .i64 no] 3 j u hj
    match j, hj with
    | 0, hj => exact gB.cell (by simpa using hs) (by simp; exact Nat.ne_of_gt HV.out.map.lt)
  have NB := Lib.hid newB
  have MB := Lib.hid mB
  have NB2 := Lib.hid nextB
  clear gB mB nextB newB
  go_wp2_with fail
  go_region_held_law (fun w' => w'.cell? ⟨b, 4, none⟩ = some (.map (some mb)) ∧ w'.cell? ⟨q5, 0, none⟩ = some (.int .i64 x1) ∧ w'.cell? ⟨q5, 1, none⟩ = some (.int .i64 x2)) (go_keep) ((refine step_append_at rfl (.tmp 42) (.tmp 44) 25 rfl 0 3 i0 (.int .i64 0) 1 8 Try.underlying25 hi.out hz0.out hz1.out hz2.out rfl (by decide) (.slice la m lc) m ((s.M (x1, x2)).map natV) (by simp [Act.eval]) (w := uB) RB.out ⟨v1.heap.size, 0, none⟩ 1 1 [.int .i64 no] (by simp [Act.eval]) rfl NB.out (by simp [Value.oneCell']) (by unfold maxLen; omega) (by omega) (Nat.zero_le _) (by decide) ?_; intro g' c' w1' ho1 hg1 hv1; have x4 := hg1.cell b4 (by intro h9; exact (UN.out _ h9.symm).1 rfl); have x5 := hg1.cell b5 (by intro h9; obtain ⟨cs, hc⟩ := (UN.out _ h9.symm).2.2.2; exact absurd (not_cells_of hc EW.out) (by decide)); have x6 := hg1.cell b6 (by intro h9; obtain ⟨cs, hc⟩ := (UN.out _ h9.symm).2.2.2; exact absurd (not_cells_of hc EW.out) (by decide)); obtain ⟨u3, hU, hm3, hg3⟩ := NB2.out w1' (.slice (some ⟨g', 0, none⟩) (m + 1) c') (hg1.block mb (by obtain ⟨es, c, h⟩ := MB.out; exact (Array.getElem?_eq_some_iff.1 h).1) (by intro h9; exact (UN.out _ h9.symm).2.1 rfl)); have hU' : (Instr.entryStore 64 (.map (some mb)) (.int .i64 stB) (.slice (some ⟨g', 0, none⟩) (m + 1) c')).run Try.prog w1' = .ok () u3 := hU; have y4 := hg3.cell x4 nb; have y5 := hg3.cell x5 nq; have y6 := hg3.cell x6 nq; have hmb1 : ∃ es c, w1'.heap[mb]? = some (.map es c) := (by obtain ⟨es, c, h⟩ := MB.out; exact ⟨es, c, (hg1.block mb (by obtain ⟨es, c, h⟩ := MB.out; exact (Array.getElem?_eq_some_iff.1 h).1) (by intro h9; exact (UN.out _ h9.symm).2.1 rfl)).trans h⟩); have DN := Lib.hid (waits_done HV.out (x1, x2) no m la lc g' c' LV.out HM.out OB.out ho1 hg1 hv1 hmb1 hm3 hg3); clear hU ho1 hg1 hv1 hm3 hg3 hmb1))
  all_goals
    go_wp2
    (first | go_end0 | refine bodyPost_ret (results_none rfl _ _ _) rfl ?_)
    refine ⟨rfl, fun k => WkF b sv (.slice ua n uc) mb (upd rd (x1, x2) (some (.slice (some ⟨g', 0, none⟩) (m + 1) c'))) k, ⟨sv, _, mb, _, DN.out.1, fun _ h => h⟩, ?_⟩
    refine Step.trans (Step.none GV.out) ⟨DN.out.2.only.mono fun k _ hk => HF.out k hk, fun k hk => ?_⟩
    rcases DN.out.2.foot k hk with h | h
    · exact .inl (HF.out k h)
    · exact .inr h

theorem ask_any (w : World) (F : Nat → Prop) (b : Nat) (ta : Option Addr) (tc : Nat) (ys : List (Tr × Value)) (n : Nat) (z : Nat → Int) (p : Nat) (s : Wk) (N : Nat) (no : Nat) (t : Tr) (yv : Value) (hT : TsAt w ta ys) (hy : ys[no]? = some (t, yv)) (h : WkM w F b (.slice ta ys.length tc) n z p s N) (ok : WkOk (ys.map Prod.fst) n p s N) :
    Calls Try.prog 70 #[.pointer (some ⟨b, 0, none⟩), .int .i64 no] w fun r w' => r = .returned (.tuple #[]) ∧ ∃ F', Hid (WkM w' F' b (.slice ta ys.length tc) n z p (base.ask n z p t.ac no s) (N + 1)) ∧ Hid (Step F F' w w') := by
  unfold base.ask
  by_cases hf : fits n z t.ac = true
  · rw [if_pos hf]
    refine (ask_fits w F b ta tc ys n z p s N no t yv hT hy h ok hf).mono ?_
    rintro r w' ⟨rfl, F', h1, h2⟩
    exact ⟨rfl, F', h1.out.more (Nat.le_succ _), h2⟩
  · have hf' : fits n z t.ac = false := by simpa using hf
    rw [if_neg hf]
    cases hm : misses n z t.ac with
    | none =>
      refine (ask_never w F b ta tc ys n z p s N no t yv hT hy h ok hf' hm).mono ?_
      rintro r w' ⟨rfl, F', h1, h2⟩
      exact ⟨rfl, F', h1.out.more (Nat.le_succ _), h2⟩
    | some x =>
      obtain ⟨x1, x2⟩ := x
      exact ask_waits w F b ta tc ys n z p s N no t yv x1 x2 hT hy h ok hf' hm
end Go.Proofs.Ytkidkhjpijjphaa.oq

/- Package opaque's walk: the next state is made of this one, in place. -/
namespace Go.Proofs.Ytkidkhjpijjphaa.oq
open Go Go.RowKit Go.Proofs.Ytkidkhjpijjphaa.base Go.Proofs.Ytkidkhjpijjphaa.hs Go.Proofs.Ytkidkhjpijjphaa.lg Go.Proofs.Ytkidkhjpijjphaa.md Go.Maps
set_option linter.unusedVariables false
set_option maxRecDepth 100000
set_option linter.unusedSimpArgs false

theorem writes_append (n : Nat) (m : List Acc) : ∀ l : List Acc, writes n (l ++ m) = writes n l ++ writes n m
  | [] => rfl
  | a :: l => by
    rw [List.cons_append, writes, writes, writes_append n m l]
    split <;> simp
theorem writes_take {n : Nat} {l : List Acc} {k : Nat} {y : Acc} (h : l[k]? = some y) : writes n (l.take (k + 1)) = if y.k = 3 ∧ 0 ≤ y.ob ∧ y.ob < (n : Int) then writes n (l.take k) ++ [y.ob.toNat] else writes n (l.take k) := by
  rw [List.take_add_one, h]
  show writes n (l.take k ++ [y]) = _
  rw [writes_append, writes, writes]
  split <;> simp
theorem writes_len (n : Nat) : ∀ l : List Acc, (writes n l).length ≤ l.length
  | [] => Nat.le_refl _
  | a :: l => by
    have := writes_len n l
    rw [writes]
    split <;> simp <;> omega
theorem infoInt3 : (Try.prog.info? 3).map (fun i => (i.zero, i.size, i.bytes)) = some (some (.int .i64 0), 1, 8) := by kernel_rfl

/-- What stands while a try's accesses are gone through. -/
structure ChgI (w : World) (b : Nat) (tv : Value) (n : Nat) (z : Nat → Int) (p : Int) (s : Wk) (N : Nat) (sv vv : Value) (mb : Nat) (rd : Int × Int → Option Value) (ac : List Acc) (k : Nat) (ov : Value) (wr : World) : Prop where
  wk : WkP wr b tv n (app z (ac.take k)) p s N sv vv mb rd
  row : wr.ownsRow 0 3 1 ov (writes n (ac.take k)).length ((writes n (ac.take k)).map natV)
  new : ∀ i, ov.ownBlock = some i → w.heap.size ≤ i
  only : Only (WkF b sv vv mb rd) w wr

theorem WkP.congrZ {w : World} {b n N mb : Nat} {tv sv vv : Value} {z y : Nat → Int} {p : Int} {s : Wk} {rd : Int × Int → Option Value} (h : WkP w b tv n z p s N sv vv mb rd) (hz : ∀ i, i < n → y i = z i) : WkP w b tv n y p s N sv vv mb rd :=
  ⟨h.blk, h.seen, by
    have e : base.vals y n = base.vals z n := by
      unfold base.vals
      refine List.map_congr_left fun i hi => ?_
      rw [hz i (List.mem_range.1 hi)]
    rw [e]
    exact h.vals, h.map, h.nope, h.lst, h.apart, h.sap⟩
theorem app1_same {n : Nat} {y : Acc} (z : Nat → Int) (h : ¬ (y.k = 3 ∧ 0 ≤ y.ob ∧ y.ob < (n : Int))) : ∀ i, i < n → app1 y z i = z i := fun i hi => by
  unfold app1
  rw [if_neg]
  rintro ⟨h1, h2⟩
  exact h ⟨h1, by omega, by omega⟩
theorem gb_only {w0 w wr : World} {S : Nat → Prop} (g : w0.grownBy w none) (h : Only S w wr) (hS : ∀ k, S k → w0.heap.size ≤ k) : w0.grownBy wr none :=
  have B := h.below (gb_below g) g.size hS
  ⟨B.os, B.tape, B.output, B.size, fun k hk _ => B.block k hk⟩

theorem ChgI.next {w wr v2 w1 : World} {b n N mb k o : Nat} {tv sv vv ov : Value} {z : Nat → Int} {p va : Int} {s : Wk} {rd : Int × Int → Option Value} {ac : List Acc} {g' c' m : Nat} {ob : Obj} (I : ChgI w b tv n z p s N sv vv mb rd ac k ov wr) (lts : ∀ i, WkF b sv vv mb rd i → i < w.heap.size) (HW : writes n (ac.take (k + 1)) = writes n (ac.take k) ++ [o]) (HA : app z (ac.take (k + 1)) = fun i => if i = o then va else app z (ac.take k) i) (hm : m = (writes n (ac.take k)).length)
    (H2 : WkP v2 b tv n (fun i => if i = o then va else app z (ac.take k) i) p s N sv vv mb rd) (O2 : Only (WkF b sv vv mb rd) wr v2) (HG : (v2.alloc ob).grownBy w1 ov.ownBlock) (HO : w1.ownsRow 0 3 1 (.slice (some ⟨g', 0, none⟩) (m + 1) c') (m + 1) ((writes n (ac.take k)).map natV ++ [.int .i64 o])) (HV : some g' = ov.ownBlock ∨ (v2.alloc ob).heap.size ≤ g') :
    ChgI w b tv n z p s N sv vv mb rd ac (k + 1) (.slice (some ⟨g', 0, none⟩) (m + 1) c') w1 := by
  have hlen : (writes n (ac.take (k + 1))).length = m + 1 := by rw [HW, List.length_append, hm]; rfl
  refine ⟨?_, ?_, ?_, ?_⟩
  · rw [HA]
    refine (H2.grown (World.grownBy_alloc v2 ob none)).keep fun i hi => HG.block i (Nat.lt_of_lt_of_le (H2.lts i hi) (by simp)) (fun e => ?_)
    have := I.new i e.symm
    have := lts i hi
    omega
  · rw [hlen, HW, List.map_append]
    exact HO
  · intro i e
    have h1 := I.only.size
    have h2 := O2.size
    rcases HV with h | h
    · exact I.new i (by rw [← h]; exact e)
    · have e1 : g' = i := by injection e
      subst e1
      simp at h
      omega
  · refine only_later ((I.only.trans O2).trans (Only.none (World.grownBy_alloc v2 ob none))) (Only.of (S := fun i => ov.ownBlock = some i) HG (fun i e _ => e)) (fun i hi e => ?_)
    have := I.new i e
    omega

set_option maxHeartbeats 2000000 in
theorem change_any (w0 w : World) (F : Nat → Prop) (b : Nat) (tv : Value) (n : Nat) (z : Nat → Int) (p : Int) (s : Wk) (N : Nat) (t : Tr) (av : Option Addr) (vc : Nat) (h : WkM w F b tv n z p s N) (hl : IsL accC w0 av t.ac) (g0 : w0.grownBy w none) (hFB : ∀ k, F k → w0.heap.size ≤ k) (hm : t.ac.length ≤ 1000) (hn : n ≤ 1000000) :
    Calls Try.prog 71 #[.pointer (some ⟨b, 0, none⟩), .agg ⟨trC t (.slice av t.ac.length vc)⟩] w fun r w' => ∃ ov F', r = .returned ov ∧ Hid (WkM w' F' b tv n (app z t.ac) p s N) ∧ Hid (Step F F' w w') ∧ Hid (w'.ownsRow 0 3 1 ov (writes n t.ac).length ((writes n t.ac).map natV)) ∧ Hid (∀ k, ov.ownBlock = some k → ¬ F' k ∧ w.heap.size ≤ k) := by
  obtain ⟨xth, xtx, xat, xst, xb, xen, xre, xco, ac⟩ := t
  dsimp only at hl hm
  show Calls Try.prog 71 #[.pointer (some ⟨b, 0, none⟩), .agg #[.int .i64 xth, .int .i64 xtx, .int .i64 xat, .int .i64 xst, .int .i64 xb, .int .i64 xen, .int .i64 xre, .bool xco, .slice av ac.length vc]] w _
  obtain ⟨sv, vv, mb, rd, h0, hF⟩ := h
  obtain ⟨i0, hi0, hz00, hz10, hz20⟩ := info_parts infoInt3
  have hi := Lib.hid hi0
  have hz0 := Lib.hid hz00
  have hz1 := Lib.hid hz10
  have hz2 := Lib.hid hz20
  have HL := Lib.hid hl
  have HF := Lib.hid hF
  have HFB := Lib.hid (show ∀ k, WkF b sv vv mb rd k → w0.heap.size ≤ k from fun k hk => hFB k (hF k hk))
  have G0 := Lib.hid g0
  have H := Lib.hid h0
  have GA := Lib.hid (World.grownBy_alloc w (.cells #[.int .i64 xth, .int .i64 xtx, .int .i64 xat, .int .i64 xst, .int .i64 xb, .int .i64 xen, .int .i64 xre, .bool xco, .slice av ac.length vc] 41) none)
  have I0 : Hid (ChgI w b tv n z p s N sv vv mb rd ac 0 (.slice none 0 0) (w.alloc (.cells #[.int .i64 xth, .int .i64 xtx, .int .i64 xat, .int .i64 xst, .int .i64 xb, .int .i64 xen, .int .i64 xre, .bool xco, .slice av ac.length vc] 41))) := Lib.hid ⟨h0.grown GA.out, World.ownsRow_nil _ _ _ _, (fun i e => by cases e), Only.none GA.out⟩
  clear hl hF h0 g0 hFB hi0 hz00 hz10 hz20
  go_enter Try.func71, Try.ntmps71
  go_wp2_with fail
  generalize w.alloc _ = v0 at *
  go_loopw [5, 11] (fun ov iv wr => ∃ k : Nat, k ≤ ac.length ∧ iv = .int .i64 k ∧ Hid (ChgI w b tv n z p s N sv vv mb rd ac k ov wr)) (fun _ iv _ => (ac.length - intOf iv).toNat)
  case atStart => exact ⟨0, by omega, rfl, I0⟩
  case round =>
    clear I0
    obtain ⟨k, hk, rfl, I⟩ := hrel
    have GW := Lib.hid (gb_only G0.out I.out.only HFB.out)
    obtain ⟨oa, oc, rfl⟩ := owns_slice I.out.row
    have hwl := writes_len n (ac.take k)
    rw [List.length_take] at hwl
    by_cases hlt : k < ac.length
    · have hlt' : (k : Int) < (ac.length : Int) := by omega
      have hk6 : (k : Int) < 1000000 := by omega
      have hget := List.getElem?_eq_getElem hlt
      obtain ⟨lb, off, rfl, hb, c0, c1, c3, c4, c5, c6⟩ := acc6 (HL.out.grown GW.out) hget
      have HWT := Lib.hid (writes_take (n := n) hget)
      have HAT := Lib.hid (app_take z hget)
      clear hget
      generalize ac[k] = y at *
      obtain ⟨pl, ak, ob, va, own, rel⟩ := y
      dsimp only at c0 c1 c3 c4 c5 c6
      have bl := I.out.wk.blk.lt
      obtain ⟨ua, uc, hvv⟩ := owns_slice I.out.wk.vals
      subst hvv
      have d2 : wr.cell? ⟨b, 2, none⟩ = some (.slice ua n uc) := I.out.wk.blk.cell 2
      by_cases hc : ak = 3 ∧ 0 ≤ ob ∧ ob < (n : Int)
      · obtain ⟨rfl, ho1, ho2⟩ := hc
        obtain ⟨o, rfl⟩ : ∃ o : Nat, ob = (o : Int) := ⟨ob.toNat, by omega⟩
        have ho : o < n := by omega
        have HW : Hid (writes n (ac.take (k + 1)) = writes n (ac.take k) ++ [o]) := Lib.hid (by rw [HWT.out, if_pos ⟨rfl, by dsimp only; omega, by dsimp only; omega⟩]; rfl)
        have HA : Hid (app z (ac.take (k + 1)) = fun i => if i = o then va else app z (ac.take k) i) := Lib.hid (by rw [HAT.out]; exact app1_in _ rfl rfl)
        clear HWT HAT ho1 ho2
        have GA1 := Lib.hid (World.grownBy_alloc wr (.cells #[.int .i64 pl, .int .i64 3, .int .i64 o, .int .i64 va, .bool own, .bool rel] 48) none)
        have EB := Lib.hid (Blk.made wr 48 #[.int .i64 pl, .int .i64 3, .int .i64 o, .int .i64 va, .bool own, .bool rel])
        obtain ⟨g, hg⟩ : ∃ g, (Value.slice ua n uc).ownBlock = some g := by
          rcases I.out.wk.vals.2 with ⟨_, h1⟩ | ⟨g, cap, cur, h1, _⟩
          · omega
          · exact ⟨g, by rw [h1]; rfl⟩
        have hua : ua = some ⟨g, 0, none⟩ := by
          rcases I.out.wk.vals.2 with ⟨_, h1⟩ | ⟨g', cap, cur, h1, _⟩
          · omega
          · cases h1
            cases hg
            rfl
        subst hua
        have HV := Lib.hid (I.out.wk.grown GA1.out)
        have RO := Lib.hid (ownsRow_keep (w' := wr.alloc (.cells #[.int .i64 pl, .int .i64 3, .int .i64 o, .int .i64 va, .bool own, .bool rel] 48)) I.out.row (fun i e => GA1.out.block i (I.out.row.lt i e).2 (by simp)))
        go_upto_region 6 with (first | (go_at_call 88; refine (has_yes b _ n uc o _ ho (GA1.out.cell d2 (by simp))).mono ?_; rintro r u ⟨rfl, rfl⟩) | go_in)
        generalize wr.alloc _ = v1 at *
        generalize hq : wr.heap.size = q at *
        have HQ := Lib.hid hq
        clear hq
        have e2 : v1.cell? ⟨b, 2, none⟩ = some (.slice (some ⟨g, 0, none⟩) n uc) := HV.out.blk.cell 2
        have q1 : v1.cell? ⟨q, 1, none⟩ = some (.int .i64 3) := EB.out.cell 1
        have q2 : v1.cell? ⟨q, 2, none⟩ = some (.int .i64 o) := EB.out.cell 2
        have q3 : v1.cell? ⟨q, 3, none⟩ = some (.int .i64 va) := EB.out.cell 3
        have bv := HV.out.blk.lt
        have qv := EB.out.lt
        have kz : v1.cell? ⟨g, o, none⟩ = some (.int .i64 (app z (ac.take k) o)) := (HV.out.vals.cellAt o (by omega)).trans (vals_get _ _ _ ho)
        have kf : v1.frozen? ⟨g, o, none⟩ = false := by
          obtain ⟨cs, hc⟩ := ownsRow_type HV.out.vals hg
          simp [World.frozen?, hc]
        have gl : g < v1.heap.size := (HV.out.vals.lt g hg).2
        have ho' : (o : Int) < (n : Int) := by omega
        have hqg : q ≠ g := fun e => by
          obtain ⟨cs, hc⟩ := ownsRow_type HV.out.vals hg
          exact absurd (not_cells_of hc (e ▸ EB.out)) (by decide)
        have HS := Lib.hid (HV.out.puts hg ho va)
        have HGG := Lib.hid hg
        have RO2 := Lib.hid (ownsRow_keep (w' := v1.setCell ⟨g, o, none⟩ (.int .i64 va)) RO.out (fun i e => Below.heap_setCell _ _ _ _ (fun e2 => by
          have := I.out.new i e
          have := H.out.lts g (.inr (.inr (.inl hg)))
          exact absurd e2 (by simp; omega))))
        have EB2 := Lib.hid (EB.out.keep (w' := v1.setCell ⟨g, o, none⟩ (.int .i64 va)) (Below.heap_setCell _ _ _ _ hqg))
        have O2 := Lib.hid ((Only.none (S := WkF b sv (.slice (some ⟨g, 0, none⟩) n uc) mb rd) GA1.out).trans (Only.of (gb_setB (gb_refl v1 (some g)) (i := o) (.int .i64 va)) (fun i e _ => by cases e; exact .inr (.inr (.inl hg)))))
        clear hg
        go_wp2_with fail
        go_region
        have H3 := Lib.hid (HS.out.grown (gb_drew (gb_refl _ none)))
        have RO3 := Lib.hid (ownsRow_keep (w' := (v1.setCell ⟨g, o, none⟩ (.int .i64 va)).drew) RO2.out (fun _ _ => rfl))
        have EB3 := Lib.hid (EB2.out.keep (w' := (v1.setCell ⟨g, o, none⟩ (.int .i64 va)).drew) rfl)
        have O3 := Lib.hid (O2.out.trans (Only.none (gb_drew (gb_refl (v1.setCell ⟨g, o, none⟩ (.int .i64 va)) none))))
        generalize (v1.setCell ⟨g, o, none⟩ (.int .i64 va)).drew = v2 at *
        have r2 : v2.cell? ⟨q, 2, none⟩ = some (.int .i64 o) := EB3.out.cell 2
        obtain ⟨m, hm⟩ : ∃ m, m = (writes n (ac.take k)).length := ⟨_, rfl⟩
        have HM := Lib.hid hm
        rw [← hm] at RO3 hwl
        rw [← hm]
        clear hm q1 q2 q3 e2 kz kf
        go_wp2_with (at_builtin; refine wpList_append_at _ rfl (.tmp 33) (.tmp 36) 25 rfl 0 3 i0 (.int .i64 0) 1 8 Try.underlying25 hi.out hz0.out hz1.out hz2.out rfl (by decide) (.slice oa m oc) m ((writes n (ac.take k)).map natV) rfl (RO3.out.alloc _) ⟨v2.heap.size, 0, none⟩ 1 1 [.int .i64 o] rfl rfl (new_cells _ _ _) (by intro u hu; simp at hu; subst hu; rfl) (by unfold maxLen; omega) (by omega) (Nat.zero_le _) (by decide) ?_; intro g' c' w1 ho1 hg1 hv1; have HO := Lib.hid ho1; have HG := Lib.hid hg1; have HVV := Lib.hid hv1; clear ho1 hg1 hv1)
        go_roundw
        case rel => exact ⟨k + 1, by omega, by go_num, ChgI.next (by have := I.out; rw [← HM.out] at this; exact this) H.out.lts HW.out HA.out HM.out H3.out O3.out HG.out HO.out HVV.out⟩
        case measure => simp [intOf]; omega
      · have HW : Hid (writes n (ac.take (k + 1)) = writes n (ac.take k)) := Lib.hid (by rw [HWT.out, if_neg hc])
        have HA : Hid (∀ i, i < n → app z (ac.take (k + 1)) i = app z (ac.take k) i) := Lib.hid (by rw [HAT.out]; exact app1_same _ hc)
        have GA1 := fun (kk oo : Int) => World.grownBy_alloc wr (.cells #[.int .i64 pl, .int .i64 kk, .int .i64 oo, .int .i64 va, .bool own, .bool rel] 48) none
        have NX : ∀ u, wr.grownBy u none → ChgI w b tv n z p s N sv (.slice ua n uc) mb rd ac (k + 1) (.slice oa (writes n (ac.take k)).length oc) u := fun u g => ⟨(I.out.wk.grown g).congrZ HA.out, by rw [HW.out]; exact ownsRow_keep I.out.row (fun i e => g.block i (I.out.row.lt i e).2 (by simp)), I.out.new, I.out.only.trans (Only.none g)⟩
        have NX := Lib.hid NX
        clear HWT HAT HW HA
        by_cases h3 : ak = 3
        · subst h3
          have ho : ob < 0 ∨ (n : Int) ≤ ob := by omega
          clear hc
          go_wp2_with (first | (go_at_call 88; refine (has_no b _ n uc ob _ ho ((GA1 3 ob).cell d2 (by simp))).mono ?_; rintro r u ⟨rfl, rfl⟩) | go_in)
          go_roundw
          case rel => exact ⟨k + 1, by omega, by go_num, NX.out _ (GA1 3 ob)⟩
          case measure => simp [intOf]; omega
        · have f3 : (ak == 3) = false := by simp [h3]
          clear hc h3
          go_wp2
          go_roundw
          case rel => exact ⟨k + 1, by omega, by go_num, NX.out _ (GA1 ak ob)⟩
          case measure => simp [intOf]; omega
    · obtain rfl : k = ac.length := by omega
      have hend : ac.take ac.length = ac := List.take_length
      go_wp2
      go_ret
      refine ⟨_, WkF b sv vv mb rd, rfl, ⟨sv, vv, mb, rd, by have := I.out.wk; rwa [hend] at this, fun _ h => h⟩, ⟨I.out.only.mono fun k _ hk => HF.out k hk, fun k hk => .inl (HF.out k hk)⟩, by have := I.out.row; rwa [hend] at this ⊢, fun i e => ⟨fun hk => ?_, I.out.new i e⟩⟩
      have := H.out.lts i hk
      have := I.out.new i e
      omega
end Go.Proofs.Ytkidkhjpijjphaa.oq

/- Package opaque's walk: those that wait for a value are woken. -/
namespace Go.Proofs.Ytkidkhjpijjphaa.oq
open Go Go.RowKit Go.Proofs.Ytkidkhjpijjphaa.base Go.Proofs.Ytkidkhjpijjphaa.hs Go.Proofs.Ytkidkhjpijjphaa.lg Go.Proofs.Ytkidkhjpijjphaa.md Go.Maps
set_option linter.unusedVariables false
set_option maxRecDepth 100000
set_option linter.unusedSimpArgs false

theorem wakes_snoc (ts : List Tr) (n : Nat) (z : Nat → Int) (p place : Nat) (no : Nat) : ∀ (l : List Nat) (s : Wk), wakes ts n z p place (l ++ [no]) s = wake1 ts n z p place no (wakes ts n z p place l s)
  | [], _ => rfl
  | _ :: l, s => wakes_snoc ts n z p place no l _
theorem wakes_take (ts : List Tr) (n : Nat) (z : Nat → Int) (p place : Nat) {l : List Nat} {k no : Nat} (h : l[k]? = some no) (s : Wk) : wakes ts n z p place (l.take (k + 1)) s = wake1 ts n z p place no (wakes ts n z p place (l.take k) s) := by
  rw [List.take_add_one, h]
  exact wakes_snoc ts n z p place no _ s

/-- What stands while they are woken: whoever is in hand lies in a block of its own. -/
structure WakI (w : World) (F : Nat → Prop) (b : Nat) (tv : Value) (ts : List Tr) (n : Nat) (z : Nat → Int) (p place : Nat) (s1 : Wk) (N : Nat) (who : List Nat) (u : Value) (k : Nat) (wr : World) (G : Nat → Prop) : Prop where
  wk : WkM wr G b tv n z p (wakes ts n z p place (who.take k) s1) (N + k)
  ok : WkOk ts n p (wakes ts n z p place (who.take k) s1) (N + k)
  row : wr.ownsRow 0 3 1 u who.length (who.map natV)
  sep : ∀ i, u.ownBlock = some i → ¬ G i
  step : Step F G w wr

theorem strike_sub {b mb : Nat} {sv vv : Value} {rd : Int × Int → Option Value} {x : Int × Int} : ∀ k, WkF b sv vv mb (upd rd x none) k → WkF b sv vv mb rd k := by
  rintro k (h | h | h | h | ⟨y, u, hy, hk⟩)
  · exact .inl h
  · exact .inr (.inl h)
  · exact .inr (.inr (.inl h))
  · exact .inr (.inr (.inr (.inl h)))
  · by_cases e : y = x
    · subst e
      rw [upd_same] at hy
      cases hy
    · rw [upd_other _ _ e] at hy
      exact .inr (.inr (.inr (.inr ⟨y, u, hy, hk⟩)))
theorem WkP.strike_sep {w : World} {b n N mb : Nat} {tv sv vv : Value} {z : Nat → Int} {p : Int} {s : Wk} {rd : Int × Int → Option Value} (h : WkP w b tv n z p s N sv vv mb rd) {x : Int × Int} {u : Value} (hu : rd x = some u) {i : Nat} (hi : u.ownBlock = some i) : ¬ WkF b sv vv mb (upd rd x none) i := by
  obtain ⟨h1, h2, h3, h4, _⟩ := h.list_ne hu i hi
  rintro (e | e | e | e | ⟨y, v, hy, hk⟩)
  · exact h1 e
  · exact h2 e
  · exact h3 e
  · exact h4 e
  · by_cases e : y = x
    · subst e
      rw [upd_same] at hy
      cases hy
    · rw [upd_other _ _ e] at hy
      exact e (h.apart y x v u i hy hu hk hi)

section
variable {w wr : World} {F G : Nat → Prop} {b n p place k N no : Nat} {tv u : Value} {ts : List Tr} {z : Nat → Int} {s1 : Wk} {who : List Nat} {t : Tr}
theorem WakI.next {u2 : World} {G2 : Nat → Prop} (h : WakI w F b tv ts n z p place s1 N who u k wr G) (hN : N + k + 1 ≤ 100000000000) (hw : wakes ts n z p place (who.take (k + 1)) s1 = wake1 ts n z p place no (wakes ts n z p place (who.take k) s1)) (ht : ts[no]? = some t) (hc : t.en < 0 ∨ (place : Int) < t.en)
    (h1 : WkM u2 G2 b tv n z p (base.ask n z p t.ac no (wakes ts n z p place (who.take k) s1)) (N + k + 1)) (h2 : Step G G2 wr u2) : WakI w F b tv ts n z p place s1 N who u (k + 1) u2 G2 := by
  have e : wakes ts n z p place (who.take (k + 1)) s1 = base.ask n z p t.ac no (wakes ts n z p place (who.take k) s1) := by
    rw [hw]
    unfold wake1
    rw [ht]
    dsimp only
    rw [if_pos hc]
  refine ⟨by rw [e]; exact h1, by rw [e]; exact h.ok.ask hN _ _ _, ownsRow_keep h.row fun i e => h2.only.block i (h.row.lt i e).2 (h.sep i e), fun i e hi => ?_, h.step.trans h2⟩
  rcases h2.foot i hi with h3 | h3
  · exact h.sep i e h3
  · have := (h.row.lt i e).2
    omega
theorem WakI.skip (h : WakI w F b tv ts n z p place s1 N who u k wr G) (hN : N + k + 1 ≤ 100000000000) (hw : wakes ts n z p place (who.take (k + 1)) s1 = wake1 ts n z p place no (wakes ts n z p place (who.take k) s1)) (ht : ts[no]? = some t) (hc : ¬ (t.en < 0 ∨ (place : Int) < t.en)) : WakI w F b tv ts n z p place s1 N who u (k + 1) wr G := by
  have e : wakes ts n z p place (who.take (k + 1)) s1 = wakes ts n z p place (who.take k) s1 := by
    rw [hw]
    unfold wake1
    rw [ht]
    dsimp only
    rw [if_neg hc]
  exact ⟨by rw [e]; exact h.wk.more (by omega), by rw [e]; exact h.ok.more (by omega) (by omega), h.row, h.sep, h.step⟩
end

set_option maxHeartbeats 2000000 in
theorem wake_any (w0 w : World) (F : Nat → Prop) (b : Nat) (ta : Option Addr) (tc : Nat) (ys : List (Tr × Value)) (n : Nat) (z : Nat → Int) (p place : Nat) (s : Wk) (N : Nat) (x1 x2 : Int) (hT : TsAt w0 ta ys) (g0 : w0.grownBy w none) (hFB : ∀ k, F k → w0.heap.size ≤ k) (h : WkM w F b (.slice ta ys.length tc) n z p s N) (ok : WkOk (ys.map Prod.fst) n p s N) (hN : N + 1000 ≤ 100000000000)
    (hk1 : (Lit.int .i64 x1).wf = true) (hk2 : (Lit.int .i64 x2).wf = true) (hwho : (s.M (x1, x2)).length ≤ 1000) (hmem : ∀ no ∈ s.M (x1, x2), no < ys.length) :
    Calls Try.prog 72 #[.pointer (some ⟨b, 0, none⟩), .agg #[.int .i64 x1, .int .i64 x2], .int .i64 place] w fun r w' => r = .returned (.tuple #[]) ∧ ∃ F', Hid (WkM w' F' b (.slice ta ys.length tc) n z p (base.wake (ys.map Prod.fst) n z p place (x1, x2) s) (N + 1000)) ∧ Hid (WkOk (ys.map Prod.fst) n p (base.wake (ys.map Prod.fst) n z p place (x1, x2) s) (N + 1000)) ∧ Hid (Step F F' w w') := by
  obtain ⟨sv, vv, mb, rd, h0, hF⟩ := h
  obtain ⟨kl, hkl⟩ := keyWant (x := (x1, x2)) hk1 hk2
  have KL := Lib.hid hkl
  have HT := Lib.hid hT
  have HFB := Lib.hid hFB
  have HF := Lib.hid hF
  have G0 := Lib.hid g0
  have OK := Lib.hid ok
  have HMEM := Lib.hid hmem
  have GA := Lib.hid (World.grownBy_alloc w (.cells #[.int .i64 x1, .int .i64 x2] 144) none)
  have EW := Lib.hid (Blk.made w 144 #[.int .i64 x1, .int .i64 x2])
  have HV := Lib.hid (h0.grown GA.out)
  clear hT hFB hF g0 ok hkl hmem h0
  go_enter Try.func72, Try.ntmps72
  go_upto_region 1 with fail
  generalize w.alloc _ = v1 at *
  generalize hq : w.heap.size = q at *
  clear hq
  obtain ⟨lv, hlv, hlrow⟩ : ∃ lv, (rd (x1, x2)).getD (.slice none 0 0) = lv ∧ v1.ownsRow 0 3 1 lv (s.M (x1, x2)).length ((s.M (x1, x2)).map natV) := by
    cases e : rd (x1, x2) with
    | none => exact ⟨_, rfl, by rw [HV.out.nope _ e]; exact World.ownsRow_nil _ _ _ _⟩
    | some u => exact ⟨u, rfl, HV.out.lst _ u e⟩
  have hsep : ∀ k, lv.ownBlock = some k → ∃ u, rd (x1, x2) = some u ∧ u.ownBlock = some k := fun k e => by
    cases hrd : rd (x1, x2) with
    | none => rw [hrd] at hlv; rw [← hlv] at e; cases e
    | some u => rw [hrd] at hlv; exact ⟨u, rfl, by rw [show u = lv from hlv]; exact e⟩
  obtain ⟨la, lc, rfl⟩ := owns_slice hlrow
  have RW := Lib.hid hlrow
  have SEP := Lib.hid hsep
  have c4 : v1.cell? ⟨b, 4, none⟩ = some (.map (some mb)) := HV.out.blk.cell 4
  have w0' : v1.cell? ⟨q, 0, none⟩ = some (.int .i64 x1) := EW.out.cell 0
  have w1' : v1.cell? ⟨q, 1, none⟩ = some (.int .i64 x2) := EW.out.cell 1
  have bl1 := HV.out.blk.lt
  have ql := EW.out.lt
  have hget : ∀ m, (Instr.lookup 64 (.map (some mb)) (.agg #[.int .i64 x1, .int .i64 x2]) false).run Try.prog (v1.drewN m) = .ok (.slice la (s.M (x1, x2)).length lc) (v1.drewN m) := fun m => by
    have := (show MapG Try.prog 144 two (v1.drewN m) mb N rd from HV.out.map).get kWant Try.underlying64 (zeroList _) KL.out
    rwa [hlv] at this
  have hget1 : (Instr.lookup 64 (.map (some mb)) (.agg #[.int .i64 x1, .int .i64 x2]) false).run Try.prog v1.drew = .ok (.slice la (s.M (x1, x2)).length lc) v1.drew := hget 1
  clear hget hlv hsep hlrow
  go_wp2_with fail
  go_region
  have HV2 := Lib.hid (HV.out.grown (gb_drew (gb_refl v1 none)))
  have EW2 := Lib.hid (EW.out.keep (w' := v1.drew) rfl)
  have RW2 := Lib.hid (ownsRow_keep (w' := v1.drew) RW.out (fun _ _ => rfl))
  have GV2 := Lib.hid (gb_drew GA.out)
  clear hget1 c4 w0' w1' EW HV RW GA bl1 ql
  generalize v1.drew = v2 at *
  have c4 : v2.cell? ⟨b, 4, none⟩ = some (.map (some mb)) := HV2.out.blk.cell 4
  have w0' : v2.cell? ⟨q, 0, none⟩ = some (.int .i64 x1) := EW2.out.cell 0
  have w1' : v2.cell? ⟨q, 1, none⟩ = some (.int .i64 x2) := EW2.out.cell 1
  have bl1 := HV2.out.blk.lt
  have ql := EW2.out.lt
  obtain ⟨u3, hdel, hm3, hg3⟩ := (show MapG Try.prog 144 two v2.drew mb N rd from HV2.out.map).del kWant two_inj Try.underlying64 KL.out 0
  have hdel' : (Builtin.delete_ #[64, 144] 0 #[.map (some mb), .agg #[.int .i64 x1, .int .i64 x2]]).run Try.prog v2.drew = .ok (.tuple #[]) u3 := hdel
  have ST := Lib.hid ((HV2.out.grown (gb_drew (gb_refl v2 none))).strike (x1, x2) hm3 hg3)
  have RW3 := Lib.hid (ownsRow_keep (w' := u3) RW2.out (fun i e => by
    obtain ⟨u, h1, h2⟩ := SEP.out i e
    have h3 := HV2.out.list_ne h1 i h2
    exact hg3.block i h3.2.2.2.2 (by simp; exact h3.2.2.2.1)))
  have ON := Lib.hid ((Only.none (S := WkF b sv vv mb rd) (gb_drew GV2.out)).trans (Only.of hg3 (fun k e _ => by cases e; exact .inr (.inr (.inr (.inl rfl))))))
  have SEP2 := Lib.hid (show ∀ i, (Value.slice la (s.M (x1, x2)).length lc).ownBlock = some i → ¬ WkF b sv vv mb (upd rd (x1, x2) none) i from fun i e => by
    obtain ⟨u, h1, h2⟩ := SEP.out i e
    exact HV2.out.strike_sep h1 h2)
  have z4 : u3.cell? ⟨b, 4, none⟩ = some (.map (some mb)) := ST.out.blk.cell 4
  clear hdel hm3 hg3
  go_wp2_with fail
  go_region
  obtain ⟨who, hwd⟩ : ∃ who, who = s.M (x1, x2) := ⟨_, rfl⟩
  have HWD := Lib.hid hwd
  rw [← hwd] at hwho RW3 SEP2 HMEM
  rw [← hwd]
  obtain ⟨s1, hs1⟩ : ∃ s1 : Wk, s1 = ⟨s.seen, fun y => if y = (x1, x2) then [] else s.M y⟩ := ⟨_, rfl⟩
  have HS1 := Lib.hid hs1
  have OK1 := Lib.hid (show WkOk (ys.map Prod.fst) n p s1 N from ⟨by rw [hs1]; exact OK.out.seen, OK.out.len, OK.out.n, OK.out.p, fun x => by
    rw [hs1]
    dsimp only
    split
    · exact Nat.zero_le _
    · exact OK.out.lists x, OK.out.N, OK.out.acs⟩)
  have I0 : Hid (WakI w F b (.slice ta ys.length tc) (ys.map Prod.fst) n z p place s1 N who (.slice la who.length lc) 0 u3 (WkF b sv vv mb (upd rd (x1, x2) none))) := Lib.hid
    ⟨⟨sv, vv, mb, _, by have := ST.out; rw [← hs1] at this; exact this, fun _ h => h⟩, OK1.out, RW3.out, SEP2.out, ⟨ON.out.mono fun k _ hk => HF.out k hk, fun k hk => .inl (HF.out k (strike_sub k hk))⟩⟩
  clear hwd hs1 ST RW3 ON SEP2 z4 HV2 EW2 RW2 GV2 c4 w0' w1' bl1 ql hdel' SEP
  go_wp2_with fail
  go_loopw [23] (fun iv wr => ∃ (k : Nat) (G : Nat → Prop), k ≤ who.length ∧ iv = .int .i64 k ∧ Hid (WakI w F b (.slice ta ys.length tc) (ys.map Prod.fst) n z p place s1 N who (.slice la who.length lc) k wr G)) (fun iv _ => (who.length - intOf iv).toNat)
  case atStart => exact ⟨0, _, by omega, rfl, I0⟩
  case round =>
    clear I0
    obtain ⟨k, G, hk, rfl, I⟩ := hrel
    by_cases hlt : k < who.length
    · have hlt' : (k : Int) < (who.length : Int) := by omega
      have hk6 : (k : Int) < 1000000 := by omega
      rcases I.out.row.2 with ⟨h1, h2⟩ | ⟨wb, wcap, wcur, hla, _, hwb, _⟩
      · omega
      cases hla
      have wl := lt_of_block hwb
      clear hwb
      have hget := List.getElem?_eq_getElem hlt
      have HWT := Lib.hid (wakes_take (ys.map Prod.fst) n z p place hget s1)
      have hno := HMEM.out who[k] (List.getElem_mem hlt)
      have crow := I.out.row.cellAt k (show k < who.length * 1 by omega)
      rw [List.getElem?_map, hget] at crow
      clear hget
      generalize who[k] = no at *
      have hno' : (no : Int) < (ys.length : Int) := by omega
      have hgy := List.getElem?_eq_getElem hno
      have GW := Lib.hid (gb_only G0.out I.out.step.only HFB.out)
      have TW := Lib.hid (HT.out.grown GW.out)
      obtain ⟨tb, off, va, vc, rfl, htb, hv, hl, c0, c1, c2, c3, c4, c5, c6, c7, c8⟩ := TW.out.at hgy
      have HGY := Lib.hid hgy
      have HTS := Lib.hid (show (ys.map Prod.fst)[no]? = some ys[no].1 by rw [List.getElem?_map, hgy]; rfl)
      clear hgy hl hv c0 c1 c2 c3 c4 c6 c7 c8
      generalize ys[no] = y at *
      obtain ⟨t, yv⟩ := y
      dsimp only at c5 HTS
      obtain ⟨wsv, wvv, wmb, wrd, hwk, _⟩ := I.out.wk
      have b0 : wr.cell? ⟨b, 0, none⟩ = some (.slice (some ⟨tb, off, none⟩) ys.length tc) := hwk.blk.cell 0
      have bl := hwk.blk.lt
      clear hwk
      have crow' : wr.cell? ⟨wb, k, none⟩ = some (.int .i64 no) := crow
      clear crow
      have ASK := Lib.hid (ask_any wr G b (some ⟨tb, off, none⟩) tc ys n z p (wakes (ys.map Prod.fst) n z p place (who.take k) s1) (N + k) no t yv TW.out HGY.out I.out.wk I.out.ok)
      by_cases hc : t.en < 0
      · go_wp2_with (first | (go_at_call 70; refine ASK.out.mono ?_; rintro r u2 ⟨rfl, G2, h1, h2⟩) | go_in)
        go_roundw; (case rel => exact ⟨k + 1, G2, by omega, by go_num, I.out.next (by omega) HWT.out HTS.out (.inl hc) h1.out h2.out⟩); (case measure => simp [intOf]; omega)
      · by_cases hc2 : (place : Int) < t.en
        · go_wp2_with (first | (go_at_call 70; refine ASK.out.mono ?_; rintro r u2 ⟨rfl, G2, h1, h2⟩) | go_in)
          go_roundw; (case rel => exact ⟨k + 1, G2, by omega, by go_num, I.out.next (by omega) HWT.out HTS.out (.inr hc2) h1.out h2.out⟩); (case measure => simp [intOf]; omega)
        · go_wp2
          go_roundw
          case rel => exact ⟨k + 1, G, by omega, by go_num, I.out.skip (by omega) HWT.out HTS.out (by omega)⟩
          case measure => simp [intOf]; omega
    · obtain rfl : k = who.length := by omega
      have hend : who.take who.length = who := List.take_length
      have hb : base.wake (ys.map Prod.fst) n z p place (x1, x2) s = wakes (ys.map Prod.fst) n z p place who s1 := by
        unfold base.wake
        rw [← HWD.out, ← HS1.out]
      go_wp2
      (first | go_end0 | refine bodyPost_ret (results_none rfl _ _ _) rfl ?_)
      have h1 := I.out.wk
      have h2 := I.out.ok
      rw [hend] at h1 h2
      exact ⟨rfl, G, by rw [hb]; exact h1.more (by omega), by rw [hb]; exact h2.more (by omega) (by omega), I.out.step⟩
end Go.Proofs.Ytkidkhjpijjphaa.oq

/- Package opaque's walk: a try commits. -/
namespace Go.Proofs.Ytkidkhjpijjphaa.oq
open Go Go.RowKit Go.Proofs.Ytkidkhjpijjphaa.base Go.Proofs.Ytkidkhjpijjphaa.hs Go.Proofs.Ytkidkhjpijjphaa.lg Go.Proofs.Ytkidkhjpijjphaa.md Go.Maps
set_option linter.unusedVariables false
set_option maxRecDepth 100000
set_option linter.unusedSimpArgs false

theorem wakeAll_snoc (ts : List Tr) (n : Nat) (z : Nat → Int) (p place : Nat) (o : Nat) : ∀ (l : List Nat) (s : Wk), wakeAll ts n z p place (l ++ [o]) s = base.wake ts n z p place ((o : Int), z o) (wakeAll ts n z p place l s)
  | [], _ => rfl
  | _ :: l, s => wakeAll_snoc ts n z p place o l _
theorem wakeAll_take (ts : List Tr) (n : Nat) (z : Nat → Int) (p place : Nat) {l : List Nat} {k o : Nat} (h : l[k]? = some o) (s : Wk) : wakeAll ts n z p place (l.take (k + 1)) s = base.wake ts n z p place ((o : Int), z o) (wakeAll ts n z p place (l.take k) s) := by
  rw [List.take_add_one, h]
  exact wakeAll_snoc ts n z p place o _ s
theorem writes_lt (n : Nat) : ∀ (l : List Acc) (o : Nat), o ∈ writes n l → o < n
  | [], o, h => by simp [writes] at h
  | a :: l, o, h => by
    rw [writes] at h
    split at h
    · rcases List.mem_cons.1 h with rfl | h
      · omega
      · exact writes_lt n l o h
    · exact writes_lt n l o h
theorem wf_small {o : Nat} (h : (o : Int) ≤ 1000000) : (Lit.int .i64 (o : Int)).wf = true := by
  have h0 : IntKind.i64.min = -9223372036854775808 := by decide
  simp [Lit.wf, h0]
  omega

/-- What stands while the values that are new are gone through. -/
structure ComI (w : World) (F : Nat → Prop) (b : Nat) (tv : Value) (ts : List Tr) (n : Nat) (z : Nat → Int) (p place : Nat) (s0 : Wk) (N : Nat) (l : List Nat) (u : Value) (k : Nat) (wr : World) (G : Nat → Prop) : Prop where
  wk : WkM wr G b tv n z p (wakeAll ts n z p place (l.take k) s0) (N + 1000 * k)
  ok : WkOk ts n p (wakeAll ts n z p place (l.take k) s0) (N + 1000 * k)
  row : wr.ownsRow 0 3 1 u l.length (l.map natV)
  sep : ∀ i, u.ownBlock = some i → ¬ G i
  step : Step F G w wr
theorem ComI.next {w wr u2 : World} {F G G2 : Nat → Prop} {b n p place k N o : Nat} {tv u : Value} {ts : List Tr} {z : Nat → Int} {s0 : Wk} {l : List Nat} (h : ComI w F b tv ts n z p place s0 N l u k wr G) (hw : wakeAll ts n z p place (l.take (k + 1)) s0 = base.wake ts n z p place ((o : Int), z o) (wakeAll ts n z p place (l.take k) s0))
    (h1 : WkM u2 G2 b tv n z p (base.wake ts n z p place ((o : Int), z o) (wakeAll ts n z p place (l.take k) s0)) (N + 1000 * k + 1000)) (h3 : WkOk ts n p (base.wake ts n z p place ((o : Int), z o) (wakeAll ts n z p place (l.take k) s0)) (N + 1000 * k + 1000)) (h2 : Step G G2 wr u2) : ComI w F b tv ts n z p place s0 N l u (k + 1) u2 G2 := by
  refine ⟨by rw [hw]; exact h1, by rw [hw]; exact h3, ownsRow_keep h.row fun i e => h2.only.block i (h.row.lt i e).2 (h.sep i e), fun i e hi => ?_, h.step.trans h2⟩
  rcases h2.foot i hi with h3 | h3
  · exact h.sep i e h3
  · have := (h.row.lt i e).2
    omega

set_option maxHeartbeats 2000000 in
theorem commits_any (w0 w : World) (F : Nat → Prop) (b : Nat) (ta : Option Addr) (tc : Nat) (ys : List (Tr × Value)) (n : Nat) (z : Nat → Int) (p place : Nat) (s s0 : Wk) (N : Nat) (no : Nat) (t : Tr) (yv : Value) (hT : TsAt w0 ta ys) (g0 : w0.grownBy w none) (hFB : ∀ k, F k → w0.heap.size ≤ k) (h : WkM w F b (.slice ta ys.length tc) n z p s N) (ok : WkOk (ys.map Prod.fst) n p s N) (hN : N + 1000000 ≤ 100000000000) (hp : p < 1000000) (hy : ys[no]? = some (t, yv))
    (hs0 : s0 = if fits n z t.ac = true then ⟨s.seen.set no p, s.M⟩ else s) (hzw : ∀ i, i < n → (Lit.int .i64 (app z t.ac i)).wf = true)
    (hW : ∀ (k o : Nat), (writes n t.ac)[k]? = some o → ((wakeAll (ys.map Prod.fst) n (app z t.ac) (p + 1) place ((writes n t.ac).take k) s0).M ((o : Int), app z t.ac o)).length ≤ 1000 ∧ ∀ no ∈ (wakeAll (ys.map Prod.fst) n (app z t.ac) (p + 1) place ((writes n t.ac).take k) s0).M ((o : Int), app z t.ac o), no < ys.length) :
    Calls Try.prog 59 #[.pointer (some ⟨b, 0, none⟩), .int .i64 no, .int .i64 place] w fun r w' => r = .returned (.tuple #[]) ∧ ∃ F', Hid (WkM w' F' b (.slice ta ys.length tc) n (app z t.ac) (p + 1 : Nat) (base.commit (ys.map Prod.fst) n z p place t no s) (N + 1000000)) ∧ Hid (WkOk (ys.map Prod.fst) n (p + 1) (base.commit (ys.map Prod.fst) n z p place t no s) (N + 1000000)) ∧ Hid (Step F F' w w') := by
  obtain ⟨sv, vv, mb, rd, h0, hF⟩ := h
  have hno : no < ys.length := (List.getElem?_eq_some_iff.1 hy).1
  have hac := ok.acs t (List.mem_map_of_mem (f := Prod.fst) (List.mem_of_getElem? hy))
  obtain ⟨tb0, off0, va, vc, hta, _, hv, hl0, _⟩ := hT.at hy
  dsimp only at hv hl0
  subst hv
  obtain ⟨tb, off, va', vc', e1, htb, hv', _, c0, c1, c2, c3, c4, c5, c6, c7, c8⟩ := (hT.grown g0).at hy
  dsimp only at hv' c0 c1 c2 c3 c4 c5 c6 c7 c8
  injection hv' with hv1 hv2 hv3
  subst hv1 hv3
  subst e1
  obtain ⟨ua, uc, hvv⟩ := owns_slice h0.vals
  subst hvv
  have H := Lib.hid h0
  have HF := Lib.hid hF
  have HFB := Lib.hid (show ∀ k, WkF b sv (.slice ua n uc) mb rd k → w0.heap.size ≤ k from fun k hk => hFB k (hF k hk))
  have HFB2 := Lib.hid hFB
  have G0 := Lib.hid g0
  have HT := Lib.hid hT
  have HL0 := Lib.hid hl0
  have HL := Lib.hid (hl0.grown g0)
  have HAL := Lib.hid hac.1
  have HN := Lib.hid ok.n
  have HZW := Lib.hid hzw
  have HW := Lib.hid hW
  have HAC := Lib.hid hac.2
  have HNZ := Lib.hid (show IsNums .i64 w ua n z from IsNums.of_own h0.vals)
  have OK := Lib.hid ok
  have hlo := ok.len
  rw [List.length_map] at hlo
  have hn6 : (no : Int) ≤ 1000000 := by omega
  have hno' : (no : Int) < (ys.length : Int) := by omega
  have hp6 : (p : Int) < 1000000 := by omega
  have hacl : t.ac.length ≤ 1000000 := by have := hac.1; omega
  have b0 : w.cell? ⟨b, 0, none⟩ = some (.slice (some ⟨tb, off, none⟩) ys.length tc) := h0.blk.cell 0
  have bl := h0.blk.lt
  have GA := Lib.hid (World.grownBy_alloc w (.cells #[.int .i64 t.th, .int .i64 t.tx, .int .i64 t.at_, .int .i64 t.st, .int .i64 t.b, .int .i64 t.en, .int .i64 t.re, .bool t.co, .slice va t.ac.length vc] 41) none)
  have EB := Lib.hid (Blk.made w 41 #[.int .i64 t.th, .int .i64 t.tx, .int .i64 t.at_, .int .i64 t.st, .int .i64 t.b, .int .i64 t.en, .int .i64 t.re, .bool t.co, .slice va t.ac.length vc])
  have HS0 : Hid (base.commit (ys.map Prod.fst) n z p place t no s = wakeAll (ys.map Prod.fst) n (app z t.ac) (p + 1) place (writes n t.ac) s0) := Lib.hid (by rw [hs0]; rfl)
  have HSS := Lib.hid hs0
  have hsl : s.seen.length = ys.length := by rw [ok.seen, List.length_map]
  have OKS : Hid (WkOk (ys.map Prod.fst) n (p + 1) s0 N) := Lib.hid (by
    rw [hs0]
    split
    · exact ⟨by simpa using ok.seen, ok.len, ok.n, by omega, ok.lists, ok.N, ok.acs⟩
    · exact ⟨ok.seen, ok.len, ok.n, by omega, ok.lists, ok.N, ok.acs⟩)
  have HSL := Lib.hid hsl
  clear hT hy h0 hF hl0 hac ok g0 hFB hzw hW hs0 hta hsl hlo
  go_enter Try.func59, Try.ntmps59
  go_upto_region 1 with fail
  generalize w.alloc _ = v at *; generalize hq : w.heap.size = q at *; have HQ := Lib.hid hq; clear hq; have d2 : v.cell? ⟨b, 2, none⟩ = some (.slice ua n uc) := GA.out.cell (H.out.blk.cell 2) (by simp); have e0 := EB.out.cell 0; have e1 := EB.out.cell 1; have e2 := EB.out.cell 2; have e3 := EB.out.cell 3; have e4 := EB.out.cell 4; have e5 := EB.out.cell 5; have e6 := EB.out.cell 6; have e7 := EB.out.cell 7; have e8 := EB.out.cell 8; have bv := World.block_lt_of_cell? _ _ d2; have qv := EB.out.lt; have K0 : Hid (v.grownBy v.drew none) := Lib.hid (gb_drew (gb_refl v none))
  go_wp2_with fail
  by_cases hf : fits n z t.ac = true
  · have FT := Lib.hid hf
    rw [if_pos hf] at HSS
    clear hf
    go_region_held3 (fun w' => Hid (v.grownBy w' none) ∧ w'.cell? ⟨b, 2, none⟩ = some (.slice ua n uc) ∧ w'.cell? ⟨q, 0, none⟩ = some (.int .i64 t.th) ∧ w'.cell? ⟨q, 1, none⟩ = some (.int .i64 t.tx) ∧ w'.cell? ⟨q, 2, none⟩ = some (.int .i64 t.at_) ∧ w'.cell? ⟨q, 3, none⟩ = some (.int .i64 t.st) ∧ w'.cell? ⟨q, 4, none⟩ = some (.int .i64 t.b) ∧ w'.cell? ⟨q, 5, none⟩ = some (.int .i64 t.en) ∧ w'.cell? ⟨q, 6, none⟩ = some (.int .i64 t.re) ∧ w'.cell? ⟨q, 7, none⟩ = some (.bool t.co) ∧ w'.cell? ⟨q, 8, none⟩ = some (.slice va t.ac.length vc)) (go_keep) (first | (go_at_call 16; refine (fits_any ua n uc z t va vc _ (HNZ.out.grown (gb_trans GA.out (by refine Hid.out ?_; assumption))) (HL.out.grown (gb_trans GA.out (by refine Hid.out ?_; assumption))) HAC.out hacl).mono ?_; rw [FT.out]; rintro r u ⟨rfl, gu⟩; have K : Hid (v.grownBy u none) := Lib.hid (gb_trans (by refine Hid.out ?_; assumption) gu.out); have x2 := K.out.cell d2 (by simp); have y0 := K.out.cell e0 (by simp); have y1 := K.out.cell e1 (by simp); have y2 := K.out.cell e2 (by simp); have y3 := K.out.cell e3 (by simp); have y4 := K.out.cell e4 (by simp); have y5 := K.out.cell e5 (by simp); have y6 := K.out.cell e6 (by simp); have y7 := K.out.cell e7 (by simp); have y8 := K.out.cell e8 (by simp)))
    have HU := Lib.hid (H.out.grown (gb_trans GA.out K.out))
    have EBU := Lib.hid (EB.out.grown K.out (by simp))
    have GU := Lib.hid (gb_trans GA.out K.out)
    clear d2 e0 e1 e2 e3 e4 e5 e6 e7 e8 x2 y0 y1 y2 y3 y4 y5 y6 y7 y8 K0
    obtain ⟨sa, sc, hsv⟩ := owns_slice HU.out.seen
    have hsl := HSL.out
    rcases HU.out.seen.2 with ⟨_, h1⟩ | ⟨g, gcap, gcur, hsg, _, hgb, _⟩
    · omega
    rw [hsg] at hsv
    cases hsv
    have hg : sv.ownBlock = some g := by rw [hsg]; rfl
    have HG := Lib.hid hg
    have hno2 : (no : Int) < (s.seen.length : Int) := by omega
    have k1 : u.cell? ⟨b, 1, none⟩ = some sv := HU.out.blk.cell 1
    rw [hsg] at k1
    have k3 : u.cell? ⟨b, 3, none⟩ = some (.int .i64 p) := HU.out.blk.cell 3
    obtain ⟨xq, kg⟩ : ∃ xq, u.cell? ⟨g, no, none⟩ = some (.int .i64 xq) := by
      have h1 := HU.out.seen
      rw [hsg] at h1
      have h2 := h1.cellAt no (show no < s.seen.length * 1 by omega)
      rw [List.getElem?_map, List.getElem?_eq_getElem (by omega)] at h2
      exact ⟨_, h2⟩
    have kf : u.frozen? ⟨g, no, none⟩ = false := by simp [World.frozen?, hgb]
    have kl0 := HU.out.blk.lt
    have gl := lt_of_block hgb
    have hqg : q ≠ g := fun e => by
      obtain ⟨cs, hc⟩ := ownsRow_type HU.out.seen hg
      exact absurd (not_cells_of hc (e ▸ EBU.out)) (by decide)
    clear hgb hg hsl
    go_wp2_with fail
    go_region
    have HU2 : Hid (WkP (u.setCell ⟨g, no, none⟩ (.int .i64 p)).drew b (.slice (some ⟨tb, off, none⟩) ys.length tc) n z p s0 N sv (.slice ua n uc) mb rd) := Lib.hid (by
      rw [HSS.out]
      exact (HU.out.sees HG.out (no := no) (by have := HSL.out; omega) (p : Int)).grown (gb_drew (gb_refl _ none)))
    have EB2 := Lib.hid (EBU.out.keep (w' := (u.setCell ⟨g, no, none⟩ (.int .i64 p)).drew) (Below.heap_setCell u _ _ _ hqg))
    have O2 := Lib.hid (((Only.none (S := WkF b sv (.slice ua n uc) mb rd) GU.out).trans (Only.of (gb_setB (gb_refl u (some g)) (i := no) (.int .i64 p)) (fun i e _ => by cases e; exact .inr (.inl HG.out)))).trans (Only.none (gb_drew (gb_refl _ none))))
    clear k1 k3 kg kf kl0 gl hqg HU EBU GU hno2 hsg
    generalize (u.setCell ⟨g, no, none⟩ (.int .i64 p)).drew = u2 at *
    have hbq : q ≠ b := fun e => absurd (not_cells_of (e ▸ EB2.out) HU2.out.blk) (by decide)
    have k3 : u2.cell? ⟨b, 3, none⟩ = some (.int .i64 p) := HU2.out.blk.cell 3
    have f3 := HU2.out.blk.free 3
    have kl := HU2.out.blk.lt
    have H3 := Lib.hid (HU2.out.counts ((p : Int) + 1))
    have EB3 := Lib.hid (EB2.out.keep (w' := u2.setCell ⟨b, 3, none⟩ (.int .i64 ((p : Int) + 1))) (Below.heap_setCell _ _ _ _ hbq))
    have O3 := Lib.hid (O2.out.trans (Only.of (gb_setB (gb_refl u2 (some b)) (i := 3) (.int .i64 ((p : Int) + 1))) (fun i e _ => by cases e; exact .inl rfl)))
    go_upto_region 4 with fail
    clear k3 f3 HU2 EB2 O2
    generalize u2.setCell ⟨b, 3, none⟩ (.int .i64 ((p : Int) + 1)) = u3 at *
    have e0 := EB3.out.cell 0
    have e1 := EB3.out.cell 1
    have e2 := EB3.out.cell 2
    have e3 := EB3.out.cell 3
    have e4 := EB3.out.cell 4
    have e5 := EB3.out.cell 5
    have e6 := EB3.out.cell 6
    have e7 := EB3.out.cell 7
    have e8 := EB3.out.cell 8
    have CH := Lib.hid (change_any w0 u3 (WkF b sv (.slice ua n uc) mb rd) b (.slice (some ⟨tb, off, none⟩) ys.length tc) n z ((p : Int) + 1) s0 N t va vc ⟨sv, _, mb, rd, H3.out, fun _ h => h⟩ HL0.out (gb_only G0.out O3.out HFB.out) HFB.out HAL.out HN.out)
    go_wp2_with (first | (go_at_call 71; refine CH.out.mono ?_; rintro r u4 ⟨ov, F4, rfl, h4, st4, row4, sep4⟩; obtain ⟨oa, oc, hov⟩ := owns_slice row4.out; subst hov; clear e0 e1 e2 e3 e4 e5 e6 e7 e8) | go_in)
    have OK0 : Hid (WkOk (ys.map Prod.fst) n (p + 1) s0 N) := Lib.hid OKS.out
    have I0 : Hid (ComI w F b (.slice (some ⟨tb, off, none⟩) ys.length tc) (ys.map Prod.fst) n (app z t.ac) (p + 1) place s0 N (writes n t.ac) (.slice oa (writes n t.ac).length oc) 0 u4 F4) := Lib.hid
      ⟨by have := h4.out; exact this, OK0.out, row4.out, fun i e => (sep4.out i e).1, Step.trans ⟨O3.out.mono fun k _ hk => HF.out k hk, fun k hk => .inl (HF.out k hk)⟩ st4.out⟩
    have hwl := writes_len n t.ac
    have hal := HAL.out
    clear h4 st4 row4 sep4 CH H3 EB3 O3 kl hbq OKS OK0
    generalize hwr : writes n t.ac = l at *
    have HWR := Lib.hid hwr
    clear hwr
    go_loopw [43] (fun iv wr => ∃ (k : Nat) (G : Nat → Prop), k ≤ l.length ∧ iv = .int .i64 k ∧ Hid (ComI w F b (.slice (some ⟨tb, off, none⟩) ys.length tc) (ys.map Prod.fst) n (app z t.ac) (p + 1) place s0 N l (.slice oa l.length oc) k wr G)) (fun iv _ => (l.length - intOf iv).toNat)
    case atStart => exact ⟨0, _, by omega, rfl, I0⟩
    case round =>
      clear I0
      obtain ⟨k, G, hk, rfl, I⟩ := hrel
      by_cases hlt : k < l.length
      · have hlt' : (k : Int) < (l.length : Int) := by omega
        have hk6 : (k : Int) < 1000000 := by omega
        rcases I.out.row.2 with ⟨h1, h2⟩ | ⟨wb, wcap, wcur, hla, _, hwb, _⟩
        · omega
        cases hla
        have wl := lt_of_block hwb
        clear hwb
        have hget := List.getElem?_eq_getElem hlt
        have hwho := HW.out k l[k] hget
        have ho := writes_lt n t.ac l[k] (by rw [HWR.out]; exact List.getElem_mem hlt)
        have HWT := Lib.hid (wakeAll_take (ys.map Prod.fst) n (app z t.ac) (p + 1) place hget s0)
        have crow := I.out.row.cellAt k (show k < l.length * 1 by omega)
        rw [List.getElem?_map, hget] at crow
        clear hget
        generalize l[k] = o at *
        have crow' : wr.cell? ⟨wb, k, none⟩ = some (.int .i64 o) := crow
        clear crow
        have ho' : (o : Int) < (n : Int) := by omega
        have ho6 : (o : Int) ≤ 1000000 := by have := HN.out; omega
        obtain ⟨wsv, wvv, wmb, wrd, hwk, hwF⟩ := I.out.wk
        obtain ⟨xa, xc, hxv⟩ := owns_slice hwk.vals
        subst hxv
        rcases hwk.vals.2 with ⟨h1, h2⟩ | ⟨xb, xcap, xcur, hxa, _, hxb, _⟩
        · omega
        cases hxa
        have xl := lt_of_block hxb
        clear hxb
        have d2 : wr.cell? ⟨b, 2, none⟩ = some (.slice (some ⟨xb, 0, none⟩) n xc) := hwk.blk.cell 2
        have dz : wr.cell? ⟨xb, o, none⟩ = some (.int .i64 (app z t.ac o)) := (hwk.vals.cellAt o (show o < n * 1 by omega)).trans (vals_get _ _ _ ho)
        have bl := hwk.blk.lt
        clear hwk hwF
        have GW := Lib.hid (gb_only G0.out I.out.step.only HFB2.out)
        have hFG : ∀ i, G i → w0.heap.size ≤ i := fun i hi => by
          rcases I.out.step.foot i hi with h | h
          · exact HFB2.out i h
          · have := G0.out.size
            omega
        have WKE := Lib.hid (wake_any w0 wr G b (some ⟨tb, off, none⟩) tc ys n (app z t.ac) (p + 1) place (wakeAll (ys.map Prod.fst) n (app z t.ac) (p + 1) place (l.take k) s0) (N + 1000 * k) (o : Int) (app z t.ac o) HT.out GW.out hFG I.out.wk I.out.ok (by omega) (wf_small ho6) (HZW.out o ho) hwho.1 hwho.2)
        clear hwho hFG
        go_wp2_with (first | (go_at_call 72; refine WKE.out.mono ?_; rintro r u5 ⟨rfl, G5, h5, ok5, st5⟩) | go_in)
        go_roundw
        case rel => exact ⟨k + 1, G5, by omega, by go_num, I.out.next HWT.out h5.out ok5.out st5.out⟩
        case measure => simp [intOf]; omega
      · obtain rfl : k = l.length := by omega
        have hend : l.take l.length = l := List.take_length
        go_wp2
        (first | go_end0 | refine bodyPost_ret (results_none rfl _ _ _) rfl ?_)
        have h1 := I.out.wk
        have h2 := I.out.ok
        rw [hend] at h1 h2
        refine ⟨rfl, G, ?_, ?_, I.out.step⟩
        · have := h1.more (N' := N + 1000000) (by omega)
          rw [HS0.out]
          exact this
        · have := h2.more (M := N + 1000000) (by omega) (by omega)
          rw [HS0.out]
          exact this
  · have FT := Lib.hid (show fits n z t.ac = false by simpa using hf)
    rw [if_neg hf] at HSS
    clear hf
    go_region_held3 (fun w' => Hid (v.grownBy w' none) ∧ w'.cell? ⟨b, 2, none⟩ = some (.slice ua n uc) ∧ w'.cell? ⟨q, 0, none⟩ = some (.int .i64 t.th) ∧ w'.cell? ⟨q, 1, none⟩ = some (.int .i64 t.tx) ∧ w'.cell? ⟨q, 2, none⟩ = some (.int .i64 t.at_) ∧ w'.cell? ⟨q, 3, none⟩ = some (.int .i64 t.st) ∧ w'.cell? ⟨q, 4, none⟩ = some (.int .i64 t.b) ∧ w'.cell? ⟨q, 5, none⟩ = some (.int .i64 t.en) ∧ w'.cell? ⟨q, 6, none⟩ = some (.int .i64 t.re) ∧ w'.cell? ⟨q, 7, none⟩ = some (.bool t.co) ∧ w'.cell? ⟨q, 8, none⟩ = some (.slice va t.ac.length vc)) (go_keep) (first | (go_at_call 16; refine (fits_any ua n uc z t va vc _ (HNZ.out.grown (gb_trans GA.out (by refine Hid.out ?_; assumption))) (HL.out.grown (gb_trans GA.out (by refine Hid.out ?_; assumption))) HAC.out hacl).mono ?_; rw [FT.out]; rintro r u ⟨rfl, gu⟩; have K : Hid (v.grownBy u none) := Lib.hid (gb_trans (by refine Hid.out ?_; assumption) gu.out); have x2 := K.out.cell d2 (by simp); have y0 := K.out.cell e0 (by simp); have y1 := K.out.cell e1 (by simp); have y2 := K.out.cell e2 (by simp); have y3 := K.out.cell e3 (by simp); have y4 := K.out.cell e4 (by simp); have y5 := K.out.cell e5 (by simp); have y6 := K.out.cell e6 (by simp); have y7 := K.out.cell e7 (by simp); have y8 := K.out.cell e8 (by simp)))
    have HU2 : Hid (WkP u b (.slice (some ⟨tb, off, none⟩) ys.length tc) n z p s0 N sv (.slice ua n uc) mb rd) := Lib.hid (by
      rw [HSS.out]
      exact H.out.grown (gb_trans GA.out K.out))
    have EB2 := Lib.hid (EB.out.grown K.out (by simp))
    have O2 := Lib.hid (Only.none (S := WkF b sv (.slice ua n uc) mb rd) (gb_trans GA.out K.out))
    clear d2 e0 e1 e2 e3 e4 e5 e6 e7 e8 x2 y0 y1 y2 y3 y4 y5 y6 y7 y8 K0 K gu
    generalize u = u2 at *
    have hbq : q ≠ b := fun e => absurd (not_cells_of (e ▸ EB2.out) HU2.out.blk) (by decide)
    have k3 : u2.cell? ⟨b, 3, none⟩ = some (.int .i64 p) := HU2.out.blk.cell 3
    have f3 := HU2.out.blk.free 3
    have kl := HU2.out.blk.lt
    have H3 := Lib.hid (HU2.out.counts ((p : Int) + 1))
    have EB3 := Lib.hid (EB2.out.keep (w' := u2.setCell ⟨b, 3, none⟩ (.int .i64 ((p : Int) + 1))) (Below.heap_setCell _ _ _ _ hbq))
    have O3 := Lib.hid (O2.out.trans (Only.of (gb_setB (gb_refl u2 (some b)) (i := 3) (.int .i64 ((p : Int) + 1))) (fun i e _ => by cases e; exact .inl rfl)))
    go_upto_region 4 with fail
    clear k3 f3 HU2 EB2 O2
    generalize u2.setCell ⟨b, 3, none⟩ (.int .i64 ((p : Int) + 1)) = u3 at *
    have e0 := EB3.out.cell 0
    have e1 := EB3.out.cell 1
    have e2 := EB3.out.cell 2
    have e3 := EB3.out.cell 3
    have e4 := EB3.out.cell 4
    have e5 := EB3.out.cell 5
    have e6 := EB3.out.cell 6
    have e7 := EB3.out.cell 7
    have e8 := EB3.out.cell 8
    have CH := Lib.hid (change_any w0 u3 (WkF b sv (.slice ua n uc) mb rd) b (.slice (some ⟨tb, off, none⟩) ys.length tc) n z ((p : Int) + 1) s0 N t va vc ⟨sv, _, mb, rd, H3.out, fun _ h => h⟩ HL0.out (gb_only G0.out O3.out HFB.out) HFB.out HAL.out HN.out)
    go_wp2_with (first | (go_at_call 71; refine CH.out.mono ?_; rintro r u4 ⟨ov, F4, rfl, h4, st4, row4, sep4⟩; obtain ⟨oa, oc, hov⟩ := owns_slice row4.out; subst hov; clear e0 e1 e2 e3 e4 e5 e6 e7 e8) | go_in)
    have OK0 : Hid (WkOk (ys.map Prod.fst) n (p + 1) s0 N) := Lib.hid OKS.out
    have I0 : Hid (ComI w F b (.slice (some ⟨tb, off, none⟩) ys.length tc) (ys.map Prod.fst) n (app z t.ac) (p + 1) place s0 N (writes n t.ac) (.slice oa (writes n t.ac).length oc) 0 u4 F4) := Lib.hid
      ⟨by have := h4.out; exact this, OK0.out, row4.out, fun i e => (sep4.out i e).1, Step.trans ⟨O3.out.mono fun k _ hk => HF.out k hk, fun k hk => .inl (HF.out k hk)⟩ st4.out⟩
    have hwl := writes_len n t.ac
    have hal := HAL.out
    clear h4 st4 row4 sep4 CH H3 EB3 O3 kl hbq OKS OK0
    generalize hwr : writes n t.ac = l at *
    have HWR := Lib.hid hwr
    clear hwr
    go_loopw [43] (fun iv wr => ∃ (k : Nat) (G : Nat → Prop), k ≤ l.length ∧ iv = .int .i64 k ∧ Hid (ComI w F b (.slice (some ⟨tb, off, none⟩) ys.length tc) (ys.map Prod.fst) n (app z t.ac) (p + 1) place s0 N l (.slice oa l.length oc) k wr G)) (fun iv _ => (l.length - intOf iv).toNat)
    case atStart => exact ⟨0, _, by omega, rfl, I0⟩
    case round =>
      clear I0
      obtain ⟨k, G, hk, rfl, I⟩ := hrel
      by_cases hlt : k < l.length
      · have hlt' : (k : Int) < (l.length : Int) := by omega
        have hk6 : (k : Int) < 1000000 := by omega
        rcases I.out.row.2 with ⟨h1, h2⟩ | ⟨wb, wcap, wcur, hla, _, hwb, _⟩
        · omega
        cases hla
        have wl := lt_of_block hwb
        clear hwb
        have hget := List.getElem?_eq_getElem hlt
        have hwho := HW.out k l[k] hget
        have ho := writes_lt n t.ac l[k] (by rw [HWR.out]; exact List.getElem_mem hlt)
        have HWT := Lib.hid (wakeAll_take (ys.map Prod.fst) n (app z t.ac) (p + 1) place hget s0)
        have crow := I.out.row.cellAt k (show k < l.length * 1 by omega)
        rw [List.getElem?_map, hget] at crow
        clear hget
        generalize l[k] = o at *
        have crow' : wr.cell? ⟨wb, k, none⟩ = some (.int .i64 o) := crow
        clear crow
        have ho' : (o : Int) < (n : Int) := by omega
        have ho6 : (o : Int) ≤ 1000000 := by have := HN.out; omega
        obtain ⟨wsv, wvv, wmb, wrd, hwk, hwF⟩ := I.out.wk
        obtain ⟨xa, xc, hxv⟩ := owns_slice hwk.vals
        subst hxv
        rcases hwk.vals.2 with ⟨h1, h2⟩ | ⟨xb, xcap, xcur, hxa, _, hxb, _⟩
        · omega
        cases hxa
        have xl := lt_of_block hxb
        clear hxb
        have d2 : wr.cell? ⟨b, 2, none⟩ = some (.slice (some ⟨xb, 0, none⟩) n xc) := hwk.blk.cell 2
        have dz : wr.cell? ⟨xb, o, none⟩ = some (.int .i64 (app z t.ac o)) := (hwk.vals.cellAt o (show o < n * 1 by omega)).trans (vals_get _ _ _ ho)
        have bl := hwk.blk.lt
        clear hwk hwF
        have GW := Lib.hid (gb_only G0.out I.out.step.only HFB2.out)
        have hFG : ∀ i, G i → w0.heap.size ≤ i := fun i hi => by
          rcases I.out.step.foot i hi with h | h
          · exact HFB2.out i h
          · have := G0.out.size
            omega
        have WKE := Lib.hid (wake_any w0 wr G b (some ⟨tb, off, none⟩) tc ys n (app z t.ac) (p + 1) place (wakeAll (ys.map Prod.fst) n (app z t.ac) (p + 1) place (l.take k) s0) (N + 1000 * k) (o : Int) (app z t.ac o) HT.out GW.out hFG I.out.wk I.out.ok (by omega) (wf_small ho6) (HZW.out o ho) hwho.1 hwho.2)
        clear hwho hFG
        go_wp2_with (first | (go_at_call 72; refine WKE.out.mono ?_; rintro r u5 ⟨rfl, G5, h5, ok5, st5⟩) | go_in)
        go_roundw
        case rel => exact ⟨k + 1, G5, by omega, by go_num, I.out.next HWT.out h5.out ok5.out st5.out⟩
        case measure => simp [intOf]; omega
      · obtain rfl : k = l.length := by omega
        have hend : l.take l.length = l := List.take_length
        go_wp2
        (first | go_end0 | refine bodyPost_ret (results_none rfl _ _ _) rfl ?_)
        have h1 := I.out.wk
        have h2 := I.out.ok
        rw [hend] at h1 h2
        refine ⟨rfl, G, ?_, ?_, I.out.step⟩
        · have := h1.more (N' := N + 1000000) (by omega)
          rw [HS0.out]
          exact this
        · have := h2.more (M := N + 1000000) (by omega) (by omega)
          rw [HS0.out]
          exact this
end Go.Proofs.Ytkidkhjpijjphaa.oq

/- The tries that are asked for: hist's told. -/
namespace Go.Proofs.Ytkidkhjpijjphaa.hs
open Go Go.RowKit Go.Proofs.Ytkidkhjpijjphaa.base Go.Maps Go.Shelf Go.Lib Go.Sort
set_option linter.unusedVariables false
set_option maxRecDepth 100000
attribute [local go_sem] Oper.semAt_some

/-- The tries, and their accesses, lie in blocks from B on. -/
def NewT (B : Nat) (a : Option Addr) (ys : List (Tr × Value)) : Prop := (∀ b off, a = some ⟨b, off, none⟩ → B ≤ b) ∧ ∀ x ∈ ys, ∀ k, x.2.ownBlock = some k → B ≤ k

set_option maxHeartbeats 4000000 in
theorem told_right (w0 w : World) (a : Option Addr) (len cap : Nat) (e : Evs) (hl : IsEvs w0 a len e) (hB : Below w0.heap.size w0 w) (hr : right e len = true) (hlen : len ≤ 10000) (gw : Nat) (cw : Array Value) (p : Tr → Bool) (Cap : List (Nat × TypeId × List Value)) (hCap : ∀ x ∈ Cap, x.2.1 = 3 ∧ w0.heap.size ≤ x.1 ∧ Blk x.2.1 w x.1 ⟨x.2.2⟩) (hw : Wants Cap gw cw p) (go : Nat) (f : Tr → Int) (hgo : Orders go f) :
    Calls Try.prog 29 #[.slice a len cap, .func (.func gw) #[] cw, .func (.func go) #[] #[]] w fun r w' => ∃ a c ys, r = .returned (.slice a ys.length c) ∧ Hid (IsTries w' a ys) ∧ Hid ((ys.map Prod.fst).Perm ((tries e len).filter p)) ∧ Hid ((ys.map Prod.fst).Pairwise (fun x y => ¬ f y < f x)) ∧ Hid (Below w0.heap.size w0 w') ∧ Hid (NewT w0.heap.size a ys) := by
  have HL := Lib.hid hl
  have HB := Lib.hid hB
  have HLEN := Lib.hid hlen
  have HW := Lib.hid hw
  have HC := Lib.hid hCap
  have HRT := Lib.hid hr
  have HGO := Lib.hid hgo
  obtain ⟨eg, wt⟩ := hw
  have WT := Lib.hid wt
  obtain ⟨i0, hi0, hz00, hz10, hz20⟩ := info_parts infoTry
  have hi := Lib.hid hi0
  have hz0 := Lib.hid hz00
  have hz1 := Lib.hid hz10
  have hz2 := Lib.hid hz20
  clear hl hlen hCap hr hB wt hgo hi0 hz00 hz10 hz20
  refine (callsIn_wide (n := 5)).1 ?_
  refine callsIn_of_wp_marks Try.func29 rfl trivial ?_ rfl
  simp only [Try.ntmps29, List.size_toArray, List.length_cons, List.length_nil, Nat.reduceAdd, Nat.reduceSub, Array.replicate_succ, Array.replicate_zero, List.push_toArray, List.append_toArray, List.nil_append, List.cons_append]
  have GA := Lib.hid (World.grownBy_alloc w (.cells #[.func (.func gw) #[] cw] 69) none)
  have BW := Lib.hid (Blk.made w 69 #[.func (.func gw) #[] cw])
  gi_wp2_with (first | (refine ⟨trivial, ?_⟩; gi_at_call 41; refine (callsIn_wide.2 (right_any a len cap e _ ((HL.out.below HB.out (Nat.le_refl _)).grown GA.out) (by have := HLEN.out; omega))).mono ?_; rw [HRT.out]; rintro r u1 ⟨rfl, g1⟩) | gi_in)
  have G1 := Lib.hid (gb_trans GA.out g1.out)
  have BW1 := Lib.hid (BW.out.grown g1.out (by simp))
  have BT := Lib.hid (Blk.made u1 34 #[.slice none 0 0])
  have G2 := Lib.hid (gb_alloc G1.out (.cells #[.slice none 0 0] 34))
  have BW2 := Lib.hid (BW1.out.alloc (.cells #[.slice none 0 0] 34))
  have HSZ := Lib.hid (show u1.heap.size < (u1.alloc (.cells #[.slice none 0 0] 34)).heap.size by simp)
  have HW1 := Lib.hid (show w.heap.size < u1.heap.size by have := g1.out.size; simp at this; omega)
  generalize u1.alloc (.cells #[.slice none 0 0] 34) = u2 at *
  generalize u1.heap.size = bt at *
  clear g1 G1 GA BW BW1
  refine wpIn_range_take rfl (by omega) (gf := 49) (bnd := #[.slice a len cap]) (lb := #[]) rfl trivial (enters_of Try.func49 (by kernel_rfl) rfl) ?_
  intro fn hfn rec hrec
  have HREC := Lib.hid hrec
  clear hrec
  have HT : Takes 3 (u2.heap.size + 1) (JT (u2.heap.size + 1) u2.heap.size rec w.heap.size (.func (.func gw) #[] cw) bt Cap p) := by
    intro pre t v W Fc G hJ hrow hvG hd hGl hFl hac hpre
    obtain ⟨va, vc, rfl⟩ := owns_slice hrow
    obtain ⟨ya, yc, J⟩ := hJ
    have HJ := Lib.hid J
    have HROW := Lib.hid hrow
    have HVG := Lib.hid hvG
    have HD := Lib.hid hd
    have HGL := Lib.hid hGl
    have FLT : Hid (∀ k, Fc k → k < W.heap.size) := Lib.hid hFl
    show YieldAt Fence.wide 3 Try.prog _ #[.agg #[.int .i64 t.th, .int .i64 t.tx, .int .i64 t.at_, .int .i64 t.st, .int .i64 t.b, .int .i64 t.en, .int .i64 t.re, .bool t.co, .slice va t.ac.length vc]] W _
    refine yield_take HREC.out J.loop.1 rfl hfn ?_
    clear J hrow hvG hd hGl hFl
    gi_wp2
    refine ⟨(Below.heap_alloc W _ _ (FLT.out _ HJ.out.fl)).trans HJ.out.loop.1, ?_⟩
    obtain ⟨W4, hW4⟩ : ∃ W4, W4 = (W.alloc (.cells #[.int .i64 t.th, .int .i64 t.tx, .int .i64 t.at_, .int .i64 t.st, .int .i64 t.b, .int .i64 t.en, .int .i64 t.re, .bool t.co, .slice va t.ac.length vc] 41)).putObj (u2.heap.size + 1) (.loop { rec with state := .busy }) := ⟨_, rfl⟩
    rw [← hW4]
    have lt1 := FLT.out _ HJ.out.fl
    have K4 : Hid (∀ k, k < W.heap.size → k ≠ u2.heap.size + 1 → W4.heap[k]? = W.heap[k]?) := Lib.hid (fun k hk hne => by rw [hW4, World.putObj_heap_other hne]; exact Below.heap_alloc W _ k hk)
    have TB : Hid (Blk 41 W4 W.heap.size #[.int .i64 t.th, .int .i64 t.tx, .int .i64 t.at_, .int .i64 t.st, .int .i64 t.b, .int .i64 t.en, .int .i64 t.re, .bool t.co, .slice va t.ac.length vc]) := Lib.hid (by
      show W4.heap[_]? = _
      rw [hW4, World.putObj_heap_other (by omega)]
      exact Blk.made W _ _)
    have L4 : Hid (W4.heap[u2.heap.size + 1]? = some (.loop { rec with state := .busy })) := Lib.hid (by rw [hW4]; exact World.putObj_heap_same (by simp; omega))
    have S4 : Hid (W4.heap.size = W.heap.size + 1) := Lib.hid (by rw [hW4]; simp)
    have O4 : Hid (W4.os = W.os ∧ W4.tape = W.tape ∧ W4.output = W.output) := Lib.hid (by rw [hW4]; exact ⟨rfl, rfl, rfl⟩)
    have ncl : ∀ k ty cs, W.heap[k]? = some (.cells cs ty (0, 0)) → k ≠ u2.heap.size + 1 := fun k ty cs hk e => by
      have := HJ.out.loop.1
      rw [← e, hk] at this
      cases this
    have B4 := Lib.hid (HJ.out.box.keep (K4.out _ (FLT.out _ HJ.out.fbt) (ncl _ _ _ HJ.out.box)))
    have N4 := Lib.hid (HJ.out.wan.keep (K4.out _ (FLT.out _ HJ.out.fbw) (ncl _ _ _ HJ.out.wan)))
    have R4 := Lib.hid (ownsRow_keep HJ.out.row (fun k e => K4.out k (FLT.out _ (HJ.out.frow k e)) (by obtain ⟨cs, hc⟩ := ownsRow_type HJ.out.row e; exact ncl _ _ _ hc)))
    have C4 : Hid (∀ x ∈ Cap, Blk x.2.1 W4 x.1 ⟨x.2.2⟩) := Lib.hid (fun x hx => (HJ.out.cap x hx).1.keep (K4.out _ (FLT.out _ (HJ.out.cap x hx).2) (ncl _ _ _ (HJ.out.cap x hx).1)))
    clear hW4
    have n0 : W4.cell? ⟨w.heap.size, 0, none⟩ = some (.func (.func gw) #[] cw) := N4.out.cell 0
    have d0 : W4.cell? ⟨W.heap.size, 0, none⟩ = some (.int .i64 t.th) := TB.out.cell 0; have d1 : W4.cell? ⟨W.heap.size, 1, none⟩ = some (.int .i64 t.tx) := TB.out.cell 1; have d2 : W4.cell? ⟨W.heap.size, 2, none⟩ = some (.int .i64 t.at_) := TB.out.cell 2; have d3 : W4.cell? ⟨W.heap.size, 3, none⟩ = some (.int .i64 t.st) := TB.out.cell 3; have d4 : W4.cell? ⟨W.heap.size, 4, none⟩ = some (.int .i64 t.b) := TB.out.cell 4; have d5 : W4.cell? ⟨W.heap.size, 5, none⟩ = some (.int .i64 t.en) := TB.out.cell 5; have d6 : W4.cell? ⟨W.heap.size, 6, none⟩ = some (.int .i64 t.re) := TB.out.cell 6; have d7 : W4.cell? ⟨W.heap.size, 7, none⟩ = some (.bool t.co) := TB.out.cell 7; have d8 : W4.cell? ⟨W.heap.size, 8, none⟩ = some (.slice va t.ac.length vc) := TB.out.cell 8
    have OA : Hid (Only (fun k => k = u2.heap.size + 1) W W4) := Lib.hid ⟨O4.out.1, O4.out.2.1, O4.out.2.2, by rw [S4.out]; omega, fun k hk hn => K4.out k hk hn⟩
    obtain ⟨n, hn⟩ : ∃ n, n = (pre.filter fun x => p x.1).length := ⟨_, rfl⟩
    have HN := Lib.hid hn
    rw [← hn] at B4 R4
    have hn1 : n < 100000 := by rw [hn]; exact Nat.lt_of_le_of_lt (List.length_filter_le _ _) hpre
    clear hn
    cases hp : p t with
    | true =>
      have HP := Lib.hid hp
      gi_wp2_with (first | (refine ⟨trivial, ?_⟩; gi_at_fn gw; refine (CallsIn.inRound _ (callsIn_wide.2 (WT.out W4 t (.slice va t.ac.length vc) C4.out))).mono ?_; rw [HP.out]; rintro r u3 ⟨rfl, g3⟩; have B5 := Lib.hid (B4.out.grown g3.out (by simp)); have T5 := Lib.hid (TB.out.grown g3.out (by simp)); have R5 := Lib.hid (ownsRow_keep R4.out (fun k e => g3.out.block k (R4.out.lt k e).2 (by simp))); have L5 := Lib.hid ((g3.out.block _ (by rw [S4.out]; omega) (by simp)).trans L4.out); have b5 : u3.cell? ⟨bt, 0, none⟩ = some (.slice ya n yc) := B5.out.cell 0; have x0 : u3.cell? ⟨W.heap.size, 0, none⟩ = some (.int .i64 t.th) := T5.out.cell 0; have x1 : u3.cell? ⟨W.heap.size, 1, none⟩ = some (.int .i64 t.tx) := T5.out.cell 1; have x2 : u3.cell? ⟨W.heap.size, 2, none⟩ = some (.int .i64 t.at_) := T5.out.cell 2; have x3 : u3.cell? ⟨W.heap.size, 3, none⟩ = some (.int .i64 t.st) := T5.out.cell 3; have x4 : u3.cell? ⟨W.heap.size, 4, none⟩ = some (.int .i64 t.b) := T5.out.cell 4; have x5 : u3.cell? ⟨W.heap.size, 5, none⟩ = some (.int .i64 t.en) := T5.out.cell 5; have x6 : u3.cell? ⟨W.heap.size, 6, none⟩ = some (.int .i64 t.re) := T5.out.cell 6; have x7 : u3.cell? ⟨W.heap.size, 7, none⟩ = some (.bool t.co) := T5.out.cell 7; have x8 : u3.cell? ⟨W.heap.size, 8, none⟩ = some (.slice va t.ac.length vc) := T5.out.cell 8) | (gi_at_builtin; refine wpListIn_append_at _ rfl (.tmp 18) (.tmp 20) 34 rfl 0 41 i0 (.agg #[.int .i64 0, .int .i64 0, .int .i64 0, .int .i64 0, .int .i64 0, .int .i64 0, .int .i64 0, .bool false, .slice none 0 0]) 9 88 Try.underlying34 hi.out hz0.out hz1.out hz2.out rfl (by decide) (.slice ya n yc) n (rows tvC (pre.filter fun x => p x.1)) rfl (R5.out.alloc _) ⟨u3.heap.size, 0, none⟩ 1 1 (tvC (t, .slice va t.ac.length vc)) rfl rfl (new_cells u3 _ _) (by intro u hu; simp [tvC, trC] at hu; rcases hu with rfl | rfl | rfl | rfl | rfl | rfl | rfl | rfl | rfl <;> rfl) (by unfold maxLen; omega) (by omega) (by simp) (by decide) ?_; intro g' c' w5 ho hg hv; have nbt : Hid ((Value.slice ya n yc).ownBlock ≠ some bt) := Lib.hid (by intro e; obtain ⟨cs, hc⟩ := ownsRow_type R5.out e; have h9 := B5.out; unfold Blk at h9; rw [hc] at h9; injection h9 with h9; injection h9 with _ h9; exact absurd h9 (by decide)); have B6 := Lib.hid ((B5.out.alloc (.cells ⟨tvC (t, .slice va t.ac.length vc)⟩ 41)).grown hg (fun e => nbt.out e.symm)); have b6 : w5.cell? ⟨bt, 0, none⟩ = some (.slice ya n yc) := B6.out.cell 0; have f6 := B6.out.free 0; have HO := Lib.hid ho; have HG := Lib.hid hg; have HV := Lib.hid hv; clear ho hg hv) | gi_in)
      have hl5 : u2.heap.size + 1 < u3.heap.size := (Array.getElem?_eq_some_iff.1 L5.out).1
      have nl : ∀ k ty cs, u3.heap[k]? = some (.cells cs ty (0, 0)) → u2.heap.size + 1 ≠ k := fun k ty cs hk e => by
        have := L5.out
        rw [e, hk] at this
        cases this
      have nlb : u2.heap.size + 1 ≠ bt := nl _ _ _ B5.out
      have nlr : ∀ k, (Value.slice ya n yc).ownBlock = some k → u2.heap.size + 1 ≠ k := fun k e => by
        obtain ⟨cs, hc⟩ := ownsRow_type R5.out e
        exact nl _ _ _ hc
      have s35 := HG.out.size
      simp at s35
      have sW := OA.out.size
      have s3 := g3.out.size
      have L6 : (w5.setCell ⟨bt, 0, none⟩ (.slice (some ⟨g', 0, none⟩) (n + 1) c')).heap[u2.heap.size + 1]? = some (.loop { rec with state := .busy }) :=
        (Below.heap_setCell _ _ _ _ nlb).trans ((HG.out.block _ (by simp; omega) (by intro e; exact nlr _ e.symm rfl)).trans ((Below.heap_alloc u3 _ _ hl5).trans L5.out))
      have hgl : g' ≠ u2.heap.size + 1 := by
        rcases HV.out with h | h
        · exact fun e => nlr g' h.symm e.symm
        · simp at h; omega
      have hgb : g' ≠ bt := by
        rcases HV.out with h | h
        · exact fun e => nbt.out (by rw [← h, e])
        · have := B5.out.lt
          simp at h
          omega
      have OZ : Only (fun k => k = bt ∨ k = u2.heap.size + 1 ∨ (Value.slice ya n yc).ownBlock = some k) W ((w5.setCell ⟨bt, 0, none⟩ (.slice (some ⟨g', 0, none⟩) (n + 1) c')).putObj (u2.heap.size + 1) (.loop rec)) :=
        ((((OA.out.mono (fun k _ h => .inr (.inl h))).trans (Only.none (gb_alloc g3.out _))).trans (Only.of HG.out (fun k e _ => .inr (.inr e)))).trans (Only.of (gb_setB (gb_refl w5 _) _) (fun k e _ => .inl (by cases e; rfl)))).trans ((only_put _ _ _).mono (fun k _ h => .inr (.inl h)))
      have OZF : Only Fc W ((w5.setCell ⟨bt, 0, none⟩ (.slice (some ⟨g', 0, none⟩) (n + 1) c')).putObj (u2.heap.size + 1) (.loop rec)) := OZ.mono (fun k _ hk => by
        rcases hk with rfl | rfl | hk
        · exact HJ.out.fbt
        · exact HJ.out.fl
        · exact HJ.out.frow k (by rw [← HN.out]; exact hk))
      refine ⟨L6, fun k => Fc k ∨ G k ∨ (W.heap.size ≤ k ∧ k < w5.heap.size), jt_add (a := ya) (c := yc) (g := g') (c' := c') (fun x hx => (HC.out x hx).1) HJ.out HP.out ?_ (fun k e => .inr (.inl (HVG.out k e))) (by rw [← HN.out]; exact OZ) FLT.out ?_ ?_ (World.putObj_heap_same (by simp [World.setCell]; omega)) (fun k hk => .inl hk) ?_, fun k hk => hk, OZF⟩
      · exact ownsRow_keep HROW.out (fun k e => OZF.block k (HROW.out.lt k e).2 (fun hf => HD.out k hf (HVG.out k e)))
      · rw [← HN.out]
        exact (B6.out.set 0 (.slice (some ⟨g', 0, none⟩) (n + 1) c')).keep (World.putObj_heap_other (fun e => nlb e.symm))
      · rw [← HN.out]
        exact ownsRow_keep HO.out (fun k e => by cases e; exact (World.putObj_heap_other hgl).trans (Below.heap_setCell _ _ _ _ hgb))
      · rcases HV.out with h | h
        · exact .inl (HJ.out.frow g' (by rw [← HN.out]; exact h.symm))
        · exact .inr (.inr ⟨by simp at h; omega, (HO.out.lt g' rfl).2⟩)
    | false =>
      have HP := Lib.hid hp
      gi_wp2_with (first | (refine ⟨trivial, ?_⟩; gi_at_fn gw; refine (CallsIn.inRound _ (callsIn_wide.2 (WT.out W4 t (.slice va t.ac.length vc) C4.out))).mono ?_; rw [HP.out]; rintro r u3 ⟨rfl, g3⟩) | gi_in)
      have L5 := (g3.out.block _ (by rw [S4.out]; omega) (by simp)).trans L4.out
      have OZ : Only (fun k => k = u2.heap.size + 1) W (u3.putObj (u2.heap.size + 1) (.loop rec)) := (OA.out.trans (Only.none g3.out)).trans (only_put _ _ _)
      refine ⟨L5, fun k => Fc k ∨ G k ∨ (W.heap.size ≤ k ∧ k < u3.heap.size), jt_skip ⟨ya, yc, HJ.out⟩ HP.out (fun k hk => ?_) (fun k hk => .inl hk), fun k hk => hk, OZ.mono (fun k _ hk => by rw [hk]; exact HJ.out.fl)⟩
      by_cases he : k = u2.heap.size + 1
      · subst he
        rw [World.putObj_heap_same (Array.getElem?_eq_some_iff.1 L5).1]
        exact HJ.out.loop.1.symm
      · exact OZ.block k (FLT.out k hk) he
  have hW1 := HW1.out
  have hSZ := HSZ.out
  have HT2 := Lib.hid HT
  clear HT
  refine (tries_in 4 (by omega) (u2.heap.size + 1) a len cap e _ (jt_firm _ _ _ _ _ _ _ _) HT2.out w0 ((u2.alloc (.deferred (some []))).alloc (.loop rec)) HL.out HRT.out HLEN.out (fun k => (w.heap.size ≤ k ∧ k < u2.heap.size + 2) ∨ ∃ x ∈ Cap, x.1 = k)
    ⟨none, 0, ⟨(BT.out.alloc _).alloc _, World.ownsRow_nil _ _ _ _, by simp, (BW2.out.alloc _).alloc _, ⟨?_, ?_⟩, .inl ⟨by omega, by omega⟩, .inl ⟨by omega, by omega⟩, .inl ⟨by omega, by omega⟩, .inl ⟨by omega, by omega⟩, (by intro k e; cases e), (by simp), fun x hx => ⟨((HC.out x hx).2.2.grown (gb_alloc (gb_alloc G2.out _) _) (by simp)), .inr ⟨x, hx, rfl⟩⟩⟩⟩ ?_ ?_).mono ?_
  · have := World.alloc_heap_new (u2.alloc (.deferred (some []))) (.loop rec)
    rwa [World.size_alloc] at this
  · exact (Below.heap_alloc _ _ _ (by simp)).trans (World.alloc_heap_new u2 _)
  · rintro k (hk | ⟨x, hx, rfl⟩)
    · have := HB.out.size
      simp
      omega
    · have h1 := (HC.out x hx).2.2.lt
      exact ⟨(HC.out x hx).2.1, by simp; omega⟩
  · exact bl_none HB.out (gb_alloc (gb_alloc G2.out _) _)
  rintro r W' ⟨rfl, xs, Fc, rest, ⟨ya, yc, J⟩, hFc, hBel, hnd, hrest, hxs⟩
  refine ⟨⟨_, rfl⟩, J.loop, fun o' => ?_⟩
  have hperm : (xs.map Prod.fst).Perm (tries e len) := by
    rw [hxs]
    exact (all_perm e len HRT.out rest hnd hrest).map _
  obtain ⟨ys, hys⟩ : ∃ ys, ys = xs.filter fun x => p x.1 := ⟨_, rfl⟩
  have hp2 : (ys.map Prod.fst).Perm ((tries e len).filter p) := by
    rw [hys]
    have h3 := hperm.filter p
    rw [List.filter_map] at h3
    exact h3
  rw [← hys] at J
  have HPERM := Lib.hid hp2
  obtain ⟨W5, hW5⟩ : ∃ W5, W5 = W'.putObj (u2.heap.size + 1) o' := ⟨_, rfl⟩
  rw [← hW5]
  have hl5 : u2.heap.size + 1 < W'.heap.size := (Array.getElem?_eq_some_iff.1 J.loop.1).1
  have ncl : ∀ (k : Nat) (ty : TypeId) (cs : Array Value), W'.heap[k]? = some (.cells cs ty (0, 0)) → W5.heap[k]? = W'.heap[k]? := fun k ty cs hk => by
    rw [hW5]
    refine World.putObj_heap_other (fun e => ?_)
    have := J.loop.1
    rw [← e, hk] at this
    cases this
  have BT5 := Lib.hid (J.box.keep (ncl _ _ _ J.box))
  have RO5 := Lib.hid (ownsRow_keep J.row (fun k e => by obtain ⟨cs, hc⟩ := ownsRow_type J.row e; exact ncl _ _ _ hc))
  have AC5 : Hid (∀ x ∈ ys, W5.ownsRow 0 48 6 x.2 x.1.ac.length (rows accC x.1.ac)) := Lib.hid (fun x hx => ownsRow_keep (J.acc x hx) (fun k e => by obtain ⟨cs, hc⟩ := ownsRow_type (J.acc x hx) e; exact ncl _ _ _ hc))
  have BE5 : Hid (Below w0.heap.size w0 W5) := Lib.hid (by rw [hW5]; exact (only_put W' _ o').below hBel hBel.size (fun k hk => by rw [hk]; have := HB.out.size; omega))
  have HGB : Hid (∀ k, (Value.slice ya ys.length yc).ownBlock = some k → w0.heap.size ≤ k) := Lib.hid (fun k e => (hFc k (J.frow k e)).1)
  have HGA : Hid (∀ x ∈ ys, ∀ k, x.2.ownBlock = some k → w0.heap.size ≤ k) := Lib.hid (fun x hx k e => (hFc k (J.facc x hx k e)).1)
  have D5 : Hid (W5.heap[u2.heap.size]? = some (.deferred (some []))) := Lib.hid (by rw [hW5, World.putObj_heap_other (by omega)]; exact J.loop.2)
  have hlen2 : ys.length ≤ 10000 := by
    have h4 := hp2.length_eq
    rw [List.length_map] at h4
    rw [h4]
    refine Nat.le_trans (List.length_filter_le _ _) ?_
    unfold tries begins
    rw [List.length_map]
    refine Nat.le_trans (List.length_filter_le _ _) ?_
    rw [List.length_range]
    exact HLEN.out
  have t0 : W5.cell? ⟨bt, 0, none⟩ = some (.slice ya ys.length yc) := BT5.out.cell 0
  clear J hxs hrest hnd hperm hys hp2 hW5 ncl HT2 HREC
  have ldef : ∀ (k : Nat) (ty : TypeId) (cs : Array Value), W5.heap[k]? = some (.cells cs ty (0, 0)) → k ≠ u2.heap.size := fun k ty cs hk e => by
    have := D5.out
    rw [← e, hk] at this
    cases this
  have LDEF := Lib.hid ldef
  clear ldef
  cases hys : ys with
  | nil =>
    subst hys
    have hnil := fun fv W => AnyF.slices_SortFunc_none sortTryLaid ya yc fv W
    change ∀ fv W, Calls Try.prog 50 _ _ _ at hnil
    have t0' : W5.cell? ⟨bt, 0, none⟩ = some (.slice ya 0 yc) := t0
    have HNIL := Lib.hid hnil
    clear hnil t0
    gi_wp2_with (first | (refine ⟨trivial, ?_⟩; gi_at_call 50; refine (callsIn_wide.2 (HNIL.out _ _)).mono ?_; rintro r u7 ⟨rfl, rfl⟩) | gi_in)
    refine ⟨by simp, .inl ⟨_, _, rfl, run_takeDeferred D5.out, ?_⟩⟩
    exact ⟨_, results_tmp rfl _ _ _, ya, yc, [], rfl, ⟨.inl rfl, by simp⟩, HPERM.out, Lib.hid List.Pairwise.nil, (only_put _ _ _).below BE5.out BE5.out.size (fun k hk => by rw [hk]; have := HB.out.size; omega), ⟨fun b off e => HGB.out b (by rw [e]; rfl), by simp⟩⟩
  | cons y0 yt =>
    obtain ⟨g, rfl⟩ : ∃ g, ya = some ⟨g, 0, none⟩ := by
      rcases RO5.out.2 with ⟨_, h⟩ | ⟨g, _, _, h, _⟩
      · rw [hys] at h; cases h
      · injection h with h; exact ⟨g, h⟩
    have HH := holdsK_of (fun x hx => by obtain ⟨a, c, h⟩ := owns_slice (AC5.out x hx); exact ⟨a, _, c, h⟩) rfl RO5.out
    have hgl := (RO5.out.lt g rfl).2
    have hcon := AnyQ.slices_SortFunc sortTryLaid 9 aggTry sizeTry encT encT_len encT_one (fun x y : Tr × Value => Lib.compareInt (f x.1) (f y.1)) (swo_cmp (fun x : Tr × Value => f x.1)) go #[] g 0 yc ys.toArray W5 HGO.out.1 (HGO.out.2 _ _ _ _) HH hgl (by simp; omega)
    change Calls Try.prog 50 _ _ _ at hcon
    rw [List.size_toArray] at hcon
    have HCON := Lib.hid hcon
    have HHH := Lib.hid HH
    clear hcon HH hys
    gi_wp2_with (first | (refine ⟨trivial, ?_⟩; gi_at_call 50; refine (callsIn_wide.2 HCON.out).mono ?_; rintro r u7 ⟨rfl, d', nn, os, hpi, hso, rfl⟩; have hq := sortW_only (w := W5) (g := g) (n := nn) (d := d') (os := os); have t1 := (BT5.out.keep (hq.block bt BT5.out.lt (fun e => by obtain ⟨cs, hc⟩ := ownsRow_type RO5.out (k := g) rfl; have h9 := BT5.out; unfold Blk at h9; rw [e, hc] at h9; injection h9 with h9; injection h9 with _ h9; exact absurd h9 (by decide)))).cell 0; have t1' : (sortWorldK encT 9 W5 g 0 nn d' os).cell? ⟨bt, 0, none⟩ = some (.slice (some ⟨g, 0, none⟩) ys.length yc) := t1; have HPI := Lib.hid hpi; have HSO := Lib.hid hso; have HQ := Lib.hid hq; clear hpi hso hq t1) | gi_in)
    have hgd : g ≠ u2.heap.size := by
      obtain ⟨cs, hc⟩ := ownsRow_type RO5.out (k := g) rfl
      exact LDEF.out _ _ _ hc
    have hDl : u2.heap.size < W5.heap.size := (Array.getElem?_eq_some_iff.1 D5.out).1
    have hD7 : (sortWorldK encT 9 W5 g 0 nn d' os).heap[u2.heap.size]? = some (.deferred (some [])) := (HQ.out.block _ hDl (fun e => hgd e.symm)).trans D5.out
    refine ⟨by simp, .inl ⟨_, _, rfl, run_takeDeferred hD7, ?_⟩⟩
    have hsz : d'.size = ys.length := by rw [HPI.out.1, List.size_toArray]
    have hperm : d'.toList.Perm ys := by
      have h := HPI.out.2.2
      have e1 : d'.extract 0 ys.length = d' := by rw [← hsz, Array.extract_size]
      have e2 : ys.toArray.extract 0 ys.toArray.size = ys.toArray := Array.extract_size
      rw [List.size_toArray] at e2
      have h' : (d'.extract 0 ys.length).toList.Perm (ys.toArray.extract 0 ys.length).toList := h
      rw [e1, e2] at h'
      exact h'
    have hsl : ∀ x ∈ d'.toList, W5.ownsRow 0 48 6 x.2 x.1.ac.length (rows accC x.1.ac) := fun x hx => AC5.out x (hperm.mem_iff.1 hx)
    have hO7 : Only (fun k => k = g ∨ k = u2.heap.size) W5 ((sortWorldK encT 9 W5 g 0 nn d' os).putObj u2.heap.size (.deferred none)) := (HQ.out.mono (fun k _ h => .inl h)).trans ((only_put _ _ _).mono (fun k _ h => .inr h))
    have hK := holdsK_sortWorldK_c encT 9 W5 g 0 ys.toArray d' nn os HHH.out hgl HPI.out.1
    refine ⟨_, results_tmp rfl _ _ _, some ⟨g, 0, none⟩, yc, d'.toList, ?_, ⟨.inr ⟨g, rfl, ?_, fun i x hx j u hu => ?_⟩, fun x hx => ?_⟩, ?_, ?_, ?_, ⟨fun b off e => by cases e; exact HGB.out _ rfl, fun x hx => HGA.out x (hperm.mem_iff.1 hx)⟩⟩
    · show Ending.returned (Value.slice (some ⟨g, 0, none⟩) ys.toArray.size yc) = _
      rw [Array.length_toList, hsz, List.size_toArray]
    · have := hO7.size
      omega
    · have hi : i < d'.size := by
        have := (List.getElem?_eq_some_iff.1 hx).1
        rwa [Array.length_toList] at this
      have hj : j < 9 := by
        have := (List.getElem?_eq_some_iff.1 hu).1
        rwa [tvC_len] at this
      have hc := HoldsK.cell hK hi hj
      have hx2 : d'[i]! = x := by
        rw [getElem!_pos d' i hi]
        have := (List.getElem?_eq_some_iff.1 hx).2
        simpa using this
      have hmem : x ∈ d'.toList := List.mem_of_getElem? hx
      obtain ⟨va, vc, hv⟩ := owns_slice (hsl x hmem)
      have hen : encT x = tvC x := by
        obtain ⟨tt, v⟩ := x
        dsimp only at hv
        rw [hv]
        rfl
      have hu2 : (encT d'[i]!)[j]! = u := by
        rw [hx2, hen, getElem!_pos _ j (by rw [tvC_len]; exact hj)]
        exact (List.getElem?_eq_some_iff.1 hu).2
      have hb : ((sortWorldK encT 9 W5 g 0 nn d' os).putObj u2.heap.size (.deferred none)).heap[g]? = (sortWorldK encT 9 W5 g 0 nn d' os).heap[g]? := World.putObj_heap_other hgd
      rw [World.cell?_of_block (w := sortWorldK encT 9 W5 g 0 nn d' os) hb]
      have h8 := hc.1
      rw [hu2, Nat.zero_add] at h8
      exact h8
    · refine ownsRow_keep (hsl x hx) (fun k e => hO7.block k ((hsl x hx).lt k e).2 ?_)
      obtain ⟨cs, hc⟩ := ownsRow_type (hsl x hx) e
      rintro (h | h)
      · obtain ⟨ds, hd⟩ := ownsRow_type RO5.out (k := g) rfl
        rw [h, hd] at hc
        injection hc with hc
        injection hc with _ hc
        exact absurd hc (by decide)
      · exact LDEF.out _ _ _ hc h
    · exact (hperm.map Prod.fst).trans HPERM.out
    · rw [List.pairwise_map]
      refine List.pairwise_iff_getElem.2 fun i j hi hj hij => ?_
      rw [Array.length_toList] at hi hj
      have h := HSO.out i j (Nat.zero_le _) hij (by rw [← hsz]; exact hj)
      rw [ltOf_cmp (fun x : Tr × Value => f x.1), getElem!_pos d' j hj, getElem!_pos d' i hi] at h
      simpa using h
    · exact hO7.below BE5.out BE5.out.size (fun k hk => by
        have hB := HB.out.size
        rcases hk with rfl | rfl
        · exact HGB.out _ rfl
        · omega)
end Go.Proofs.Ytkidkhjpijjphaa.hs

/- Package hist's Tries, Commits, Of, Before. -/
namespace Go.Proofs.Ytkidkhjpijjphaa.hs
open Go Go.RowKit Go.Proofs.Ytkidkhjpijjphaa.base Go.Maps
set_option linter.unusedVariables false
set_option maxRecDepth 100000

theorem gb_of_below {w w' : World} (h : Below w.heap.size w w') : w.grownBy w' none := ⟨h.os, h.tape, h.output, h.size, fun k hk _ => h.block k hk⟩

set_option maxHeartbeats 1000000 in
theorem told_wrong (w : World) (a : Option Addr) (len cap : Nat) (e : Evs) (hl : IsEvs w a len e) (hr : right e len = false) (hlen : len ≤ 10000) (gw : Nat) (cw : Array Value) (go : Nat) :
    Calls Try.prog 29 #[.slice a len cap, .func (.func gw) #[] cw, .func (.func go) #[] #[]] w fun r w' => r = .returned (.slice none 0 0) ∧ Hid (w.grownBy w' none) := by
  have HL := Lib.hid hl
  have HRT := Lib.hid hr
  have GA := Lib.hid (World.grownBy_alloc w (.cells #[.func (.func gw) #[] cw] 69) none)
  have HLEN := Lib.hid hlen
  clear hl hr hlen
  go_enter Try.func29, Try.ntmps29
  go_wp2_with (first | (go_at_call 41; refine (right_any a len cap e _ (HL.out.grown GA.out) (by have := HLEN.out; omega)).mono ?_; rw [HRT.out]; rintro r u1 ⟨rfl, g1⟩) | go_in)
  go_ret
  exact ⟨rfl, gb_trans GA.out g1.out⟩


theorem all_wants : Wants [] 30 #[] (fun _ => true) := by
  refine ⟨enters_of Try.func30 (by kernel_rfl) rfl, fun u t v _ => ?_⟩
  show Calls Try.prog 30 #[.agg #[.int .i64 t.th, .int .i64 t.tx, .int .i64 t.at_, .int .i64 t.st, .int .i64 t.b, .int .i64 t.en, .int .i64 t.re, .bool t.co, v]] u _
  go_enter Try.func30, Try.ntmps30
  go_wp2
  go_ret
  exact ⟨rfl, (by repeat (first | exact gb_refl _ _ | refine gb_drewN ?_ _ | refine gb_drew ?_ | refine gb_alloc ?_ _))⟩

theorem co_wants : Wants [] 67 #[] (fun t => t.co) := by
  refine ⟨enters_of Try.func67 (by kernel_rfl) rfl, fun u t v _ => ?_⟩
  show Calls Try.prog 67 #[.agg #[.int .i64 t.th, .int .i64 t.tx, .int .i64 t.at_, .int .i64 t.st, .int .i64 t.b, .int .i64 t.en, .int .i64 t.re, .bool t.co, v]] u _
  go_enter Try.func67, Try.ntmps67
  go_wp2
  go_ret
  exact ⟨rfl, (by repeat (first | exact gb_refl _ _ | refine gb_drewN ?_ _ | refine gb_drew ?_ | refine gb_alloc ?_ _))⟩

/-- What is told of a right trace. -/
def Told (w w' : World) (r : Ending) (T : List Tr) (f : Tr → Int) : Prop := ∃ a c ys, r = .returned (.slice a ys.length c) ∧ Hid (IsTries w' a ys) ∧ Hid ((ys.map Prod.fst).Perm T) ∧ Hid ((ys.map Prod.fst).Pairwise (fun x y => f x ≤ f y)) ∧ Hid (w.grownBy w' none)

set_option maxHeartbeats 1000000 in
theorem tries_right (w : World) (a : Option Addr) (len cap : Nat) (e : Evs) (hl : IsEvs w a len e) (hr : right e len = true) (hlen : len ≤ 10000) :
    Calls Try.prog 15 #[.slice a len cap] w fun r w' => Told w w' r (tries e len) Tr.b := by
  have H := Lib.hid (told_right w w a len cap e hl (Below.refl _ _) hr hlen 30 #[] _ [] (by simp) all_wants 31 Tr.b byBegin_orders)
  clear hl hr hlen
  go_enter Try.func15, Try.ntmps15
  go_wp2_with (first | (go_at_call 29; refine H.out.mono ?_; rintro r u1 ⟨a', c', ys, rfl, h1, h2, h3, h4, h5⟩) | go_in)
  go_ret
  refine ⟨a', c', ys, rfl, h1, ?_, h3, gb_of_below h4.out⟩
  have := h2.out
  rwa [List.filter_eq_self.2 (by simp)] at this

set_option maxHeartbeats 1000000 in
theorem commits_right (w : World) (a : Option Addr) (len cap : Nat) (e : Evs) (hl : IsEvs w a len e) (hr : right e len = true) (hlen : len ≤ 10000) :
    Calls Try.prog 54 #[.slice a len cap] w fun r w' => Told w w' r ((tries e len).filter fun t => t.co) Tr.en := by
  have H := Lib.hid (told_right w w a len cap e hl (Below.refl _ _) hr hlen 67 #[] _ [] (by simp) co_wants 68 Tr.en byEnd_orders)
  clear hl hr hlen
  go_enter Try.func54, Try.ntmps54
  go_wp2_with (first | (go_at_call 29; refine H.out.mono ?_; rintro r u1 ⟨a', c', ys, rfl, h1, h2, h3, h4, h5⟩) | go_in)
  go_ret
  exact ⟨a', c', ys, rfl, h1, h2, h3, gb_of_below h4.out⟩

set_option maxHeartbeats 1000000 in
theorem commits_new (w : World) (a : Option Addr) (len cap : Nat) (e : Evs) (hl : IsEvs w a len e) (hr : right e len = true) (hlen : len ≤ 10000) :
    Calls Try.prog 54 #[.slice a len cap] w fun r w' => ∃ a c ys, r = .returned (.slice a ys.length c) ∧ Hid (IsTries w' a ys) ∧ Hid ((ys.map Prod.fst).Perm ((tries e len).filter fun t => t.co)) ∧ Hid ((ys.map Prod.fst).Pairwise (fun x y => x.en ≤ y.en)) ∧ Hid (w.grownBy w' none) ∧ Hid (NewT w.heap.size a ys) := by
  have H := Lib.hid (told_right w w a len cap e hl (Below.refl _ _) hr hlen 67 #[] _ [] (by simp) co_wants 68 Tr.en byEnd_orders)
  clear hl hr hlen
  go_enter Try.func54, Try.ntmps54
  go_wp2_with (first | (go_at_call 29; refine H.out.mono ?_; rintro r u1 ⟨a', c', ys, rfl, h1, h2, h3, h4, h5⟩) | go_in)
  go_ret
  exact ⟨a', c', ys, rfl, h1, h2, h3, gb_of_below h4.out, h5⟩

theorem tries_wrong (w : World) (a : Option Addr) (len cap : Nat) (e : Evs) (hl : IsEvs w a len e) (hr : right e len = false) (hlen : len ≤ 10000) :
    Calls Try.prog 15 #[.slice a len cap] w fun r w' => r = .returned (.slice none 0 0) ∧ Hid (w.grownBy w' none) := by
  have H := fun gw cw go => told_wrong w a len cap e hl hr hlen gw cw go
  go_enter Try.func15, Try.ntmps15
  go_wp2_with (first | (go_at_call 29; refine (H _ _ _).mono ?_; rintro r u1 ⟨rfl, g1⟩) | go_in)
  go_ret
  exact ⟨rfl, g1⟩

theorem commits_wrong (w : World) (a : Option Addr) (len cap : Nat) (e : Evs) (hl : IsEvs w a len e) (hr : right e len = false) (hlen : len ≤ 10000) :
    Calls Try.prog 54 #[.slice a len cap] w fun r w' => r = .returned (.slice none 0 0) ∧ Hid (w.grownBy w' none) := by
  have H := fun gw cw go => told_wrong w a len cap e hl hr hlen gw cw go
  go_enter Try.func54, Try.ntmps54
  go_wp2_with (first | (go_at_call 29; refine (H _ _ _).mono ?_; rintro r u1 ⟨rfl, g1⟩) | go_in)
  go_ret
  exact ⟨rfl, g1⟩

end Go.Proofs.Ytkidkhjpijjphaa.hs

/- The states of a trace, one by one: model's function that is ranged over. -/
namespace Go.Proofs.Ytkidkhjpijjphaa.md
open Go Go.RowKit Go.Proofs.Ytkidkhjpijjphaa.base Go.Proofs.Ytkidkhjpijjphaa.hs Go.Proofs.Ytkidkhjpijjphaa.lg Go.Maps
set_option linter.unusedVariables false
set_option maxRecDepth 100000
attribute [local go_sem] Oper.semAt_some

/-- The accesses of the tries that committed, in the order of their ends; of a trace that isn't right none. -/
def cacs (e : Evs) (len : Nat) : List (List Acc) := if right e len = true then (commsD e len).map Tr.ac else []

theorem tries_n' (e : Evs) (n : Nat) : (tries e n).length ≤ n := by
  unfold tries begins
  rw [List.length_map]
  refine Nat.le_trans (List.length_filter_le _ _) ?_
  rw [List.length_range]
  exact Nat.le_refl _

theorem commits_any (w : World) (a : Option Addr) (len cap : Nat) (e : Evs) (hl : IsEvs w a len e) (hlen : len ≤ 10000) :
    Calls Try.prog 54 #[.slice a len cap] w fun r w' => ∃ a' c ys, r = .returned (.slice a' ys.length c) ∧ Hid (IsTries w' a' ys) ∧ Hid (ys.map (fun x => x.1.ac) = cacs e len) ∧ Hid (w.grownBy w' none) ∧ Hid (NewT w.heap.size a' ys) ∧ Hid (ys.length ≤ len) ∧ Hid (∀ x ∈ ys, x.1.ac.length ≤ len) ∧ Hid (right e len = true → ys.map Prod.fst = commsD e len) := by
  cases hr : right e len with
  | true =>
    refine (commits_new w a len cap e hl hr hlen).mono ?_
    rintro r w' ⟨a', c, ys, rfl, h1, h2, h3, h4, h5⟩
    have E := sorted_one Tr.en (h2.out.trans (commsD_perm e hr).symm) (commsD_sorted e hr) (h3.out.imp fun h => by omega)
    have hm : ∀ x ∈ ys, x.1 ∈ tries e len := fun x hx => (List.mem_filter.1 (h2.out.mem_iff.1 (List.mem_map_of_mem hx))).1
    refine ⟨a', c, ys, rfl, h1, ?_, h4, h5, ?_, fun x hx => ?_, fun _ => E⟩
    · show _ = _
      unfold cacs
      rw [if_pos hr, ← E, List.map_map]
      rfl
    · show _ ≤ _
      have h9 := h2.out.length_eq
      rw [List.length_map] at h9
      have h8 := List.length_filter_le (fun t : Tr => t.co) (tries e len)
      have h7 := tries_n' e len
      omega
    · have h8 := hm x hx
      unfold tries at h8
      obtain ⟨b, _, hb⟩ := List.mem_map.1 h8
      rw [← hb]
      exact trAt_ac e b len
  | false =>
    refine (commits_wrong w a len cap e hl hr hlen).mono ?_
    rintro r w' ⟨rfl, h4⟩
    refine ⟨none, 0, [], rfl, ⟨.inl rfl, by simp⟩, ?_, h4, ⟨fun b off h => (by cases h), by simp⟩, Nat.zero_le _, (by intro x hx; simp at hx), fun h => (by cases h)⟩
    show _ = _
    unfold cacs
    rw [if_neg (by rw [hr]; simp)]
    rfl

theorem tries_keep {w w' : World} {a : Option Addr} {ys : List (Tr × Value)} (h : IsTries w a ys) (ht : ys ≠ [] → ∀ b, a = some ⟨b, 0, none⟩ → w'.heap[b]? = w.heap[b]?) (ha : ∀ x ∈ ys, ∀ k, x.2.ownBlock = some k → w'.heap[k]? = w.heap[k]?) (hs : w.heap.size ≤ w'.heap.size) : IsTries w' a ys := by
  refine ⟨?_, fun x hx => ownsRow_keep (h.2 x hx) (ha x hx)⟩
  by_cases hne : ys = []
  · exact .inl hne
  · rcases h.1 with h1 | ⟨g, h1, h2, h3⟩
    · exact .inl h1
    · exact .inr ⟨g, h1, by omega, fun i x hx j u hu => (World.cell?_of_block (ht hne g h1)).trans (h3 i x hx j u hu)⟩
/-- A try in its cells. -/
theorem try9 {w : World} {a : Option Addr} {ys : List (Tr × Value)} (h : IsTries w a ys) {i : Nat} {x : Tr × Value} (hx : ys[i]? = some x) : ∃ g va vc, a = some ⟨g, 0, none⟩ ∧ g < w.heap.size ∧ x.2 = .slice va x.1.ac.length vc ∧
    w.cell? ⟨g, i * 9, none⟩ = some (.int .i64 x.1.th) ∧ w.cell? ⟨g, i * 9 + 1, none⟩ = some (.int .i64 x.1.tx) ∧ w.cell? ⟨g, i * 9 + 2, none⟩ = some (.int .i64 x.1.at_) ∧ w.cell? ⟨g, i * 9 + 3, none⟩ = some (.int .i64 x.1.st) ∧ w.cell? ⟨g, i * 9 + 4, none⟩ = some (.int .i64 x.1.b) ∧ w.cell? ⟨g, i * 9 + 5, none⟩ = some (.int .i64 x.1.en) ∧ w.cell? ⟨g, i * 9 + 6, none⟩ = some (.int .i64 x.1.re) ∧ w.cell? ⟨g, i * 9 + 7, none⟩ = some (.bool x.1.co) ∧ w.cell? ⟨g, i * 9 + 8, none⟩ = some (.slice va x.1.ac.length vc) := by
  obtain ⟨h1, h2⟩ := h
  obtain ⟨va, vc, hv⟩ := owns_slice (h2 x (List.mem_of_getElem? hx))
  rcases h1 with rfl | ⟨g, rfl, hg, hc⟩
  · simp at hx
  · exact ⟨g, va, vc, rfl, hg, hv, hc i x hx 0 _ rfl, hc i x hx 1 _ rfl, hc i x hx 2 _ rfl, hc i x hx 3 _ rfl, hc i x hx 4 _ rfl, hc i x hx 5 _ rfl, hc i x hx 6 _ rfl, hc i x hx 7 _ rfl, by rw [← hv]; exact hc i x hx 8 _ rfl⟩

def FirmV (J : List Value → World → (Nat → Prop) → Prop) : Prop := ∀ pre W W' Fc, J pre W Fc → (∀ k, Fc k → W'.heap[k]? = W.heap[k]?) → J pre W' Fc

/-- Wherever J has seen so many states, all in one list, it takes one more, and gives word. -/
def TakesV (m l n : Nat) (st : Nat → Nat → Int) (J : List Value → World → (Nat → Prop) → Prop) : Prop :=
  ∀ (pre : List Value) (a : Option Addr) (c : Nat) (W : World) (Fc : Nat → Prop), J pre W Fc → (∀ x ∈ pre, x = .slice a n c) → W.ownsRow 0 2 1 (.slice a n c) n (vals (st pre.length) n) → (∀ k, (Value.slice a n c).ownBlock = some k → ¬ Fc k) → (∀ k, Fc k → k < W.heap.size) → pre.length < 100000 →
    YieldAt Fence.wide m Try.prog l #[.slice a n c] W fun e W' => e = .returned (.bool true) ∧ ∃ Fc', J (pre ++ [.slice a n c]) W' Fc' ∧ (∀ k, Fc' k → Fc k ∨ (W.heap.size ≤ k ∧ k < W'.heap.size)) ∧ Only Fc W W'

/-- At the head of a round. -/
structure RelS (w0 : World) (n c : Nat) (a ta : Option Addr) (z : Nat → Int) (cs : List (List Acc)) (ys : List (Tr × Value)) (J : List Value → World → (Nat → Prop) → Prop) (k : Nat) (wr : World) (xs : List Value) (Fc : Nat → Prop) : Prop where
  j : J xs wr Fc
  len : xs.length = k + 1
  all : ∀ x ∈ xs, x = .slice a n c
  row : wr.ownsRow 0 2 1 (.slice a n c) n (vals (stAt z cs k) n)
  tr : IsTries wr ta ys
  fr : ∀ i, (Value.slice a n c).ownBlock = some i → ¬ Fc i ∧ w0.heap.size ≤ i
  ft : ys ≠ [] → ∀ b, ta = some ⟨b, 0, none⟩ → ¬ Fc b
  rt : ys ≠ [] → ∀ b, ta = some ⟨b, 0, none⟩ → (Value.slice a n c).ownBlock ≠ some b
  fa : ∀ x ∈ ys, ∀ i, x.2.ownBlock = some i → ¬ Fc i
  fc : ∀ i, Fc i → w0.heap.size ≤ i ∧ i < wr.heap.size
  bel : Below w0.heap.size w0 wr

section
variable {w0 wr u u' : World} {n c k : Nat} {a ta : Option Addr} {z : Nat → Int} {cs : List (List Acc)} {ys : List (Tr × Value)} {J : List Value → World → (Nat → Prop) → Prop} {xs : List Value} {Fc Fc' : Nat → Prop}
theorem tries_lt (h : IsTries wr ta ys) (hne : ys ≠ []) {b : Nat} (hb : ta = some ⟨b, 0, none⟩) : b < wr.heap.size := by
  rcases h.1 with h1 | ⟨g, h1, h2, _⟩
  · exact absurd h1 hne
  · rw [hb] at h1
    cases h1
    exact h2
theorem RelS.grown (h : RelS w0 n c a ta z cs ys J k wr xs Fc) (firm : FirmV J) (g : wr.grownBy u none) : RelS w0 n c a ta z cs ys J k u xs Fc :=
  ⟨firm _ _ _ _ h.j (fun i hi => g.block i (h.fc i hi).2 (by simp)), h.len, h.all, ownsRow_keep h.row (fun i e => g.block i (h.row.lt i e).2 (by simp)), h.tr.grown g, h.fr, h.ft, h.rt, h.fa, fun i hi => ⟨(h.fc i hi).1, Nat.lt_of_lt_of_le (h.fc i hi).2 g.size⟩, bl_none h.bel g⟩
/-- The list of values was changed, and J has taken it. -/
theorem RelS.next (h : RelS w0 n c a ta z cs ys J k wr xs Fc) (firm : FirmV J) (g : wr.grownBy u (Value.slice a n c).ownBlock) (hr : u.ownsRow 0 2 1 (.slice a n c) n (vals (stAt z cs (k + 1)) n)) (hJ : J (xs ++ [.slice a n c]) u' Fc') (hF : ∀ i, Fc' i → Fc i ∨ (u.heap.size ≤ i ∧ i < u'.heap.size)) (hO : Only Fc u u') :
    RelS w0 n c a ta z cs ys J (k + 1) u' (xs ++ [.slice a n c]) Fc' := by
  have hne : ∀ i, i < wr.heap.size → (Value.slice a n c).ownBlock ≠ some i → ¬ Fc i → u'.heap[i]? = wr.heap[i]? := fun i h1 h2 h3 => (hO.block i (Nat.lt_of_lt_of_le h1 g.size) h3).trans (g.block i h1 (fun e => h2 e.symm))
  have hdif : ∀ x ∈ ys, ∀ i, x.2.ownBlock = some i → (Value.slice a n c).ownBlock ≠ some i := fun x hx i e e2 => by
    obtain ⟨ds, hd⟩ := ownsRow_type (h.tr.2 x hx) e
    obtain ⟨es, he⟩ := ownsRow_type h.row e2
    rw [hd] at he
    injection he with he
    injection he with _ he
    exact absurd he (by decide)
  refine ⟨hJ, by rw [List.length_append, h.len]; rfl, fun x hx => ?_, ownsRow_keep hr (fun i e => hO.block i (hr.lt i e).2 (h.fr i e).1), tries_keep h.tr (fun hn b hb => hne b (tries_lt h.tr hn hb) (h.rt hn b hb) (h.ft hn b hb)) (fun x hx i e => hne i ((h.tr.2 x hx).lt i e).2 (hdif x hx i e) (h.fa x hx i e)) (Nat.le_trans g.size hO.size), fun i e => ⟨fun hf => ?_, (h.fr i e).2⟩, fun hn b hb hf => ?_, h.rt, fun x hx i e hf => ?_, fun i hi => ?_, ?_⟩
  · rcases List.mem_append.1 hx with hx | hx
    · exact h.all x hx
    · simpa using hx
  · rcases hF i hf with h1 | h1
    · exact (h.fr i e).1 h1
    · have := (hr.lt i e).2; omega
  · rcases hF b hf with h1 | h1
    · exact h.ft hn b hb h1
    · have := tries_lt h.tr hn hb; have := g.size; omega
  · rcases hF i hf with h1 | h1
    · exact h.fa x hx i e h1
    · have := ((h.tr.2 x hx).lt i e).2; have := g.size; omega
  · rcases hF i hi with h1 | h1
    · exact ⟨(h.fc i h1).1, Nat.lt_of_lt_of_le (h.fc i h1).2 (Nat.le_trans g.size hO.size)⟩
    · exact ⟨Nat.le_trans h.bel.size (Nat.le_trans g.size h1.1), h1.2⟩
  · exact hO.below (h.bel.grown g h.bel.size (fun i hi => (h.fr i hi).2)) (Nat.le_trans h.bel.size g.size) (fun i hi => (h.fc i hi).1)
end

theorem row_ne {w : World} {b1 b2 : Nat} {E1 E2 : TypeId} {s1 s2 n1 n2 : Nat} {v1 v2 : Value} {x1 x2 : List Value} (h1 : w.ownsRow b1 E1 s1 v1 n1 x1) (h2 : w.ownsRow b2 E2 s2 v2 n2 x2) (hne : E1 ≠ E2) : ∀ k, v1.ownBlock = some k → v2.ownBlock ≠ some k := fun k e e2 => by
  obtain ⟨cs, hc⟩ := ownsRow_type h1 e
  obtain ⟨ds, hd⟩ := ownsRow_type h2 e2
  rw [hc] at hd
  injection hd with hd
  injection hd with _ hd
  exact hne hd

set_option maxHeartbeats 4000000 in
theorem states_in (m : Nat) (hm : 1 ≤ m) (l : Nat) (a1 : Option Addr) (n c1 : Nat) (z : Nat → Int) (a2 : Option Addr) (len cap : Nat) (e : Evs) (bf bl : Nat) (J : List Value → World → (Nat → Prop) → Prop) (firm : FirmV J)
    (hY : TakesV (m - 1) l n (stAt z (cacs e len)) J) (w0 W : World) (hZ : IsNums .i64 w0 a1 n z) (hL : IsEvs w0 a2 len e) (hn : n ≤ 1000000) (hlen : len ≤ 10000) (hbf : Blk 22 W bf #[.slice a1 n c1]) (hbl : Blk 23 W bl #[.slice a2 len cap])
    (Fc0 : Nat → Prop) (h0 : J [] W Fc0) (hfl : ¬ Fc0 bl) (hF0 : ∀ k, Fc0 k → w0.heap.size ≤ k ∧ k < W.heap.size) (hB : Below w0.heap.size w0 W) :
    CallsIn Fence.wide m Try.prog 53 #[.func (.yield l) #[] #[], .pointer (some ⟨bf, 0, none⟩), .pointer (some ⟨bl, 0, none⟩)] W fun r W' => r = .returned (.tuple #[]) ∧ ∃ xs Fc a c, J xs W' Fc ∧ xs.length = (cacs e len).length + 1 ∧ (∀ x ∈ xs, x = .slice a n c) ∧ W'.ownsRow 0 2 1 (.slice a n c) n (vals (stAt z (cacs e len) (cacs e len).length) n) ∧ (∀ i, (Value.slice a n c).ownBlock = some i → ¬ Fc i ∧ w0.heap.size ≤ i) ∧ (∀ k, Fc k → w0.heap.size ≤ k ∧ k < W'.heap.size) ∧ Below w0.heap.size w0 W' := by
  have HZ := Lib.hid hZ
  have HL := Lib.hid hL
  have HBL := Lib.hid hbl
  have FIRM := Lib.hid firm
  have HY := Lib.hid hY
  have HJ := Lib.hid h0
  have HFL := Lib.hid hfl
  have HF0 := Lib.hid hF0
  have HB := Lib.hid hB
  have b1 : W.cell? ⟨bf, 0, none⟩ = some (.slice a1 n c1) := hbf.cell 0
  have lt1 := hbf.lt
  have lt2 := hbl.lt
  clear hZ hL hbf hbl firm hY h0 hfl hF0 hB
  refine callsIn_of_wp Try.func53 rfl trivial ?_ rfl
  simp only [Try.ntmps53, List.size_toArray, List.length_cons, List.length_nil, Nat.reduceAdd, Nat.reduceSub, Array.replicate_succ, Array.replicate_zero, List.push_toArray, List.append_toArray, List.nil_append, List.cons_append]
  gi_wp2_with (first | (refine ⟨trivial, ?_⟩; gi_at_call 33; refine (callsIn_wide.2 (copied_any a1 n c1 z _ ((HZ.out.below HB.out)) hn)).mono ?_; rintro r u1 ⟨a, c, rfl, hr, g1⟩; have HR := Lib.hid hr; have G1 := Lib.hid g1.out; clear hr g1; obtain ⟨fn, tmps, assign, body, hy, hRd⟩ := HY.out [] a c u1 Fc0 (FIRM.out _ _ _ _ HJ.out (fun k hk => G1.out.block k (HF0.out k hk).2 (by simp))) (by simp) (ownsRow_drop HR.out (Nat.zero_le _)) (fun k e hf => by have h1 := (HR.out.lt k e).1; have h2 := (HF0.out k hf).2; omega) (fun k hk => Nat.lt_of_lt_of_le (HF0.out k hk).2 G1.out.size) (by simp); have hy' : (Instr.yield l #[.slice a n c]).run Try.prog u1 = .ok (.round l fn tmps assign body) u1 := hy; have RD := Lib.hid hRd; clear hy hRd) | gi_in)
  refine RD.out.mono ?_
  rintro e3 u2 ⟨rfl, Fc1, hJ, hF, hO⟩
  have HJ1 := Lib.hid hJ
  have HF1 := Lib.hid hF
  have HO1 := Lib.hid hO
  clear hJ hF hO RD
  have hs1 : W.heap.size ≤ u1.heap.size := G1.out.size
  have hs2 : u1.heap.size ≤ u2.heap.size := HO1.out.size
  have BL2 := Lib.hid (HBL.out.keep ((HO1.out.block bl (by omega) HFL.out).trans (G1.out.block bl lt2 (by simp))))
  have l2 : u2.cell? ⟨bl, 0, none⟩ = some (.slice a2 len cap) := BL2.out.cell 0
  have HB2 : Hid (Below w0.heap.size w0 u2) := Lib.hid (HO1.out.below (bl_none HB.out G1.out) (Nat.le_trans HB.out.size hs1) (fun i hi => (HF0.out i hi).1))
  gi_wp2_with (first | (refine ⟨trivial, ?_⟩; gi_at_call 54; refine (callsIn_wide.2 (commits_any u2 a2 len cap e (HL.out.below HB2.out (Nat.le_refl _)) hlen)).mono ?_; rintro r u3 ⟨ta, tc, ys, rfl, h1, h2, h3, h4, h5, h6, _⟩) | gi_in)
  have hyl : ys.length ≤ 10000 := by have := h5.out; omega
  have HCL := Lib.hid (show (cacs e len).length = ys.length by rw [← h2.out, List.length_map])
  have R0 : RelS w0 n c a ta z (cacs e len) ys J 0 u3 [.slice a n c] Fc1 := by
    have hfc : ∀ i, Fc1 i → w0.heap.size ≤ i ∧ i < u2.heap.size := fun i hi => by
      rcases HF1.out i hi with h | h
      · have := HF0.out i h; omega
      · have := HB.out.size; omega
    refine ⟨FIRM.out _ _ _ _ HJ1.out (fun k hk => h3.out.block k (hfc k hk).2 (by simp)), rfl, by simp, ownsRow_keep (ownsRow_drop HR.out (Nat.zero_le _)) (fun k e => ?_), h1.out, fun i e => ⟨fun hf => ?_, ?_⟩, fun hne b hb hf => ?_, fun hne b hb e => ?_, fun x hx i e hf => ?_, fun i hi => ⟨(hfc i hi).1, Nat.lt_of_lt_of_le (hfc i hi).2 h3.out.size⟩, bl_none HB2.out h3.out⟩
    · have h8 := HR.out.lt k e
      exact (h3.out.block k (by omega) (by simp)).trans (HO1.out.block k h8.2 (fun hf => by have := HF0.out k hf; omega))
    · have h8 := HR.out.lt i e
      rcases HF1.out i hf with h | h
      · have := HF0.out i h; omega
      · omega
    · have h8 := HR.out.lt i e
      have := HB.out.size
      omega
    · have h8 := h4.out.1 b 0 hb
      have := hfc b hf
      omega
    · have h8 := h4.out.1 b 0 hb
      have h9 := HR.out.lt b e
      omega
    · have h8 := h4.out.2 x hx i e
      have := hfc i hf
      omega
  have HR0 := Lib.hid R0
  have HAC := Lib.hid h6.out
  have HMAP := Lib.hid h2.out
  clear R0 HJ1 HF1 HO1 BL2 HB2 h1 h2 h3 h4 h6 HR G1 HBL HF0 HB HJ HFL b1 l2
  gi_loopw [16] (fun iv wr => ∃ (k : Nat) (xs : List Value) (Fc : Nat → Prop), k ≤ ys.length ∧ iv = .int .i64 k ∧ Hid (RelS w0 n c a ta z (cacs e len) ys J k wr xs Fc)) (fun iv _ => (ys.length - intOf iv).toNat)
  case atStart => exact ⟨0, _, _, by omega, rfl, HR0⟩
  case round =>
    obtain ⟨k, xs, Fc, hk, rfl, RR⟩ := hrel
    clear HR0
    by_cases hlt : k < ys.length
    · have hlt' : (k : Int) < (ys.length : Int) := by omega
      have hk6 : (k : Int) < 1000000 := by omega
      have hget := List.getElem?_eq_getElem hlt
      have hmem : ys[k] ∈ ys := List.getElem_mem hlt
      obtain ⟨g, va, vc, rfl, hg, hv, d0, d1, d2, d3, d4, d5, d6, d7, d8⟩ := try9 RR.out.tr hget
      have hcs : (cacs e len)[k]? = some ys[k].1.ac := by rw [← HMAP.out, List.getElem?_map, hget]; rfl
      have hrow := RR.out.tr.2 ys[k] hmem
      have hal := HAC.out ys[k] hmem
      have ST := Lib.hid (stAt_step z hcs)
      rw [hv] at hrow
      generalize ys[k].1 = t at *
      have HROW := Lib.hid hrow
      clear hget hmem hcs hv hrow
      have RR1 := Lib.hid (RR.out.grown FIRM.out (World.grownBy_alloc wr (.cells #[.int .i64 t.th, .int .i64 t.tx, .int .i64 t.at_, .int .i64 t.st, .int .i64 t.b, .int .i64 t.en, .int .i64 t.re, .bool t.co, .slice va t.ac.length vc] 41) none))
      have TB := Lib.hid (Blk.made wr 41 #[.int .i64 t.th, .int .i64 t.tx, .int .i64 t.at_, .int .i64 t.st, .int .i64 t.b, .int .i64 t.en, .int .i64 t.re, .bool t.co, .slice va t.ac.length vc])
      have HROW1 := Lib.hid (HROW.out.alloc (.cells #[.int .i64 t.th, .int .i64 t.tx, .int .i64 t.at_, .int .i64 t.st, .int .i64 t.b, .int .i64 t.en, .int .i64 t.re, .bool t.co, .slice va t.ac.length vc] 41))
      have HAP := Lib.hid (show t.ac ≠ [] → ∀ b off gg, va = some ⟨b, off, none⟩ → a = some ⟨gg, 0, none⟩ → b ≠ gg from fun _ b off gg e1 e2 e3 => row_ne HROW1.out RR1.out.row (by decide) b (by rw [e1]; rfl) (by rw [e2, e3]; rfl))
      clear RR HROW
      gi_wp2_with (first | (refine ⟨trivial, ?_⟩; gi_at_call 34; refine (callsIn_wide.2 (change_any 0 a n c (stAt z (cacs e len) k) t va vc _ RR1.out.row (IsL.of_own HROW1.out accC_len rfl) HAP.out hn (by omega))).mono ?_; rintro r u2 ⟨rfl, hr2, g2⟩; have HR2 := Lib.hid (show u2.ownsRow 0 2 1 (.slice a n c) n (vals (stAt z (cacs e len) (k + 1)) n) by rw [ST.out]; exact hr2.out); obtain ⟨fn, tmps, assign, body, hy, hRd⟩ := HY.out xs a c u2 Fc (FIRM.out _ _ _ _ RR1.out.j (fun k hk => g2.out.block k (RR1.out.fc k hk).2 (fun e => (RR1.out.fr k e.symm).1 hk))) RR1.out.all (by rw [RR1.out.len]; exact HR2.out) (fun k e => (RR1.out.fr k e).1) (fun k hk => Nat.lt_of_lt_of_le (RR1.out.fc k hk).2 g2.out.size) (by have := RR1.out.len; omega); have hy' : (Instr.yield l #[.slice a n c]).run Try.prog u2 = .ok (.round l fn tmps assign body) u2 := hy; have RD := Lib.hid hRd; have G2 := Lib.hid g2.out; clear hy hRd hr2 g2) | gi_in)
      refine RD.out.mono ?_
      rintro e3 u3 ⟨rfl, Fc', hJ, hF, hO⟩
      have QQ := Lib.hid (RR1.out.next FIRM.out G2.out HR2.out hJ hF hO)
      clear hJ hF hO RD RR1 G2 HR2
      gi_wp2
      go_roundw
      case rel => exact ⟨k + 1, _, _, by omega, by go_num, QQ⟩
      case measure => simp [intOf]; omega
    · obtain rfl : k = ys.length := by omega
      gi_wp2
      go_end0
      exact ⟨rfl, xs, Fc, a, c, RR.out.j, by rw [HCL.out]; exact RR.out.len, RR.out.all, by rw [HCL.out]; exact RR.out.row, RR.out.fr, RR.out.fc, RR.out.bel⟩
end Go.Proofs.Ytkidkhjpijjphaa.md

/- A region that draws its order, in a round of a range over a function: walked as anywhere; append, and a call, as its steps. Of no program. -/
namespace Go.Proofs.Ytkidkhjpijjphaa.base
open Go Go.RowKit

def noDefer (o : Oper) : Bool := match o.op with | .defer _ => false | _ => true

section
variable {F : Fence} {l n : Nat} {P : Program} {md : Region.Mode} {ops : Array Oper} {Q : Exit → Act → World → Prop}

theorem wpOpIn_round {i : Nat} {K : Act → World → Prop} {a : Act} {w : World} (hd : ∀ o, ops[i]? = some o → noDefer o = true) (h : wpOpIn F n P ops Q i K a w) : wpOpIn (F.inRound l) n P ops Q i K a w := by
  unfold wpOpIn at h ⊢
  cases ho : ops[i]? with
  | none => rw [ho] at h; exact h
  | some o =>
    rw [ho] at h
    dsimp only at h ⊢
    have hne : ∀ c, o.op ≠ .defer c := fun c e => by have := hd o ho; simp [noDefer, e] at this
    by_cases hw : Region.wanted o (yielded ops a.tmps) = true
    · rw [if_pos hw] at h ⊢
      refine ⟨h.1, ?_⟩
      have h2 := h.2
      rw [Oper.semAt_eq _ _ _ hne] at h2 ⊢
      exact h2
    · rw [if_neg hw] at h ⊢
      exact h

theorem wpAnyIn_round (hd : ops.toList.all noDefer = true) : ∀ (fuel : Nat) (listed : Array Bool) (a : Act) (w : World), wpAnyIn F n P md ops Q fuel listed a w → wpAnyIn (F.inRound l) n P md ops Q fuel listed a w
  | 0, _, _, _, h => h
  | fuel + 1, listed, a, w, h => by
    refine ⟨h.1, fun i hi => wpOpIn_mono (fun a w h => wpAnyIn_round hd fuel _ a w h) (wpOpIn_round (fun o ho => ?_) (h.2 i hi))⟩
    exact List.all_eq_true.1 hd o (Array.mem_toList_iff.2 (Array.mem_of_getElem? ho))

theorem wpIn_region_round {id : Nat} {a : Act} {w : World} (hm : P.follows .mixedOrders = true) (hd : ops.toList.all noDefer = true) (h : wpAnyIn F n P .any ops Q ops.size (Array.replicate ops.size false) a w.drew) : (Code.region id ops true).wpIn (F.inRound l) n P Q a w :=
  wpIn_region_any hm (wpAnyIn_round hd _ _ _ _ h)

/-- append, as one step. -/
theorem stepIn_append_at {o : Oper} {a : Act} {w : World} {K : Act → World → Prop} {E : Prop}
    (hg : o.guard = none) (s x : Operand) (t : TypeId) (hop : o.op = Op.call { callee := Callee.builtin Builtin.append, args := #[s, x], argTypes := #[t, t] })
    (base : Nat) (e : TypeId) (i : TypeInfo) (z : Value) (size bytes : Nat) (h1 : P.underlying t = some (.slice e)) (h2 : P.info? e = some i) (h3 : i.zero = some z) (h4 : i.size = size) (h5 : i.bytes = bytes) (h6 : z.cells.size = size) (h7 : 0 < size)
    (v : Value) (k : Nat) (xs : List Value) (hs : a.eval s = v) (hown : w.ownsRow base e size v k xs)
    (ad : Addr) (m c : Nat) (news : List Value) (hx : a.eval x = .slice (some ad) m c) (hl : news.length = m * size) (hnews : ∀ j u, news[j]? = some u → w.cell? (ad.add j) = some u) (h1c : ∀ u ∈ news, u.oneCell' = true)
    (h63 : k + m ≤ maxLen) (hbytes : (k + m) * bytes ≤ 140737488355328) (hbase : base ≤ w.heap.size) (hm : 0 < m)
    (hK : ∀ g cap w', w'.ownsRow base e size (.slice (some ⟨g, 0, none⟩) (k + m) cap) (k + m) (xs ++ news) → w.grownBy w' v.ownBlock → (some g = v.ownBlock ∨ w.heap.size ≤ g) → K (a.put o.dst (.slice (some ⟨g, 0, none⟩) (k + m) cap)) w') :
    if Region.wanted o (yielded ops a.tmps) = true then Oper.wpIn F n P o a w K Q else E := by
  have hw : Region.wanted o (yielded ops a.tmps) = true := by simp [Region.wanted, hg]
  rw [if_pos hw]
  obtain ⟨v', w', hrun, r1, r2, r3⟩ := run_append_at (P := P) w base t o.type e i z size bytes h1 h2 h3 h4 h5 h6 h7 v k xs hown ad m c news hl hnews h1c h63 hbytes hbase
  have r0 := r1
  rcases r0.2 with ⟨_, h0⟩ | ⟨g, cap, _, rfl, _⟩
  · omega
  unfold Oper.wpIn
  refine ⟨by simp [Oper.about, hop, resolve, Target.leads, Sem.run_pure], ?_⟩
  rw [Oper.semAt_plain F _ _ (by rw [hop]; intro c hc'; cases hc')]
  simp [execOp, hop, resolve, invoke, builtin, hs, hx, hrun, Result.andThen]
  exact hK g cap w' r1 r2 (by
    rcases r3 with h | ⟨k, h, hk⟩
    · exact .inl h
    · cases h; exact .inr hk)

/-- A call of a Go function, as one step. -/
theorem stepIn_call {o : Oper} {a : Act} {w : World} {K : Act → World → Prop} {E : Prop}
    (hg : o.guard = none) (f : FuncId) (args : Array Value) (hx : (o.semAt none a.eval).run P w = .ok (.enter f args) w) {R : Ending → World → Prop} (hC : Calls P f args w R)
    (hr : ∀ e w', R e w' → ∃ v, e = .returned v ∧ K (a.put o.dst v) w') : if Region.wanted o (yielded ops a.tmps) = true then Oper.wpIn Fence.wide n P o a w K Q else E := by
  have hw : Region.wanted o (yielded ops a.tmps) = true := by simp [Region.wanted, hg]
  rw [if_pos hw]
  refine ⟨fun _ _ => trivial, ?_⟩
  show o.uponIn Fence.wide n P a K Q ((o.semAt none a.eval).run P w)
  rw [hx, Oper.uponIn_enter]
  refine ⟨fun h => (by cases h), (callsIn_wide.2 hC).mono ?_⟩
  intro e w' h
  obtain ⟨v, rfl, hK⟩ := hr e w' h
  exact hK
end
end Go.Proofs.Ytkidkhjpijjphaa.base

/- Package model's States: all states of a trace, in memory of their own. -/
namespace Go.Proofs.Ytkidkhjpijjphaa.md
open Go Go.RowKit Go.Proofs.Ytkidkhjpijjphaa.base Go.Proofs.Ytkidkhjpijjphaa.hs Go.Proofs.Ytkidkhjpijjphaa.lg Go.Maps
set_option linter.unusedVariables false
set_option linter.unusedSimpArgs false
set_option maxRecDepth 100000
attribute [local go_sem] Oper.semAt_some

theorem mf_run (fn : Fn) (first cap : Array Value) (w : World) : (Instr.makeFunc fn first cap).run Try.prog w = .ok (.func fn first cap) w := rfl

theorem states_fn (a1 : Option Addr) (n c1 : Nat) (a2 : Option Addr) (len cap : Nat) (w : World) :
    Calls Try.prog 35 #[.slice a1 n c1, .slice a2 len cap] w fun r w' => r = .returned (.func (.func 53) #[] #[.pointer (some ⟨w.heap.size, 0, none⟩), .pointer (some ⟨w.heap.size + 1, 0, none⟩)]) ∧ w' = (w.alloc (.cells #[.slice a1 n c1] 22)).alloc (.cells #[.slice a2 len cap] 23) := by
  have hmf := mf_run
  go_enter Try.func35, Try.ntmps35
  go_wp2
  go_ret
  exact ⟨rfl, rfl⟩

/-- A row of n numbers of one's own, in blocks from B on. -/
def RowAt (w : World) (B n : Nat) (f : Nat → Int) (u : Value) : Prop := ∃ a c, u = .slice a n c ∧ w.ownsRow B 2 1 u n (vals f n)

theorem infoRow : (Try.prog.info? 22).map (fun i => (i.zero, i.size, i.bytes)) = some (some (.slice none 0 0), 1, 24) := by kernel_rfl

/-- What States holds while the states come: us, the rows so far. -/
structure JSP (l D : Nat) (rec : Loop) (bt n : Nat) (st : Nat → Nat → Int) (m : Nat) (W : World) (Fc : Nat → Prop) (a : Option Addr) (c : Nat) (us : List Value) : Prop where
  len : us.length = m
  box : Blk 45 W bt #[.slice a m c]
  row : W.ownsRow 0 22 1 (.slice a m c) m us
  each : ∀ i u, us[i]? = some u → ∃ a c, u = .slice a n c ∧ W.ownsRow 0 2 1 u n (vals (st i) n)
  loop : LoopAt l D rec W
  fbt : Fc bt
  fl : Fc l
  fD : Fc D
  frow : ∀ k, (Value.slice a m c).ownBlock = some k → Fc k
  feach : ∀ u ∈ us, ∀ k, u.ownBlock = some k → Fc k
def JS (l D : Nat) (rec : Loop) (bt n : Nat) (st : Nat → Nat → Int) (pre : List Value) (W : World) (Fc : Nat → Prop) : Prop := ∃ a c us, JSP l D rec bt n st pre.length W Fc a c us

theorem JSP.keep {l D : Nat} {rec : Loop} {bt n : Nat} {st : Nat → Nat → Int} {m : Nat} {W W' : World} {Fc Fd : Nat → Prop} {a : Option Addr} {c : Nat} {us : List Value} (h : JSP l D rec bt n st m W Fc a c us) (hk : ∀ k, Fc k → W'.heap[k]? = W.heap[k]?) (hF : ∀ k, Fc k → Fd k) : JSP l D rec bt n st m W' Fd a c us :=
  ⟨h.len, h.box.keep (hk _ h.fbt), ownsRow_keep h.row (fun k e => hk _ (h.frow k e)), fun i u hu => (by
    obtain ⟨a, c, h1, h2⟩ := h.each i u hu
    exact ⟨a, c, h1, ownsRow_keep h2 (fun k e => hk _ (h.feach u (List.mem_of_getElem? hu) k e))⟩), h.loop.keep (hk _ h.fl) (hk _ h.fD), hF _ h.fbt, hF _ h.fl, hF _ h.fD, fun k e => hF _ (h.frow k e), fun u hu k e => hF _ (h.feach u hu k e)⟩
theorem js_firm (l D : Nat) (rec : Loop) (bt n : Nat) (st : Nat → Nat → Int) : FirmV (JS l D rec bt n st) := by
  rintro pre W W' Fc ⟨a, c, us, h⟩ hk
  exact ⟨a, c, us, h.keep hk (fun _ h => h)⟩

/-- One more state was copied, and appended. -/
theorem js_add {l D : Nat} {rec : Loop} {bt n : Nat} {st : Nat → Nat → Int} {m : Nat} {W W' : World} {Fc G : Nat → Prop} {a : Option Addr} {c : Nat} {us : List Value} (h : JSP l D rec bt n st m W Fc a c us) {av : Option Addr} {vc g c' : Nat}
    (hv : W'.ownsRow 0 2 1 (.slice av n vc) n (vals (st m) n)) (hvG : ∀ k, (Value.slice av n vc).ownBlock = some k → G k)
    (ho : Only (fun k => k = bt ∨ k = l ∨ (Value.slice a m c).ownBlock = some k) W W') (hlt : ∀ k, Fc k → k < W.heap.size) (hb : Blk 45 W' bt #[.slice (some ⟨g, 0, none⟩) (m + 1) c'])
    (hr : W'.ownsRow 0 22 1 (.slice (some ⟨g, 0, none⟩) (m + 1) c') (m + 1) (us ++ [.slice av n vc])) (hL : W'.heap[l]? = some (.loop rec)) (hF : ∀ k, Fc k → G k) (hg : G g) :
    JSP l D rec bt n st (m + 1) W' G (some ⟨g, 0, none⟩) c' (us ++ [.slice av n vc]) := by
  have hcell : ∀ k ty cs, W.heap[k]? = some (.cells cs ty (0, 0)) → ty ≠ 45 → ty ≠ 22 → Fc k → W'.heap[k]? = W.heap[k]? := fun k ty cs hk h1 h2 hf => by
    refine ho.block k (hlt k hf) ?_
    rintro (e | e | e)
    · have := h.box
      unfold Blk at this
      rw [← e, hk] at this
      injection this with this
      injection this with _ this
      exact h1 this
    · have := h.loop.1
      rw [← e, hk] at this
      cases this
    · obtain ⟨ds, hd⟩ := ownsRow_type h.row e
      rw [hk] at hd
      injection hd with hd
      injection hd with _ hd
      exact h2 hd
  refine ⟨by rw [List.length_append, h.len]; rfl, hb, hr, fun i u hu => ?_, ⟨hL, ?_⟩, hF _ h.fbt, hF _ h.fl, hF _ h.fD, fun k e => by cases e; exact hg, fun u hu k e => ?_⟩
  · by_cases hi : i < us.length
    · rw [List.getElem?_append_left hi] at hu
      obtain ⟨a3, c3, h1, h2⟩ := h.each i u hu
      refine ⟨a3, c3, h1, ownsRow_keep h2 (fun k e => ?_)⟩
      obtain ⟨cs, hc⟩ := ownsRow_type h2 e
      exact hcell k _ cs hc (by decide) (by decide) (h.feach u (List.mem_of_getElem? hu) k e)
    · rw [List.getElem?_append_right (by omega)] at hu
      have hi0 : i - us.length = 0 := by have := (List.getElem?_eq_some_iff.1 hu).1; simp at this; omega
      rw [hi0] at hu
      have hi1 : i = m := by have := h.len; omega
      subst hi1
      simp at hu
      subst hu
      exact ⟨av, vc, rfl, hv⟩
  · refine (ho.block D (hlt D h.fD) ?_).trans h.loop.2
    have hd := h.loop.2
    rintro (e | e | e)
    · have := h.box
      unfold Blk at this
      rw [← e, hd] at this
      cases this
    · have := h.loop.1
      rw [← e, hd] at this
      cases this
    · obtain ⟨ds, hd2⟩ := ownsRow_type h.row e
      rw [hd] at hd2
      cases hd2
  · rcases List.mem_append.1 hu with hu | hu
    · exact hF _ (h.feach u hu k e)
    · rw [List.mem_singleton.1 hu] at e
      exact hvG k e

/-- .. and the round has ended. -/
theorem js_end {l D : Nat} {rec : Loop} {bt n : Nat} {st : Nat → Nat → Int} {pre : List Value} {x : Value} {W W4 u5 w6 : World} {Fc : Nat → Prop} {ya : Option Addr} {yc : Nat} {us : List Value} {lo : Loop} {a5 : Option Addr} {c5 g' c' : Nat} (HJ : JSP l D rec bt n st pre.length W Fc ya yc us) (FLT : ∀ k, Fc k → k < W.heap.size) (OA : Only (fun k => k = l) W W4) (L4 : W4.heap[l]? = some (.loop lo)) (S4 : W4.heap.size = W.heap.size)
    (g5 : W4.drew.grownBy u5 none) (V5 : u5.ownsRow W4.drew.heap.size 2 1 (.slice a5 n c5) n (vals (st pre.length) n)) (B6 : Blk 45 w6 bt #[.slice ya pre.length yc]) (R4 : W4.drew.ownsRow 0 22 1 (.slice ya pre.length yc) pre.length us)
    (HO : w6.ownsRow 0 22 1 (.slice (some ⟨g', 0, none⟩) (pre.length + 1) c') (pre.length + 1) (us ++ [.slice a5 n c5])) (HG : (u5.alloc (.cells #[.slice a5 n c5] 22)).grownBy w6 (Value.slice ya pre.length yc).ownBlock) (HV : some g' = (Value.slice ya pre.length yc).ownBlock ∨ (u5.alloc (.cells #[.slice a5 n c5] 22)).heap.size ≤ g') :
    (w6.setCell ⟨bt, 0, none⟩ (.slice (some ⟨g', 0, none⟩) (pre.length + 1) c')).heap[l]? = some (.loop lo) ∧ ∃ Fc', JS l D rec bt n st (pre ++ [x]) ((w6.setCell ⟨bt, 0, none⟩ (.slice (some ⟨g', 0, none⟩) (pre.length + 1) c')).putObj l (.loop rec)) Fc' ∧
      (∀ k, Fc' k → Fc k ∨ (W.heap.size ≤ k ∧ k < (w6.setCell ⟨bt, 0, none⟩ (.slice (some ⟨g', 0, none⟩) (pre.length + 1) c')).heap.size)) ∧ Only Fc W ((w6.setCell ⟨bt, 0, none⟩ (.slice (some ⟨g', 0, none⟩) (pre.length + 1) c')).putObj l (.loop rec)) := by
  have s5 : W4.heap.size ≤ u5.heap.size := g5.size
  have s6 : u5.heap.size + 1 ≤ w6.heap.size := by have := HG.size; rwa [World.size_alloc] at this
  have hl4 : l < W4.heap.size := (Array.getElem?_eq_some_iff.1 L4).1
  have nlb : bt ≠ l := fun e => by
    have h1 := HJ.box
    unfold Blk at h1
    rw [e, HJ.loop.1] at h1
    cases h1
  have nlr : (Value.slice ya pre.length yc).ownBlock ≠ some l := fun e => by
    obtain ⟨cs, hc⟩ := ownsRow_type R4 e
    have h1 : W4.drew.heap[l]? = some (.loop lo) := L4
    rw [h1] at hc
    cases hc
  have nbr : (Value.slice ya pre.length yc).ownBlock ≠ some bt := fun e => by
    obtain ⟨cs, hc⟩ := ownsRow_type HJ.row e
    have h1 := HJ.box
    unfold Blk at h1
    rw [h1] at hc
    injection hc with hc
    injection hc with _ hc
    exact absurd hc (by decide)
  have L5 : u5.heap[l]? = some (.loop lo) := (g5.block l hl4 (by simp)).trans L4
  have L6 : w6.heap[l]? = some (.loop lo) := (HG.block l (by rw [World.size_alloc]; omega) (fun e => nlr e.symm)).trans ((Below.heap_alloc u5 _ l (by omega)).trans L5)
  have L7 : (w6.setCell ⟨bt, 0, none⟩ (.slice (some ⟨g', 0, none⟩) (pre.length + 1) c')).heap[l]? = some (.loop lo) := (Below.heap_setCell _ _ _ _ (fun e => nlb e.symm)).trans L6
  have hgl : g' ≠ l := by
    rcases HV with h | h
    · exact fun e => nlr (by rw [← h, e])
    · rw [World.size_alloc] at h; omega
  have hbl : bt < W.heap.size := HJ.box.lt
  have hgb : g' ≠ bt := by
    rcases HV with h | h
    · exact fun e => nbr (by rw [← h, e])
    · rw [World.size_alloc] at h; omega
  have OZ : Only (fun k => k = bt ∨ k = l ∨ (Value.slice ya pre.length yc).ownBlock = some k) W ((w6.setCell ⟨bt, 0, none⟩ (.slice (some ⟨g', 0, none⟩) (pre.length + 1) c')).putObj l (.loop rec)) :=
    (((((OA.mono (fun k _ h => .inr (.inl h))).trans (Only.none (gb_drew (gb_refl W4 none)))).trans (Only.none (gb_alloc g5 _))).trans (Only.of HG (fun k e _ => .inr (.inr e)))).trans (Only.of (gb_setB (gb_refl w6 _) _) (fun k e _ => .inl (by cases e; rfl)))).trans ((only_put _ _ _).mono (fun k _ h => .inr (.inl h)))
  have OZF : Only Fc W ((w6.setCell ⟨bt, 0, none⟩ (.slice (some ⟨g', 0, none⟩) (pre.length + 1) c')).putObj l (.loop rec)) := OZ.mono (fun k _ hk => by
    rcases hk with rfl | rfl | hk
    · exact HJ.fbt
    · exact HJ.fl
    · exact HJ.frow k hk)
  have hs7 : (w6.setCell ⟨bt, 0, none⟩ (.slice (some ⟨g', 0, none⟩) (pre.length + 1) c')).heap.size = w6.heap.size := by simp [World.setCell]
  have V6 : w6.ownsRow 0 2 1 (.slice a5 n c5) n (vals (st pre.length) n) := by
    refine ownsRow_keep (ownsRow_drop V5 (Nat.zero_le _)) (fun k e => ?_)
    have h1 := V5.lt k e
    refine (HG.block k (by rw [World.size_alloc]; omega) (fun e2 => ?_)).trans (Below.heap_alloc u5 _ k h1.2)
    have h2 := (R4.lt k e2.symm).2
    have h3 : W4.drew.heap.size = W4.heap.size := rfl
    omega
  refine ⟨L7, fun k => Fc k ∨ (W.heap.size ≤ k ∧ k < w6.heap.size), ⟨some ⟨g', 0, none⟩, c', us ++ [.slice a5 n c5], ?_⟩, fun k hk => by rw [hs7]; exact hk, OZF⟩
  rw [List.length_append]
  refine js_add HJ (ownsRow_keep V6 (fun k e => ?_)) (fun k e => .inr ?_) OZ FLT ?_ ?_ (World.putObj_heap_same (by simp [World.setCell]; omega)) (fun k hk => .inl hk) ?_
  · have h1 := V5.lt k e
    have h3 : W4.drew.heap.size = W4.heap.size := rfl
    exact (World.putObj_heap_other (by omega)).trans (Below.heap_setCell _ _ _ _ (by dsimp only; omega))
  · have h1 := V5.lt k e
    have h3 : W4.drew.heap.size = W4.heap.size := rfl
    omega
  · exact (B6.set 0 (.slice (some ⟨g', 0, none⟩) (pre.length + 1) c')).keep (World.putObj_heap_other nlb)
  · exact ownsRow_keep HO (fun k e => by cases e; exact (World.putObj_heap_other hgl).trans (Below.heap_setCell _ _ _ _ hgb))
  · rcases HV with h | h
    · exact .inl (HJ.frow g' h.symm)
    · rw [World.size_alloc] at h
      exact .inr ⟨by omega, (HO.lt g' rfl).2⟩

set_option maxHeartbeats 4000000 in
theorem states_any (a1 : Option Addr) (n c1 : Nat) (z : Nat → Int) (a2 : Option Addr) (len cap : Nat) (e : Evs) (w : World) (hZ : IsNums .i64 w a1 n z) (hL : IsEvs w a2 len e) (hn : n ≤ 1000000) (hlen : len ≤ 10000) :
    Calls Try.prog 20 #[.slice a1 n c1, .slice a2 len cap] w fun r w' => ∃ a c us, r = .returned (.slice a us.length c) ∧ Hid (us.length = (cacs e len).length + 1) ∧ Hid (w.grownBy w' none) ∧ Hid (w'.ownsRow w.heap.size 22 1 (.slice a us.length c) us.length us) ∧ Hid (∀ i u, us[i]? = some u → RowAt w' w.heap.size n (stAt z (cacs e len) i) u) := by
  have HZ := Lib.hid hZ
  have HL := Lib.hid hL
  clear hZ hL
  refine (callsIn_wide (n := 5)).1 ?_
  refine callsIn_of_wp_marks Try.func20 rfl trivial ?_ rfl
  simp only [Try.ntmps20, List.size_toArray, List.length_cons, List.length_nil, Nat.reduceAdd, Nat.reduceSub, Array.replicate_succ, Array.replicate_zero, List.push_toArray, List.append_toArray, List.nil_append, List.cons_append]
  have BT := Lib.hid (Blk.made w 45 #[.slice none 0 0])
  have GA := Lib.hid (World.grownBy_alloc w (.cells #[.slice none 0 0] 45) none)
  gi_wp2_with (first | (refine ⟨trivial, ?_⟩; gi_at_call 35; refine (callsIn_wide.2 (states_fn a1 n c1 a2 len cap _)).mono ?_; rintro r u1 ⟨rfl, rfl⟩) | gi_in)
  obtain ⟨i0, hi0, hz00, hz10, hz20⟩ := info_parts infoRow
  have hi := Lib.hid hi0
  have hz0 := Lib.hid hz00
  have hz1 := Lib.hid hz10
  have hz2 := Lib.hid hz20
  clear hi0 hz00 hz10 hz20
  have BF := Lib.hid (Blk.made (w.alloc (.cells #[.slice none 0 0] 45)) 22 #[.slice a1 n c1])
  have BL := Lib.hid (Blk.made ((w.alloc (.cells #[.slice none 0 0] 45)).alloc (.cells #[.slice a1 n c1] 22)) 23 #[.slice a2 len cap])
  have BF2 := Lib.hid (BF.out.alloc (.cells #[.slice a2 len cap] 23))
  have BT2 := Lib.hid ((BT.out.alloc (.cells #[.slice a1 n c1] 22)).alloc (.cells #[.slice a2 len cap] 23))
  have G2 := Lib.hid (gb_alloc (gb_alloc GA.out (.cells #[.slice a1 n c1] 22)) (.cells #[.slice a2 len cap] 23))
  have S2 := Lib.hid (show (((w.alloc (.cells #[.slice none 0 0] 45)).alloc (.cells #[.slice a1 n c1] 22)).alloc (.cells #[.slice a2 len cap] 23)).heap.size = w.heap.size + 3 by simp)
  clear BT GA BF
  generalize ((w.alloc (.cells #[.slice none 0 0] 45)).alloc (.cells #[.slice a1 n c1] 22)).alloc (.cells #[.slice a2 len cap] 23) = u2 at *
  simp only [size_alloc] at BF2 BL
  generalize hbt : w.heap.size = bt at *
  have HBT := Lib.hid hbt
  clear hbt
  generalize hst : stAt z (cacs e len) = st at *
  have HST := Lib.hid hst
  clear hst
  refine wpIn_range_take rfl (by omega) (gf := 53) (bnd := #[]) (lb := #[.pointer (some ⟨bt + 1, 0, none⟩), .pointer (some ⟨bt + 1 + 1, 0, none⟩)]) rfl trivial (enters_of Try.func53 (by kernel_rfl) rfl) ?_
  intro fn hfn rec hrec
  have HREC := Lib.hid hrec
  clear hrec
  have HT : TakesV 3 (u2.heap.size + 1) n st (JS (u2.heap.size + 1) u2.heap.size rec bt n st) := by
    intro pre a c W Fc hJ hall hrow hdis hFl hpre
    obtain ⟨ya, yc, us, J⟩ := hJ
    have HJ := Lib.hid J
    have HROW := Lib.hid hrow
    have HDIS := Lib.hid hdis
    have FLT : Hid (∀ k, Fc k → k < W.heap.size) := Lib.hid hFl
    refine yield_take HREC.out J.loop.1 rfl hfn ?_
    clear J hrow hdis hFl hall
    gi_wp2
    refine ⟨HJ.out.loop.1, ?_⟩
    obtain ⟨W4, hW4⟩ : ∃ W4, W4 = W.putObj (u2.heap.size + 1) (.loop { rec with state := .busy }) := ⟨_, rfl⟩
    rw [← hW4]
    have lt1 := FLT.out _ HJ.out.fl
    have K4 : Hid (∀ k, k ≠ u2.heap.size + 1 → W4.heap[k]? = W.heap[k]?) := Lib.hid (fun k hne => by rw [hW4, World.putObj_heap_other hne])
    have L4 : Hid (W4.heap[u2.heap.size + 1]? = some (.loop { rec with state := .busy })) := Lib.hid (by rw [hW4]; exact World.putObj_heap_same lt1)
    have S4 : Hid (W4.heap.size = W.heap.size) := Lib.hid (by rw [hW4]; simp)
    have OA : Hid (Only (fun k => k = u2.heap.size + 1) W W4) := Lib.hid (by rw [hW4]; exact only_put W _ _)
    clear hW4
    have ncl : ∀ k ty cs, W.heap[k]? = some (.cells cs ty (0, 0)) → k ≠ u2.heap.size + 1 := fun k ty cs hk e => by
      have := HJ.out.loop.1
      rw [← e, hk] at this
      cases this
    have B4 : Hid (Blk 45 W4.drew bt #[.slice ya pre.length yc]) := Lib.hid (HJ.out.box.keep (K4.out _ (ncl _ _ _ HJ.out.box)))
    have R4 : Hid (W4.drew.ownsRow 0 22 1 (.slice ya pre.length yc) pre.length us) := Lib.hid (ownsRow_keep HJ.out.row (fun k e => K4.out k (by obtain ⟨cs, hc⟩ := ownsRow_type HJ.out.row e; exact ncl _ _ _ hc)))
    have NV : Hid (IsNums .i64 W4.drew a n (st pre.length)) := Lib.hid (IsNums.of_own (ownsRow_keep HROW.out (fun k e => K4.out k (by obtain ⟨cs, hc⟩ := ownsRow_type HROW.out e; exact ncl _ _ _ hc))))
    have NBT : Hid ((Value.slice ya pre.length yc).ownBlock ≠ some bt) := Lib.hid (fun e => by
      obtain ⟨cs, hc⟩ := ownsRow_type R4.out e
      have h9 := B4.out
      unfold Blk at h9
      rw [hc] at h9
      injection h9 with h9
      injection h9 with _ h9
      exact absurd h9 (by decide))
    have b4 : W4.drew.cell? ⟨bt, 0, none⟩ = some (.slice ya pre.length yc) := B4.out.cell 0
    gi_wp2_with fail
    refine wpIn_region_round (by kernel_rfl) (by kernel_rfl) ?_
    refine wpAnyIn_ready (rs := [0, 1]) (by kernel_rfl) (by simp) ?_
    refine AllReadyIn.cons rfl (fun K hK => ?_) (AllReadyIn.cons rfl (fun K hK => ?_) AllReadyIn.nil)
    · go_simp; refine hK _ _ ?_; clear hK K
      refine wpAnyIn_ready (rs := [1]) (by kernel_rfl) (by simp) ?_; refine AllReadyIn.cons rfl (fun K hK => ?_) AllReadyIn.nil; go_simp; refine hK _ _ ?_; clear hK K
      refine wpAnyIn_ready (rs := [2]) (by kernel_rfl) (by simp) ?_; refine AllReadyIn.cons rfl (fun K hK => ?_) AllReadyIn.nil; refine stepIn_call rfl 33 #[.slice a n c] (by simp [Act.eval, Act.put, go_sem]) (copied_any a n c (st pre.length) _ NV.out hn) ?_; rintro r5 u5 ⟨a5, c5, rfl, hr5, g5⟩; refine ⟨_, rfl, hK _ _ ?_⟩; clear hK K; have V5 := Lib.hid hr5.out; have G5 := Lib.hid g5.out; have B5 := Lib.hid (B4.out.grown g5.out (by simp)); have R5 := Lib.hid (ownsRow_keep R4.out (fun k e => g5.out.block k (R4.out.lt k e).2 (by simp))); have b5 : u5.cell? ⟨bt, 0, none⟩ = some (.slice ya pre.length yc) := B5.out.cell 0; have b6 : (u5.alloc (.cells #[.slice a5 n c5] 22)).cell? ⟨bt, 0, none⟩ = some (.slice ya pre.length yc) := (B5.out.alloc _).cell 0; clear hr5 g5
      refine wpAnyIn_ready (rs := [3]) (by kernel_rfl) (by simp) ?_; refine AllReadyIn.cons rfl (fun K hK => ?_) AllReadyIn.nil; go_simp; refine hK _ _ ?_; clear hK K
      refine wpAnyIn_ready (rs := [4]) (by kernel_rfl) (by simp) ?_; refine AllReadyIn.cons rfl (fun K hK => ?_) AllReadyIn.nil; refine stepIn_append_at rfl (.tmp 11) (.tmp 14) 45 rfl 0 22 i0 (.slice none 0 0) 1 24 Try.underlying45 hi.out hz0.out hz1.out hz2.out rfl (by decide) (.slice ya pre.length yc) pre.length us rfl (R5.out.alloc _) ⟨u5.heap.size, 0, none⟩ 1 1 [.slice a5 n c5] rfl rfl (new_cells u5 _ _) (by intro u hu; simp at hu; subst hu; rfl) (by unfold maxLen; omega) (by omega) (by simp) (by decide) ?_; intro g' c' w6 ho hg hv; refine hK _ _ ?_; clear hK K; have HO := Lib.hid ho; have HG := Lib.hid hg; have HV := Lib.hid hv; have B6 := Lib.hid ((B5.out.alloc (.cells #[.slice a5 n c5] 22)).grown hg (fun e => NBT.out e.symm)); have b7 : w6.cell? ⟨bt, 0, none⟩ = some (.slice ya pre.length yc) := B6.out.cell 0; have f7 := B6.out.free 0; clear ho hg hv
      refine wpAnyIn_ready (rs := [5]) (by kernel_rfl) (by simp) ?_; refine AllReadyIn.cons rfl (fun K hK => ?_) AllReadyIn.nil; go_simp; refine hK _ _ ?_; clear hK K
      refine wpAnyIn_done (by kernel_rfl) ?_ _; obtain ⟨q1, q2⟩ := js_end (x := .slice a n c) HJ.out FLT.out OA.out L4.out S4.out G5.out V5.out B6.out R4.out HO.out HG.out HV.out; exact ⟨rfl, q1, q2⟩
    · go_simp; refine hK _ _ ?_; clear hK K
      refine wpAnyIn_ready (rs := [0, 2]) (by kernel_rfl) (by simp) ?_
      refine AllReadyIn.cons rfl (fun K hK => ?_) (AllReadyIn.cons rfl (fun K hK => ?_) AllReadyIn.nil)
      · go_simp; refine hK _ _ ?_; clear hK K
        refine wpAnyIn_ready (rs := [2]) (by kernel_rfl) (by simp) ?_; refine AllReadyIn.cons rfl (fun K hK => ?_) AllReadyIn.nil; refine stepIn_call rfl 33 #[.slice a n c] (by simp [Act.eval, Act.put, go_sem]) (copied_any a n c (st pre.length) _ NV.out hn) ?_; rintro r5 u5 ⟨a5, c5, rfl, hr5, g5⟩; refine ⟨_, rfl, hK _ _ ?_⟩; clear hK K; have V5 := Lib.hid hr5.out; have G5 := Lib.hid g5.out; have B5 := Lib.hid (B4.out.grown g5.out (by simp)); have R5 := Lib.hid (ownsRow_keep R4.out (fun k e => g5.out.block k (R4.out.lt k e).2 (by simp))); have b5 : u5.cell? ⟨bt, 0, none⟩ = some (.slice ya pre.length yc) := B5.out.cell 0; have b6 : (u5.alloc (.cells #[.slice a5 n c5] 22)).cell? ⟨bt, 0, none⟩ = some (.slice ya pre.length yc) := (B5.out.alloc _).cell 0; clear hr5 g5
        refine wpAnyIn_ready (rs := [3]) (by kernel_rfl) (by simp) ?_; refine AllReadyIn.cons rfl (fun K hK => ?_) AllReadyIn.nil; go_simp; refine hK _ _ ?_; clear hK K
        refine wpAnyIn_ready (rs := [4]) (by kernel_rfl) (by simp) ?_; refine AllReadyIn.cons rfl (fun K hK => ?_) AllReadyIn.nil; refine stepIn_append_at rfl (.tmp 11) (.tmp 14) 45 rfl 0 22 i0 (.slice none 0 0) 1 24 Try.underlying45 hi.out hz0.out hz1.out hz2.out rfl (by decide) (.slice ya pre.length yc) pre.length us rfl (R5.out.alloc _) ⟨u5.heap.size, 0, none⟩ 1 1 [.slice a5 n c5] rfl rfl (new_cells u5 _ _) (by intro u hu; simp at hu; subst hu; rfl) (by unfold maxLen; omega) (by omega) (by simp) (by decide) ?_; intro g' c' w6 ho hg hv; refine hK _ _ ?_; clear hK K; have HO := Lib.hid ho; have HG := Lib.hid hg; have HV := Lib.hid hv; have B6 := Lib.hid ((B5.out.alloc (.cells #[.slice a5 n c5] 22)).grown hg (fun e => NBT.out e.symm)); have b7 : w6.cell? ⟨bt, 0, none⟩ = some (.slice ya pre.length yc) := B6.out.cell 0; have f7 := B6.out.free 0; clear ho hg hv
        refine wpAnyIn_ready (rs := [5]) (by kernel_rfl) (by simp) ?_; refine AllReadyIn.cons rfl (fun K hK => ?_) AllReadyIn.nil; go_simp; refine hK _ _ ?_; clear hK K
        refine wpAnyIn_done (by kernel_rfl) ?_ _; obtain ⟨q1, q2⟩ := js_end (x := .slice a n c) HJ.out FLT.out OA.out L4.out S4.out G5.out V5.out B6.out R4.out HO.out HG.out HV.out; exact ⟨rfl, q1, q2⟩
      · refine stepIn_call rfl 33 #[.slice a n c] (by simp [Act.eval, Act.put, go_sem]) (copied_any a n c (st pre.length) _ NV.out hn) ?_; rintro r5 u5 ⟨a5, c5, rfl, hr5, g5⟩; refine ⟨_, rfl, hK _ _ ?_⟩; clear hK K; have V5 := Lib.hid hr5.out; have G5 := Lib.hid g5.out; have B5 := Lib.hid (B4.out.grown g5.out (by simp)); have R5 := Lib.hid (ownsRow_keep R4.out (fun k e => g5.out.block k (R4.out.lt k e).2 (by simp))); have b5 : u5.cell? ⟨bt, 0, none⟩ = some (.slice ya pre.length yc) := B5.out.cell 0; have b6 : (u5.alloc (.cells #[.slice a5 n c5] 22)).cell? ⟨bt, 0, none⟩ = some (.slice ya pre.length yc) := (B5.out.alloc _).cell 0; clear hr5 g5
        refine wpAnyIn_ready (rs := [0, 3]) (by kernel_rfl) (by simp) ?_
        refine AllReadyIn.cons rfl (fun K hK => ?_) (AllReadyIn.cons rfl (fun K hK => ?_) AllReadyIn.nil)
        · go_simp; refine hK _ _ ?_; clear hK K
          refine wpAnyIn_ready (rs := [3]) (by kernel_rfl) (by simp) ?_; refine AllReadyIn.cons rfl (fun K hK => ?_) AllReadyIn.nil; go_simp; refine hK _ _ ?_; clear hK K
          refine wpAnyIn_ready (rs := [4]) (by kernel_rfl) (by simp) ?_; refine AllReadyIn.cons rfl (fun K hK => ?_) AllReadyIn.nil; refine stepIn_append_at rfl (.tmp 11) (.tmp 14) 45 rfl 0 22 i0 (.slice none 0 0) 1 24 Try.underlying45 hi.out hz0.out hz1.out hz2.out rfl (by decide) (.slice ya pre.length yc) pre.length us rfl (R5.out.alloc _) ⟨u5.heap.size, 0, none⟩ 1 1 [.slice a5 n c5] rfl rfl (new_cells u5 _ _) (by intro u hu; simp at hu; subst hu; rfl) (by unfold maxLen; omega) (by omega) (by simp) (by decide) ?_; intro g' c' w6 ho hg hv; refine hK _ _ ?_; clear hK K; have HO := Lib.hid ho; have HG := Lib.hid hg; have HV := Lib.hid hv; have B6 := Lib.hid ((B5.out.alloc (.cells #[.slice a5 n c5] 22)).grown hg (fun e => NBT.out e.symm)); have b7 : w6.cell? ⟨bt, 0, none⟩ = some (.slice ya pre.length yc) := B6.out.cell 0; have f7 := B6.out.free 0; clear ho hg hv
          refine wpAnyIn_ready (rs := [5]) (by kernel_rfl) (by simp) ?_; refine AllReadyIn.cons rfl (fun K hK => ?_) AllReadyIn.nil; go_simp; refine hK _ _ ?_; clear hK K
          refine wpAnyIn_done (by kernel_rfl) ?_ _; obtain ⟨q1, q2⟩ := js_end (x := .slice a n c) HJ.out FLT.out OA.out L4.out S4.out G5.out V5.out B6.out R4.out HO.out HG.out HV.out; exact ⟨rfl, q1, q2⟩
        · go_simp; refine hK _ _ ?_; clear hK K
          refine wpAnyIn_ready (rs := [0]) (by kernel_rfl) (by simp) ?_; refine AllReadyIn.cons rfl (fun K hK => ?_) AllReadyIn.nil; go_simp; refine hK _ _ ?_; clear hK K
          refine wpAnyIn_ready (rs := [4]) (by kernel_rfl) (by simp) ?_; refine AllReadyIn.cons rfl (fun K hK => ?_) AllReadyIn.nil; refine stepIn_append_at rfl (.tmp 11) (.tmp 14) 45 rfl 0 22 i0 (.slice none 0 0) 1 24 Try.underlying45 hi.out hz0.out hz1.out hz2.out rfl (by decide) (.slice ya pre.length yc) pre.length us rfl (R5.out.alloc _) ⟨u5.heap.size, 0, none⟩ 1 1 [.slice a5 n c5] rfl rfl (new_cells u5 _ _) (by intro u hu; simp at hu; subst hu; rfl) (by unfold maxLen; omega) (by omega) (by simp) (by decide) ?_; intro g' c' w6 ho hg hv; refine hK _ _ ?_; clear hK K; have HO := Lib.hid ho; have HG := Lib.hid hg; have HV := Lib.hid hv; have B6 := Lib.hid ((B5.out.alloc (.cells #[.slice a5 n c5] 22)).grown hg (fun e => NBT.out e.symm)); have b7 : w6.cell? ⟨bt, 0, none⟩ = some (.slice ya pre.length yc) := B6.out.cell 0; have f7 := B6.out.free 0; clear ho hg hv
          refine wpAnyIn_ready (rs := [5]) (by kernel_rfl) (by simp) ?_; refine AllReadyIn.cons rfl (fun K hK => ?_) AllReadyIn.nil; go_simp; refine hK _ _ ?_; clear hK K
          refine wpAnyIn_done (by kernel_rfl) ?_ _; obtain ⟨q1, q2⟩ := js_end (x := .slice a n c) HJ.out FLT.out OA.out L4.out S4.out G5.out V5.out B6.out R4.out HO.out HG.out HV.out; exact ⟨rfl, q1, q2⟩
  have HT2 := Lib.hid HT
  clear HT
  have hst := HST.out
  subst hst
  refine (states_in 4 (by omega) (u2.heap.size + 1) a1 n c1 z a2 len cap e (bt + 1) (bt + 1 + 1) _ (js_firm (u2.heap.size + 1) u2.heap.size rec bt n _) HT2.out w ((u2.alloc (.deferred (some []))).alloc (.loop rec)) HZ.out HL.out hn hlen ((BF2.out.alloc _).alloc _) ((BL.out.alloc _).alloc _) (fun k => k = bt ∨ (u2.heap.size ≤ k ∧ k < u2.heap.size + 2))
    ⟨none, 0, [], ⟨rfl, (BT2.out.alloc _).alloc _, World.ownsRow_nil _ _ _ _, by simp, ⟨?_, ?_⟩, .inl rfl, .inr ⟨by omega, by omega⟩, .inr ⟨by omega, by omega⟩, (by intro k e; cases e), (by simp)⟩⟩ ?_ ?_ ?_).mono ?_
  · have := World.alloc_heap_new (u2.alloc (.deferred (some []))) (.loop rec)
    rwa [World.size_alloc] at this
  · exact (Below.heap_alloc _ _ _ (by simp)).trans (World.alloc_heap_new u2 _)
  · have hsz := S2.out
    rintro (h | h) <;> omega
  · have hsz := S2.out
    have hbt := HBT.out
    rintro k (rfl | h)
    · exact ⟨by omega, by simp; omega⟩
    · exact ⟨by omega, by simp; omega⟩
  · exact bl_none (Below.refl _ _) (gb_alloc (gb_alloc G2.out _) _)
  rintro r W' ⟨rfl, xs, Fc, a, c, ⟨ya, yc, us, J⟩, hxl, hall, hrow, hfr, hFc, hBel⟩
  refine ⟨⟨_, rfl⟩, J.loop, fun o' => ?_⟩
  obtain ⟨W5, hW5⟩ : ∃ W5, W5 = W'.putObj (u2.heap.size + 1) o' := ⟨_, rfl⟩
  rw [← hW5]
  have ncl : ∀ (k : Nat) (ty : TypeId) (cs : Array Value), W'.heap[k]? = some (.cells cs ty (0, 0)) → W5.heap[k]? = W'.heap[k]? := fun k ty cs hk => by
    rw [hW5]
    refine World.putObj_heap_other (fun e => ?_)
    have := J.loop.1
    rw [← e, hk] at this
    cases this
  have hul := J.len
  have BT5 := Lib.hid (J.box.keep (ncl _ _ _ J.box))
  have RO5 : Hid (W5.ownsRow w.heap.size 22 1 (.slice ya us.length yc) us.length us) := Lib.hid (by
    rw [hul]
    have h := ownsRow_keep (w' := W5) J.row (fun k e => by obtain ⟨cs, hc⟩ := ownsRow_type J.row e; exact ncl _ _ _ hc)
    refine ⟨h.1, h.2.imp id ?_⟩
    rintro ⟨q, cap', cur, e1, _, rest⟩
    exact ⟨q, cap', cur, e1, (hFc q (J.frow q (by rw [e1]; rfl))).1, rest⟩)
  have EA5 : Hid (∀ i u, us[i]? = some u → RowAt W5 w.heap.size n (stAt z (cacs e len) i) u) := Lib.hid (fun i u hu => by
    obtain ⟨a3, c3, e1, h3⟩ := J.each i u hu
    have h := ownsRow_keep (w' := W5) h3 (fun k e => by obtain ⟨cs, hc⟩ := ownsRow_type h3 e; exact ncl _ _ _ hc)
    refine ⟨a3, c3, e1, h.1, h.2.imp id ?_⟩
    rintro ⟨q, cap', cur, e2, _, rest⟩
    exact ⟨q, cap', cur, e2, (hFc q (J.feach u (List.mem_of_getElem? hu) q (by rw [e2]; rfl))).1, rest⟩)
  have BE5 : Hid (Below w.heap.size w W5) := Lib.hid (by rw [hW5]; exact (only_put W' _ o').below hBel hBel.size (fun k hk => by have := S2.out; have := HBT.out; omega))
  have D5 : Hid (W5.heap[u2.heap.size]? = some (.deferred (some []))) := Lib.hid (by rw [hW5, World.putObj_heap_other (by omega)]; exact J.loop.2)
  have ULEN := Lib.hid (show us.length = (cacs e len).length + 1 by rw [hul, hxl])
  have hxu : xs.length = us.length := hul.symm
  rw [hxu] at BT5
  have t0 : W5.cell? ⟨bt, 0, none⟩ = some (.slice ya us.length yc) := BT5.out.cell 0
  clear J hW5 ncl HT2 HREC hxl hall hrow hfr hFc hBel hul hxu
  have ldef : ∀ (k : Nat) (ty : TypeId) (cs : Array Value), W5.heap[k]? = some (.cells cs ty (0, 0)) → (W5.putObj u2.heap.size (.deferred none)).heap[k]? = W5.heap[k]? := fun k ty cs hk => World.putObj_heap_other (fun e => by
    have := D5.out
    rw [← e, hk] at this
    cases this)
  have LDEF := Lib.hid ldef
  clear ldef
  gi_wp2
  refine ⟨by simp, .inl ⟨_, _, rfl, run_takeDeferred D5.out, ?_⟩⟩
  refine ⟨_, results_tmp rfl _ _ _, ya, yc, us, rfl, ULEN.out, gb_of_below ((only_put _ _ _).below BE5.out BE5.out.size (fun k hk => by have := S2.out; have := HBT.out; rw [hk]; omega)), ?_, fun i u hu => ?_⟩
  · exact ownsRow_keep RO5.out (fun k e => by obtain ⟨cs, hc⟩ := ownsRow_type RO5.out e; exact LDEF.out _ _ _ hc)
  · obtain ⟨a3, c3, e1, h3⟩ := EA5.out i u hu
    exact ⟨a3, c3, e1, ownsRow_keep h3 (fun k e => by obtain ⟨cs, hc⟩ := ownsRow_type h3 e; exact LDEF.out _ _ _ hc)⟩
end Go.Proofs.Ytkidkhjpijjphaa.md

/- The document's own comparison of values: quarrelref01.Vals. -/
namespace Go.Proofs.Ytkidkhjpijjphaa.md
open Go Go.RowKit Go.Proofs.Ytkidkhjpijjphaa.base Go.Proofs.Ytkidkhjpijjphaa.lg
set_option linter.unusedVariables false

/-- The same first n numbers? -/
def eqTo (f g : Nat → Int) : Nat → Bool
  | 0 => true
  | k + 1 => eqTo f g k && f k == g k
theorem eqTo_iff {f g : Nat → Int} : ∀ {n : Nat}, eqTo f g n = true ↔ ∀ i, i < n → f i = g i
  | 0 => by
    constructor
    · intro _ i hi; omega
    · intro _; rfl
  | n + 1 => by
    rw [eqTo, Bool.and_eq_true, eqTo_iff (n := n), beq_iff_eq]
    constructor
    · rintro ⟨h1, h2⟩ i hi
      by_cases e : i = n
      · subst e; exact h2
      · exact h1 i (by omega)
    · intro h
      exact ⟨fun i hi => h i (by omega), h n (by omega)⟩
theorem eqTo_self (f : Nat → Int) (n : Nat) : eqTo f f n = true := eqTo_iff.2 fun _ _ => rfl
theorem eqTo_bad {f g : Nat → Int} {n k : Nat} (hk : k < n) (h : f k ≠ g k) : eqTo f g n = false := by
  cases e : eqTo f g n with
  | false => rfl
  | true => exact absurd (eqTo_iff.1 e k hk) h

set_option maxHeartbeats 1000000 in
theorem vals_any (a b : Option Addr) (n m ca cb : Nat) (f g : Nat → Int) (w : World) (ha : IsNums .i64 w a n f) (hb : IsNums .i64 w b m g) (hm : n ≤ 100000) :
    Calls Try.prog 18 #[.slice a n ca, .slice b m cb] w fun e w' => e = .returned (.bool (decide (n = m) && eqTo f g n)) ∧ Hid (w.grownBy w' none) := by
  have HA := Lib.hid ha
  have HB := Lib.hid hb
  clear ha hb
  by_cases hnm : n = m
  · subst hnm
    rw [show (decide (n = n) && eqTo f g n) = eqTo f g n by simp]
    go_enter Try.func18, Try.ntmps18
    go_wp2_with fail
    go_loopw [5] (fun i wr => ∃ k : Nat, k ≤ n ∧ i = .int .i64 k ∧ Hid (eqTo f g k = true) ∧ Hid (w.grownBy wr none)) (fun i _ => (n - intOf i).toNat)
    case atStart => exact ⟨0, by omega, rfl, rfl, gb_refl _ _⟩
    case round =>
      obtain ⟨k, hk, rfl, HE, G⟩ := hrel
      by_cases hlt : k < n
      · obtain ⟨b1, o1, rfl, hb1, d1⟩ := (HA.out.grown G.out).at1 hlt
        obtain ⟨b2, o2, rfl, hb2, d2⟩ := (HB.out.grown G.out).at1 hlt
        have hlt' : (k : Int) < (n : Int) := by omega
        by_cases hfg : f k = g k
        · have HE1 := Lib.hid (show eqTo f g (k + 1) = true by rw [eqTo, HE.out, hfg]; simp)
          rw [← hfg] at d2
          clear hfg
          generalize f k = x at *
          go_wp2_with fail
          go_quiet (fail)
          go_wp2
          go_roundw
          case rel => exact ⟨k + 1, by omega, by go_num, HE1, by first | exact gb_drewN G.out _ | exact gb_drew (gb_drewN G.out _)⟩
          case measure => simp [intOf]; omega
        · have HE1 := Lib.hid (eqTo_bad hlt hfg)
          have hne : (f k != g k) = true := by simp [hfg]
          clear hfg
          generalize f k = x at *
          generalize g k = y at *
          go_wp2_with fail
          go_quiet (fail)
          go_wp2
          go_ret
          exact ⟨by rw [HE1.out]; rfl, by first | exact gb_drewN G.out _ | exact gb_drew (gb_drewN G.out _)⟩
      · obtain rfl : k = n := by omega
        go_wp2
        go_ret
        exact ⟨by rw [HE.out]; rfl, G⟩
  · have hne : ((n : Int) != (m : Int)) = true := by simp; omega
    rw [show (decide (n = m) && eqTo f g n) = false by simp [hnm]]
    clear hnm
    go_enter Try.func18, Try.ntmps18
    go_wp2
    go_ret
    exact ⟨rfl, gb_refl _ _⟩

theorem vals_yes (a b : Option Addr) (n ca cb : Nat) (f : Nat → Int) (w : World) (ha : IsNums .i64 w a n f) (hb : IsNums .i64 w b n f) (hm : n ≤ 100000) :
    Calls Try.prog 18 #[.slice a n ca, .slice b n cb] w fun e w' => e = .returned (.bool true) ∧ Hid (w.grownBy w' none) := by
  have h := vals_any a b n n ca cb f f w ha hb hm
  rwa [show (decide (n = n) && eqTo f f n) = true by simp [eqTo_self]] at h
end Go.Proofs.Ytkidkhjpijjphaa.md

/- States of a beginning of a trace; lists of states as they lie; are they the same? -/
namespace Go.Proofs.Ytkidkhjpijjphaa.md
open Go Go.RowKit Go.Proofs.Ytkidkhjpijjphaa.base Go.Proofs.Ytkidkhjpijjphaa.hs Go.Proofs.Ytkidkhjpijjphaa.lg Go.Maps
set_option linter.unusedVariables false
set_option maxRecDepth 100000

theorem map_filter_same {α β : Type} (p : β → Bool) (f g : α → β) : ∀ l : List α, (∀ b ∈ l, (p (f b) = false ∧ p (g b) = false) ∨ f b = g b) → (l.map f).filter p = (l.map g).filter p
  | [], _ => rfl
  | b :: l, h => by
    have ih := map_filter_same p f g l (fun x hx => h x (List.mem_cons_of_mem _ hx))
    simp only [List.map_cons, List.filter_cons]
    rcases h b (by simp) with ⟨h1, h2⟩ | h1
    · rw [h1, h2, ih]; simp
    · rw [h1, ih]

theorem tries_at_end (e : Evs) (n i : Nat) (hi : i < n) : (tries e (n + 1)).filter (fun t => t.co && decide (t.en = (i : Int))) = (tries e n).filter (fun t => t.co && decide (t.en = (i : Int))) := by
  have key : ((begins e n).map fun b => trAt e b (n + 1)).filter (fun t => t.co && decide (t.en = (i : Int))) = ((begins e n).map fun b => trAt e b n).filter (fun t => t.co && decide (t.en = (i : Int))) := by
    refine map_filter_same _ _ _ _ fun b hb => ?_
    by_cases h : 0 ≤ (trAt e b n).en
    · exact .inr (trAt_end e b h (Nat.le_succ n))
    · left
      have h1 : ¬ (trAt e b n).en = (i : Int) := by omega
      refine ⟨?_, by simp [h1]⟩
      have h2 : ¬ (trAt e b (n + 1)).en = (i : Int) := by
        rw [trAt]
        split
        · rw [stepT_en]
          split
          · omega
          · exact h1
        · exact h1
      simp [h2]
  unfold tries
  rw [begins_succ]
  split
  · rw [List.map_append, List.filter_append, key]
    have h0 : trAt e n (n + 1) = init n (e n) := trAt_init e n (n + 1) (Nat.le_refl _)
    simp [h0, init]
  · exact key

theorem commsD_succ (e : Evs) (n : Nat) : commsD e (n + 1) = commsD e n ++ (tries e (n + 1)).filter (fun t => t.co && decide (t.en = (n : Int))) := by
  unfold commsD
  rw [List.range_succ, List.flatMap_append]
  congr 1
  · have h : ∀ l : List Nat, (∀ i ∈ l, i < n) → l.flatMap (fun (i : Nat) => (tries e (n + 1)).filter (fun t => t.co && decide (t.en = (i : Int)))) = l.flatMap (fun (i : Nat) => (tries e n).filter (fun t => t.co && decide (t.en = (i : Int)))) := by
      intro l
      induction l with
      | nil => intro _; rfl
      | cons i l ih =>
        intro h
        rw [List.flatMap_cons, List.flatMap_cons, tries_at_end e n i (h i (by simp)), ih (fun x hx => h x (List.mem_cons_of_mem _ hx))]
    exact h _ (fun i hi => List.mem_range.1 hi)
  · simp
theorem commsD_pre (e : Evs) (m : Nat) : ∀ j, ∃ R, commsD e (m + j) = commsD e m ++ R
  | 0 => ⟨[], by simp⟩
  | j + 1 => by
    obtain ⟨R, h⟩ := commsD_pre e m j
    exact ⟨R ++ _, by rw [← Nat.add_assoc, commsD_succ, h, List.append_assoc]⟩
theorem cacs_pre (e : Evs) {m n : Nat} (hr : right e n = true) (hm : m ≤ n) : ∃ R, cacs e n = cacs e m ++ R := by
  obtain ⟨R, h⟩ := commsD_pre e m (n - m)
  rw [show m + (n - m) = n by omega] at h
  exact ⟨R.map Tr.ac, by unfold cacs; rw [if_pos hr, if_pos (right_le e hr m hm), h, List.map_append]⟩
theorem cacs_before (e : Evs) {n : Nat} (hr : right e n = true) : (cacs e n).length = before e n := by
  unfold cacs
  rw [if_pos hr, List.length_map, (commsD_perm e hr).length_eq, comms_before e hr]
theorem cacs_len (e : Evs) (n : Nat) : (cacs e n).length ≤ n := by
  unfold cacs
  split
  · next hr =>
    rw [List.length_map, (commsD_perm e hr).length_eq]
    exact Nat.le_trans (List.length_filter_le _ _) (tries_n' e n)
  · exact Nat.zero_le _

/-- m lists of n numbers lie there, wherever. -/
def StsAt (w : World) (a : Option Addr) (m n : Nat) (F : Nat → Nat → Int) : Prop :=
  m = 0 ∨ ∃ b off, a = some ⟨b, off, none⟩ ∧ b < w.heap.size ∧ ∀ i, i < m → ∃ ai ci, w.cell? ⟨b, off + i, none⟩ = some (.slice ai n ci) ∧ IsNums .i64 w ai n (F i)
theorem StsAt.keep {w w' : World} {a : Option Addr} {m n : Nat} {F : Nat → Nat → Int} (h : StsAt w a m n F) (g : ∀ k, k < w.heap.size → w'.heap[k]? = w.heap[k]?) (hs : w.heap.size ≤ w'.heap.size) : StsAt w' a m n F := by
  rcases h with h | ⟨b, off, h1, h2, h3⟩
  · exact .inl h
  · refine .inr ⟨b, off, h1, by omega, fun i hi => ?_⟩
    obtain ⟨ai, ci, h4, h5⟩ := h3 i hi
    exact ⟨ai, ci, (World.cell?_of_block (g b h2)).trans h4, h5.keep (fun k _ _ hk => g k hk) hs⟩
theorem StsAt.grown {w w' : World} {a : Option Addr} {m n : Nat} {F : Nat → Nat → Int} (h : StsAt w a m n F) (g : w.grownBy w' none) : StsAt w' a m n F := h.keep (fun k hk => g.block k hk (by simp)) g.size
theorem StsAt.below {w w' : World} {a : Option Addr} {m n : Nat} {F : Nat → Nat → Int} (h : StsAt w a m n F) (g : Below w.heap.size w w') : StsAt w' a m n F := h.keep (fun k hk => g.block k hk) g.size
theorem StsAt.less {w : World} {a : Option Addr} {m n k : Nat} {F : Nat → Nat → Int} (h : StsAt w a m n F) (hk : k ≤ m) : StsAt w a k n F := by
  rcases h with h | ⟨b, off, h1, h2, h3⟩
  · exact .inl (by omega)
  · exact .inr ⟨b, off, h1, h2, fun i hi => h3 i (by omega)⟩
theorem StsAt.congr {w : World} {a : Option Addr} {m n : Nat} {F G : Nat → Nat → Int} (h : StsAt w a m n F) (e : ∀ i, i < m → F i = G i) : StsAt w a m n G := by
  rcases h with h | ⟨b, off, h1, h2, h3⟩
  · exact .inl h
  · refine .inr ⟨b, off, h1, h2, fun i hi => ?_⟩
    rw [← e i hi]
    exact h3 i hi
theorem StsAt.at {w : World} {a : Option Addr} {m n i : Nat} {F : Nat → Nat → Int} (h : StsAt w a m n F) (hi : i < m) : ∃ b off ai ci, a = some ⟨b, off, none⟩ ∧ b < w.heap.size ∧ w.cell? ⟨b, off + i, none⟩ = some (.slice ai n ci) ∧ IsNums .i64 w ai n (F i) := by
  rcases h with h | ⟨b, off, h1, h2, h3⟩
  · omega
  · obtain ⟨ai, ci, h4, h5⟩ := h3 i hi
    exact ⟨b, off, ai, ci, h1, h2, h4, h5⟩
theorem StsAt.of_rows {w : World} {B B' : Nat} {a : Option Addr} {c n : Nat} {us : List Value} {F : Nat → Nat → Int} (h : w.ownsRow B 22 1 (.slice a us.length c) us.length us) (hu : ∀ i u, us[i]? = some u → RowAt w B' n (F i) u) : StsAt w a us.length n F := by
  rcases h.2 with ⟨_, h0⟩ | ⟨g, cap, cur, e, hb, hg, _⟩
  · exact .inl h0
  · injection e with e1 e2 e3
    subst e1
    refine .inr ⟨g, 0, rfl, lt_of_block hg, fun i hi => ?_⟩
    obtain ⟨ai, ci, h1, h2⟩ := hu i us[i] (List.getElem?_eq_getElem hi)
    refine ⟨ai, ci, ?_, ?_⟩
    · rw [Nat.zero_add, ← h1, ← List.getElem?_eq_getElem hi]
      exact h.cellAt i (by omega)
    · rw [h1] at h2
      exact IsNums.of_own h2

end Go.Proofs.Ytkidkhjpijjphaa.md

/- Where tries are seen: who the last one of a thread is; which one commits. -/
namespace Go.Proofs.Ytkidkhjpijjphaa.oq
open Go Go.RowKit Go.Proofs.Ytkidkhjpijjphaa.base Go.Proofs.Ytkidkhjpijjphaa.hs Go.Proofs.Ytkidkhjpijjphaa.md
set_option linter.unusedVariables false
set_option linter.unusedSimpArgs false

theorem nodup_bound : ∀ (T : Nat) (l : List Nat), l.Nodup → (∀ x ∈ l, x < T) → l.length ≤ T
  | 0, l, _, h => by
    cases l with
    | nil => exact Nat.le_refl _
    | cons a l => exact absurd (h a (by simp)) (by omega)
  | T + 1, l, hn, h => by
    have h1 := nodup_bound T (l.erase T) (hn.erase T) (fun x hx => by
      have := (hn.mem_erase_iff).1 hx
      have := h x this.2
      omega)
    by_cases hm : T ∈ l
    · rw [List.length_erase_of_mem hm] at h1
      omega
    · rw [List.erase_of_not_mem hm] at h1
      omega

theorem before_bound (e : Evs) : ∀ n, before e n ≤ n
  | 0 => Nat.le_refl _
  | n + 1 => by have := before_bound e n; rw [before]; split <;> omega

/-- The try that a thread began last, by its place among the tries. -/
def lastB (e : Evs) (i : Nat) (th : Int) : Option Value := if lastI e i th < 0 then none else some (.int .i64 ((begins e (lastI e i th).toNat).length : Nat))
theorem lastB_zero (e : Evs) (th : Int) : lastB e 0 th = none := rfl
theorem lastB_same (e : Evs) {i : Nat} (h : (e i).k ≠ 1) : lastB e (i + 1) = lastB e i := by
  funext th
  have hl : lastI e (i + 1) th = lastI e i th := by rw [lastI, if_neg (fun h2 => h h2.1)]
  unfold lastB
  rw [hl]
theorem lastB_begin (e : Evs) {i : Nat} (h : (e i).k = 1) : lastB e (i + 1) = upd (lastB e i) (e i).th (some (.int .i64 ((begins e i).length : Nat))) := by
  funext th
  by_cases ht : th = (e i).th
  · subst ht
    rw [upd_same]
    have hl : lastI e (i + 1) (e i).th = (i : Int) := by rw [lastI, if_pos ⟨h, rfl⟩]
    unfold lastB
    rw [hl, if_neg (by omega)]
    simp
  · rw [upd_other _ _ ht]
    have hl : lastI e (i + 1) th = lastI e i th := by rw [lastI, if_neg (fun h2 => ht h2.2.symm)]
    unfold lastB
    rw [hl]
theorem begins_at (e : Evs) {i len : Nat} (h : (e i).k = 1) (hi : i < len) : (begins e len)[(begins e i).length]? = some i := by
  obtain ⟨r, hr⟩ := begins_pre e (i + 1) (len - (i + 1))
  rw [show i + 1 + (len - (i + 1)) = len by omega, begins_succ, if_pos h] at hr
  rw [hr, List.append_assoc, List.getElem?_append_right (Nat.le_refl _), Nat.sub_self]
  rfl
theorem tries_at (e : Evs) {i len : Nat} (h : (e i).k = 1) (hi : i < len) : (tries e len)[(begins e i).length]? = some (trAt e i len) := by
  unfold tries
  rw [List.getElem?_map, begins_at e h hi]
  rfl
/-- Who commits. -/
theorem commit_at (e : Evs) {i len : Nat} (hr : right e len = true) (hi : i < len) (h5 : (e i).k = 5) : ∃ b, b < i ∧ lastB e i (e i).th = some (.int .i64 ((begins e b).length : Nat)) ∧ (tries e len)[(begins e b).length]? = some (trAt e b len) ∧ (trAt e b len).co = true ∧ (trAt e b len).en = (i : Int) ∧ (cacs e len)[before e i]? = some (trAt e b len).ac := by
  have hm := right_may e hr hi
  obtain ⟨b, ho⟩ : ∃ b, opn e i (e i).th = some b := by
    cases ho : opn e i (e i).th with
    | some b => exact ⟨b, rfl⟩
    | none =>
      unfold may at hm
      rw [ho] at hm
      simp [h5] at hm
  obtain ⟨b1, b2, b3, b4⟩ := opn_spec e _ _ _ ho
  have e1 := trAt_ends e ho (.inl h5)
  have e2 : trAt e b len = trAt e b (i + 1) := trAt_end e b (by omega) (by omega)
  have hco : (trAt e b (i + 1)).co = true := by
    rw [trAt_step e ho]
    unfold base.stepT
    simp [h5]
  have hri := right_le e hr i (by omega)
  have hri1 := right_le e hr (i + 1) (by omega)
  refine ⟨b, b1, ?_, tries_at e b2 (by omega), by rw [e2]; exact hco, by rw [e2]; exact e1, ?_⟩
  · have h := opn_ref e i (e i).th
    rw [ho] at h
    split at h
    · next hc =>
      injection h with h
      unfold lastB
      rw [if_neg (by omega), ← h]
    · cases h
  · obtain ⟨R, hR⟩ := commsD_pre e (i + 1) (len - (i + 1))
    rw [show i + 1 + (len - (i + 1)) = len by omega, commsD_succ] at hR
    have hl : (commsD e i).length = before e i := by
      have := cacs_before e hri
      unfold cacs at this
      rwa [if_pos hri, List.length_map] at this
    have hmem : trAt e b (i + 1) ∈ (tries e (i + 1)).filter (fun t => t.co && decide (t.en = (i : Int))) := by
      rw [List.mem_filter]
      exact ⟨(tries_mem e (i + 1) _).2 ⟨b, by omega, b2, rfl⟩, by simp [hco, e1]⟩
    have hall : ∀ t ∈ (tries e (i + 1)).filter (fun t => t.co && decide (t.en = (i : Int))), t = trAt e b (i + 1) := fun t ht => by
      rw [List.mem_filter] at ht
      simp at ht
      exact en_one e hri1 ht.1 ((tries_mem e (i + 1) _).2 ⟨b, by omega, b2, rfl⟩) (by omega) (by rw [e1]; exact ht.2.2)
    unfold cacs
    rw [if_pos hr, List.getElem?_map, hR, List.append_assoc, List.getElem?_append_right (by omega), hl, Nat.sub_self, e2]
    cases hf : (tries e (i + 1)).filter (fun t => t.co && decide (t.en = (i : Int))) with
    | nil => rw [hf] at hmem; simp at hmem
    | cons a l =>
      have := hall a (by rw [hf]; simp)
      rw [this]
      rfl
end Go.Proofs.Ytkidkhjpijjphaa.oq

/- Package opaque's walk: along all events. -/
namespace Go.Proofs.Ytkidkhjpijjphaa.oq
open Go Go.RowKit Go.Proofs.Ytkidkhjpijjphaa.base Go.Proofs.Ytkidkhjpijjphaa.hs Go.Proofs.Ytkidkhjpijjphaa.lg Go.Proofs.Ytkidkhjpijjphaa.md Go.Maps
set_option linter.unusedVariables false
set_option maxRecDepth 100000
set_option linter.unusedSimpArgs false

set_option maxHeartbeats 1000000 in
theorem begins_any (w : World) (F : Nat → Prop) (b : Nat) (ta : Option Addr) (tc : Nat) (ys : List (Tr × Value)) (n : Nat) (z : Nat → Int) (p : Nat) (s : Wk) (N : Nat) (no : Nat) (t : Tr) (yv : Value) (hT : TsAt w ta ys) (hy : ys[no]? = some (t, yv)) (h : WkM w F b (.slice ta ys.length tc) n z p s N) (ok : WkOk (ys.map Prod.fst) n p s N) :
    Calls Try.prog 58 #[.pointer (some ⟨b, 0, none⟩), .int .i64 no] w fun r w' => r = .returned (.tuple #[]) ∧ ∃ F', Hid (WkM w' F' b (.slice ta ys.length tc) n z p (if t.co = true then s else base.ask n z p t.ac no s) (N + 1)) ∧ Hid (Step F F' w w') := by
  have ASK := Lib.hid (ask_any w F b ta tc ys n z p s N no t yv hT hy h ok)
  have H := Lib.hid h
  obtain ⟨sv, vv, mb, rd, h0, hF⟩ := h
  have hno : no < ys.length := (List.getElem?_eq_some_iff.1 hy).1
  have hno' : (no : Int) < (ys.length : Int) := by omega
  obtain ⟨tb, off, va, vc, rfl, htb, hv, hl, c0, c1, c2, c3, c4, c5, c6, c7, c8⟩ := hT.at hy
  dsimp only at hv hl c7
  have b0 : w.cell? ⟨b, 0, none⟩ = some (.slice (some ⟨tb, off, none⟩) ys.length tc) := h0.blk.cell 0
  have bl := h0.blk.lt
  clear h0 hF hT hy ok hv hl c0 c1 c2 c3 c4 c5 c6 c8
  obtain ⟨xth, xtx, xat, xst, xb, xen, xre, xco, ac⟩ := t
  dsimp only at c7 ASK ⊢
  cases xco with
  | true =>
    go_enter Try.func58, Try.ntmps58
    go_wp2
    (first | go_end0 | refine bodyPost_ret (results_none rfl _ _ _) rfl ?_)
    exact ⟨rfl, F, H.out.more (Nat.le_succ _), Step.refl _ _⟩
  | false =>
    go_enter Try.func58, Try.ntmps58
    go_wp2_with (first | (go_at_call 70; refine ASK.out.mono ?_; rintro r u ⟨rfl, F', h1, h2⟩) | go_in)
    (first | go_end0 | refine bodyPost_ret (results_none rfl _ _ _) rfl ?_)
    exact ⟨rfl, F', h1, h2⟩

theorem zeroInt4 (w : World) : (zeroValue 3).run Try.prog w = .ok (.int .i64 0) w := by kernel_rfl
theorem app_wf {n : Nat} {z : Nat → Int} {l : List Acc} (hz : ∀ i, i < n → (Lit.int .i64 (z i)).wf = true) (hl : ∀ a ∈ l, AccWf a) : ∀ i, i < n → (Lit.int .i64 (app z l i)).wf = true := fun i hi => by
  rw [app_last]
  cases h : lastW l i with
  | none => exact hz i hi
  | some v =>
    obtain ⟨a, ha, _, _, hv⟩ := lastW_some h
    exact hv ▸ (hl a ha).va
theorem stAt_wf {n : Nat} {z : Nat → Int} {c : List (List Acc)} (hz : ∀ i, i < n → (Lit.int .i64 (z i)).wf = true) (hl : ∀ l ∈ c, ∀ a ∈ l, AccWf a) : ∀ k i, i < n → (Lit.int .i64 (stAt z c k i)).wf = true
  | 0, i, hi => hz i hi
  | k + 1, i, hi => by
    cases hk : c[k]? with
    | none =>
      have : stAt z c (k + 1) = stAt z c k := by
        unfold stAt
        rw [List.take_add_one, hk]
        simp
      rw [this]
      exact stAt_wf hz hl k i hi
    | some l =>
      rw [stAt_step z hk]
      exact app_wf (stAt_wf hz hl k) (hl l (List.mem_of_getElem? hk)) i hi

/-- What stands while the events are gone through. -/
structure ThI (w : World) (F : Nat → Prop) (b : Nat) (tv : Value) (e : Evs) (n len : Nat) (S : Nat → Nat → Int) (lb i : Nat) (wr : World) (G : Nat → Prop) (s : Wk) (N : Nat) : Prop where
  wk : WkM wr G b tv n (S (before e i)) (before e i : Nat) s N
  ok : WkOk (tries e len) n (before e i) s N
  inv : WkInv e n len S i s
  nle : N ≤ i * 1000001
  map : MapG Try.prog 3 (Value.int .i64) wr lb i (lastB e i)
  sep : ¬ G lb
  step : Step F G w wr

theorem WkM.only {w w' : World} {F S : Nat → Prop} {b n N : Nat} {tv : Value} {z : Nat → Int} {p : Int} {s : Wk} (h : WkM w F b tv n z p s N) (o : Only S w w') (hs : ∀ k, F k → ¬ S k) : WkM w' F b tv n z p s N := by
  obtain ⟨sv, vv, mb, rd, h, hF⟩ := h
  exact ⟨sv, vv, mb, rd, h.keep fun k hk => o.block k (h.lts k hk) (hs k (hF k hk)), hF⟩

set_option maxHeartbeats 4000000 in
theorem through_any (w0 w : World) (F : Nat → Prop) (b : Nat) (ta : Option Addr) (tc : Nat) (ys : List (Tr × Value)) (n : Nat) (z : Nat → Int) (s : Wk) (la : Option Addr) (len lc : Nat) (e : Evs) (hT : TsAt w0 ta ys) (hys : ys.map Prod.fst = tries e len) (hL : IsEvs w0 la len e) (g0 : w0.grownBy w none) (hFB : ∀ k, F k → w0.heap.size ≤ k)
    (h : WkM w F b (.slice ta ys.length tc) n z (0 : Nat) s 0) (hFl : ∀ k, F k → k < w.heap.size) (ok : WkOk (ys.map Prod.fst) n 0 s 0) (hr : right e len = true) (hlen : len ≤ 1000) (hz : ∀ i, i < n → (Lit.int .i64 (z i)).wf = true) (hinv : WkInv e n len (fun k => stAt z (cacs e len) k) 0 s) :
    Calls Try.prog 43 #[.pointer (some ⟨b, 0, none⟩), .slice la len lc] w fun r w' => r = .returned (.tuple #[]) ∧ ∃ F' s' N', Hid (WkM w' F' b (.slice ta ys.length tc) n (stAt z (cacs e len) (before e len)) (before e len : Nat) s' N') ∧ Hid (WkInv e n len (fun k => stAt z (cacs e len) k) len s') ∧ Hid (Step F F' w w') := by
  obtain ⟨S, hS⟩ : ∃ S : Nat → Nat → Int, S = fun k => stAt z (cacs e len) k := ⟨_, rfl⟩
  rw [← hS] at hinv ⊢
  have HS := Lib.hid hS
  have HZ := Lib.hid hz
  have HT := Lib.hid hT
  have HYS := Lib.hid hys
  have HL := Lib.hid hL
  have G0 := Lib.hid g0
  have HFB := Lib.hid hFB
  have HR := Lib.hid hr
  have HLEN := Lib.hid hlen
  have hlen6 : (len : Int) ≤ 1000 := by omega
  have hyl : ys.length = (tries e len).length := by rw [← hys, List.length_map]
  have HYL := Lib.hid hyl
  have ACW := Lib.hid ok.acs
  rw [hys] at ok
  have I0 : Hid (ThI w F b (.slice ta ys.length tc) e n len S w.heap.size 0 (w.alloc (.map #[] 0)) F s 0) := Lib.hid
    ⟨by have := h.grown (World.grownBy_alloc w (.map #[] 0) none); rw [hS]; exact this, ok, hinv, Nat.zero_le _, MapG.made w _ _ _, fun hk => by have := hFl _ hk; omega, Step.none (World.grownBy_alloc w (.map #[] 0) none)⟩
  clear hS hz hT hys hL g0 hFB hr hlen hyl ok h hFl hinv
  have hmm := @run_makeMap Try.prog
  go_enter Try.func43, Try.ntmps43
  go_wp2_with fail
  clear hmm
  generalize w.alloc _ = u0 at *
  generalize hlb : w.heap.size = lb at *
  have HLB := Lib.hid hlb
  clear hlb
  go_loopw [4, 11] (fun bv iv wr => ∃ (i : Nat) (G : Nat → Prop) (s : Wk) (N : Nat), i ≤ len ∧ iv = .int .i64 i ∧ bv = .int .i64 ((begins e i).length : Nat) ∧ Hid (ThI w F b (.slice ta ys.length tc) e n len S lb i wr G s N)) (fun _ iv _ => (len - intOf iv).toNat)
  case atStart => exact ⟨0, F, s, 0, by omega, rfl, rfl, I0⟩
  case round =>
    clear I0
    obtain ⟨i, G, s, N, hi, rfl, rfl, I⟩ := hrel
    by_cases hlt : i < len
    · have hlt' : (i : Int) < (len : Int) := by omega
      have hi6 : (i : Int) < 1000 := by omega
      have GW := Lib.hid (gb_only G0.out I.out.step.only HFB.out)
      obtain ⟨eb, off, rfl, heb, c0, c1, c2, c3, c4, c5, c6, EW⟩ := (HL.out.grown GW.out).at7 hlt
      have HLW := I.out.map
      have hlb := HLW.lt
      have hsep := Lib.hid I.out.sep
      have hbp := before_bound e i
      have hbl := begins_n e i
      have hGB : ∀ k, G k → w0.heap.size ≤ k := fun k hk => by
        rcases I.out.step.foot k hk with h | h
        · exact HFB.out k h
        · have := G0.out.size
          have := HLB.out
          omega
      have HGB := Lib.hid hGB
      clear hGB
      by_cases hk1 : (e i).k = 1
      · have hbe : before e (i + 1) = before e i := by rw [before, if_neg (by omega)]; rfl
        have hbs : (begins e (i + 1)).length = (begins e i).length + 1 := by rw [begins_succ, if_pos hk1, List.length_append]; rfl
        have hty := tries_at e hk1 hlt
        have hyl := (List.getElem?_eq_some_iff.1 hty).1
        have htb : (trAt e i len).b = (i : Int) := (trAt_fix e i len).2.2.2.2
        have HINV := Lib.hid (I.out.inv.begin_ HR.out hk1 hty htb)
        have HLBN := Lib.hid (lastB_begin e hk1)
        rw [← HYS.out, List.getElem?_map, Option.map_eq_some_iff] at hty
        obtain ⟨⟨t, yv⟩, hy, hte⟩ := hty
        dsimp only at hte
        rw [← hte] at HINV
        have HY := Lib.hid hy
        have HBE := Lib.hid hbe
        have HBS := Lib.hid hbs
        have hk := HLBN.out
        obtain ⟨bn, hbn⟩ : ∃ bn, bn = (begins e i).length := ⟨_, rfl⟩
        rw [← hbn] at HINV HLBN HY HBS hbl ⊢
        have hbn6 : (bn : Int) ≤ 1000 := by omega
        rw [hk1] at c0
        clear hk hbe hbs hyl htb hte hy hk1 hbn
        obtain ⟨w1, w2, w3, w4, w5, w6, w7⟩ := EW
        generalize (e i).th = th at *
        generalize (e i).tx = tx at *
        generalize (e i).at_ = at_ at *
        generalize (e i).ob = ob at *
        generalize (e i).va = va at *
        generalize (e i).re = re at *
        have G1 := Lib.hid (World.grownBy_alloc wr (.cells #[.int .i64 1, .int .i64 th, .int .i64 tx, .int .i64 at_, .int .i64 ob, .int .i64 va, .int .i64 re] 51) none)
        have EB := Lib.hid (Blk.made wr 51 #[.int .i64 1, .int .i64 th, .int .i64 tx, .int .i64 at_, .int .i64 ob, .int .i64 va, .int .i64 re])
        have M1 := Lib.hid (HLW.grown G1.out (by simp))
        have KI := Lib.hid (keyInt w2)
        have WK1 := Lib.hid (I.out.wk.grown G1.out)
        have GW1 := Lib.hid (gb_trans GW.out G1.out)
        clear HLW
        go_wp2_with (first
          | (at_mapUpdate; refine wpList_set_mapG rfl _ _ _ 36 rfl 3 3 kInt (Value.int .i64) vint_inj Try.underlying36 lb i (lastB e i) rfl M1.out (by unfold maxLen; omega) th _ rfl KI.out (.int .i64 bn) rfl ?_; intro u1 m1 g1; have MM := Lib.hid m1; have O1 := Lib.hid (Only.of (S := fun k => k = lb) g1 (fun k e _ => by cases e; rfl)); have WK2 := Lib.hid (WK1.out.only O1.out (fun k hk e => hsep.out (e ▸ hk))); have GW2 := Lib.hid (gb_only GW1.out O1.out (fun k e => by have := HLB.out; have := G0.out.size; omega)); have BEG := Lib.hid (begins_any u1 G b ta tc ys n (S (before e i)) (before e i) s N bn t yv (HT.out.grown GW2.out) HY.out WK2.out (by rw [HYS.out]; exact I.out.ok)); clear m1 g1)
          | (go_at_call 58; refine BEG.out.mono ?_; rintro r u2 ⟨rfl, G2, h1, h2⟩)
          | go_in)
        have ST1 : Step F G w u1 := ⟨only_later (I.out.step.only.trans (Only.none G1.out)) O1.out (fun k hk e => by have := HLB.out; omega), fun k hk => (I.out.step.foot k hk)⟩
        have hlu := MM.out.lt
        go_roundw
        case rel =>
          refine ⟨i + 1, G2, _, N + 1, by omega, by go_num, by rw [HBS.out]; go_num, ⟨?_, ?_, HINV.out, by have := I.out.nle; omega, ?_, fun hk => ?_, ST1.trans h2.out⟩⟩
          · rw [HBE.out]
            exact h1.out
          · rw [HBE.out]
            have ho := I.out.ok
            split
            · exact ho.more (Nat.le_succ _) (by have := I.out.nle; omega)
            · exact ho.ask (by have := I.out.nle; omega) _ _ _
          · rw [HLBN.out]
            exact MM.out.keep (h2.out.only.block lb hlu hsep.out)
          · rcases h2.out.foot lb hk with h | h
            · exact hsep.out h
            · omega
        case measure => simp [intOf]; omega
      · by_cases hk5 : (e i).k = 5
        · have hbe : before e (i + 1) = before e i + 1 := by rw [before, if_pos hk5]
          have hbs : begins e (i + 1) = begins e i := by rw [begins_succ, if_neg hk1]
          obtain ⟨b0, hb0, hlast, hty, hco, hen, hca⟩ := commit_at e HR.out hlt hk5
          have hbl0 := begins_n e b0
          have hSS : S (before e i + 1) = app (S (before e i)) (trAt e b0 len).ac := by
            rw [HS.out]
            exact stAt_step z hca
          have hmid := I.out.inv.mid HR.out hlt hk5 hty hco hen hSS
          have HINV := Lib.hid (I.out.inv.commit HR.out hlt hk5 hty hco hen hSS)
          have hmem : ∀ (l : List Nat) (x : Int × Int), ((wakeAll (tries e len) n (S (before e (i + 1))) (before e i + 1) i l (if fits n (S (before e i)) (trAt e b0 len).ac = true then ⟨s.seen.set (begins e b0).length (before e i), s.M⟩ else s)).M x).length ≤ 1000 ∧ ∀ no ∈ (wakeAll (tries e len) n (S (before e (i + 1))) (before e i + 1) i l (if fits n (S (before e i)) (trAt e b0 len).ac = true then ⟨s.seen.set (begins e b0).length (before e i), s.M⟩ else s)).M x, no < ys.length := fun l x => by
            have hp := hmid.part hlt hk5 HR.out l
            have h1 : ∀ no ∈ (wakeAll (tries e len) n (S (before e (i + 1))) (before e i + 1) i l (if fits n (S (before e i)) (trAt e b0 len).ac = true then ⟨s.seen.set (begins e b0).length (before e i), s.M⟩ else s)).M x, no < ys.length := fun no hno => by
              obtain ⟨_, t', ht', _⟩ := hp.mem x no hno
              rw [HYL.out]
              exact (List.getElem?_eq_some_iff.1 ht').1
            refine ⟨Nat.le_trans (nodup_bound _ _ (hp.nodup x) h1) ?_, h1⟩
            have := I.out.ok.len
            rw [HYL.out]
            exact this
          rw [hbe, hSS] at hmem
          have HMEM := Lib.hid hmem
          have HSA := Lib.hid (hbe ▸ hSS)
          have HLBN := Lib.hid (lastB_same e hk1)
          have HBE := Lib.hid hbe
          have HBS := Lib.hid hbs
          have hwfS : ∀ k o, o < n → (Lit.int .i64 (S k o)).wf = true := fun k o ho => by
            rw [HS.out]
            refine stAt_wf HZ.out (fun l hl => ?_) k o ho
            unfold cacs at hl
            rw [if_pos HR.out] at hl
            obtain ⟨t', ht', rfl⟩ := List.mem_map.1 hl
            have := ((commsD_perm e HR.out).mem_iff).1 ht'
            have hm := (List.mem_filter.1 this).1
            exact (ACW.out t' (by rw [HYS.out]; exact hm)).2
          have HWF := Lib.hid (show ∀ o, o < n → (Lit.int .i64 (app (S (before e i)) (trAt e b0 len).ac o)).wf = true from fun o ho => by
            rw [← hSS]
            exact hwfS _ o ho)
          rw [← HYS.out, List.getElem?_map, Option.map_eq_some_iff] at hty
          obtain ⟨⟨t, yv⟩, hy, hte⟩ := hty
          dsimp only at hte
          rw [← hte] at HINV HMEM HSA HWF
          have HY := Lib.hid hy
          obtain ⟨bn, hbn⟩ : ∃ bn, bn = (begins e b0).length := ⟨_, rfl⟩
          rw [← hbn] at HINV HY HMEM hlast hbl0
          have hbn6 : (bn : Int) ≤ 1000 := by omega
          have HLAST := Lib.hid hlast
          rw [hk5] at c0
          clear hbe hbs hco hen hca hSS hmid hmem hwfS hte hy hk1 hk5 hbn hlast
          obtain ⟨w1, w2, w3, w4, w5, w6, w7⟩ := EW
          generalize (e i).th = th at *
          generalize (e i).tx = tx at *
          generalize (e i).at_ = at_ at *
          generalize (e i).ob = ob at *
          generalize (e i).va = va at *
          generalize (e i).re = re at *
          have G1 := Lib.hid (World.grownBy_alloc wr (.cells #[.int .i64 5, .int .i64 th, .int .i64 tx, .int .i64 at_, .int .i64 ob, .int .i64 va, .int .i64 re] 51) none)
          have EB := Lib.hid (Blk.made wr 51 #[.int .i64 5, .int .i64 th, .int .i64 tx, .int .i64 at_, .int .i64 ob, .int .i64 va, .int .i64 re])
          have M1 := Lib.hid (HLW.grown G1.out (by simp))
          have KI := Lib.hid (keyInt w2)
          have WK1 := Lib.hid (I.out.wk.grown G1.out)
          have GW1 := Lib.hid (gb_trans GW.out G1.out)
          have COM := Lib.hid (commits_any w0 (wr.alloc (.cells #[.int .i64 5, .int .i64 th, .int .i64 tx, .int .i64 at_, .int .i64 ob, .int .i64 va, .int .i64 re] 51)) G b ta tc ys n (S (before e i)) (before e i) i s (if fits n (S (before e i)) t.ac = true then ⟨s.seen.set bn (before e i), s.M⟩ else s) N bn t yv HT.out GW1.out HGB.out WK1.out (by rw [HYS.out]; exact I.out.ok) (by have := I.out.nle; omega) (by omega) HY.out rfl HWF.out (fun k o _ => by rw [HYS.out]; exact HMEM.out _ _))
          clear HLW
          go_wp2_with (first
            | (at_lookup; refine wpList_get_mapG rfl _ _ 36 rfl 3 3 kInt Try.underlying36 _ (zeroInt4 _) (Value.int .i64) lb i (lastB e i) rfl M1.out th _ rfl KI.out (.int .i64 bn) (by rw [HLAST.out]; rfl) ?_)
            | (go_at_call 59; refine COM.out.mono ?_; rintro r u2 ⟨rfl, G2, h1, h3, h2⟩)
            | go_in)
          have hlu := M1.out.lt
          go_roundw
          case rel =>
            refine ⟨i + 1, G2, _, N + 1000000, by omega, by go_num, by rw [HBS.out], ⟨?_, ?_, HINV.out, ?_, ?_, fun hk => ?_, (I.out.step.trans (Step.none G1.out)).trans h2.out⟩⟩
            · have := h1.out
              rw [HYS.out] at this
              rw [HSA.out, HBE.out]
              exact this
            · have := h3.out
              rw [HYS.out] at this
              rw [HBE.out]
              exact this
            · have := I.out.nle
              rw [Nat.add_mul]
              omega
            · rw [HLBN.out]
              exact (M1.out.keep (h2.out.only.block lb hlu hsep.out)).more (Nat.le_succ _)
            · rcases h2.out.foot lb hk with h | h
              · exact hsep.out h
              · omega
          case measure => simp [intOf]; omega
        · have hbe : before e (i + 1) = before e i := by rw [before, if_neg hk5]; rfl
          have hbs : begins e (i + 1) = begins e i := by rw [begins_succ, if_neg hk1]
          have HINV := Lib.hid (I.out.inv.skip HR.out hk1 hk5)
          have HLBN := Lib.hid (lastB_same e hk1)
          have HBE := Lib.hid hbe
          have HBS := Lib.hid hbs
          have f1 : ((e i).k == 1) = false := by simp [hk1]
          have f5 : ((e i).k == 5) = false := by simp [hk5]
          clear hbe hbs hk1 hk5 EW
          generalize (e i).k = kk at *
          generalize (e i).th = th at *
          generalize (e i).tx = tx at *
          generalize (e i).at_ = at_ at *
          generalize (e i).ob = ob at *
          generalize (e i).va = va at *
          generalize (e i).re = re at *
          have G1 := Lib.hid (World.grownBy_alloc wr (.cells #[.int .i64 kk, .int .i64 th, .int .i64 tx, .int .i64 at_, .int .i64 ob, .int .i64 va, .int .i64 re] 51) none)
          go_wp2
          go_roundw
          case rel =>
            refine ⟨i + 1, G, s, N, by omega, by go_num, by rw [HBS.out], ⟨?_, ?_, HINV.out, ?_, ?_, hsep.out, I.out.step.trans (Step.none G1.out)⟩⟩
            · rw [HBE.out]
              exact I.out.wk.grown G1.out
            · rw [HBE.out]
              exact I.out.ok
            · exact Nat.le_trans I.out.nle (Nat.mul_le_mul_right _ (Nat.le_succ i))
            · rw [HLBN.out]
              exact (HLW.grown G1.out (by simp)).more (Nat.le_succ _)
          case measure => simp [intOf]; omega
    · obtain rfl : i = len := by omega
      go_wp2
      (first | go_end0 | refine bodyPost_ret (results_none rfl _ _ _) rfl ?_)
      refine ⟨rfl, G, s, N, ?_, I.out.inv, ?_⟩
      · have := I.out.wk
        rw [HS.out] at this
        exact this
      · exact I.out.step
end Go.Proofs.Ytkidkhjpijjphaa.oq

/- slices.Repeat of a row of one number, as package opaque calls it; slices.Index. -/
namespace Go.Proofs.Ytkidkhjpijjphaa.oq
open Go Go.RowKit Go.Proofs.Ytkidkhjpijjphaa.base Go.Proofs.Ytkidkhjpijjphaa.hs Go.Proofs.Ytkidkhjpijjphaa.lg Go.Proofs.Ytkidkhjpijjphaa.md Go.Maps
set_option linter.unusedVariables false
set_option maxRecDepth 100000
set_option linter.unusedSimpArgs false

set_option maxHeartbeats 1000000 in
theorem mul64_one (T : Nat) (hT : T ≤ 1000) (w : World) : Calls Try.prog 86 #[.int .u64 1, .int .u64 T] w fun r w' => r = .returned (.tuple #[.int .u64 0, .int .u64 T]) ∧ w' = w := by
  have h6 : (T : Int) ≤ 1000 := by omega
  have b1 : bits .and .u64 1 4294967295 = 1 := by decide
  have b0 : bits .and .u64 0 4294967295 = 0 := by decide
  have bT : bits .and .u64 (T : Int) 4294967295 = T := by
    have := u64_and_nat T 4294967295 (by omega) (by decide)
    rw [show (4294967295 : Nat) = 2 ^ 32 - 1 from rfl, Nat.and_two_pow_sub_one_eq_mod, Nat.mod_eq_of_lt (by omega)] at this
    exact this
  have wT : IntKind.u64.wrap (T : Int) = T := IntWalk.u64_in _ (by omega)
  have w0 : IntKind.u64.wrap 0 = 0 := by decide
  have dT : (T : Int) / 4294967296 = 0 := by omega
  have d0 : (0 : Int) / 4294967296 = 0 := by omega
  go_enter Try.func86, Try.ntmps86
  go_wp2
  go_ret2
  exact ⟨rfl, rfl⟩

set_option maxHeartbeats 1000000 in
theorem mul_one (T : Nat) (hT : T ≤ 1000) (w : World) : Calls Try.prog 69 #[.int .u64 1, .int .u64 T] w fun r w' => r = .returned (.tuple #[.int .u64 0, .int .u64 T]) ∧ w' = w := by
  have wT : IntKind.u64.wrap (T : Int) = T := IntWalk.u64_in _ (by omega)
  go_enter Try.func69, Try.ntmps69
  go_wp2_with (first | (go_at_call 86; refine (mul64_one T hT w).mono ?_; rintro r u ⟨rfl, rfl⟩) | go_in)
  go_ret2
  exact ⟨rfl, rfl⟩

/-- n times -1, and noughts up to T. -/
def repC (n T : Nat) : List Value := List.replicate n (.int .i64 (-1)) ++ List.replicate (T - n) (.int .i64 0)
theorem repC_len {n T : Nat} (h : n ≤ T) : (repC n T).length = T := by simp [repC]; omega
theorem infoIntR : (Try.prog.info? 3).map (fun i => (i.zero, i.size, i.bytes)) = some (some (.int .i64 0), 1, 8) := by kernel_rfl

theorem repC_none (T : Nat) : (⟨repC 0 T⟩ : Array Value) = madeCells #[.int .i64 0] T := by
  apply Array.ext
  · simp [repC, madeCells]
  · intro i h1 h2
    simp [repC, madeCells] at h1 h2 ⊢
    rw [Nat.mod_one]
    rfl
theorem repC_step {n m T : Nat} (h : n + m ≤ T) : (repC n T).take n ++ List.replicate m (.int .i64 (-1)) ++ (repC n T).drop (n + m) = repC (n + m) T := by
  have h1 : (repC n T).take n = List.replicate n (.int .i64 (-1)) := by simp [repC]
  have h2 : (repC n T).drop (n + m) = List.replicate (T - (n + m)) (.int .i64 0) := by
    unfold repC
    rw [List.drop_append, List.drop_eq_nil_of_le (by simp), List.nil_append, List.length_replicate, List.drop_replicate]
    congr 1
    omega
  rw [h1, h2, List.replicate_append_replicate]
  rfl
/-- A copy of what is there already, behind it. -/
theorem copy_step (w : World) (g n T : Nat) (hb : Blk 3 w g ⟨repC n T⟩) (hn : n ≤ T) (a : Addr) (sLen sCap dLen dCap m ty : Nat) (hm : m = Nat.min sLen dLen) (hf : n + m ≤ T) (hs : ∀ j, j < m → w.cell? (a.add j) = some (.int .i64 (-1))) :
    ∃ u, (Builtin.copy_ #[25, 25] ty #[.slice (some ⟨g, n, none⟩) dLen dCap, .slice (some a) sLen sCap]).run Try.prog w = .ok (.int .i64 m) u ∧ Blk 3 u g ⟨repC (n + m) T⟩ ∧ w.grownBy u (some g) := by
  have h := run_copy_row (P := Try.prog) w 25 25 ty 3 g n dLen dCap a sLen sCap ⟨repC n T⟩ 3 (List.replicate m (.int .i64 (-1))) Try.underlying25 (by kernel_rfl) hb (by rw [List.length_replicate, hm]) (fun j v hj => by
    rw [List.getElem?_replicate] at hj
    split at hj
    · next h => cases hj; exact hs j h
    · cases hj) (by simp [repC_len hn]; omega) (fun v hv => by rw [(List.mem_replicate.1 hv).2]; rfl)
  rw [List.length_replicate] at h
  have e : ((⟨repC n T⟩ : Array Value).toList.take n ++ List.replicate m (.int .i64 (-1)) ++ (⟨repC n T⟩ : Array Value).toList.drop (n + m)) = repC (n + m) T := repC_step hf
  rw [e] at h
  refine ⟨_, h, ?_, ?_⟩
  · exact setRow_heap w g _ _ _ _ hb
  · exact ⟨rfl, rfl, rfl, by simp, fun k hk hne => setRow_other w g k _ (fun e => hne (by rw [e]))⟩

set_option maxHeartbeats 2000000 in
theorem repeat_any (T : Nat) (hT : T ≤ 1000) (w : World) (xb : Nat) (hx : w.cell? ⟨xb, 0, none⟩ = some (.int .i64 (-1))) :
    Calls Try.prog 57 #[.slice (some ⟨xb, 0, none⟩) 1 1, .int .i64 T] w fun r w' => ∃ g, r = .returned (.slice (some ⟨g, 0, none⟩) T T) ∧ Hid (w.heap.size ≤ g) ∧ Hid (Blk 3 w' g ⟨List.replicate T (.int .i64 (-1))⟩) ∧ Hid (w.grownBy w' none) := by
  obtain ⟨i0, hi, hz0, hz1, hz2⟩ := info_parts infoIntR
  have wT : IntKind.u64.wrap (T : Int) = T := IntWalk.u64_in _ (by omega)
  have iT : IntKind.i64.wrap (T : Int) = T := IntWalk.i64_in _ (by omega)
  have h6 : (T : Int) ≤ 1000 := by omega
  have hmake : (Instr.makeSlice 25 (.int .i64 T) (.int .i64 T)).run Try.prog w = .ok (.slice (some ⟨w.heap.size, 0, none⟩) T T) (w.alloc (.cells (madeCells #[.int .i64 0] T) 3)) := by
    have := run_make (P := Try.prog) w 25 3 i0 _ Try.underlying25 hi hz0 .i64 .i64 (T : Int) (T : Int) (by omega) (Int.le_refl _) (by rw [hz2]; omega) (by omega)
    rw [hz1] at this
    rw [show (Value.int .i64 0).cells = #[.int .i64 0] from rfl] at this
    simpa using this
  clear hi hz0 hz1 hz2
  go_enter Try.func57, Try.ntmps57
  obtain ⟨u1, hc1, hb1, hg1⟩ := copy_step (w.alloc (.cells (madeCells #[.int .i64 0] T) 3)) w.heap.size 0 T (by rw [repC_none]; exact Blk.made w _ _) (Nat.zero_le _) ⟨xb, 0, none⟩ 1 1 T T (Nat.min 1 T) 3 rfl (by rw [Nat.zero_add]; exact Nat.min_le_right 1 T) (fun j hj => by
    have h1 : Nat.min 1 T ≤ 1 := Nat.min_le_left 1 T
    obtain rfl : j = 0 := by omega
    exact (World.grownBy_alloc w _ none).cell hx (by simp))
  have hgu : w.grownBy u1 none := gb_over (World.grownBy_alloc w _ none) hg1 (Nat.le_refl _)
  rw [Nat.zero_add] at hb1
  have HB1 := Lib.hid hb1
  have HG1 := Lib.hid hgu
  obtain ⟨m1, hm1⟩ : ∃ m1, m1 = Nat.min 1 T := ⟨_, rfl⟩
  rw [← hm1] at hc1 HB1
  have hm1T : m1 ≤ T := by rw [hm1]; exact Nat.min_le_right 1 T
  have hm10 : m1 = 0 → T = 0 := fun h => by
    by_cases hT0 : T = 0
    · exact hT0
    · have : Nat.min 1 T = 1 := Nat.min_eq_left (by omega)
      omega
  clear hb1 hg1 hgu hm1
  go_wp2_with (first | (go_at_call 69; refine (mul_one T hT w).mono ?_; rintro r u ⟨rfl, rfl⟩) | go_in)
  generalize hgg : u.heap.size = g at *
  have HGG := Lib.hid hgg
  clear hgg hc1 hmake
  go_loopw [8] (fun nv wr => ∃ n : Nat, n ≤ T ∧ (n = 0 → T = 0) ∧ nv = .int .i64 n ∧ Hid (Blk 3 wr g ⟨repC n T⟩) ∧ Hid (u.grownBy wr none)) (fun nv _ => (T - intOf nv).toNat)
  case atStart => exact ⟨m1, hm1T, hm10, rfl, HB1, HG1⟩
  case round =>
    clear HB1 HG1
    obtain ⟨n, hn, hn0, rfl, HB, HG⟩ := hrel
    by_cases hlt : n < T
    · have hlt' : (n : Int) < (T : Int) := by omega
      have hn1 : (n : Int) ≤ 1000 := by omega
      obtain ⟨u2, hc2, hb2, hg2⟩ := copy_step wr.drew g n T (HB.out.keep (w' := wr.drew) rfl) hn ⟨g, 0, none⟩ n T (T - n) (T - n) (Nat.min n (T - n)) 3 rfl (Nat.le_trans (Nat.add_le_add_left (Nat.min_le_right n (T - n)) n) (by omega)) (fun j hj => by
        have h1 : Nat.min n (T - n) ≤ n := Nat.min_le_left n (T - n)
        have hjn : j < n := Nat.lt_of_lt_of_le hj h1
        have h2 := (HB.out.keep (w' := wr.drew) rfl).cell j
        have h3 : (⟨g, 0, none⟩ : Addr).add j = ⟨g, j, none⟩ := by rw [Addr.add_lit, Nat.zero_add]
        rw [h3, h2]
        rw [show (⟨repC n T⟩ : Array Value)[j]? = (repC n T)[j]? by simp]
        unfold repC
        rw [List.getElem?_append_left (by simpa using hjn), List.getElem?_replicate, if_pos hjn])
      have HB2 := Lib.hid hb2
      have HG2 := Lib.hid (gb_over (gb_drew HG.out) hg2 (by rw [HGG.out]; exact Nat.le_refl _))
      obtain ⟨m2, hm2⟩ : ∃ m2, m2 = Nat.min n (T - n) := ⟨_, rfl⟩
      rw [← hm2] at hc2 HB2
      have hm2r : m2 ≤ T - n := by rw [hm2]; exact Nat.min_le_right n (T - n)
      have hm2p : 0 < m2 := by
        rw [hm2]
        have : 0 < n := by
          rcases Nat.eq_zero_or_pos n with h | h
          · have := hn0 h; omega
          · exact h
        exact Nat.lt_min.2 ⟨this, by omega⟩
      have hm26 : (m2 : Int) ≤ 1000 := by omega
      have gl := HB.out.lt
      clear hb2 hg2 hm2
      go_wp2_with fail
      go_region
      go_roundw
      case rel =>
        refine ⟨_, _, _, _, _, _, _, _, _, _, _, _, _, _, ?_, rfl⟩
        exact ⟨n + m2, by omega, by omega, by go_num, HB2, HG2⟩
      case measure => simp [intOf]; omega
    · obtain rfl : n = T := by omega
      go_wp2
      go_ret
      refine ⟨g, rfl, HGG.out ▸ Nat.le_refl _, ?_, HG⟩
      have h := HB.out
      have e : repC n n = List.replicate n (.int .i64 (-1)) := by simp [repC]
      rw [e] at h
      exact h

/-- The first place of -1. -/
def FirstNo (n : Nat) (f : Nat → Int) (q : Int) : Prop := (q = -1 ∧ ∀ j, j < n → f j ≠ -1) ∨ ∃ k : Nat, q = (k : Int) ∧ k < n ∧ f k = -1 ∧ ∀ j, j < k → f j ≠ -1
set_option maxHeartbeats 1000000 in
theorem index_any (a : Option Addr) (n c : Nat) (f : Nat → Int) (w : World) (hz : IsNums .i64 w a n f) (hn : n ≤ 1000000) :
    Calls Try.prog 44 #[.slice a n c, .int .i64 (-1)] w fun r w' => ∃ q, r = .returned (.int .i64 q) ∧ Hid (FirstNo n f q) ∧ Hid (w.grownBy w' none) := by
  have HZ := Lib.hid hz
  clear hz
  go_enter Try.func44, Try.ntmps44
  go_wp2_with fail
  go_loopw [8] (fun iv wr => ∃ k : Nat, k ≤ n ∧ iv = .int .i64 k ∧ Hid (∀ j, j < k → f j ≠ -1) ∧ Hid (w.grownBy wr none)) (fun iv _ => (n - intOf iv).toNat)
  case atStart => exact ⟨0, by omega, rfl, fun j hj => by omega, gb_refl _ _⟩
  case round =>
    obtain ⟨k, hk, rfl, HJ, G⟩ := hrel
    by_cases hlt : k < n
    · have hlt' : (k : Int) < (n : Int) := by omega
      have hk6 : (k : Int) < 1000000 := by omega
      obtain ⟨zb, zo, rfl, hzb, cz⟩ := (HZ.out.grown G.out).at1 hlt
      by_cases hf : f k = -1
      · rw [hf] at cz
        have HF := Lib.hid hf
        clear hf
        go_wp2
        go_ret
        exact ⟨k, rfl, .inr ⟨k, rfl, hlt, HF.out, HJ.out⟩, G⟩
      · have hf' : ((-1 : Int) == f k) = false := by simp; exact fun h => hf h.symm
        have HF := Lib.hid hf
        clear hf
        generalize hfk : f k = fk at *
        have HFK := Lib.hid hfk
        clear hfk
        go_wp2
        go_roundw
        case rel => exact ⟨k + 1, by omega, by go_num, fun j hj => by
          by_cases e : j = k
          · subst e; rw [HFK.out]; exact HF.out
          · exact HJ.out j (by omega), G⟩
        case measure => simp [intOf]; omega
    · obtain rfl : k = n := by omega
      go_wp2
      go_ret
      exact ⟨-1, rfl, .inl ⟨rfl, HJ.out⟩, G⟩
end Go.Proofs.Ytkidkhjpijjphaa.oq
