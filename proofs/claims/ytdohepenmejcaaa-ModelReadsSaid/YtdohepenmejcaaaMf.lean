/- Package model's Fits: did a try read what it should? -/
import Derived.Test.YtdohepenmejcaaaMa
import Derived.Test.YtdohepenmejcaaaMo
import Derived.Deep.QuietTactic
namespace Go.Proofs.Ytdohepenmejcaaa.md
open Go Go.RowKit Go.Proofs.Ytdohepenmejcaaa.base Go.Proofs.Ytdohepenmejcaaa.hs Go.Proofs.Ytdohepenmejcaaa.lg Go.Maps
set_option linter.unusedVariables false
set_option maxRecDepth 100000

theorem zero64 (w : World) : (zeroValue 2).run Try.prog w = .ok (.int .i64 0) w := by kernel_rfl
def lwV (W : Int → Option Int) : Int → Option Value := fun o => (W o).map (Value.int .i64)

set_option maxHeartbeats 1000000 in
theorem tells_any (y : Acc) (a : Option Addr) (n c : Nat) (z : Nat → Int) (mb N : Nat) (W : Int → Option Int) (w : World) (hy : AccWf y) (hz : IsNums .i64 w a n z) (hm : MapG Try.prog 3 (Value.int .i64) w mb N (lwV W)) :
    Calls Try.prog 30 #[.agg ⟨accC y⟩, .slice a n c, .map (some mb)] w fun r w' => r = .returned (.bool (tellsB n z (W y.ob) y)) ∧ Hid (w.grownBy w' none) := by
  have HY := Lib.hid hy
  have HZ := Lib.hid hz
  have HM := Lib.hid hm
  clear hy hz hm
  obtain ⟨pl, k, ob, va, own, rel⟩ := y
  show Calls Try.prog 30 #[.agg #[.int .i64 pl, .int .i64 k, .int .i64 ob, .int .i64 va, .bool own, .bool rel], .slice a n c, .map (some mb)] w fun r w' => r = .returned (.bool (tellsB n z (W ob) ⟨pl, k, ob, va, own, rel⟩)) ∧ _
  cases hW : W ob with
  | some v =>
    have HW := Lib.hid hW
    clear hW
    cases own with
    | true =>
      by_cases hv : va = v
      · have f1 : (va == v) = true := by simp [hv]
        have HB := Lib.hid (show tellsB n z (some v) ⟨pl, k, ob, va, true, rel⟩ = true by simp [tellsB, hv])
        rw [HB.out]
        clear hv
        go_enter Try.func30, Try.ntmps30
        go_wp2_with (first | (at_lookup; refine wpList_look_mapG rfl _ _ 67 rfl 3 2 kInt Try.underlying67 _ (zero64 _) (Value.int .i64) mb N (lwV W) rfl (HM.out.grown (show World.grownBy w _ none from (by repeat (first | exact gb_refl _ _ | refine gb_drewN ?_ _ | refine gb_drew ?_ | refine gb_alloc ?_ _))) (by simp)) _ _ rfl (keyInt HY.out.ob) (.int .i64 v) true (by unfold lwV; rw [HW.out]; rfl) (by unfold lwV; rw [HW.out]; rfl) ?_) | go_in)
        go_ret
        exact ⟨rfl, (by repeat (first | exact gb_refl _ _ | refine gb_drewN ?_ _ | refine gb_drew ?_ | refine gb_alloc ?_ _))⟩
      · have f1 : (va == v) = false := by simp [hv]
        have HB := Lib.hid (show tellsB n z (some v) ⟨pl, k, ob, va, true, rel⟩ = false by simp [tellsB, hv])
        rw [HB.out]
        clear hv
        go_enter Try.func30, Try.ntmps30
        go_wp2_with (first | (at_lookup; refine wpList_look_mapG rfl _ _ 67 rfl 3 2 kInt Try.underlying67 _ (zero64 _) (Value.int .i64) mb N (lwV W) rfl (HM.out.grown (show World.grownBy w _ none from (by repeat (first | exact gb_refl _ _ | refine gb_drewN ?_ _ | refine gb_drew ?_ | refine gb_alloc ?_ _))) (by simp)) _ _ rfl (keyInt HY.out.ob) (.int .i64 v) true (by unfold lwV; rw [HW.out]; rfl) (by unfold lwV; rw [HW.out]; rfl) ?_) | go_in)
        go_ret
        exact ⟨rfl, (by repeat (first | exact gb_refl _ _ | refine gb_drewN ?_ _ | refine gb_drew ?_ | refine gb_alloc ?_ _))⟩
    | false =>
      have HB := Lib.hid (show tellsB n z (some v) ⟨pl, k, ob, va, false, rel⟩ = false by simp [tellsB])
      rw [HB.out]
      go_enter Try.func30, Try.ntmps30
      go_wp2_with (first | (at_lookup; refine wpList_look_mapG rfl _ _ 67 rfl 3 2 kInt Try.underlying67 _ (zero64 _) (Value.int .i64) mb N (lwV W) rfl (HM.out.grown (show World.grownBy w _ none from (by repeat (first | exact gb_refl _ _ | refine gb_drewN ?_ _ | refine gb_drew ?_ | refine gb_alloc ?_ _))) (by simp)) _ _ rfl (keyInt HY.out.ob) (.int .i64 v) true (by unfold lwV; rw [HW.out]; rfl) (by unfold lwV; rw [HW.out]; rfl) ?_) | go_in)
      go_ret
      exact ⟨rfl, (by repeat (first | exact gb_refl _ _ | refine gb_drewN ?_ _ | refine gb_drew ?_ | refine gb_alloc ?_ _))⟩
  | none =>
    have HW := Lib.hid hW
    clear hW
    cases own with
    | true =>
      have HB := Lib.hid (show tellsB n z none ⟨pl, k, ob, va, true, rel⟩ = false by simp [tellsB])
      rw [HB.out]
      go_enter Try.func30, Try.ntmps30
      go_wp2_with (first | (at_lookup; refine wpList_look_mapG rfl _ _ 67 rfl 3 2 kInt Try.underlying67 _ (zero64 _) (Value.int .i64) mb N (lwV W) rfl (HM.out.grown (show World.grownBy w _ none from (by repeat (first | exact gb_refl _ _ | refine gb_drewN ?_ _ | refine gb_drew ?_ | refine gb_alloc ?_ _))) (by simp)) _ _ rfl (keyInt HY.out.ob) (.int .i64 0) false (by unfold lwV; rw [HW.out]; rfl) (by unfold lwV; rw [HW.out]; rfl) ?_) | go_in)
      go_quiet (fail)
      go_wp2
      go_ret
      exact ⟨rfl, (by repeat (first | exact gb_refl _ _ | refine gb_drewN ?_ _ | refine gb_drew ?_ | refine gb_alloc ?_ _))⟩
    | false =>
      by_cases hin : 0 ≤ ob ∧ ob < (n : Int)
      · obtain ⟨i, rfl⟩ : ∃ i : Nat, ob = (i : Int) := ⟨ob.toNat, by omega⟩
        have hi : i < n := by omega
        have hi' : (i : Int) < (n : Int) := by omega
        have HB := Lib.hid (show tellsB n z none ⟨pl, k, i, va, false, rel⟩ = (va == z i) by simp [tellsB, hi])
        rw [HB.out]
        obtain ⟨zb, zo, rfl, hzb, cz⟩ := (HZ.out.at1 hi)
        clear hin
        generalize z i = zi at *
        go_enter Try.func30, Try.ntmps30
        go_wp2_with (first | (at_lookup; refine wpList_look_mapG rfl _ _ 67 rfl 3 2 kInt Try.underlying67 _ (zero64 _) (Value.int .i64) mb N (lwV W) rfl (HM.out.grown (show World.grownBy w _ none from (by repeat (first | exact gb_refl _ _ | refine gb_drewN ?_ _ | refine gb_drew ?_ | refine gb_alloc ?_ _))) (by simp)) _ _ rfl (keyInt HY.out.ob) (.int .i64 0) false (by unfold lwV; rw [HW.out]; rfl) (by unfold lwV; rw [HW.out]; rfl) ?_) | go_in)
        go_quiet ((go_at_call 44; refine Calls.quiet_of_same ((has_yesq _ n _ i _ hi).mono fun _ _ h => ⟨h.1, h.2⟩)))
        go_wp2
        go_ret
        exact ⟨rfl, (by repeat (first | exact gb_refl _ _ | refine gb_drewN ?_ _ | refine gb_drew ?_ | refine gb_alloc ?_ _))⟩
      · have HNO := Lib.hid (show ob < 0 ∨ (n : Int) ≤ ob by omega)
        have HB := Lib.hid (show tellsB n z none ⟨pl, k, ob, va, false, rel⟩ = false by simp [tellsB]; intro h1 h2; omega)
        rw [HB.out]
        clear hin
        go_enter Try.func30, Try.ntmps30
        go_wp2_with (first | (at_lookup; refine wpList_look_mapG rfl _ _ 67 rfl 3 2 kInt Try.underlying67 _ (zero64 _) (Value.int .i64) mb N (lwV W) rfl (HM.out.grown (show World.grownBy w _ none from (by repeat (first | exact gb_refl _ _ | refine gb_drewN ?_ _ | refine gb_drew ?_ | refine gb_alloc ?_ _))) (by simp)) _ _ rfl (keyInt HY.out.ob) (.int .i64 0) false (by unfold lwV; rw [HW.out]; rfl) (by unfold lwV; rw [HW.out]; rfl) ?_) | go_in)
        go_quiet ((go_at_call 44; refine Calls.quiet_of_same ((has_noq _ n _ ob _ HNO.out).mono fun _ _ h => ⟨h.1, h.2⟩)))
        go_wp2
        go_ret
        exact ⟨rfl, (by repeat (first | exact gb_refl _ _ | refine gb_drewN ?_ _ | refine gb_drew ?_ | refine gb_alloc ?_ _))⟩

theorem lwV_put {l : List Acc} {k : Nat} {y : Acc} (h : l[k]? = some y) (h3 : y.k = 3) : lwV (lastW (l.take (k + 1))) = upd (lwV (lastW (l.take k))) y.ob (some (.int .i64 y.va)) := by
  funext o
  unfold lwV
  rw [lastW_take h]
  by_cases e : o = y.ob
  · subst e; rw [upd_same, if_pos ⟨h3, rfl⟩]; rfl
  · rw [upd_other _ _ e, if_neg (fun h => e h.2.symm)]
theorem lwV_same {l : List Acc} {k : Nat} {y : Acc} (h : l[k]? = some y) (h3 : y.k ≠ 3) : lwV (lastW (l.take (k + 1))) = lwV (lastW (l.take k)) := by
  funext o
  unfold lwV
  rw [lastW_take h, if_neg (fun h => h3 h.1)]

set_option maxHeartbeats 2000000 in
theorem fits_any (a : Option Addr) (n c : Nat) (z : Nat → Int) (t : Tr) (av : Option Addr) (vc : Nat) (w : World) (hz : IsNums .i64 w a n z) (hl : IsL accC w av t.ac) (hy : ∀ y ∈ t.ac, AccWf y) (hm : t.ac.length ≤ 1000000) :
    Calls Try.prog 18 #[.slice a n c, .agg ⟨trC t (.slice av t.ac.length vc)⟩] w fun r w' => r = .returned (.bool (fits n z t.ac)) ∧ Hid (w.grownBy w' none) := by
  obtain ⟨xth, xtx, xat, xst, xb, xen, xre, xco, ac⟩ := t
  dsimp only at hl hm hy
  show Calls Try.prog 18 #[.slice a n c, .agg #[.int .i64 xth, .int .i64 xtx, .int .i64 xat, .int .i64 xst, .int .i64 xb, .int .i64 xen, .int .i64 xre, .bool xco, .slice av ac.length vc]] w fun r w' => r = .returned (.bool (fits n z ac)) ∧ _
  have HL := Lib.hid hl
  have HZ := Lib.hid hz
  have HY := Lib.hid hy
  have hmm := @run_makeMap Try.prog
  have GA := Lib.hid (show World.grownBy w ((w.alloc (.cells #[.int .i64 xth, .int .i64 xtx, .int .i64 xat, .int .i64 xst, .int .i64 xb, .int .i64 xen, .int .i64 xre, .bool xco, .slice av ac.length vc] 33)).alloc (.map #[] 0)) none from (by repeat (first | exact gb_refl _ _ | refine gb_drewN ?_ _ | refine gb_drew ?_ | refine gb_alloc ?_ _)))
  have MA : Hid (MapG Try.prog 3 (Value.int .i64) ((w.alloc (.cells #[.int .i64 xth, .int .i64 xtx, .int .i64 xat, .int .i64 xst, .int .i64 xb, .int .i64 xen, .int .i64 xre, .bool xco, .slice av ac.length vc] 33)).alloc (.map #[] 0)) (w.heap.size + 1) 0 (lwV (lastW (ac.take 0)))) := Lib.hid (by have := MapG.made (w.alloc (.cells #[.int .i64 xth, .int .i64 xtx, .int .i64 xat, .int .i64 xst, .int .i64 xb, .int .i64 xen, .int .i64 xre, .bool xco, .slice av ac.length vc] 33)) Try.prog 3 (Value.int .i64); rw [World.size_alloc] at this; exact this)
  clear hl hz hy
  go_enter Try.func18, Try.ntmps18
  go_wp2
  have HMB := Lib.hid (show w.heap.size ≤ w.heap.size + 1 by omega)
  generalize (w.alloc _).alloc _ = w1 at *
  generalize w.heap.size + 1 = mb at *
  go_loopw [12] (fun iv wr => ∃ k : Nat, k ≤ ac.length ∧ iv = .int .i64 k ∧ Hid (fitsN n z ac k = true) ∧ Hid (MapG Try.prog 3 (Value.int .i64) wr mb k (lwV (lastW (ac.take k)))) ∧ Hid (w.grownBy wr none)) (fun iv _ => (ac.length - intOf iv).toNat)
  case atStart => exact ⟨0, by omega, rfl, rfl, MA, GA⟩
  case round =>
    obtain ⟨k, hk, rfl, HF, M, G⟩ := hrel
    clear MA GA
    by_cases hlt : k < ac.length
    · have hlt' : (k : Int) < (ac.length : Int) := by omega
      have hk6 : (k : Int) < 1000000 := by omega
      have hget := List.getElem?_eq_getElem hlt
      obtain ⟨b, off, rfl, hb, c0, c1, c2, c3, c4, c5⟩ := acc6 (HL.out.grown G.out) hget
      have WY := Lib.hid (HY.out ac[k] (List.getElem_mem hlt))
      have HS3 := Lib.hid (lwV_put (l := ac) hget)
      have HSN := Lib.hid (lwV_same (l := ac) hget)
      have HST := Lib.hid (fitsN_step (n := n) (z := z) hget)
      have HBAD := Lib.hid (fun h => fits_bad (n := n) (z := z) hget h)
      clear hget
      generalize ac[k] = y at *
      have mlt := M.out.lt
      by_cases h3 : y.k = 3
      · have HS := Lib.hid (HS3.out h3)
        have HB := Lib.hid (show fitsN n z ac (k + 1) = true by rw [HST.out, HF.out]; unfold readOk; rw [if_neg (by omega)]; rfl)
        clear HS3 HSN HST HBAD
        obtain ⟨pl, ak, ob, va, own, rel⟩ := y
        dsimp only at h3 HS c0 c1 c2 c3 c4 c5
        subst h3
        have G1 := Lib.hid (World.grownBy_alloc wr (.cells #[.int .i64 pl, .int .i64 3, .int .i64 ob, .int .i64 va, .bool own, .bool rel] 54) none)
        have M1 := Lib.hid (M.out.grown G1.out (by simp))
        go_wp2_with (first | (at_mapUpdate; refine wpList_set_mapG rfl _ _ _ 67 rfl 3 2 kInt (Value.int .i64) vint_inj Try.underlying67 mb k (lwV (lastW (ac.take k))) rfl M1.out (by unfold maxLen; omega) ob _ rfl (keyInt WY.out.ob) (.int .i64 va) rfl ?_; intro u2 m2 g2; have M2 := Lib.hid m2; have G2 := Lib.hid g2; clear m2 g2) | go_in)
        go_roundw
        case rel => exact ⟨k + 1, by omega, by go_num, HB.out, M2.out.congr (fun _ _ _ => by rw [HS.out]), gb_over (gb_trans G.out G1.out) G2.out HMB.out⟩
        case measure => simp [intOf]; omega
      · have f3 : (y.k == 3) = false := by simp [h3]
        have HS := Lib.hid (HSN.out h3)
        clear HS3 HSN h3
        by_cases h2 : y.k = 2
        · cases hrel2 : y.rel with
          | true =>
            have HB := Lib.hid (show fitsN n z ac (k + 1) = true by rw [HST.out, HF.out]; unfold readOk; rw [if_neg (by rw [hrel2]; simp)]; rfl)
            clear HST HBAD
            obtain ⟨pl, ak, ob, va, own, rel⟩ := y
            dsimp only at h2 hrel2 f3 c0 c1 c2 c3 c4 c5
            subst h2 hrel2
            have G1 := Lib.hid (World.grownBy_alloc wr (.cells #[.int .i64 pl, .int .i64 2, .int .i64 ob, .int .i64 va, .bool own, .bool true] 54) none)
            go_wp2
            go_roundw
            case rel => exact ⟨k + 1, by omega, by go_num, HB.out, ((M.out.grown G1.out (by simp)).more (Nat.le_succ _)).congr (fun _ _ _ => by rw [HS.out]), gb_trans G.out G1.out⟩
            case measure => simp [intOf]; omega
          | false =>
            have HOK := Lib.hid (show readOk n z (lastW (ac.take k) y.ob) y = tellsB n z (lastW (ac.take k) y.ob) y by unfold readOk; rw [if_pos ⟨h2, hrel2⟩])
            obtain ⟨pl, ak, ob, va, own, rel⟩ := y
            dsimp only at h2 hrel2 f3 c0 c1 c2 c3 c4 c5
            subst h2 hrel2
            have G1 := Lib.hid (World.grownBy_alloc wr (.cells #[.int .i64 pl, .int .i64 2, .int .i64 ob, .int .i64 va, .bool own, .bool false] 54) none)
            have M1 := Lib.hid (M.out.grown G1.out (by simp))
            cases hT : tellsB n z (lastW (ac.take k) ob) ⟨pl, 2, ob, va, own, false⟩ with
            | true =>
              have HB := Lib.hid (show fitsN n z ac (k + 1) = true by rw [HST.out, HF.out, HOK.out]; exact hT)
              have HTT := Lib.hid hT
              clear HST HBAD HOK hT
              go_wp2_with (first | (go_at_call 30; refine (tells_any ⟨pl, 2, ob, va, own, false⟩ _ n _ z mb k _ _ WY.out (HZ.out.grown (gb_trans G.out G1.out)) M1.out).mono ?_; dsimp only; rw [HTT.out]; rintro r u2 ⟨rfl, g2⟩) | go_in)
              go_roundw
              case rel => exact ⟨k + 1, by omega, by go_num, HB.out, ((M1.out.grown g2.out (by simp)).more (Nat.le_succ _)).congr (fun _ _ _ => by rw [HS.out]), gb_trans (gb_trans G.out G1.out) g2.out⟩
              case measure => simp [intOf]; omega
            | false =>
              have HB := Lib.hid (show fits n z ac = false from HBAD.out (by rw [HOK.out]; exact hT))
              have HTT := Lib.hid hT
              clear HST HBAD HOK hT
              go_wp2_with (first | (go_at_call 30; refine (tells_any ⟨pl, 2, ob, va, own, false⟩ _ n _ z mb k _ _ WY.out (HZ.out.grown (gb_trans G.out G1.out)) M1.out).mono ?_; dsimp only; rw [HTT.out]; rintro r u2 ⟨rfl, g2⟩) | go_in)
              go_ret
              exact ⟨by rw [HB.out]; rfl, gb_trans (gb_trans G.out G1.out) g2.out⟩
        · have f2 : (y.k == 2) = false := by simp [h2]
          have HB := Lib.hid (show fitsN n z ac (k + 1) = true by rw [HST.out, HF.out]; unfold readOk; rw [if_neg (fun h => h2 h.1)]; rfl)
          clear HST HBAD h2
          obtain ⟨pl, ak, ob, va, own, rel⟩ := y
          dsimp only at f2 f3 c0 c1 c2 c3 c4 c5
          have G1 := Lib.hid (World.grownBy_alloc wr (.cells #[.int .i64 pl, .int .i64 ak, .int .i64 ob, .int .i64 va, .bool own, .bool rel] 54) none)
          go_wp2
          go_roundw
          case rel => exact ⟨k + 1, by omega, by go_num, HB.out, ((M.out.grown G1.out (by simp)).more (Nat.le_succ _)).congr (fun _ _ _ => by rw [HS.out]), gb_trans G.out G1.out⟩
          case measure => simp [intOf]; omega
    · obtain rfl : k = ac.length := by omega
      go_wp2
      go_ret
      exact ⟨by rw [show fits n z ac = true from HF.out]; rfl, G⟩
end Go.Proofs.Ytdohepenmejcaaa.md
