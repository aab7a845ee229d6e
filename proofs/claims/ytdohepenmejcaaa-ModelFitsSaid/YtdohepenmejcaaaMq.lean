/- The document's own answers of chapter 18: Apply, Fits. -/
import Derived.Test.YtdohepenmejcaaaMa
import Derived.Deep.CutRange
import Derived.Deep.DeepCutAuto
import Derived.Deep.QuietTactic
namespace Go.Proofs.Ytdohepenmejcaaa.md
open Go Go.RowKit Go.Proofs.Ytdohepenmejcaaa.base Go.Proofs.Ytdohepenmejcaaa.hs Go.Proofs.Ytdohepenmejcaaa.lg Go.Maps
set_option linter.unusedVariables false
set_option maxRecDepth 100000

set_option maxHeartbeats 2000000 in
theorem refapply_any (a : Option Addr) (n c : Nat) (z : Nat → Int) (t : Tr) (av : Option Addr) (vc : Nat) (w : World) (hz : IsNums .i64 w a n z) (hl : IsL accC w av t.ac) (hn : n ≤ 100000) (hm : t.ac.length ≤ 100000) :
    Calls Try.prog 17 #[.slice a n c, .agg ⟨trC t (.slice av t.ac.length vc)⟩] w fun r w' => ∃ a' c', r = .returned (.slice a' n c') ∧ Hid (w'.ownsRow w.heap.size 2 1 (.slice a' n c') n (vals (app z t.ac) n)) ∧ Hid (w.grownBy w' none) := by
  have HZ := Lib.hid hz
  have HL := Lib.hid hl
  clear hz hl
  have BT := Lib.hid (Blk.made w 36 #[.int .i64 t.th, .int .i64 t.tx, .int .i64 t.at_, .int .i64 t.st, .int .i64 t.b, .int .i64 t.en, .int .i64 t.re, .bool t.co, .slice av t.ac.length vc])
  have GA := Lib.hid (World.grownBy_alloc w (.cells #[.int .i64 t.th, .int .i64 t.tx, .int .i64 t.at_, .int .i64 t.st, .int .i64 t.b, .int .i64 t.en, .int .i64 t.re, .bool t.co, .slice av t.ac.length vc] 36) none)
  show Calls Try.prog 17 #[.slice a n c, .agg #[.int .i64 t.th, .int .i64 t.tx, .int .i64 t.at_, .int .i64 t.st, .int .i64 t.b, .int .i64 t.en, .int .i64 t.re, .bool t.co, .slice av t.ac.length vc]] w _
  go_enter Try.func17, Try.ntmps17
  go_wp2
  generalize w.alloc _ = w1 at *
  generalize hbt : w.heap.size = bt at *
  go_loopw [5, 6] (fun ov iv wr => ∃ (o : Nat) (b : Option Addr) (k : Nat), o ≤ n ∧ iv = .int .i64 o ∧ ov = .slice b o k ∧ Hid (wr.ownsRow w1.heap.size 2 1 (.slice b o k) o (vals (app z t.ac) o)) ∧ Hid (w1.grownBy wr none)) (fun _ iv _ => (n - intOf iv).toNat)
  case atStart => exact ⟨0, none, 0, by omega, rfl, rfl, World.ownsRow_nil _ _ _ _, gb_refl _ _⟩
  case round =>
    obtain ⟨o, b, kc, ho, rfl, rfl, HR, G⟩ := hrel
    have B1 := Lib.hid (BT.out.grown G.out (by simp))
    have hbl := B1.out.lt
    by_cases hlt : o < n
    · have hlt' : (o : Int) < (n : Int) := by omega
      have ho6 : (o : Int) < 1000000 := by omega
      obtain ⟨zb, zo, rfl, hzb, cz⟩ := ((HZ.out.grown GA.out).grown G.out).at1 hlt
      have q8 := B1.out.at 8 rfl
      go_wp2
      go_loopw [7, 8] (fun vv iv wq => ∃ k : Nat, k ≤ t.ac.length ∧ iv = .int .i64 k ∧ vv = .int .i64 (app z (t.ac.take k) o) ∧ Hid (wr.grownBy wq none)) (fun _ iv _ => (t.ac.length - intOf iv).toNat)
      case atStart => exact ⟨0, by omega, rfl, rfl, gb_refl _ _⟩
      case round =>
        clear q8
        obtain ⟨k, hk, rfl, rfl, GQ⟩ := hrel
        have B2 := Lib.hid (B1.out.grown GQ.out (by simp))
        have hbl2 := B2.out.lt
        have q8 := B2.out.at 8 rfl
        by_cases hkl : k < t.ac.length
        · have hkl' : (k : Int) < (t.ac.length : Int) := by omega
          have hk6 : (k : Int) < 1000000 := by omega
          have hgk := List.getElem?_eq_getElem hkl
          obtain ⟨b1, o1, rfl, hb1, c0, c1, c2, c3, c4, c5⟩ := acc6 (((HL.out.grown GA.out).grown G.out).grown GQ.out) hgk
          have HT := Lib.hid (app_take z hgk)
          generalize t.ac[k] = y at *
          clear hgk
          by_cases h3 : y.k = 3
          · have f3 : (y.k == 3) = true := by simp [h3]
            by_cases h4 : y.ob = (o : Int)
            · have f4 : (y.ob == (o : Int)) = true := by simp [h4]
              have HN := Lib.hid (show app z (t.ac.take (k + 1)) o = y.va by rw [HT.out]; unfold app1; rw [if_pos ⟨h3, h4⟩])
              clear h3 h4
              go_wp2
              go_roundw
              case rel => exact ⟨k + 1, by omega, by go_num, by rw [HN.out], GQ⟩
              case measure => simp [intOf]; omega
            · have f4 : (y.ob == (o : Int)) = false := by simp [h4]
              have HN := Lib.hid (show app z (t.ac.take (k + 1)) o = app z (t.ac.take k) o by rw [HT.out]; unfold app1; rw [if_neg (fun h => h4 h.2)])
              clear h3 h4
              generalize app z (t.ac.take k) o = v at *
              go_wp2
              go_roundw
              case rel => exact ⟨k + 1, by omega, by go_num, by rw [HN.out], GQ⟩
              case measure => simp [intOf]; omega
          · have f3 : (y.k == 3) = false := by simp [h3]
            have HN := Lib.hid (show app z (t.ac.take (k + 1)) o = app z (t.ac.take k) o by rw [HT.out]; unfold app1; rw [if_neg (fun h => h3 h.1)])
            clear h3
            generalize app z (t.ac.take k) o = v at *
            go_wp2
            go_roundw
            case rel => exact ⟨k + 1, by omega, by go_num, by rw [HN.out], GQ⟩
            case measure => simp [intOf]; omega
        · obtain rfl : k = t.ac.length := by omega
          have HRQ := Lib.hid (ownsRow_keep HR.out (fun k e => GQ.out.block k (HR.out.lt k e).2 (by simp)))
          have G2 := Lib.hid (gb_trans G.out GQ.out)
          have HV := Lib.hid (show app z (t.ac.take t.ac.length) o = app z t.ac o by rw [app_all])
          generalize app z (t.ac.take t.ac.length) o = v at *
          have hsz : w1.heap.size ≤ wr.heap.size := Nat.le_trans G.out.size GQ.out.size
          go_wp2_with (at_builtin; go_loud (refine append64 _ rfl (.tmp 49) (.tmp 51) rfl w1.heap.size _ o (vals (app z t.ac) o) rfl (HRQ.out.alloc _) (some ⟨wr.heap.size, 0, none⟩) 1 1 [.int .i64 v] rfl rfl (new_src wr [.int .i64 v] 2 _ rfl) (by intro u hu; simp at hu; subst hu; rfl) (by omega) (by simp; omega) ?_); intro b' c' u2 ho2 hg2 hv2)
          go_roundw
          case rel =>
            refine ⟨o + 1, b', c', by omega, by go_num, rfl, ?_, gb_overO (gb_trans G2.out (World.grownBy_alloc wr _ none)) hg2 (fun i e => (HR.out.lt i e).1)⟩
            · show World.ownsRow _ _ _ _ _ _ _
              rw [vals_succ, ← HV.out]
              exact ho2
          case measure => simp [intOf]; omega
    · obtain rfl : o = n := by omega
      go_wp2
      go_ret
      subst hbt
      exact ⟨b, kc, rfl, ownsRow_drop HR.out (by have := GA.out.size; omega), gb_trans GA.out G.out⟩
end Go.Proofs.Ytdohepenmejcaaa.md
