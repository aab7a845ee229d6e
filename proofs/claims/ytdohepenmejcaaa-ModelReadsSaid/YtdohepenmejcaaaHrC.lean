/- Whether a trace is right: Right itself. -/
import Derived.Test.YtdohepenmejcaaaHrM
import Derived.Test.YtdohepenmejcaaaHrB
namespace Go.Proofs.Ytdohepenmejcaaa.hs
open Go Go.RowKit Go.Proofs.Ytdohepenmejcaaa.base Go.Maps
set_option linter.unusedVariables false
set_option maxRecDepth 100000

set_option maxHeartbeats 2000000 in
theorem right_any (a : Option Addr) (len cap : Nat) (e : Evs) (w : World) (hl : IsEvs w a len e) (hlen : len ≤ 1000000) :
    Calls Try.prog 23 #[.slice a len cap] w fun r w' => r = .returned (.bool (right e len)) ∧ Hid (w.grownBy w' none) := by
  have L := Lib.hid hl
  have HL := Lib.hid hlen
  have GA := Lib.hid (show World.grownBy w (((w.alloc (.map #[] 0)).alloc (.map #[] 0)).alloc (.cells #[.map (some w.heap.size), .map (some (w.heap.size + 1))] 84)) none from (by repeat (first | exact gb_refl _ _ | refine gb_drewN ?_ _ | refine gb_drew ?_ | refine gb_alloc ?_ _)))
  have MA : Hid (MapG Try.prog 3 (Value.int .i64) (((w.alloc (.map #[] 0)).alloc (.map #[] 0)).alloc (.cells #[.map (some w.heap.size), .map (some (w.heap.size + 1))] 84)) w.heap.size 0 (fun th => opnV ((opn e 0 th).map e))) := Lib.hid ((MapG.made w Try.prog 3 (Value.int .i64)).grown (r := none) (by repeat (first | exact gb_refl _ _ | refine gb_drewN ?_ _ | refine gb_drew ?_ | refine gb_alloc ?_ _)) (by simp))
  have MB : Hid (MapG Try.prog 105 two (((w.alloc (.map #[] 0)).alloc (.map #[] 0)).alloc (.cells #[.map (some w.heap.size), .map (some (w.heap.size + 1))] 84)) (w.heap.size + 1) 0 (fun _ => none)) := Lib.hid (by have := (MapG.made (w.alloc (.map #[] 0)) Try.prog 105 two).grown (w' := ((w.alloc (.map #[] 0)).alloc (.map #[] 0)).alloc (.cells #[.map (some w.heap.size), .map (some (w.heap.size + 1))] 84)) (r := none) (by repeat (first | exact gb_refl _ _ | refine gb_drewN ?_ _ | refine gb_drew ?_ | refine gb_alloc ?_ _)) (by simp); rwa [World.size_alloc] at this)
  have BA : Hid (Blk 84 (((w.alloc (.map #[] 0)).alloc (.map #[] 0)).alloc (.cells #[.map (some w.heap.size), .map (some (w.heap.size + 1))] 84)) (w.heap.size + 2) #[.map (some w.heap.size), .map (some (w.heap.size + 1))]) := Lib.hid (by have := Blk.made ((w.alloc (.map #[] 0)).alloc (.map #[] 0)) 84 #[.map (some w.heap.size), .map (some (w.heap.size + 1))]; rwa [World.size_alloc, World.size_alloc] at this)
  clear hl hlen
  have hmm := @run_makeMap Try.prog
  go_enter Try.func23, Try.ntmps23
  go_wp2_with fail
  generalize (((w.alloc (.map #[] 0)).alloc (.map #[] 0)).alloc (.cells #[.map (some w.heap.size), .map (some (w.heap.size + 1))] 84)) = wa at *
  generalize hom : w.heap.size = om at *
  have OM := Lib.hid hom
  clear hom
  go_loopw [11] (fun iv wr => ∃ (k : Nat) (g : Int × Int → Option Value), k ≤ len ∧ iv = .int .i64 k ∧ Hid (right e k = true) ∧ Hid (MapG Try.prog 3 (Value.int .i64) wr om k (fun th => opnV ((opn e k th).map e))) ∧ Hid (MapG Try.prog 105 two wr (om + 1) k g) ∧ Hid (∀ th tx, (g (th, tx)).getD (.int .i64 0) = .int .i64 (cnt e k th tx)) ∧ Hid (Blk 84 wr (om + 2) #[.map (some om), .map (some (om + 1))]) ∧ Hid (w.grownBy wr none)) (fun iv _ => (len - intOf iv).toNat)
  case atStart => exact ⟨0, fun _ => none, by omega, rfl, rfl, MA, MB, fun _ _ => rfl, BA, GA⟩
  case round =>
    obtain ⟨k, g, hk, rfl, HR, M1, M2, C, B, G⟩ := hrel
    have om_lt := M1.out.lt
    have tm_lt := M2.out.lt
    have b_lt := B.out.lt
    by_cases hlt : k < len
    · obtain ⟨b, off, rfl, hb, c0, c1, c2, c3, c4, c5, c6, we⟩ := (L.out.grown G.out).at7 hlt
      have WE := Lib.hid we
      clear we
      have hlt' : (k : Int) < (len : Int) := by omega
      have hlk : (k : Int) < 1000000 := by have := HL.out; omega
      have HM := Lib.hid (may_mayB e k)
      have q0 := B.out.cell 0
      have q1 := B.out.cell 1
      have G1 := Lib.hid (World.grownBy_alloc wr (.cells #[.int .i64 ((e k).k), .int .i64 ((e k).th), .int .i64 ((e k).tx), .int .i64 ((e k).at_), .int .i64 ((e k).ob), .int .i64 ((e k).va), .int .i64 ((e k).re)] 58) none)
      have E1 := Lib.hid (Blk.made wr 58 #[.int .i64 ((e k).k), .int .i64 ((e k).th), .int .i64 ((e k).tx), .int .i64 ((e k).at_), .int .i64 ((e k).ob), .int .i64 ((e k).va), .int .i64 ((e k).re)])
      have BB := Lib.hid B.out
      have CC := Lib.hid C.out
      have OMB := Lib.hid (show om + 2 < wr.heap.size from b_lt)
      clear B C
      cases HY : may e k with
      | true =>
        go_wp2_with (first | (go_at_call 37; refine (may_any om (om + 1) k k _ g (e k) ((opn e k (e k).th).map e) (cnt e k (e k).th (e k).tx) _ WE.out (M1.out.grown G1.out (by simp)) (M2.out.grown G1.out (by simp)) rfl (CC.out _ _)).mono ?_; rw [← HM.out, HY]; rintro r u1 ⟨rfl, g1⟩; have E2 := Lib.hid (E1.out.grown g1.out (by simp)); have B2 := Lib.hid ((BB.out.grown G1.out (by simp)).grown g1.out (by simp)); have p0 := B2.out.cell 0; have p1 := B2.out.cell 1; have r0 := E2.out.cell 0; have r1 := E2.out.cell 1; have r2 := E2.out.cell 2; have r3 := E2.out.cell 3; have r4 := E2.out.cell 4; have r5 := E2.out.cell 5; have r6 := E2.out.cell 6; have N1 := Lib.hid ((M1.out.grown G1.out (by simp)).grown g1.out (by simp)); have N2 := Lib.hid ((M2.out.grown G1.out (by simp)).grown g1.out (by simp))) | (go_at_call 38; refine (enter_any om (om + 1) k k _ g (e k) _ WE.out (by omega) (by unfold maxLen; have := HL.out; omega) (by unfold maxLen; have := HL.out; omega) N1.out N2.out).mono ?_; rintro r u2 ⟨rfl, m1, m2, g2⟩) | go_in)
        go_roundw
        case rel =>
          refine ⟨k + 1, enterG g (e k), by omega, by go_num, Lib.hid (by rw [right, HR.out, HY]; rfl), Lib.hid (m1.out.congr fun x _ _ => (enterF_opn e k x).symm), m2, Lib.hid (fun th tx => enterG_cnt e k g CC.out th tx), Lib.hid (B2.out.keep (g2.out.block _ B2.out.lt (by omega))), Lib.hid ?_⟩
          have g0 := gb_trans (gb_trans G.out G1.out) g1.out
          refine ⟨g2.out.os.trans g0.os, g2.out.tape.trans g0.tape, g2.out.output.trans g0.output, Nat.le_trans g0.size g2.out.size, fun i hi _ => (g2.out.block i (Nat.lt_of_lt_of_le hi g0.size) (by have := OM.out; omega)).trans (g0.block i hi (by simp))⟩
        case measure => simp [intOf]; omega
      | false =>
        go_wp2_with (first | (go_at_call 37; refine (may_any om (om + 1) k k _ g (e k) ((opn e k (e k).th).map e) (cnt e k (e k).th (e k).tx) _ WE.out (M1.out.grown G1.out (by simp)) (M2.out.grown G1.out (by simp)) rfl (CC.out _ _)).mono ?_; rw [← HM.out, HY]; rintro r u1 ⟨rfl, g1⟩; have E2 := Lib.hid (E1.out.grown g1.out (by simp)); have B2 := Lib.hid ((BB.out.grown G1.out (by simp)).grown g1.out (by simp)); have p0 := B2.out.cell 0; have p1 := B2.out.cell 1; have r0 := E2.out.cell 0; have r1 := E2.out.cell 1; have r2 := E2.out.cell 2; have r3 := E2.out.cell 3; have r4 := E2.out.cell 4; have r5 := E2.out.cell 5; have r6 := E2.out.cell 6; have N1 := Lib.hid ((M1.out.grown G1.out (by simp)).grown g1.out (by simp)); have N2 := Lib.hid ((M2.out.grown G1.out (by simp)).grown g1.out (by simp))) | go_in)
        go_ret
        refine ⟨?_, gb_trans (gb_trans G.out G1.out) g1.out⟩
        have hno : right e len = false := by
          cases h : right e len with
          | false => rfl
          | true => rw [right_may e h hlt] at HY; cases HY
        rw [hno]
        rfl
    · obtain rfl : k = len := by omega
      go_wp2
      go_ret
      exact ⟨by rw [HR.out]; rfl, G.out⟩
end Go.Proofs.Ytdohepenmejcaaa.hs
