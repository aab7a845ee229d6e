/-
  KarmaGreater: who has the foe's priority less one, or more, doesn't wait for it at all; for any two sides, and any number of steps to wait.
  Conditions: none (of a foe of a number below 0, and of priorities beyond 1<<40, the law says nothing by itself).
-/
import Derived.Test.YtjcfhpkebehglaaRows
import Derived.Test.YtjcfhpkebehglaaOpen
import Derived.Test.YtjcfhpkebehglaaOpenB
import Derived.Test.YtjcfhpkebehglaaKarma
namespace Go.Proofs.Ytjcfhpkebehglaa.karmaGreater
open Go.ChangeShapes Go.WideShapes Go.ChangeAt Go.RowKit Go.Proofs.Ytjcfhpkebehglaa.base Go.Proofs.Ytjcfhpkebehglaa.ch Go.Proofs.Ytjcfhpkebehglaa.kar
set_option linter.unusedVariables false

theorem walk_out (mi ms mp mq : Int) (mb : Bool) (i st pr q : Int) (b : Bool) (n : Int) (w : World) (h : i < 0 ∨ 1099511627776 < mp ∨ mp < -1099511627776 ∨ 1099511627776 < pr ∨ pr < -1099511627776) :
    Calls Try.prog 6 #[.agg #[.int .i64 mi, .int .i64 ms, .int .i64 mp, .int .i64 mq, .bool mb], .agg #[.int .i64 i, .int .i64 st, .int .i64 pr, .int .i64 q, .bool b], .int .i64 n] w fun e w' => e = .returned (.bool true) ∧ Below w.heap.size w w' := by
  have h' : (i < 0) ∨ (¬ i < 0 ∧ 1099511627776 < mp) ∨ (¬ i < 0 ∧ ¬ 1099511627776 < mp ∧ mp < -1099511627776) ∨ (¬ i < 0 ∧ ¬ 1099511627776 < mp ∧ ¬ mp < -1099511627776 ∧ 1099511627776 < pr) ∨ (¬ i < 0 ∧ ¬ 1099511627776 < mp ∧ ¬ mp < -1099511627776 ∧ ¬ 1099511627776 < pr ∧ pr < -1099511627776) := by omega
  clear h
  rcases h' with h1 | ⟨h1, h2⟩ | ⟨h1, h2, h3⟩ | ⟨h1, h2, h3, h4⟩ | ⟨h1, h2, h3, h4, h5⟩
  all_goals
    go_enter Try.func6, Try.ntmps6
    go_wp2_with fail
    refine (alive_any _).mono ?_
    rintro e v1 ⟨rfl, g1⟩
    have M1 := Lib.hid (((Own.start w).alloc _ _).alloc _ _ |>.grown g1.out)
    simp only [size_alloc] at M1
    have m0 := M1.out.cell 1 0 rfl rfl; have m1 := M1.out.cell 1 1 rfl rfl; have m2 := M1.out.cell 1 2 rfl rfl; have m3 := M1.out.cell 1 3 rfl rfl; have m4 := M1.out.cell 1 4 rfl rfl
    have o0 := M1.out.cell 0 0 rfl rfl; have o1 := M1.out.cell 0 1 rfl rfl; have o2 := M1.out.cell 0 2 rfl rfl; have o3 := M1.out.cell 0 3 rfl rfl; have o4 := M1.out.cell 0 4 rfl rfl
    go_wp2
    go_ret
    exact ⟨rfl, M1.out.below⟩

set_option maxHeartbeats 2000000 in
theorem walk_in1 (mi ms mp mq : Int) (mb : Bool) (i st pr q : Int) (b : Bool) (n : Int) (w : World) (hi : ¬ i < 0) (h1 : ¬ 1099511627776 < mp) (h2 : ¬ mp < -1099511627776) (h3 : ¬ 1099511627776 < pr) (h4 : ¬ pr < -1099511627776) :
    Calls Try.prog 6 #[.agg #[.int .i64 mi, .int .i64 ms, .int .i64 mp, .int .i64 mq, .bool mb], .agg #[.int .i64 i, .int .i64 st, .int .i64 pr, .int .i64 q, .bool b], .int .i64 n] w fun e w' => e = .returned (.bool true) ∧ Below w.heap.size w w' := by
  go_enter Try.func6, Try.ntmps6
  go_wp2_with fail
  refine (alive_any _).mono ?_
  rintro e v1 ⟨rfl, g1⟩
  have M1 := Lib.hid (((Own.start w).alloc _ _).alloc _ _ |>.grown g1.out)
  simp only [size_alloc] at M1
  clear g1
  have zo0 := M1.out.cell 0 0 rfl rfl; have zo1 := M1.out.cell 0 1 rfl rfl; have zo2 := M1.out.cell 0 2 rfl rfl; have zo3 := M1.out.cell 0 3 rfl rfl; have zo4 := M1.out.cell 0 4 rfl rfl; have zm0 := M1.out.cell 1 0 rfl rfl; have zm1 := M1.out.cell 1 1 rfl rfl; have zm2 := M1.out.cell 1 2 rfl rfl; have zm3 := M1.out.cell 1 3 rfl rfl; have zm4 := M1.out.cell 1 4 rfl rfl; have ze1 := World.new_ne v1 _ zo0; have ze2 := World.new_ne v1 _ zm0; have ze5 := new_ne1 v1 _ zo0; have ze6 := new_ne1 v1 _ zm0
  go_upto_region 5 with fail
  go_cut [7, 8] (fun dv xv wc => Mid w (dK mp pr 1) (dN mp pr 1 n) [.int .i64 i, .int .i64 1, .int .i64 0, .int .i64 q, .int .i64 0] [(w.heap.size + 1, 25, [.int .i64 i, .int .i64 st, .int .i64 pr, .int .i64 q, .bool b]), (w.heap.size, 25, [.int .i64 mi, .int .i64 ms, .int .i64 mp, .int .i64 mq, .bool mb])] dv xv wc)
  case first =>
    go_region_held3 (fun w' => w'.cell? ⟨w.heap.size, 0, none⟩ = some (.int .i64 mi) ∧ w'.cell? ⟨w.heap.size, 1, none⟩ = some (.int .i64 ms) ∧ w'.cell? ⟨w.heap.size, 2, none⟩ = some (.int .i64 mp) ∧ w'.cell? ⟨w.heap.size, 3, none⟩ = some (.int .i64 mq) ∧ w'.cell? ⟨w.heap.size, 4, none⟩ = some (.bool mb) ∧ w'.cell? ⟨w.heap.size + 1, 0, none⟩ = some (.int .i64 i) ∧ w'.cell? ⟨w.heap.size + 1, 1, none⟩ = some (.int .i64 st) ∧ w'.cell? ⟨w.heap.size + 1, 2, none⟩ = some (.int .i64 pr) ∧ w'.cell? ⟨w.heap.size + 1, 3, none⟩ = some (.int .i64 q) ∧ w'.cell? ⟨w.heap.size + 1, 4, none⟩ = some (.bool b)) (go_keep) (first | (go_at_call 12; refine (fresh_any _).mono ?_; rintro e v4 ⟨rfl, g4⟩; (first | (have M4 := Lib.hid ((((M1.out.alloc _ _).alloc _ _).drew).grown g4.out)) | (have M4 := Lib.hid (((M1.out.alloc _ _).drew).grown g4.out)) | (have M4 := Lib.hid ((M1.out.drew).grown g4.out))); (try simp only [size_alloc] at M4); clear g4; (first | (have px0 := M4.out.cell 0 0 rfl rfl; have px1 := M4.out.cell 0 1 rfl rfl; have px2 := M4.out.cell 0 2 rfl rfl; have px3 := M4.out.cell 0 3 rfl rfl; have px4 := M4.out.cell 0 4 rfl rfl; have pxf0 := M4.out.free 0 0 rfl; have pxf1 := M4.out.free 0 1 rfl; have pxf2 := M4.out.free 0 2 rfl; have pxf3 := M4.out.free 0 3 rfl; have pxf4 := M4.out.free 0 4 rfl; have pe3 := World.new_ne v4 _ px0; have pe7 := new_ne1 v4 _ px0; have py0 := M4.out.cell 1 0 rfl rfl; have py1 := M4.out.cell 1 1 rfl rfl; have pyf0 := M4.out.free 1 0 rfl; have pyf1 := M4.out.free 1 1 rfl; have pe4 := World.new_ne v4 _ py0; have pe8 := new_ne1 v4 _ py0; have pb0 := M4.out.lt 0 rfl; have pb1 := M4.out.lt 1 rfl; have po0 := M4.out.cell 2 0 rfl rfl; have po1 := M4.out.cell 2 1 rfl rfl; have po2 := M4.out.cell 2 2 rfl rfl; have po3 := M4.out.cell 2 3 rfl rfl; have po4 := M4.out.cell 2 4 rfl rfl; have pm0 := M4.out.cell 3 0 rfl rfl; have pm1 := M4.out.cell 3 1 rfl rfl; have pm2 := M4.out.cell 3 2 rfl rfl; have pm3 := M4.out.cell 3 3 rfl rfl; have pm4 := M4.out.cell 3 4 rfl rfl; have pe1 := World.new_ne v4 _ po0; have pe2 := World.new_ne v4 _ pm0; have pe5 := new_ne1 v4 _ po0; have pe6 := new_ne1 v4 _ pm0) | (have px0 := M4.out.cell 0 0 rfl rfl; have px1 := M4.out.cell 0 1 rfl rfl; have pxf0 := M4.out.free 0 0 rfl; have pxf1 := M4.out.free 0 1 rfl; have pe3 := World.new_ne v4 _ px0; have pe7 := new_ne1 v4 _ px0; have py0 := M4.out.cell 1 0 rfl rfl; have py1 := M4.out.cell 1 1 rfl rfl; have py2 := M4.out.cell 1 2 rfl rfl; have py3 := M4.out.cell 1 3 rfl rfl; have py4 := M4.out.cell 1 4 rfl rfl; have pyf0 := M4.out.free 1 0 rfl; have pyf1 := M4.out.free 1 1 rfl; have pyf2 := M4.out.free 1 2 rfl; have pyf3 := M4.out.free 1 3 rfl; have pyf4 := M4.out.free 1 4 rfl; have pe4 := World.new_ne v4 _ py0; have pe8 := new_ne1 v4 _ py0; have pb0 := M4.out.lt 0 rfl; have pb1 := M4.out.lt 1 rfl; have po0 := M4.out.cell 2 0 rfl rfl; have po1 := M4.out.cell 2 1 rfl rfl; have po2 := M4.out.cell 2 2 rfl rfl; have po3 := M4.out.cell 2 3 rfl rfl; have po4 := M4.out.cell 2 4 rfl rfl; have pm0 := M4.out.cell 3 0 rfl rfl; have pm1 := M4.out.cell 3 1 rfl rfl; have pm2 := M4.out.cell 3 2 rfl rfl; have pm3 := M4.out.cell 3 3 rfl rfl; have pm4 := M4.out.cell 3 4 rfl rfl; have pe1 := World.new_ne v4 _ po0; have pe2 := World.new_ne v4 _ pm0; have pe5 := new_ne1 v4 _ po0; have pe6 := new_ne1 v4 _ pm0) | (have px0 := M4.out.cell 0 0 rfl rfl; have px1 := M4.out.cell 0 1 rfl rfl; have px2 := M4.out.cell 0 2 rfl rfl; have px3 := M4.out.cell 0 3 rfl rfl; have px4 := M4.out.cell 0 4 rfl rfl; have pxf0 := M4.out.free 0 0 rfl; have pxf1 := M4.out.free 0 1 rfl; have pxf2 := M4.out.free 0 2 rfl; have pxf3 := M4.out.free 0 3 rfl; have pxf4 := M4.out.free 0 4 rfl; have pe3 := World.new_ne v4 _ px0; have pe7 := new_ne1 v4 _ px0; have pb0 := M4.out.lt 0 rfl; have po0 := M4.out.cell 1 0 rfl rfl; have po1 := M4.out.cell 1 1 rfl rfl; have po2 := M4.out.cell 1 2 rfl rfl; have po3 := M4.out.cell 1 3 rfl rfl; have po4 := M4.out.cell 1 4 rfl rfl; have pm0 := M4.out.cell 2 0 rfl rfl; have pm1 := M4.out.cell 2 1 rfl rfl; have pm2 := M4.out.cell 2 2 rfl rfl; have pm3 := M4.out.cell 2 3 rfl rfl; have pm4 := M4.out.cell 2 4 rfl rfl; have pe1 := World.new_ne v4 _ po0; have pe2 := World.new_ne v4 _ pm0; have pe5 := new_ne1 v4 _ po0; have pe6 := new_ne1 v4 _ pm0) | (have px0 := M4.out.cell 0 0 rfl rfl; have px1 := M4.out.cell 0 1 rfl rfl; have pxf0 := M4.out.free 0 0 rfl; have pxf1 := M4.out.free 0 1 rfl; have pe3 := World.new_ne v4 _ px0; have pe7 := new_ne1 v4 _ px0; have pb0 := M4.out.lt 0 rfl; have po0 := M4.out.cell 1 0 rfl rfl; have po1 := M4.out.cell 1 1 rfl rfl; have po2 := M4.out.cell 1 2 rfl rfl; have po3 := M4.out.cell 1 3 rfl rfl; have po4 := M4.out.cell 1 4 rfl rfl; have pm0 := M4.out.cell 2 0 rfl rfl; have pm1 := M4.out.cell 2 1 rfl rfl; have pm2 := M4.out.cell 2 2 rfl rfl; have pm3 := M4.out.cell 2 3 rfl rfl; have pm4 := M4.out.cell 2 4 rfl rfl; have pe1 := World.new_ne v4 _ po0; have pe2 := World.new_ne v4 _ pm0; have pe5 := new_ne1 v4 _ po0; have pe6 := new_ne1 v4 _ pm0) | (have po0 := M4.out.cell 0 0 rfl rfl; have po1 := M4.out.cell 0 1 rfl rfl; have po2 := M4.out.cell 0 2 rfl rfl; have po3 := M4.out.cell 0 3 rfl rfl; have po4 := M4.out.cell 0 4 rfl rfl; have pm0 := M4.out.cell 1 0 rfl rfl; have pm1 := M4.out.cell 1 1 rfl rfl; have pm2 := M4.out.cell 1 2 rfl rfl; have pm3 := M4.out.cell 1 3 rfl rfl; have pm4 := M4.out.cell 1 4 rfl rfl; have pe1 := World.new_ne v4 _ po0; have pe2 := World.new_ne v4 _ pm0; have pe5 := new_ne1 v4 _ po0; have pe6 := new_ne1 v4 _ pm0))) | (go_at_call 8; refine (decide_new mi ms mp mq mb i st pr q b 0 n (by omega) (by omega) (by omega) _).mono ?_; rintro e v5 ⟨rfl, g5⟩; (first | (have M5 := Lib.hid (((M4.out.alloc _ _).alloc _ _).grown g5.out)) | (have M5 := Lib.hid ((M4.out.alloc _ _).grown g5.out)) | (have M5 := Lib.hid (M4.out.grown g5.out))); (try simp only [size_alloc] at M5); clear g5; (first | (have rx0 := M5.out.cell 0 0 rfl rfl; have rx1 := M5.out.cell 0 1 rfl rfl; have rx2 := M5.out.cell 0 2 rfl rfl; have rx3 := M5.out.cell 0 3 rfl rfl; have rx4 := M5.out.cell 0 4 rfl rfl; have rxf0 := M5.out.free 0 0 rfl; have rxf1 := M5.out.free 0 1 rfl; have rxf2 := M5.out.free 0 2 rfl; have rxf3 := M5.out.free 0 3 rfl; have rxf4 := M5.out.free 0 4 rfl; have re3 := World.new_ne v5 _ rx0; have re7 := new_ne1 v5 _ rx0; have ry0 := M5.out.cell 1 0 rfl rfl; have ry1 := M5.out.cell 1 1 rfl rfl; have ryf0 := M5.out.free 1 0 rfl; have ryf1 := M5.out.free 1 1 rfl; have re4 := World.new_ne v5 _ ry0; have re8 := new_ne1 v5 _ ry0; have rb0 := M5.out.lt 0 rfl; have rb1 := M5.out.lt 1 rfl; have ro0 := M5.out.cell 2 0 rfl rfl; have ro1 := M5.out.cell 2 1 rfl rfl; have ro2 := M5.out.cell 2 2 rfl rfl; have ro3 := M5.out.cell 2 3 rfl rfl; have ro4 := M5.out.cell 2 4 rfl rfl; have rm0 := M5.out.cell 3 0 rfl rfl; have rm1 := M5.out.cell 3 1 rfl rfl; have rm2 := M5.out.cell 3 2 rfl rfl; have rm3 := M5.out.cell 3 3 rfl rfl; have rm4 := M5.out.cell 3 4 rfl rfl; have re1 := World.new_ne v5 _ ro0; have re2 := World.new_ne v5 _ rm0; have re5 := new_ne1 v5 _ ro0; have re6 := new_ne1 v5 _ rm0) | (have rx0 := M5.out.cell 0 0 rfl rfl; have rx1 := M5.out.cell 0 1 rfl rfl; have rxf0 := M5.out.free 0 0 rfl; have rxf1 := M5.out.free 0 1 rfl; have re3 := World.new_ne v5 _ rx0; have re7 := new_ne1 v5 _ rx0; have ry0 := M5.out.cell 1 0 rfl rfl; have ry1 := M5.out.cell 1 1 rfl rfl; have ry2 := M5.out.cell 1 2 rfl rfl; have ry3 := M5.out.cell 1 3 rfl rfl; have ry4 := M5.out.cell 1 4 rfl rfl; have ryf0 := M5.out.free 1 0 rfl; have ryf1 := M5.out.free 1 1 rfl; have ryf2 := M5.out.free 1 2 rfl; have ryf3 := M5.out.free 1 3 rfl; have ryf4 := M5.out.free 1 4 rfl; have re4 := World.new_ne v5 _ ry0; have re8 := new_ne1 v5 _ ry0; have rb0 := M5.out.lt 0 rfl; have rb1 := M5.out.lt 1 rfl; have ro0 := M5.out.cell 2 0 rfl rfl; have ro1 := M5.out.cell 2 1 rfl rfl; have ro2 := M5.out.cell 2 2 rfl rfl; have ro3 := M5.out.cell 2 3 rfl rfl; have ro4 := M5.out.cell 2 4 rfl rfl; have rm0 := M5.out.cell 3 0 rfl rfl; have rm1 := M5.out.cell 3 1 rfl rfl; have rm2 := M5.out.cell 3 2 rfl rfl; have rm3 := M5.out.cell 3 3 rfl rfl; have rm4 := M5.out.cell 3 4 rfl rfl; have re1 := World.new_ne v5 _ ro0; have re2 := World.new_ne v5 _ rm0; have re5 := new_ne1 v5 _ ro0; have re6 := new_ne1 v5 _ rm0) | (have rx0 := M5.out.cell 0 0 rfl rfl; have rx1 := M5.out.cell 0 1 rfl rfl; have rx2 := M5.out.cell 0 2 rfl rfl; have rx3 := M5.out.cell 0 3 rfl rfl; have rx4 := M5.out.cell 0 4 rfl rfl; have rxf0 := M5.out.free 0 0 rfl; have rxf1 := M5.out.free 0 1 rfl; have rxf2 := M5.out.free 0 2 rfl; have rxf3 := M5.out.free 0 3 rfl; have rxf4 := M5.out.free 0 4 rfl; have re3 := World.new_ne v5 _ rx0; have re7 := new_ne1 v5 _ rx0; have rb0 := M5.out.lt 0 rfl; have ro0 := M5.out.cell 1 0 rfl rfl; have ro1 := M5.out.cell 1 1 rfl rfl; have ro2 := M5.out.cell 1 2 rfl rfl; have ro3 := M5.out.cell 1 3 rfl rfl; have ro4 := M5.out.cell 1 4 rfl rfl; have rm0 := M5.out.cell 2 0 rfl rfl; have rm1 := M5.out.cell 2 1 rfl rfl; have rm2 := M5.out.cell 2 2 rfl rfl; have rm3 := M5.out.cell 2 3 rfl rfl; have rm4 := M5.out.cell 2 4 rfl rfl; have re1 := World.new_ne v5 _ ro0; have re2 := World.new_ne v5 _ rm0; have re5 := new_ne1 v5 _ ro0; have re6 := new_ne1 v5 _ rm0) | (have rx0 := M5.out.cell 0 0 rfl rfl; have rx1 := M5.out.cell 0 1 rfl rfl; have rxf0 := M5.out.free 0 0 rfl; have rxf1 := M5.out.free 0 1 rfl; have re3 := World.new_ne v5 _ rx0; have re7 := new_ne1 v5 _ rx0; have rb0 := M5.out.lt 0 rfl; have ro0 := M5.out.cell 1 0 rfl rfl; have ro1 := M5.out.cell 1 1 rfl rfl; have ro2 := M5.out.cell 1 2 rfl rfl; have ro3 := M5.out.cell 1 3 rfl rfl; have ro4 := M5.out.cell 1 4 rfl rfl; have rm0 := M5.out.cell 2 0 rfl rfl; have rm1 := M5.out.cell 2 1 rfl rfl; have rm2 := M5.out.cell 2 2 rfl rfl; have rm3 := M5.out.cell 2 3 rfl rfl; have rm4 := M5.out.cell 2 4 rfl rfl; have re1 := World.new_ne v5 _ ro0; have re2 := World.new_ne v5 _ rm0; have re5 := new_ne1 v5 _ ro0; have re6 := new_ne1 v5 _ rm0) | (have ro0 := M5.out.cell 0 0 rfl rfl; have ro1 := M5.out.cell 0 1 rfl rfl; have ro2 := M5.out.cell 0 2 rfl rfl; have ro3 := M5.out.cell 0 3 rfl rfl; have ro4 := M5.out.cell 0 4 rfl rfl; have rm0 := M5.out.cell 1 0 rfl rfl; have rm1 := M5.out.cell 1 1 rfl rfl; have rm2 := M5.out.cell 1 2 rfl rfl; have rm3 := M5.out.cell 1 3 rfl rfl; have rm4 := M5.out.cell 1 4 rfl rfl; have re1 := World.new_ne v5 _ ro0; have re2 := World.new_ne v5 _ rm0; have re5 := new_ne1 v5 _ ro0; have re6 := new_ne1 v5 _ rm0))))
    all_goals go_wp2
    all_goals go_meet
    all_goals refine ⟨_, _, rfl, rfl, ?_⟩
    all_goals ((try simp only [size_alloc, size_setCell]); first | (have X := (M5.out.alloc 28 [.int .i64 (dK mp pr 1), .int .i64 (dN mp pr 1 n)]).alloc 23 [.int .i64 i, .int .i64 1, .int .i64 0, .int .i64 q, .int .i64 0]; (try simp only [size_alloc, size_setCell, List.set_cons_zero, List.set_cons_succ] at X); with_reducible exact X) | (have X := ((M5.out.alloc 23 [.int .i64 i, .int .i64 1, .int .i64 0, .int .i64 q, .int .i64 0]).alloc 28 [.int .i64 (dK mp pr 1), .int .i64 (dN mp pr 1 n)]).swap; (try simp only [size_alloc, size_setCell, List.set_cons_zero, List.set_cons_succ] at X); with_reducible exact X) | (have X := Own.alloc ((M5.out.set 0 0 (.int .i64 (dK mp pr 1)) rfl).set 0 1 (.int .i64 (dN mp pr 1 n)) rfl) 23 [.int .i64 i, .int .i64 1, .int .i64 0, .int .i64 q, .int .i64 0]; (try simp only [size_alloc, size_setCell, List.set_cons_zero, List.set_cons_succ] at X); with_reducible exact X) | (have X := ((((((((M5.out.set 1 0 (.int .i64 (dK mp pr 1)) rfl).set 1 1 (.int .i64 (dN mp pr 1 n)) rfl)).set 0 0 (.int .i64 i) rfl).set 0 1 (.int .i64 1) rfl).set 0 2 (.int .i64 0) rfl).set 0 3 (.int .i64 q) rfl).set 0 4 (.int .i64 0) rfl); (try simp only [size_alloc, size_setCell, List.set_cons_zero, List.set_cons_succ] at X); with_reducible exact X) | (have X := (Own.alloc (((((M5.out.set 0 0 (.int .i64 i) rfl).set 0 1 (.int .i64 1) rfl).set 0 2 (.int .i64 0) rfl).set 0 3 (.int .i64 q) rfl).set 0 4 (.int .i64 0) rfl) 28 [.int .i64 (dK mp pr 1), .int .i64 (dN mp pr 1 n)]).swap; (try simp only [size_alloc, size_setCell, List.set_cons_zero, List.set_cons_succ] at X); with_reducible exact X) | (have X := Own.swap ((((((((M5.out.set 0 0 (.int .i64 (dK mp pr 1)) rfl).set 0 1 (.int .i64 (dN mp pr 1 n)) rfl)).set 1 0 (.int .i64 i) rfl).set 1 1 (.int .i64 1) rfl).set 1 2 (.int .i64 0) rfl).set 1 3 (.int .i64 q) rfl).set 1 4 (.int .i64 0) rfl); (try simp only [size_alloc, size_setCell, List.set_cons_zero, List.set_cons_succ] at X); with_reducible exact X))
  case rest =>
    obtain ⟨db, xb, rfl, rfl, M0⟩ := hcut
    have M2 := Lib.hid M0
    clear M0 M1
    by_cases hp : pr - 1 ≤ mp
    · rw [show dK mp pr 1 = 1 by unfold dK; rw [if_pos (by omega)]] at M2
      have x0 := M2.out.cell 0 0 rfl rfl; have x1 := M2.out.cell 0 1 rfl rfl; have x2 := M2.out.cell 0 2 rfl rfl; have x3 := M2.out.cell 0 3 rfl rfl; have x4 := M2.out.cell 0 4 rfl rfl
      have d0 := M2.out.cell 1 0 rfl rfl; have d1 := M2.out.cell 1 1 rfl rfl
      have o0 := M2.out.cell 2 0 rfl rfl; have o1 := M2.out.cell 2 1 rfl rfl; have o2 := M2.out.cell 2 2 rfl rfl; have o3 := M2.out.cell 2 3 rfl rfl; have o4 := M2.out.cell 2 4 rfl rfl
      have m0 := M2.out.cell 3 0 rfl rfl; have m1 := M2.out.cell 3 1 rfl rfl; have m2 := M2.out.cell 3 2 rfl rfl; have m3 := M2.out.cell 3 3 rfl rfl; have m4 := M2.out.cell 3 4 rfl rfl
      go_wp2
      go_ret
      exact ⟨rfl, M2.out.below⟩
    · rw [show dK mp pr 1 = 2 by unfold dK; rw [if_neg (by omega)]] at M2
      have x0 := M2.out.cell 0 0 rfl rfl; have x1 := M2.out.cell 0 1 rfl rfl; have x2 := M2.out.cell 0 2 rfl rfl; have x3 := M2.out.cell 0 3 rfl rfl; have x4 := M2.out.cell 0 4 rfl rfl
      have d0 := M2.out.cell 1 0 rfl rfl; have d1 := M2.out.cell 1 1 rfl rfl
      have o0 := M2.out.cell 2 0 rfl rfl; have o1 := M2.out.cell 2 1 rfl rfl; have o2 := M2.out.cell 2 2 rfl rfl; have o3 := M2.out.cell 2 3 rfl rfl; have o4 := M2.out.cell 2 4 rfl rfl
      have m0 := M2.out.cell 3 0 rfl rfl; have m1 := M2.out.cell 3 1 rfl rfl; have m2 := M2.out.cell 3 2 rfl rfl; have m3 := M2.out.cell 3 3 rfl rfl; have m4 := M2.out.cell 3 4 rfl rfl
      go_wp2
      go_ret
      exact ⟨rfl, M2.out.below⟩

theorem walk (z0 : Nat → Int) (y0 : Nat → Bool) (z1 : Nat → Int) (y1 : Nat → Bool) (a2 : Int) (w : World) (w0 : ∀ i, i < 5 → (Lit.int .i64 (z0 i)).wf = true) (w1 : ∀ i, i < 5 → (Lit.int .i64 (z1 i)).wf = true) (w2 : (Lit.int .i64 a2).wf = true) :
    Calls Try.prog 6 #[.agg #[.int .i64 (z0 0), .int .i64 (z0 1), .int .i64 (z0 2), .int .i64 (z0 3), .bool (y0 4)], .agg #[.int .i64 (z1 0), .int .i64 (z1 1), .int .i64 (z1 2), .int .i64 (z1 3), .bool (y1 4)], .int .i64 a2] w fun e w' => e = .returned (.bool true) ∧ Below w.heap.size w w' := by
  by_cases h : z1 0 < 0 ∨ 1099511627776 < z0 2 ∨ z0 2 < -1099511627776 ∨ 1099511627776 < z1 2 ∨ z1 2 < -1099511627776
  · exact walk_out _ _ _ _ _ _ _ _ _ _ _ w h
  · exact walk_in1 _ _ _ _ _ _ _ _ _ _ _ w (by omega) (by omega) (by omega) (by omega) (by omega)

theorem own : ownKnob Try.prog.godebug = none := by kernel_rfl
theorem laidOut : laidOutB Try.prog = true := by kernel_rfl

/-! ### THE ROW's STEP, as the guide has it -/
set_option maxRecDepth 100000 in
theorem lifted (os : Os) (started : os.Started) (H : Type) (enc : TypeId × Value → H) :
    ReturnsInHanded {} Try.checked os 6 .any (Rows.karmaGreaterSpec.pre6 enc Try.prog Try.f6 Rows.karmaGreaterRow.domain false) (Rows.karmaGreaterSpec.post enc Try.prog Try.f6 false true false false) := by
  refine returnsInHanded_of_change (C := Try.checked) own started (by kernel_rfl) Try.func6
    (ChangeSpec.witness6 (enc := enc) (C := Try.checked) false ⟨#[], #[.agg #[.int .i64 0, .int .i64 0, .int .i64 0, .int .i64 0, .bool false], .agg #[.int .i64 0, .int .i64 0, .int .i64 0, .int .i64 0, .bool false], .int .i64 0], []⟩ 8 (by kernel_rfl) (by kernel_rfl) (by kernel_rfl) (by kernel_rfl)) ?_
  intro W base args ds gs before hval0 hW hcnd _
  have hval : ∀ (j : Nat) t v, Try.f6.params[j]? = some t → args[j]? = some v → Value.okWide Try.prog W .any base t v := hval0
  have hW' := hW
  obtain ⟨p, q, hA0, hV, rfl, hfz, hnd⟩ := hW
  have hA : DataW.TrodAll enc Try.prog W 0 (fun _ => true) true Try.f6.params.toList args.toList ds p := hA0
  rw [Try.params6] at hA hval
  obtain ⟨v0, vs0, d0, ds0, p0, q0, hargs, rfl, rfl, h0, r0⟩ := trodAll_cons hA
  obtain ⟨v1, vs1, d1, ds1, p1, q1, rfl, rfl, rfl, h1, r1⟩ := trodAll_cons r0
  obtain ⟨v2, vs2, d2, ds2, p2, q2, rfl, rfl, rfl, h2, r2⟩ := trodAll_cons r1
  obtain ⟨rfl, rfl, rfl⟩ := trodAll_nil r2
  obtain rfl : args = #[v0, v1, v2] := by cases args; simp_all
  obtain ⟨rfl, rfl⟩ := trodVars_none hV
  obtain ⟨cs0, rfl, sz0⟩ := okWide_struct Try.underlying25 (hval 0 25 v0 rfl rfl)
  have k0 := h0
  have lt0 : ∀ x ∈ p0, x.block < W.heap.size := by obtain ⟨m, hm⟩ := k0; exact DataW.trod_lt m _ _ _ hm
  obtain ⟨z0, y0, w0, rfl⟩ : ∃ (z : Nat → Int) (y : Nat → Bool), (∀ i, i < 5 → (Lit.int .i64 (z i)).wf = true) ∧ cs0 = ⟨(List.range 5).map (mixed (fun j => j == 4) z y)⟩ := by
    obtain ⟨fuel, hf⟩ := h0
    exact isMix_of (fun j => j == 4) Try.underlying25 Try.underlying3 Try.underlying4 (by kernel_rfl) (by kernel_rfl) (sz0.trans (by kernel_rfl)) (by decide) hf
  obtain ⟨cs1, rfl, sz1⟩ := okWide_struct Try.underlying25 (hval 1 25 v1 rfl rfl)
  have k1 := h1
  have lt1 : ∀ x ∈ p1, x.block < W.heap.size := by obtain ⟨m, hm⟩ := k1; exact DataW.trod_lt m _ _ _ hm
  obtain ⟨z1, y1, w1, rfl⟩ : ∃ (z : Nat → Int) (y : Nat → Bool), (∀ i, i < 5 → (Lit.int .i64 (z i)).wf = true) ∧ cs1 = ⟨(List.range 5).map (mixed (fun j => j == 4) z y)⟩ := by
    obtain ⟨fuel, hf⟩ := h1
    exact isMix_of (fun j => j == 4) Try.underlying25 Try.underlying3 Try.underlying4 (by kernel_rfl) (by kernel_rfl) (sz1.trans (by kernel_rfl)) (by decide) hf
  obtain ⟨a2, rfl, rfl, rfl, w2⟩ := open_int Try.underlying3 (hval 2 3 v2 rfl rfl) h2
  clear hA0 hval0
  refine (walk z0 y0 z1 y1 a2 W w0 w1 w2).mono fun e W' ⟨he, bel⟩ => ?_
  subst he
  exact ⟨_, rfl, _, _, _, [], _, [], hW', trodAll_mk1 (shut_bool Try.underlying4 _), (trodAll_cons_mk (Below.trod laidOut (by kernel_rfl) (of_decide_eq_true (by kernel_rfl)) k0 bel lt0) (trodAll_cons_mk (Below.trod laidOut (by kernel_rfl) (of_decide_eq_true (by kernel_rfl)) k1 bel lt1) (trodAll_cons_mk (shut_int Try.underlying3 w2) trodAll_mk0))), rfl, bel.frame _, fun h => by cases h⟩

theorem over : Rows.karmaGreaterRow.holds Try.pinned (OpenSpec.ofChange Rows.karmaGreaterSpec) :=
  OpenClaim.holds_of_wide 6 Try.f6 rfl rfl rfl rfl rfl rfl rfl ⟨rfl, rfl, rfl, rfl, rfl⟩ rfl rfl rfl rfl rfl (by kernel_rfl) Try.func6 (by kernel_rfl)
    (of_decide_eq_true (by kernel_rfl)) (by unfold Func.isWrapper; first | (rw [if_pos (by decide +kernel)]; kernel_rfl) | (rw [if_neg (by decide +kernel)]; exact ⟨rfl, rfl⟩))
    (fun os started H enc _ => lifted os started H enc)

theorem proved : Rows.KarmaGreaterSaid := over
#print axioms proved
end Go.Proofs.Ytjcfhpkebehglaa.karmaGreater
