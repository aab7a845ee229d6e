/-
  StampElder: the elder one of two aborts the other one at once, whatever it remembers, and of two with one stamp neither does; for any state, any two sides, and any wait.
  Conditions: none (of a foe of a number below 0 the law says nothing by itself).
-/
import Derived.Test.YtppbbdpdfaemfaaRows
import Derived.Test.YtppbbdpdfaemfaaOpen
import Derived.Test.YtppbbdpdfaemfaaOpenB
import Derived.Test.YtppbbdpdfaemfaaStamp
namespace Go.Proofs.Ytppbbdpdfaemfaa.stampElder
open Go.ChangeShapes Go.WideShapes Go.ChangeAt Go.RowKit Go.Proofs.Ytppbbdpdfaemfaa.base Go.Proofs.Ytppbbdpdfaemfaa.ch Go.Proofs.Ytppbbdpdfaemfaa.sta
set_option linter.unusedVariables false

theorem walk_out (f t y p l mi ms mp mq : Int) (mb : Bool) (i st pr q : Int) (b : Bool) (a3 : Int) (w : World) (h : i < 0) :
    Calls Try.prog 6 #[.agg #[.int .i64 f, .int .i64 t, .int .i64 y, .int .i64 p, .int .i64 l], .agg #[.int .i64 mi, .int .i64 ms, .int .i64 mp, .int .i64 mq, .bool mb], .agg #[.int .i64 i, .int .i64 st, .int .i64 pr, .int .i64 q, .bool b], .int .u8 a3] w fun e w' => e = .returned (.bool true) ∧ Below w.heap.size w w' := by
  go_enter Try.func6, Try.ntmps6
  go_wp2_with fail
  refine (alive_any _).mono ?_
  rintro e v1 ⟨rfl, g1⟩
  have M1 := Lib.hid ((((Own.start w).alloc _ _).alloc _ _).alloc _ _ |>.grown g1.out)
  simp only [size_alloc] at M1
  have o0 := M1.out.cell 0 0 rfl rfl; have o1 := M1.out.cell 0 1 rfl rfl; have o2 := M1.out.cell 0 2 rfl rfl; have o3 := M1.out.cell 0 3 rfl rfl; have o4 := M1.out.cell 0 4 rfl rfl
  go_wp2
  go_ret
  exact ⟨rfl, M1.out.below⟩

theorem walk_elder (f t y p l mi ms mp mq : Int) (mb : Bool) (i st pr q : Int) (b : Bool) (a3 : Int) (w : World) (lo : -9223372036854775808 ≤ t) (l3 : 0 ≤ a3) (u3 : a3 ≤ 255) (hi : ¬ i < 0) (h : ms < st) :
    Calls Try.prog 6 #[.agg #[.int .i64 f, .int .i64 t, .int .i64 y, .int .i64 p, .int .i64 l], .agg #[.int .i64 mi, .int .i64 ms, .int .i64 mp, .int .i64 mq, .bool mb], .agg #[.int .i64 i, .int .i64 st, .int .i64 pr, .int .i64 q, .bool b], .int .u8 a3] w fun e w' => e = .returned (.bool true) ∧ Below w.heap.size w w' := by
  go_enter Try.func6, Try.ntmps6
  go_wp2_with fail
  refine (alive_any _).mono ?_
  rintro e v1 ⟨rfl, g1⟩
  have M1 := Lib.hid ((((Own.start w).alloc _ _).alloc _ _).alloc _ _ |>.grown g1.out)
  simp only [size_alloc] at M1
  clear g1
  have s0 := M1.out.cell 2 0 rfl rfl; have s1 := M1.out.cell 2 1 rfl rfl; have s2 := M1.out.cell 2 2 rfl rfl; have s3 := M1.out.cell 2 3 rfl rfl; have s4 := M1.out.cell 2 4 rfl rfl
  have m0 := M1.out.cell 1 0 rfl rfl; have m1 := M1.out.cell 1 1 rfl rfl; have m2 := M1.out.cell 1 2 rfl rfl; have m3 := M1.out.cell 1 3 rfl rfl; have m4 := M1.out.cell 1 4 rfl rfl
  have o0 := M1.out.cell 0 0 rfl rfl; have o1 := M1.out.cell 0 1 rfl rfl; have o2 := M1.out.cell 0 2 rfl rfl; have o3 := M1.out.cell 0 3 rfl rfl; have o4 := M1.out.cell 0 4 rfl rfl
  go_wp2_with fail
  refine (decide_any f t y p l mi ms mp mq mb i st pr q b 0 (1 + a3 % 64) lo (by omega) (by omega) _).mono ?_
  rintro e v2 ⟨rfl, g2⟩
  rw [show dK ms st (mT f i t) y = 1 by simp [dK, h], show dN ms st (mT f i t) (1 + a3 % 64) = 0 by simp [dN, h]]
  clear s0 s1 s2 s3 s4 m0 m1 m2 m3 m4 o0 o1 o2 o3 o4
  have M2 := Lib.hid (((M1.out.grown g2.out).alloc 28 [.int .i64 1, .int .i64 0]).alloc 23 [.int .i64 i, .int .i64 (mT f i t), .int .i64 (dY ms st (mT f i t) y), .int .i64 (mP f i p q), .int .i64 (mL f i l)])
  simp only [size_alloc] at M2
  clear g2 M1
  have d0 := M2.out.cell 1 0 rfl rfl; have d1 := M2.out.cell 1 1 rfl rfl
  have o0 := M2.out.cell 2 0 rfl rfl; have o1 := M2.out.cell 2 1 rfl rfl; have o2 := M2.out.cell 2 2 rfl rfl; have o3 := M2.out.cell 2 3 rfl rfl; have o4 := M2.out.cell 2 4 rfl rfl
  have m0 := M2.out.cell 3 0 rfl rfl; have m1 := M2.out.cell 3 1 rfl rfl; have m2 := M2.out.cell 3 2 rfl rfl; have m3 := M2.out.cell 3 3 rfl rfl; have m4 := M2.out.cell 3 4 rfl rfl
  go_wp2
  go_ret
  exact ⟨rfl, M2.out.below⟩

set_option maxHeartbeats 2000000 in
theorem walk_younger (f t y p l mi ms mp mq : Int) (mb : Bool) (i st pr q : Int) (b : Bool) (a3 : Int) (w : World) (lo : -9223372036854775808 ≤ t) (l3 : 0 ≤ a3) (u3 : a3 ≤ 255) (hi : ¬ i < 0) (h : ¬ ms < st) :
    Calls Try.prog 6 #[.agg #[.int .i64 f, .int .i64 t, .int .i64 y, .int .i64 p, .int .i64 l], .agg #[.int .i64 mi, .int .i64 ms, .int .i64 mp, .int .i64 mq, .bool mb], .agg #[.int .i64 i, .int .i64 st, .int .i64 pr, .int .i64 q, .bool b], .int .u8 a3] w fun e w' => e = .returned (.bool true) ∧ Below w.heap.size w w' := by
  go_enter Try.func6, Try.ntmps6
  go_wp2_with fail
  refine (alive_any _).mono ?_
  rintro e v1 ⟨rfl, g1⟩
  have M1 := Lib.hid ((((Own.start w).alloc _ _).alloc _ _).alloc _ _ |>.grown g1.out)
  simp only [size_alloc] at M1
  clear g1
  have s0 := M1.out.cell 2 0 rfl rfl; have s1 := M1.out.cell 2 1 rfl rfl; have s2 := M1.out.cell 2 2 rfl rfl; have s3 := M1.out.cell 2 3 rfl rfl; have s4 := M1.out.cell 2 4 rfl rfl
  have m0 := M1.out.cell 1 0 rfl rfl; have m1 := M1.out.cell 1 1 rfl rfl; have m2 := M1.out.cell 1 2 rfl rfl; have m3 := M1.out.cell 1 3 rfl rfl; have m4 := M1.out.cell 1 4 rfl rfl
  have o0 := M1.out.cell 0 0 rfl rfl; have o1 := M1.out.cell 0 1 rfl rfl; have o2 := M1.out.cell 0 2 rfl rfl; have o3 := M1.out.cell 0 3 rfl rfl; have o4 := M1.out.cell 0 4 rfl rfl
  go_wp2_with fail
  refine (decide_any f t y p l mi ms mp mq mb i st pr q b 0 (1 + a3 % 64) lo (by omega) (by omega) _).mono ?_
  rintro e v2 ⟨rfl, g2⟩
  clear s0 s1 s2 s3 s4 m0 m1 m2 m3 m4 o0 o1 o2 o3 o4
  have M2 := Lib.hid ((((M1.out.grown g2.out).alloc 28 [.int .i64 (dK ms st (mT f i t) y), .int .i64 (dN ms st (mT f i t) (1 + a3 % 64))]).alloc 23 [.int .i64 i, .int .i64 (mT f i t), .int .i64 (dY ms st (mT f i t) y), .int .i64 (mP f i p q), .int .i64 (mL f i l)]).drop (List.Sublist.cons _ (List.Sublist.cons _ (List.Sublist.cons_cons _ (List.Sublist.cons_cons _ (List.Sublist.cons _ (List.Sublist.refl _)))))))
  have o0 := M2.out.cell 0 0 rfl rfl; have o1 := M2.out.cell 0 1 rfl rfl; have o2 := M2.out.cell 0 2 rfl rfl; have o3 := M2.out.cell 0 3 rfl rfl; have o4 := M2.out.cell 0 4 rfl rfl
  have m0 := M2.out.cell 1 0 rfl rfl; have m1 := M2.out.cell 1 1 rfl rfl; have m2 := M2.out.cell 1 2 rfl rfl; have m3 := M2.out.cell 1 3 rfl rfl; have m4 := M2.out.cell 1 4 rfl rfl
  go_upto_region 9 with fail
  generalize (v2.alloc (.cells #[.int .i64 (dK ms st (mT f i t) y), .int .i64 (dN ms st (mT f i t) (1 + a3 % 64))] 28)).alloc (.cells #[.int .i64 i, .int .i64 (mT f i t), .int .i64 (dY ms st (mT f i t) y), .int .i64 (mP f i p q), .int .i64 (mL f i l)] 23) = v3 at *
  clear o0 o1 o2 o3 o4 m0 m1 m2 m3 m4 M1
  generalize w.heap.size + 1 = bm at *
  generalize bm + 1 = bo at *
  go_cut [12, 13] (fun dv xv wc => Mid w 2 (dN ms st 1 (1 + a3 % 64)) [.int .i64 i, .int .i64 1, .int .i64 0, .int .i64 q, .int .i64 0] [(bo, 25, [.int .i64 i, .int .i64 st, .int .i64 pr, .int .i64 q, .bool b]), (bm, 25, [.int .i64 mi, .int .i64 ms, .int .i64 mp, .int .i64 mq, .bool mb])] dv xv wc)
  case first =>
    have zo0 := M2.out.cell 0 0 rfl rfl; have zo1 := M2.out.cell 0 1 rfl rfl; have zo2 := M2.out.cell 0 2 rfl rfl; have zo3 := M2.out.cell 0 3 rfl rfl; have zo4 := M2.out.cell 0 4 rfl rfl; have zm0 := M2.out.cell 1 0 rfl rfl; have zm1 := M2.out.cell 1 1 rfl rfl; have zm2 := M2.out.cell 1 2 rfl rfl; have zm3 := M2.out.cell 1 3 rfl rfl; have zm4 := M2.out.cell 1 4 rfl rfl; have ze1 := World.new_ne v3 _ zo0; have ze2 := World.new_ne v3 _ zm0; have ze5 := new_ne1 v3 _ zo0; have ze6 := new_ne1 v3 _ zm0
    have D := fun u => decide_new mi ms mp mq mb i st pr q b 0 (1 + a3 % 64) (by omega) (by omega) (by omega) u
    rw [show dK ms st 1 0 = 2 by unfold dK; rw [if_neg (by omega), if_pos (by omega)]] at D
    have HD := Lib.hid D
    clear D
    go_region_held3 (fun w' => w'.cell? ⟨bm, 0, none⟩ = some (.int .i64 mi) ∧ w'.cell? ⟨bm, 1, none⟩ = some (.int .i64 ms) ∧ w'.cell? ⟨bm, 2, none⟩ = some (.int .i64 mp) ∧ w'.cell? ⟨bm, 3, none⟩ = some (.int .i64 mq) ∧ w'.cell? ⟨bm, 4, none⟩ = some (.bool mb) ∧ w'.cell? ⟨bo, 0, none⟩ = some (.int .i64 i) ∧ w'.cell? ⟨bo, 1, none⟩ = some (.int .i64 st) ∧ w'.cell? ⟨bo, 2, none⟩ = some (.int .i64 pr) ∧ w'.cell? ⟨bo, 3, none⟩ = some (.int .i64 q) ∧ w'.cell? ⟨bo, 4, none⟩ = some (.bool b)) (go_keep) (first | (go_at_call 12; refine (fresh_any _).mono ?_; rintro e v4 ⟨rfl, g4⟩; (first | (have M4 := Lib.hid ((((M2.out.alloc _ _).alloc _ _).drew).grown g4.out)) | (have M4 := Lib.hid (((M2.out.alloc _ _).drew).grown g4.out)) | (have M4 := Lib.hid ((M2.out.drew).grown g4.out))); (try simp only [size_alloc] at M4); clear g4; (first | (have px0 := M4.out.cell 0 0 rfl rfl; have px1 := M4.out.cell 0 1 rfl rfl; have px2 := M4.out.cell 0 2 rfl rfl; have px3 := M4.out.cell 0 3 rfl rfl; have px4 := M4.out.cell 0 4 rfl rfl; have pxf0 := M4.out.free 0 0 rfl; have pxf1 := M4.out.free 0 1 rfl; have pxf2 := M4.out.free 0 2 rfl; have pxf3 := M4.out.free 0 3 rfl; have pxf4 := M4.out.free 0 4 rfl; have pe3 := World.new_ne v4 _ px0; have pe7 := new_ne1 v4 _ px0; have py0 := M4.out.cell 1 0 rfl rfl; have py1 := M4.out.cell 1 1 rfl rfl; have pyf0 := M4.out.free 1 0 rfl; have pyf1 := M4.out.free 1 1 rfl; have pe4 := World.new_ne v4 _ py0; have pe8 := new_ne1 v4 _ py0; have pb0 := M4.out.lt 0 rfl; have pb1 := M4.out.lt 1 rfl; have po0 := M4.out.cell 2 0 rfl rfl; have po1 := M4.out.cell 2 1 rfl rfl; have po2 := M4.out.cell 2 2 rfl rfl; have po3 := M4.out.cell 2 3 rfl rfl; have po4 := M4.out.cell 2 4 rfl rfl; have pm0 := M4.out.cell 3 0 rfl rfl; have pm1 := M4.out.cell 3 1 rfl rfl; have pm2 := M4.out.cell 3 2 rfl rfl; have pm3 := M4.out.cell 3 3 rfl rfl; have pm4 := M4.out.cell 3 4 rfl rfl; have pe1 := World.new_ne v4 _ po0; have pe2 := World.new_ne v4 _ pm0; have pe5 := new_ne1 v4 _ po0; have pe6 := new_ne1 v4 _ pm0) | (have px0 := M4.out.cell 0 0 rfl rfl; have px1 := M4.out.cell 0 1 rfl rfl; have pxf0 := M4.out.free 0 0 rfl; have pxf1 := M4.out.free 0 1 rfl; have pe3 := World.new_ne v4 _ px0; have pe7 := new_ne1 v4 _ px0; have py0 := M4.out.cell 1 0 rfl rfl; have py1 := M4.out.cell 1 1 rfl rfl; have py2 := M4.out.cell 1 2 rfl rfl; have py3 := M4.out.cell 1 3 rfl rfl; have py4 := M4.out.cell 1 4 rfl rfl; have pyf0 := M4.out.free 1 0 rfl; have pyf1 := M4.out.free 1 1 rfl; have pyf2 := M4.out.free 1 2 rfl; have pyf3 := M4.out.free 1 3 rfl; have pyf4 := M4.out.free 1 4 rfl; have pe4 := World.new_ne v4 _ py0; have pe8 := new_ne1 v4 _ py0; have pb0 := M4.out.lt 0 rfl; have pb1 := M4.out.lt 1 rfl; have po0 := M4.out.cell 2 0 rfl rfl; have po1 := M4.out.cell 2 1 rfl rfl; have po2 := M4.out.cell 2 2 rfl rfl; have po3 := M4.out.cell 2 3 rfl rfl; have po4 := M4.out.cell 2 4 rfl rfl; have pm0 := M4.out.cell 3 0 rfl rfl; have pm1 := M4.out.cell 3 1 rfl rfl; have pm2 := M4.out.cell 3 2 rfl rfl; have pm3 := M4.out.cell 3 3 rfl rfl; have pm4 := M4.out.cell 3 4 rfl rfl; have pe1 := World.new_ne v4 _ po0; have pe2 := World.new_ne v4 _ pm0; have pe5 := new_ne1 v4 _ po0; have pe6 := new_ne1 v4 _ pm0) | (have px0 := M4.out.cell 0 0 rfl rfl; have px1 := M4.out.cell 0 1 rfl rfl; have px2 := M4.out.cell 0 2 rfl rfl; have px3 := M4.out.cell 0 3 rfl rfl; have px4 := M4.out.cell 0 4 rfl rfl; have pxf0 := M4.out.free 0 0 rfl; have pxf1 := M4.out.free 0 1 rfl; have pxf2 := M4.out.free 0 2 rfl; have pxf3 := M4.out.free 0 3 rfl; have pxf4 := M4.out.free 0 4 rfl; have pe3 := World.new_ne v4 _ px0; have pe7 := new_ne1 v4 _ px0; have pb0 := M4.out.lt 0 rfl; have po0 := M4.out.cell 1 0 rfl rfl; have po1 := M4.out.cell 1 1 rfl rfl; have po2 := M4.out.cell 1 2 rfl rfl; have po3 := M4.out.cell 1 3 rfl rfl; have po4 := M4.out.cell 1 4 rfl rfl; have pm0 := M4.out.cell 2 0 rfl rfl; have pm1 := M4.out.cell 2 1 rfl rfl; have pm2 := M4.out.cell 2 2 rfl rfl; have pm3 := M4.out.cell 2 3 rfl rfl; have pm4 := M4.out.cell 2 4 rfl rfl; have pe1 := World.new_ne v4 _ po0; have pe2 := World.new_ne v4 _ pm0; have pe5 := new_ne1 v4 _ po0; have pe6 := new_ne1 v4 _ pm0) | (have px0 := M4.out.cell 0 0 rfl rfl; have px1 := M4.out.cell 0 1 rfl rfl; have pxf0 := M4.out.free 0 0 rfl; have pxf1 := M4.out.free 0 1 rfl; have pe3 := World.new_ne v4 _ px0; have pe7 := new_ne1 v4 _ px0; have pb0 := M4.out.lt 0 rfl; have po0 := M4.out.cell 1 0 rfl rfl; have po1 := M4.out.cell 1 1 rfl rfl; have po2 := M4.out.cell 1 2 rfl rfl; have po3 := M4.out.cell 1 3 rfl rfl; have po4 := M4.out.cell 1 4 rfl rfl; have pm0 := M4.out.cell 2 0 rfl rfl; have pm1 := M4.out.cell 2 1 rfl rfl; have pm2 := M4.out.cell 2 2 rfl rfl; have pm3 := M4.out.cell 2 3 rfl rfl; have pm4 := M4.out.cell 2 4 rfl rfl; have pe1 := World.new_ne v4 _ po0; have pe2 := World.new_ne v4 _ pm0; have pe5 := new_ne1 v4 _ po0; have pe6 := new_ne1 v4 _ pm0) | (have po0 := M4.out.cell 0 0 rfl rfl; have po1 := M4.out.cell 0 1 rfl rfl; have po2 := M4.out.cell 0 2 rfl rfl; have po3 := M4.out.cell 0 3 rfl rfl; have po4 := M4.out.cell 0 4 rfl rfl; have pm0 := M4.out.cell 1 0 rfl rfl; have pm1 := M4.out.cell 1 1 rfl rfl; have pm2 := M4.out.cell 1 2 rfl rfl; have pm3 := M4.out.cell 1 3 rfl rfl; have pm4 := M4.out.cell 1 4 rfl rfl; have pe1 := World.new_ne v4 _ po0; have pe2 := World.new_ne v4 _ pm0; have pe5 := new_ne1 v4 _ po0; have pe6 := new_ne1 v4 _ pm0))) | (go_at_call 8; refine (HD.out _).mono ?_; rintro e v5 ⟨rfl, g5⟩; (first | (have M5 := Lib.hid (((M4.out.alloc _ _).alloc _ _).grown g5.out)) | (have M5 := Lib.hid ((M4.out.alloc _ _).grown g5.out)) | (have M5 := Lib.hid (M4.out.grown g5.out))); (try simp only [size_alloc] at M5); clear g5; (first | (have rx0 := M5.out.cell 0 0 rfl rfl; have rx1 := M5.out.cell 0 1 rfl rfl; have rx2 := M5.out.cell 0 2 rfl rfl; have rx3 := M5.out.cell 0 3 rfl rfl; have rx4 := M5.out.cell 0 4 rfl rfl; have rxf0 := M5.out.free 0 0 rfl; have rxf1 := M5.out.free 0 1 rfl; have rxf2 := M5.out.free 0 2 rfl; have rxf3 := M5.out.free 0 3 rfl; have rxf4 := M5.out.free 0 4 rfl; have re3 := World.new_ne v5 _ rx0; have re7 := new_ne1 v5 _ rx0; have ry0 := M5.out.cell 1 0 rfl rfl; have ry1 := M5.out.cell 1 1 rfl rfl; have ryf0 := M5.out.free 1 0 rfl; have ryf1 := M5.out.free 1 1 rfl; have re4 := World.new_ne v5 _ ry0; have re8 := new_ne1 v5 _ ry0; have rb0 := M5.out.lt 0 rfl; have rb1 := M5.out.lt 1 rfl; have ro0 := M5.out.cell 2 0 rfl rfl; have ro1 := M5.out.cell 2 1 rfl rfl; have ro2 := M5.out.cell 2 2 rfl rfl; have ro3 := M5.out.cell 2 3 rfl rfl; have ro4 := M5.out.cell 2 4 rfl rfl; have rm0 := M5.out.cell 3 0 rfl rfl; have rm1 := M5.out.cell 3 1 rfl rfl; have rm2 := M5.out.cell 3 2 rfl rfl; have rm3 := M5.out.cell 3 3 rfl rfl; have rm4 := M5.out.cell 3 4 rfl rfl; have re1 := World.new_ne v5 _ ro0; have re2 := World.new_ne v5 _ rm0; have re5 := new_ne1 v5 _ ro0; have re6 := new_ne1 v5 _ rm0) | (have rx0 := M5.out.cell 0 0 rfl rfl; have rx1 := M5.out.cell 0 1 rfl rfl; have rxf0 := M5.out.free 0 0 rfl; have rxf1 := M5.out.free 0 1 rfl; have re3 := World.new_ne v5 _ rx0; have re7 := new_ne1 v5 _ rx0; have ry0 := M5.out.cell 1 0 rfl rfl; have ry1 := M5.out.cell 1 1 rfl rfl; have ry2 := M5.out.cell 1 2 rfl rfl; have ry3 := M5.out.cell 1 3 rfl rfl; have ry4 := M5.out.cell 1 4 rfl rfl; have ryf0 := M5.out.free 1 0 rfl; have ryf1 := M5.out.free 1 1 rfl; have ryf2 := M5.out.free 1 2 rfl; have ryf3 := M5.out.free 1 3 rfl; have ryf4 := M5.out.free 1 4 rfl; have re4 := World.new_ne v5 _ ry0; have re8 := new_ne1 v5 _ ry0; have rb0 := M5.out.lt 0 rfl; have rb1 := M5.out.lt 1 rfl; have ro0 := M5.out.cell 2 0 rfl rfl; have ro1 := M5.out.cell 2 1 rfl rfl; have ro2 := M5.out.cell 2 2 rfl rfl; have ro3 := M5.out.cell 2 3 rfl rfl; have ro4 := M5.out.cell 2 4 rfl rfl; have rm0 := M5.out.cell 3 0 rfl rfl; have rm1 := M5.out.cell 3 1 rfl rfl; have rm2 := M5.out.cell 3 2 rfl rfl; have rm3 := M5.out.cell 3 3 rfl rfl; have rm4 := M5.out.cell 3 4 rfl rfl; have re1 := World.new_ne v5 _ ro0; have re2 := World.new_ne v5 _ rm0; have re5 := new_ne1 v5 _ ro0; have re6 := new_ne1 v5 _ rm0) | (have rx0 := M5.out.cell 0 0 rfl rfl; have rx1 := M5.out.cell 0 1 rfl rfl; have rx2 := M5.out.cell 0 2 rfl rfl; have rx3 := M5.out.cell 0 3 rfl rfl; have rx4 := M5.out.cell 0 4 rfl rfl; have rxf0 := M5.out.free 0 0 rfl; have rxf1 := M5.out.free 0 1 rfl; have rxf2 := M5.out.free 0 2 rfl; have rxf3 := M5.out.free 0 3 rfl; have rxf4 := M5.out.free 0 4 rfl; have re3 := World.new_ne v5 _ rx0; have re7 := new_ne1 v5 _ rx0; have rb0 := M5.out.lt 0 rfl; have ro0 := M5.out.cell 1 0 rfl rfl; have ro1 := M5.out.cell 1 1 rfl rfl; have ro2 := M5.out.cell 1 2 rfl rfl; have ro3 := M5.out.cell 1 3 rfl rfl; have ro4 := M5.out.cell 1 4 rfl rfl; have rm0 := M5.out.cell 2 0 rfl rfl; have rm1 := M5.out.cell 2 1 rfl rfl; have rm2 := M5.out.cell 2 2 rfl rfl; have rm3 := M5.out.cell 2 3 rfl rfl; have rm4 := M5.out.cell 2 4 rfl rfl; have re1 := World.new_ne v5 _ ro0; have re2 := World.new_ne v5 _ rm0; have re5 := new_ne1 v5 _ ro0; have re6 := new_ne1 v5 _ rm0) | (have rx0 := M5.out.cell 0 0 rfl rfl; have rx1 := M5.out.cell 0 1 rfl rfl; have rxf0 := M5.out.free 0 0 rfl; have rxf1 := M5.out.free 0 1 rfl; have re3 := World.new_ne v5 _ rx0; have re7 := new_ne1 v5 _ rx0; have rb0 := M5.out.lt 0 rfl; have ro0 := M5.out.cell 1 0 rfl rfl; have ro1 := M5.out.cell 1 1 rfl rfl; have ro2 := M5.out.cell 1 2 rfl rfl; have ro3 := M5.out.cell 1 3 rfl rfl; have ro4 := M5.out.cell 1 4 rfl rfl; have rm0 := M5.out.cell 2 0 rfl rfl; have rm1 := M5.out.cell 2 1 rfl rfl; have rm2 := M5.out.cell 2 2 rfl rfl; have rm3 := M5.out.cell 2 3 rfl rfl; have rm4 := M5.out.cell 2 4 rfl rfl; have re1 := World.new_ne v5 _ ro0; have re2 := World.new_ne v5 _ rm0; have re5 := new_ne1 v5 _ ro0; have re6 := new_ne1 v5 _ rm0) | (have ro0 := M5.out.cell 0 0 rfl rfl; have ro1 := M5.out.cell 0 1 rfl rfl; have ro2 := M5.out.cell 0 2 rfl rfl; have ro3 := M5.out.cell 0 3 rfl rfl; have ro4 := M5.out.cell 0 4 rfl rfl; have rm0 := M5.out.cell 1 0 rfl rfl; have rm1 := M5.out.cell 1 1 rfl rfl; have rm2 := M5.out.cell 1 2 rfl rfl; have rm3 := M5.out.cell 1 3 rfl rfl; have rm4 := M5.out.cell 1 4 rfl rfl; have re1 := World.new_ne v5 _ ro0; have re2 := World.new_ne v5 _ rm0; have re5 := new_ne1 v5 _ ro0; have re6 := new_ne1 v5 _ rm0))))
    all_goals go_wp2
    all_goals go_meet
    all_goals refine ⟨_, _, rfl, rfl, ?_⟩
    all_goals ((try simp only [size_alloc, size_setCell]); first | (have X := (M5.out.alloc 28 [.int .i64 2, .int .i64 (dN ms st 1 (1 + a3 % 64))]).alloc 23 [.int .i64 i, .int .i64 1, .int .i64 0, .int .i64 q, .int .i64 0]; (try simp only [size_alloc, size_setCell, List.set_cons_zero, List.set_cons_succ] at X); with_reducible exact X) | (have X := ((M5.out.alloc 23 [.int .i64 i, .int .i64 1, .int .i64 0, .int .i64 q, .int .i64 0]).alloc 28 [.int .i64 2, .int .i64 (dN ms st 1 (1 + a3 % 64))]).swap; (try simp only [size_alloc, size_setCell, List.set_cons_zero, List.set_cons_succ] at X); with_reducible exact X) | (have X := Own.alloc ((M5.out.set 0 0 (.int .i64 2) rfl).set 0 1 (.int .i64 (dN ms st 1 (1 + a3 % 64))) rfl) 23 [.int .i64 i, .int .i64 1, .int .i64 0, .int .i64 q, .int .i64 0]; (try simp only [size_alloc, size_setCell, List.set_cons_zero, List.set_cons_succ] at X); with_reducible exact X) | (have X := ((((((((M5.out.set 1 0 (.int .i64 2) rfl).set 1 1 (.int .i64 (dN ms st 1 (1 + a3 % 64))) rfl)).set 0 0 (.int .i64 i) rfl).set 0 1 (.int .i64 1) rfl).set 0 2 (.int .i64 0) rfl).set 0 3 (.int .i64 q) rfl).set 0 4 (.int .i64 0) rfl); (try simp only [size_alloc, size_setCell, List.set_cons_zero, List.set_cons_succ] at X); with_reducible exact X) | (have X := (Own.alloc (((((M5.out.set 0 0 (.int .i64 i) rfl).set 0 1 (.int .i64 1) rfl).set 0 2 (.int .i64 0) rfl).set 0 3 (.int .i64 q) rfl).set 0 4 (.int .i64 0) rfl) 28 [.int .i64 2, .int .i64 (dN ms st 1 (1 + a3 % 64))]).swap; (try simp only [size_alloc, size_setCell, List.set_cons_zero, List.set_cons_succ] at X); with_reducible exact X) | (have X := Own.swap ((((((((M5.out.set 0 0 (.int .i64 2) rfl).set 0 1 (.int .i64 (dN ms st 1 (1 + a3 % 64))) rfl)).set 1 0 (.int .i64 i) rfl).set 1 1 (.int .i64 1) rfl).set 1 2 (.int .i64 0) rfl).set 1 3 (.int .i64 q) rfl).set 1 4 (.int .i64 0) rfl); (try simp only [size_alloc, size_setCell, List.set_cons_zero, List.set_cons_succ] at X); with_reducible exact X))
  case rest =>
    obtain ⟨db, xb, rfl, rfl, M0⟩ := hcut
    have M3 := Lib.hid M0
    clear M0 M2
    have x0 := M3.out.cell 0 0 rfl rfl; have x1 := M3.out.cell 0 1 rfl rfl; have x2 := M3.out.cell 0 2 rfl rfl; have x3 := M3.out.cell 0 3 rfl rfl; have x4 := M3.out.cell 0 4 rfl rfl
    have d0 := M3.out.cell 1 0 rfl rfl; have d1 := M3.out.cell 1 1 rfl rfl
    go_wp2
    go_ret
    exact ⟨rfl, M3.out.below⟩

theorem walk (z0 : Nat → Int) (z1 : Nat → Int) (y1 : Nat → Bool) (z2 : Nat → Int) (y2 : Nat → Bool) (a3 : Int) (w : World) (w0 : ∀ i, i < 5 → (Lit.int .i64 (z0 i)).wf = true) (w1 : ∀ i, i < 5 → (Lit.int .i64 (z1 i)).wf = true) (w2 : ∀ i, i < 5 → (Lit.int .i64 (z2 i)).wf = true) (w3 : (Lit.int .u8 a3).wf = true) :
    Calls Try.prog 6 #[.agg #[.int .i64 (z0 0), .int .i64 (z0 1), .int .i64 (z0 2), .int .i64 (z0 3), .int .i64 (z0 4)], .agg #[.int .i64 (z1 0), .int .i64 (z1 1), .int .i64 (z1 2), .int .i64 (z1 3), .bool (y1 4)], .agg #[.int .i64 (z2 0), .int .i64 (z2 1), .int .i64 (z2 2), .int .i64 (z2 3), .bool (y2 4)], .int .u8 a3] w fun e w' => e = .returned (.bool true) ∧ Below w.heap.size w w' := by
  have := bounds_u8 w3
  have := bounds_i64 (w0 1 (by omega))
  by_cases hi : z2 0 < 0
  · exact walk_out _ _ _ _ _ _ _ _ _ _ _ _ _ _ _ _ w hi
  by_cases h : z1 1 < z2 1
  · exact walk_elder _ _ _ _ _ _ _ _ _ _ _ _ _ _ _ _ w (by omega) (by omega) (by omega) hi h
  · exact walk_younger _ _ _ _ _ _ _ _ _ _ _ _ _ _ _ _ w (by omega) (by omega) (by omega) hi h

theorem own : ownKnob Try.prog.godebug = none := by kernel_rfl
theorem laidOut : laidOutB Try.prog = true := by kernel_rfl

/-! ### THE ROW's STEP, as the guide has it -/
set_option maxRecDepth 100000 in
theorem lifted (os : Os) (started : os.Started) (H : Type) (enc : TypeId × Value → H) :
    ReturnsInHanded {} Try.checked os 6 .any (Rows.stampElderSpec.pre6 enc Try.prog Try.f6 Rows.stampElderRow.domain false) (Rows.stampElderSpec.post enc Try.prog Try.f6 false true false false) := by
  refine returnsInHanded_of_change (C := Try.checked) own started (by kernel_rfl) Try.func6
    (ChangeSpec.witness6 (enc := enc) (C := Try.checked) false ⟨#[], #[.agg #[.int .i64 0, .int .i64 0, .int .i64 0, .int .i64 0, .int .i64 0], .agg #[.int .i64 0, .int .i64 0, .int .i64 0, .int .i64 0, .bool false], .agg #[.int .i64 0, .int .i64 0, .int .i64 0, .int .i64 0, .bool false], .int .u8 0], []⟩ 8 (by kernel_rfl) (by kernel_rfl) (by kernel_rfl) (by kernel_rfl)) ?_
  intro W base args ds gs before hval0 hW hcnd _
  have hval : ∀ (j : Nat) t v, Try.f6.params[j]? = some t → args[j]? = some v → Value.okWide Try.prog W .any base t v := hval0
  have hW' := hW
  obtain ⟨p, q, hA0, hV, rfl, hfz, hnd⟩ := hW
  have hA : DataW.TrodAll enc Try.prog W 0 (fun _ => true) true Try.f6.params.toList args.toList ds p := hA0
  rw [Try.params6] at hA hval
  obtain ⟨v0, vs0, d0, ds0, p0, q0, hargs, rfl, rfl, h0, r0⟩ := trodAll_cons hA
  obtain ⟨v1, vs1, d1, ds1, p1, q1, rfl, rfl, rfl, h1, r1⟩ := trodAll_cons r0
  obtain ⟨v2, vs2, d2, ds2, p2, q2, rfl, rfl, rfl, h2, r2⟩ := trodAll_cons r1
  obtain ⟨v3, vs3, d3, ds3, p3, q3, rfl, rfl, rfl, h3, r3⟩ := trodAll_cons r2
  obtain ⟨rfl, rfl, rfl⟩ := trodAll_nil r3
  obtain rfl : args = #[v0, v1, v2, v3] := by cases args; simp_all
  obtain ⟨rfl, rfl⟩ := trodVars_none hV
  obtain ⟨cs0, rfl, sz0⟩ := okWide_struct Try.underlying23 (hval 0 23 v0 rfl rfl)
  have k0 := h0
  have lt0 : ∀ x ∈ p0, x.block < W.heap.size := by obtain ⟨m, hm⟩ := k0; exact DataW.trod_lt m _ _ _ hm
  obtain ⟨z0, w0, rfl⟩ : ∃ z : Nat → Int, (∀ i, i < 5 → (Lit.int .i64 (z i)).wf = true) ∧ cs0 = ⟨(List.range 5).map fun i => .int .i64 (z i)⟩ := by
    obtain ⟨fuel, hf⟩ := h0
    exact isAgg_of Try.underlying23 Try.underlying3 Try.underlying2 (by kernel_rfl) (by kernel_rfl) (sz0.trans (by kernel_rfl)) (by decide) hf
  obtain ⟨cs1, rfl, sz1⟩ := okWide_struct Try.underlying25 (hval 1 25 v1 rfl rfl)
  have k1 := h1
  have lt1 : ∀ x ∈ p1, x.block < W.heap.size := by obtain ⟨m, hm⟩ := k1; exact DataW.trod_lt m _ _ _ hm
  obtain ⟨z1, y1, w1, rfl⟩ : ∃ (z : Nat → Int) (y : Nat → Bool), (∀ i, i < 5 → (Lit.int .i64 (z i)).wf = true) ∧ cs1 = ⟨(List.range 5).map (mixed (fun j => j == 4) z y)⟩ := by
    obtain ⟨fuel, hf⟩ := h1
    exact isMix_of (fun j => j == 4) Try.underlying25 Try.underlying3 Try.underlying4 (by kernel_rfl) (by kernel_rfl) (sz1.trans (by kernel_rfl)) (by decide) hf
  obtain ⟨cs2, rfl, sz2⟩ := okWide_struct Try.underlying25 (hval 2 25 v2 rfl rfl)
  have k2 := h2
  have lt2 : ∀ x ∈ p2, x.block < W.heap.size := by obtain ⟨m, hm⟩ := k2; exact DataW.trod_lt m _ _ _ hm
  obtain ⟨z2, y2, w2, rfl⟩ : ∃ (z : Nat → Int) (y : Nat → Bool), (∀ i, i < 5 → (Lit.int .i64 (z i)).wf = true) ∧ cs2 = ⟨(List.range 5).map (mixed (fun j => j == 4) z y)⟩ := by
    obtain ⟨fuel, hf⟩ := h2
    exact isMix_of (fun j => j == 4) Try.underlying25 Try.underlying3 Try.underlying4 (by kernel_rfl) (by kernel_rfl) (sz2.trans (by kernel_rfl)) (by decide) hf
  obtain ⟨a3, rfl, rfl, rfl, w3⟩ := open_int Try.underlying5 (hval 3 5 v3 rfl rfl) h3
  clear hA0 hval0
  refine (walk z0 z1 y1 z2 y2 a3 W w0 w1 w2 w3).mono fun e W' ⟨he, bel⟩ => ?_
  subst he
  exact ⟨_, rfl, _, _, _, [], _, [], hW', trodAll_mk1 (shut_bool Try.underlying4 _), (trodAll_cons_mk (Below.trod laidOut (by kernel_rfl) (of_decide_eq_true (by kernel_rfl)) k0 bel lt0) (trodAll_cons_mk (Below.trod laidOut (by kernel_rfl) (of_decide_eq_true (by kernel_rfl)) k1 bel lt1) (trodAll_cons_mk (Below.trod laidOut (by kernel_rfl) (of_decide_eq_true (by kernel_rfl)) k2 bel lt2) (trodAll_cons_mk (shut_int Try.underlying5 w3) trodAll_mk0)))), rfl, bel.frame _, fun h => by cases h⟩

theorem over : Rows.stampElderRow.holds Try.pinned (OpenSpec.ofChange Rows.stampElderSpec) :=
  OpenClaim.holds_of_wide 6 Try.f6 rfl rfl rfl rfl rfl rfl rfl ⟨rfl, rfl, rfl, rfl, rfl⟩ rfl rfl rfl rfl rfl (by kernel_rfl) Try.func6 (by kernel_rfl)
    (of_decide_eq_true (by kernel_rfl)) (by unfold Func.isWrapper; first | (rw [if_pos (by decide +kernel)]; kernel_rfl) | (rw [if_neg (by decide +kernel)]; exact ⟨rfl, rfl⟩))
    (fun os started H enc _ => lifted os started H enc)

theorem proved : Rows.StampElderSaid := over
#print axioms proved
end Go.Proofs.Ytppbbdpdfaemfaa.stampElder
