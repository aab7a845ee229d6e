/- The contract of quarrellaw04.looks. -/
import Derived.Test.YticlmcoegcfanaaActsB
namespace Go.Proofs.Yticlmcoegcfanaa.acts
open Go Go.RowKit Go.Proofs.Yticlmcoegcfanaa.base Go.Proofs.Yticlmcoegcfanaa.ar Go.Proofs.Yticlmcoegcfanaa.ds Go.Proofs.Yticlmcoegcfanaa.rf Go.Proofs.Yticlmcoegcfanaa.mm Go.Proofs.Yticlmcoegcfanaa.vl Go.Proofs.Yticlmcoegcfanaa.ce
set_option linter.unusedVariables false

set_option maxRecDepth 100000 in
set_option maxHeartbeats 4000000 in
theorem looks_neg_no (base base2 cb tb ab vb sb m m2 L : Nat) (N : Int) (rs : List Rc) (hd : List Int) (is : Int → Bool) (num : Int → Nat → Int) (st : Int → Option Int) (B : Int) (F G : Nat → Prop) (w : World) (C : Cel base w cb tb ab N rs hd m is num B F) (R : RefC base2 w vb sb N rs hd m2 st G) (sep : Sep F G) (I : Inv N L rs hd m is num st) (hB : B ≤ 890000) (hN : N ≤ 4096) (hL : L ≤ 8) (n : Int) (hr : n < 0) (h2 : ¬ IsK rs n 2) (h1 : ¬ IsK rs n 1) :
    Calls Try.prog 23 #[.pointer (some ⟨cb, 0, none⟩), .pointer (some ⟨tb, 0, none⟩), .pointer (some ⟨vb, 0, none⟩), .int .i64 n] w fun e w' => e = .returned (.bool true) ∧ Hid (Cel base w' cb tb ab N rs hd m is num (B + 400) F) ∧ Hid (Step F F w w') := by
  have C0 := Lib.hid C
  have R0 := Lib.hid R
  have SP := Lib.hid sep
  have HI := Lib.hid I
  have hlen := Lib.hid I.len
  have hfit := I.fits
  have hrs : rs.length ≤ 4096 := by omega
  have K2 := Lib.hid h2
  have K1 := Lib.hid h1
  clear h1 h2
  clear C R sep I hfit
  have hout : Hid (n < 0 ∨ (hd.length : Int) ≤ n) := by have := hlen.out; unfold Hid; omega
  clear hlen
  go_enter Try.func23, Try.ntmps23
  go_wp2_with fail
  refine (cells_load_out base cb tb ab m N rs hd is num B F w C0.out (by omega) hN n hout.out).mono ?_
  rintro e u1 ⟨rfl, C1, S1⟩
  go_wp2_with fail
  refine (cells_current_out base cb tb ab m N rs hd is num (B + 100) F u1 C1.out (by omega) hN n hout.out).mono ?_
  rintro e u2 ⟨rfl, C2, S2⟩
  have S := Lib.hid (S1.out.trans S2.out)
  have R2 := Lib.hid (R0.out.only S.out.only SP.out.symm)
  clear C0 C1 S1 S2 R0
  obtain ⟨a1, k1, a2, k2, lv, _, c1, c2, _, hLL, hAA⟩ := R2.out.cells
  clear hLL hAA
  have R3 := R2
  have C3 := C2
  have S3 := S
  clear R2 C2 S
  go_wp2_with fail
  refine (cells_locator_none base cb tb ab m N rs hd is num (B + 100 + 100) F _ C3.out (by omega) hN n K2.out).mono ?_
  rintro e u4 ⟨rfl, C4, S4⟩
  have R4 := Lib.hid (R3.out.only S4.out.only SP.out.symm)
  have S5 := Lib.hid (S3.out.trans S4.out)
  obtain ⟨a1, k1, a2, k2, lv, _, c1, _, _, hLL, _⟩ := R4.out.cells
  clear C3 R3 S3 S4
  clear hLL
  go_wp2_with fail
  go_quiet ((go_at_call 16; refine Calls.quiet_of_same ((ref_is_no base2 vb sb N rs hd m2 st G _ (R4.out.grown (by repeat first | exact gb_refl _ _ | refine gb_drew ?_ | refine gb_drewN ?_ _ | refine gb_alloc ?_ _)) n 2 hrs K2.out).mono fun _ _ h => ⟨h.1, h.2.symm⟩)))
  have G6 : u4.grownBy ((u4.alloc (.cells #[.int .i64 0, .int .i64 0, .int .i64 0, .int .i64 0, .int .i64 0, .int .i64 0, .int .i64 0, .int .i64 0, .int .i64 0] 45)).drewN nq) none := gb_drewN (gb_alloc (gb_refl _ _) _) _
  have C6 := Lib.hid (C4.out.grown G6)
  have R6 := Lib.hid (R4.out.grown G6)
  have S6 := Lib.hid (S5.out.trans (Step.none G6))
  clear G6 C4 R4 S5 c1 lv
  generalize ((u4.alloc (.cells #[.int .i64 0, .int .i64 0, .int .i64 0, .int .i64 0, .int .i64 0, .int .i64 0, .int .i64 0, .int .i64 0, .int .i64 0] 45)).drewN nq) = u6 at *
  go_wp2_with fail
  refine (cells_value_none base cb tb ab m N rs hd is num (B + 100 + 100 + 100) F u6 C6.out (by omega) hN n K1.out).mono ?_
  rintro e u7 ⟨rfl, C7, S7⟩
  have R7 := Lib.hid (R6.out.only S7.out.only SP.out.symm)
  have S8 := Lib.hid (S6.out.trans S7.out)
  clear C6 R6 S6 S7
  go_wp2_with (go_at_call 16; refine (ref_is_no base2 vb sb N rs hd m2 st G _ (R7.out.grown (by repeat first | exact gb_refl _ _ | refine gb_drew ?_ | refine gb_drewN ?_ _ | refine gb_alloc ?_ _)) n 1 hrs K1.out).mono ?_; rintro e w' ⟨rfl, rfl⟩)
  go_ret
  exact ⟨rfl, C7.out.mono (by omega), S8.out⟩

set_option maxRecDepth 100000 in
set_option maxHeartbeats 4000000 in
theorem looks_out_no (base base2 cb tb ab vb sb m m2 L : Nat) (N : Int) (rs : List Rc) (hd : List Int) (is : Int → Bool) (num : Int → Nat → Int) (st : Int → Option Int) (B : Int) (F G : Nat → Prop) (w : World) (C : Cel base w cb tb ab N rs hd m is num B F) (R : RefC base2 w vb sb N rs hd m2 st G) (sep : Sep F G) (I : Inv N L rs hd m is num st) (hB : B ≤ 890000) (hN : N ≤ 4096) (hL : L ≤ 8) (n : Int) (hr0 : ¬ n < 0) (hr : (L : Int) ≤ n) (h2 : ¬ IsK rs n 2) (h1 : ¬ IsK rs n 1) :
    Calls Try.prog 23 #[.pointer (some ⟨cb, 0, none⟩), .pointer (some ⟨tb, 0, none⟩), .pointer (some ⟨vb, 0, none⟩), .int .i64 n] w fun e w' => e = .returned (.bool true) ∧ Hid (Cel base w' cb tb ab N rs hd m is num (B + 400) F) ∧ Hid (Step F F w w') := by
  have C0 := Lib.hid C
  have R0 := Lib.hid R
  have SP := Lib.hid sep
  have HI := Lib.hid I
  have hlen := Lib.hid I.len
  have hfit := I.fits
  have hrs : rs.length ≤ 4096 := by omega
  have K2 := Lib.hid h2
  have K1 := Lib.hid h1
  clear h1 h2
  clear C R sep I hfit
  have hout : Hid (n < 0 ∨ (hd.length : Int) ≤ n) := by have := hlen.out; unfold Hid; omega
  have hr9 : ¬ n < (hd.length : Int) := by have := hlen.out; omega
  have hr8 : (hd.length : Int) ≤ n := by omega
  clear hr
  clear hlen
  go_enter Try.func23, Try.ntmps23
  go_wp2_with fail
  refine (cells_load_out base cb tb ab m N rs hd is num B F w C0.out (by omega) hN n hout.out).mono ?_
  rintro e u1 ⟨rfl, C1, S1⟩
  go_wp2_with fail
  refine (cells_current_out base cb tb ab m N rs hd is num (B + 100) F u1 C1.out (by omega) hN n hout.out).mono ?_
  rintro e u2 ⟨rfl, C2, S2⟩
  have S := Lib.hid (S1.out.trans S2.out)
  have R2 := Lib.hid (R0.out.only S.out.only SP.out.symm)
  clear C0 C1 S1 S2 R0
  obtain ⟨a1, k1, a2, k2, lv, _, c1, c2, _, hLL, hAA⟩ := R2.out.cells
  clear hLL hAA
  have R3 := R2
  have C3 := C2
  have S3 := S
  clear R2 C2 S
  go_wp2_with fail
  refine (cells_locator_none base cb tb ab m N rs hd is num (B + 100 + 100) F _ C3.out (by omega) hN n K2.out).mono ?_
  rintro e u4 ⟨rfl, C4, S4⟩
  have R4 := Lib.hid (R3.out.only S4.out.only SP.out.symm)
  have S5 := Lib.hid (S3.out.trans S4.out)
  obtain ⟨a1, k1, a2, k2, lv, _, c1, _, _, hLL, _⟩ := R4.out.cells
  clear C3 R3 S3 S4
  clear hLL
  go_wp2_with fail
  go_quiet ((go_at_call 16; refine Calls.quiet_of_same ((ref_is_no base2 vb sb N rs hd m2 st G _ (R4.out.grown (by repeat first | exact gb_refl _ _ | refine gb_drew ?_ | refine gb_drewN ?_ _ | refine gb_alloc ?_ _)) n 2 hrs K2.out).mono fun _ _ h => ⟨h.1, h.2.symm⟩)))
  have G6 : u4.grownBy ((u4.alloc (.cells #[.int .i64 0, .int .i64 0, .int .i64 0, .int .i64 0, .int .i64 0, .int .i64 0, .int .i64 0, .int .i64 0, .int .i64 0] 45)).drewN nq) none := gb_drewN (gb_alloc (gb_refl _ _) _) _
  have C6 := Lib.hid (C4.out.grown G6)
  have R6 := Lib.hid (R4.out.grown G6)
  have S6 := Lib.hid (S5.out.trans (Step.none G6))
  clear G6 C4 R4 S5 c1 lv
  generalize ((u4.alloc (.cells #[.int .i64 0, .int .i64 0, .int .i64 0, .int .i64 0, .int .i64 0, .int .i64 0, .int .i64 0, .int .i64 0, .int .i64 0] 45)).drewN nq) = u6 at *
  go_wp2_with fail
  refine (cells_value_none base cb tb ab m N rs hd is num (B + 100 + 100 + 100) F u6 C6.out (by omega) hN n K1.out).mono ?_
  rintro e u7 ⟨rfl, C7, S7⟩
  have R7 := Lib.hid (R6.out.only S7.out.only SP.out.symm)
  have S8 := Lib.hid (S6.out.trans S7.out)
  clear C6 R6 S6 S7
  go_wp2_with (go_at_call 16; refine (ref_is_no base2 vb sb N rs hd m2 st G _ (R7.out.grown (by repeat first | exact gb_refl _ _ | refine gb_drew ?_ | refine gb_drewN ?_ _ | refine gb_alloc ?_ _)) n 1 hrs K1.out).mono ?_; rintro e w' ⟨rfl, rfl⟩)
  go_ret
  exact ⟨rfl, C7.out.mono (by omega), S8.out⟩

set_option maxRecDepth 100000 in
set_option maxHeartbeats 4000000 in
theorem looks_out_two (base base2 cb tb ab vb sb m m2 L : Nat) (N : Int) (rs : List Rc) (hd : List Int) (is : Int → Bool) (num : Int → Nat → Int) (st : Int → Option Int) (B : Int) (F G : Nat → Prop) (w : World) (C : Cel base w cb tb ab N rs hd m is num B F) (R : RefC base2 w vb sb N rs hd m2 st G) (sep : Sep F G) (I : Inv N L rs hd m is num st) (hB : B ≤ 890000) (hN : N ≤ 4096) (hL : L ≤ 8) (n : Int) (hr0 : ¬ n < 0) (hr : (L : Int) ≤ n) (x : Rc) (hx : recAt rs n = some x) (hk : x.kind = 2) :
    Calls Try.prog 23 #[.pointer (some ⟨cb, 0, none⟩), .pointer (some ⟨tb, 0, none⟩), .pointer (some ⟨vb, 0, none⟩), .int .i64 n] w fun e w' => e = .returned (.bool true) ∧ Hid (Cel base w' cb tb ab N rs hd m is num (B + 400) F) ∧ Hid (Step F F w w') := by
  have C0 := Lib.hid C
  have R0 := Lib.hid R
  have SP := Lib.hid sep
  have HI := Lib.hid I
  have hlen := Lib.hid I.len
  have hfit := I.fits
  have hrs : rs.length ≤ 4096 := by omega
  obtain ⟨nn, hnn, hxn⟩ := recAt_some hx
  have Hxn := Lib.hid hxn
  have Hx := Lib.hid hx
  have Hk := Lib.hid hk
  have hnl := (List.getElem?_eq_some_iff.1 hxn).1
  have hlt' : (nn : Int) < (rs.length : Int) := by omega
  have K2 : Hid (IsK rs n 2) := ⟨x, hx, hk⟩
  have K1 : Hid (¬ IsK rs n 1) := fun ⟨y, h1, h2⟩ => by rw [hx] at h1; cases h1; omega
  clear hx hk hxn
  clear C R sep I hfit
  have hout : Hid (n < 0 ∨ (hd.length : Int) ≤ n) := by have := hlen.out; unfold Hid; omega
  have hr9 : ¬ n < (hd.length : Int) := by have := hlen.out; omega
  have hr8 : (hd.length : Int) ≤ n := by omega
  clear hr
  clear hlen
  subst hnn
  go_enter Try.func23, Try.ntmps23
  go_wp2_with fail
  refine (cells_load_out base cb tb ab m N rs hd is num B F w C0.out (by omega) hN (nn : Int) hout.out).mono ?_
  rintro e u1 ⟨rfl, C1, S1⟩
  go_wp2_with fail
  refine (cells_current_out base cb tb ab m N rs hd is num (B + 100) F u1 C1.out (by omega) hN (nn : Int) hout.out).mono ?_
  rintro e u2 ⟨rfl, C2, S2⟩
  have S := Lib.hid (S1.out.trans S2.out)
  have R2 := Lib.hid (R0.out.only S.out.only SP.out.symm)
  clear C0 C1 S1 S2 R0
  obtain ⟨a1, k1, a2, k2, lv, _, c1, c2, _, hLL, hAA⟩ := R2.out.cells
  clear hLL hAA
  have R3 := R2
  have C3 := C2
  have S3 := S
  clear R2 C2 S
  go_wp2_with fail
  refine (cells_locator base cb tb ab m N rs hd is num (B + 100 + 100) F _ C3.out (by omega) hN (nn : Int) x Hx.out Hk.out).mono ?_
  rintro e u4 ⟨rfl, C4, S4⟩
  have R4 := Lib.hid (R3.out.only S4.out.only SP.out.symm)
  have S5 := Lib.hid (S3.out.trans S4.out)
  obtain ⟨a1, k1, a2, k2, lv, _, c1, _, _, hLL, _⟩ := R4.out.cells
  clear C3 R3 S3 S4
  obtain ⟨g1, rfl, hc⟩ := hLL _ x Hxn.out
  have d0 : u4.cell? ⟨g1, nn * 9, none⟩ = some (.int .i64 x.kind) := hc 0 (by omega)
  have d1 : u4.cell? ⟨g1, nn * 9 + 1, none⟩ = some (.int .i64 x.val) := hc 1 (by omega)
  have d2 : u4.cell? ⟨g1, nn * 9 + 2, none⟩ = some (.int .i64 x.owner) := hc 2 (by omega)
  have d3 : u4.cell? ⟨g1, nn * 9 + 3, none⟩ = some (.int .i64 x.old) := hc 3 (by omega)
  have d4 : u4.cell? ⟨g1, nn * 9 + 4, none⟩ = some (.int .i64 x.new) := hc 4 (by omega)
  have d5 : u4.cell? ⟨g1, nn * 9 + 5, none⟩ = some (.int .i64 x.thread) := hc 5 (by omega)
  have d6 : u4.cell? ⟨g1, nn * 9 + 6, none⟩ = some (.int .i64 x.txn) := hc 6 (by omega)
  have d7 : u4.cell? ⟨g1, nn * 9 + 7, none⟩ = some (.int .i64 x.attempt) := hc 7 (by omega)
  have d8 : u4.cell? ⟨g1, nn * 9 + 8, none⟩ = some (.int .i64 x.stamp) := hc 8 (by omega)
  have lg1 := World.block_lt_of_cell? _ _ d0
  clear hc
  clear hLL
  go_wp2_with fail
  go_quiet ((go_at_call 16; refine Calls.quiet_of_same ((ref_is_yes base2 vb sb N rs hd m2 st G _ (R4.out.grown (by repeat first | exact gb_refl _ _ | refine gb_drew ?_ | refine gb_drewN ?_ _ | refine gb_alloc ?_ _)) (nn : Int) 2 hrs K2.out).mono fun _ _ h => ⟨h.1, h.2.symm⟩)))
  have G6 : u4.grownBy ((u4.alloc (.cells #[.int .i64 x.kind, .int .i64 x.val, .int .i64 x.owner, .int .i64 x.old, .int .i64 x.new, .int .i64 x.thread, .int .i64 x.txn, .int .i64 x.attempt, .int .i64 x.stamp] 45)).drewN nq) none := gb_drewN (gb_alloc (gb_refl _ _) _) _
  have C6 := Lib.hid (C4.out.grown G6)
  have R6 := Lib.hid (R4.out.grown G6)
  have S6 := Lib.hid (S5.out.trans (Step.none G6))
  clear G6 C4 R4 S5 c1 lv d0 d1 d2 d3 d4 d5 d6 d7 d8 lg1
  generalize ((u4.alloc (.cells #[.int .i64 x.kind, .int .i64 x.val, .int .i64 x.owner, .int .i64 x.old, .int .i64 x.new, .int .i64 x.thread, .int .i64 x.txn, .int .i64 x.attempt, .int .i64 x.stamp] 45)).drewN nq) = u6 at *
  go_wp2_with fail
  refine (cells_value_none base cb tb ab m N rs hd is num (B + 100 + 100 + 100) F u6 C6.out (by omega) hN (nn : Int) K1.out).mono ?_
  rintro e u7 ⟨rfl, C7, S7⟩
  have R7 := Lib.hid (R6.out.only S7.out.only SP.out.symm)
  have S8 := Lib.hid (S6.out.trans S7.out)
  clear C6 R6 S6 S7
  go_wp2_with (go_at_call 16; refine (ref_is_no base2 vb sb N rs hd m2 st G _ (R7.out.grown (by repeat first | exact gb_refl _ _ | refine gb_drew ?_ | refine gb_drewN ?_ _ | refine gb_alloc ?_ _)) (nn : Int) 1 hrs K1.out).mono ?_; rintro e w' ⟨rfl, rfl⟩)
  go_ret
  exact ⟨rfl, C7.out.mono (by omega), S8.out⟩

set_option maxRecDepth 100000 in
set_option maxHeartbeats 4000000 in
theorem looks_out_one (base base2 cb tb ab vb sb m m2 L : Nat) (N : Int) (rs : List Rc) (hd : List Int) (is : Int → Bool) (num : Int → Nat → Int) (st : Int → Option Int) (B : Int) (F G : Nat → Prop) (w : World) (C : Cel base w cb tb ab N rs hd m is num B F) (R : RefC base2 w vb sb N rs hd m2 st G) (sep : Sep F G) (I : Inv N L rs hd m is num st) (hB : B ≤ 890000) (hN : N ≤ 4096) (hL : L ≤ 8) (n : Int) (hr0 : ¬ n < 0) (hr : (L : Int) ≤ n) (x : Rc) (hx : recAt rs n = some x) (hk : x.kind = 1) :
    Calls Try.prog 23 #[.pointer (some ⟨cb, 0, none⟩), .pointer (some ⟨tb, 0, none⟩), .pointer (some ⟨vb, 0, none⟩), .int .i64 n] w fun e w' => e = .returned (.bool true) ∧ Hid (Cel base w' cb tb ab N rs hd m is num (B + 400) F) ∧ Hid (Step F F w w') := by
  have C0 := Lib.hid C
  have R0 := Lib.hid R
  have SP := Lib.hid sep
  have HI := Lib.hid I
  have hlen := Lib.hid I.len
  have hfit := I.fits
  have hrs : rs.length ≤ 4096 := by omega
  obtain ⟨nn, hnn, hxn⟩ := recAt_some hx
  have Hxn := Lib.hid hxn
  have Hx := Lib.hid hx
  have Hk := Lib.hid hk
  have hnl := (List.getElem?_eq_some_iff.1 hxn).1
  have hlt' : (nn : Int) < (rs.length : Int) := by omega
  have K1 : Hid (IsK rs n 1) := ⟨x, hx, hk⟩
  have K2 : Hid (¬ IsK rs n 2) := fun ⟨y, h1, h2⟩ => by rw [hx] at h1; cases h1; omega
  clear hx hk hxn
  clear C R sep I hfit
  have hout : Hid (n < 0 ∨ (hd.length : Int) ≤ n) := by have := hlen.out; unfold Hid; omega
  have hr9 : ¬ n < (hd.length : Int) := by have := hlen.out; omega
  have hr8 : (hd.length : Int) ≤ n := by omega
  clear hr
  clear hlen
  subst hnn
  go_enter Try.func23, Try.ntmps23
  go_wp2_with fail
  refine (cells_load_out base cb tb ab m N rs hd is num B F w C0.out (by omega) hN (nn : Int) hout.out).mono ?_
  rintro e u1 ⟨rfl, C1, S1⟩
  go_wp2_with fail
  refine (cells_current_out base cb tb ab m N rs hd is num (B + 100) F u1 C1.out (by omega) hN (nn : Int) hout.out).mono ?_
  rintro e u2 ⟨rfl, C2, S2⟩
  have S := Lib.hid (S1.out.trans S2.out)
  have R2 := Lib.hid (R0.out.only S.out.only SP.out.symm)
  clear C0 C1 S1 S2 R0
  obtain ⟨a1, k1, a2, k2, lv, _, c1, c2, _, hLL, hAA⟩ := R2.out.cells
  clear hLL hAA
  have R3 := R2
  have C3 := C2
  have S3 := S
  clear R2 C2 S
  go_wp2_with fail
  refine (cells_locator_none base cb tb ab m N rs hd is num (B + 100 + 100) F _ C3.out (by omega) hN (nn : Int) K2.out).mono ?_
  rintro e u4 ⟨rfl, C4, S4⟩
  have R4 := Lib.hid (R3.out.only S4.out.only SP.out.symm)
  have S5 := Lib.hid (S3.out.trans S4.out)
  obtain ⟨a1, k1, a2, k2, lv, _, c1, _, _, hLL, _⟩ := R4.out.cells
  clear C3 R3 S3 S4
  obtain ⟨g1, rfl, hc⟩ := hLL _ x Hxn.out
  have d0 : u4.cell? ⟨g1, nn * 9, none⟩ = some (.int .i64 x.kind) := hc 0 (by omega)
  have d1 : u4.cell? ⟨g1, nn * 9 + 1, none⟩ = some (.int .i64 x.val) := hc 1 (by omega)
  have d2 : u4.cell? ⟨g1, nn * 9 + 2, none⟩ = some (.int .i64 x.owner) := hc 2 (by omega)
  have d3 : u4.cell? ⟨g1, nn * 9 + 3, none⟩ = some (.int .i64 x.old) := hc 3 (by omega)
  have d4 : u4.cell? ⟨g1, nn * 9 + 4, none⟩ = some (.int .i64 x.new) := hc 4 (by omega)
  have d5 : u4.cell? ⟨g1, nn * 9 + 5, none⟩ = some (.int .i64 x.thread) := hc 5 (by omega)
  have d6 : u4.cell? ⟨g1, nn * 9 + 6, none⟩ = some (.int .i64 x.txn) := hc 6 (by omega)
  have d7 : u4.cell? ⟨g1, nn * 9 + 7, none⟩ = some (.int .i64 x.attempt) := hc 7 (by omega)
  have d8 : u4.cell? ⟨g1, nn * 9 + 8, none⟩ = some (.int .i64 x.stamp) := hc 8 (by omega)
  have lg1 := World.block_lt_of_cell? _ _ d0
  clear hc
  clear hLL
  go_wp2_with fail
  go_quiet ((go_at_call 16; refine Calls.quiet_of_same ((ref_is_no base2 vb sb N rs hd m2 st G _ (R4.out.grown (by repeat first | exact gb_refl _ _ | refine gb_drew ?_ | refine gb_drewN ?_ _ | refine gb_alloc ?_ _)) (nn : Int) 2 hrs K2.out).mono fun _ _ h => ⟨h.1, h.2.symm⟩)))
  have G6 : u4.grownBy ((u4.alloc (.cells #[.int .i64 0, .int .i64 0, .int .i64 0, .int .i64 0, .int .i64 0, .int .i64 0, .int .i64 0, .int .i64 0, .int .i64 0] 45)).drewN nq) none := gb_drewN (gb_alloc (gb_refl _ _) _) _
  have C6 := Lib.hid (C4.out.grown G6)
  have R6 := Lib.hid (R4.out.grown G6)
  have S6 := Lib.hid (S5.out.trans (Step.none G6))
  clear G6 C4 R4 S5 c1 lv d0 d1 d2 d3 d4 d5 d6 d7 d8 lg1
  generalize ((u4.alloc (.cells #[.int .i64 0, .int .i64 0, .int .i64 0, .int .i64 0, .int .i64 0, .int .i64 0, .int .i64 0, .int .i64 0, .int .i64 0] 45)).drewN nq) = u6 at *
  go_wp2_with fail
  refine (cells_value base cb tb ab m N rs hd is num (B + 100 + 100 + 100) F u6 C6.out (by omega) hN (nn : Int) x Hx.out Hk.out).mono ?_
  rintro e u7 ⟨rfl, C7, S7⟩
  have R7 := Lib.hid (R6.out.only S7.out.only SP.out.symm)
  have S8 := Lib.hid (S6.out.trans S7.out)
  clear C6 R6 S6 S7
  obtain ⟨a1, k1, a2, k2, lv, _, c1, _, _, hLL, _⟩ := R7.out.cells
  obtain ⟨g1, rfl, hc⟩ := hLL _ x Hxn.out
  have d1 : u7.cell? ⟨g1, nn * 9 + 1, none⟩ = some (.int .i64 x.val) := hc 1 (by omega)
  have lg1 := World.block_lt_of_cell? _ _ d1
  clear hc hLL
  go_wp2_with (go_at_call 16; refine (ref_is_yes base2 vb sb N rs hd m2 st G _ (R7.out.grown (by repeat first | exact gb_refl _ _ | refine gb_drew ?_ | refine gb_drewN ?_ _ | refine gb_alloc ?_ _)) (nn : Int) 1 hrs K1.out).mono ?_; rintro e w' ⟨rfl, rfl⟩)
  go_ret
  exact ⟨rfl, C7.out.mono (by omega), S8.out⟩

set_option maxRecDepth 100000 in
set_option maxHeartbeats 4000000 in
theorem looks_in_no (base base2 cb tb ab vb sb m m2 L : Nat) (N : Int) (rs : List Rc) (hd : List Int) (is : Int → Bool) (num : Int → Nat → Int) (st : Int → Option Int) (B : Int) (F G : Nat → Prop) (w : World) (C : Cel base w cb tb ab N rs hd m is num B F) (R : RefC base2 w vb sb N rs hd m2 st G) (sep : Sep F G) (I : Inv N L rs hd m is num st) (hB : B ≤ 890000) (hN : N ≤ 4096) (hL : L ≤ 8) (n : Int) (j : Nat) (hnj : n = (j : Int)) (hj : j < L) (h2 : ¬ IsK rs n 2) (h1 : ¬ IsK rs n 1) :
    Calls Try.prog 23 #[.pointer (some ⟨cb, 0, none⟩), .pointer (some ⟨tb, 0, none⟩), .pointer (some ⟨vb, 0, none⟩), .int .i64 n] w fun e w' => e = .returned (.bool true) ∧ Hid (Cel base w' cb tb ab N rs hd m is num (B + 400) F) ∧ Hid (Step F F w w') := by
  have C0 := Lib.hid C
  have R0 := Lib.hid R
  have SP := Lib.hid sep
  have HI := Lib.hid I
  have hlen := Lib.hid I.len
  have hfit := I.fits
  have hrs : rs.length ≤ 4096 := by omega
  have K2 := Lib.hid h2
  have K1 := Lib.hid h1
  clear h1 h2
  clear C R sep I hfit
  obtain ⟨p, x0, y0, hp0, hx00, hk00, hw00, hy00, hk01⟩ := HI.out.val hj
  obtain ⟨q, rfl, hq0⟩ := recAt_some hx00
  obtain ⟨r, hrr0, hr0⟩ := recAt_some hy00
  have V0 : Hid (ValAt rs hd is num j y0) := ⟨_, x0, hp0, hx00, hk00, hw00, hy00, hk01⟩
  have hp := Lib.hid hp0
  have hq := Lib.hid hq0
  have hw0 := Lib.hid hw00
  have hrr := Lib.hid hrr0
  have hr := Lib.hid hr0
  have hjL : (j : Int) < (hd.length : Int) := by have := hlen.out; omega
  have hrl : (r : Int) < (rs.length : Int) := by have := (List.getElem?_eq_some_iff.1 hr0).1; omega
  clear hp0 hx00 hk00 hw00 hy00 hk01 hq0 hr0 hrr0 hlen
  subst hnj
  go_enter Try.func23, Try.ntmps23
  go_wp2_with fail
  refine (cells_load base cb tb ab m N rs hd is num B F w C0.out (by omega) hN j (q : Int) hp.out).mono ?_
  rintro e u1 ⟨rfl, C1, S1⟩
  go_wp2_with fail
  refine (cells_current base cb tb ab m N rs hd is num (B + 100) F u1 C1.out (by omega) hN j y0 V0.out).mono ?_
  rintro e u2 ⟨rfl, C2, S2⟩
  have S := Lib.hid (S1.out.trans S2.out)
  have R2 := Lib.hid (R0.out.only S.out.only SP.out.symm)
  clear C0 C1 S1 S2 R0
  obtain ⟨a1, k1, a2, k2, lv, _, c1, c2, _, hLL, hAA⟩ := R2.out.cells
  obtain ⟨g1, rfl, hc⟩ := hLL r y0 hr.out
  obtain ⟨g2, rfl, hd2⟩ := hAA j (q : Int) hp.out
  have d1 : u2.cell? ⟨g1, r * 9 + 1, none⟩ = some (.int .i64 y0.val) := hc 1 (by omega)
  have lg1 := World.block_lt_of_cell? _ _ d1
  have lg2 := World.block_lt_of_cell? _ _ hd2
  clear hLL hAA hc
  go_wp2_with fail
  go_region_held3 (fun w' => w'.cell? ⟨vb, 1, none⟩ = some (.slice (some ⟨g1, 0, none⟩) rs.length k1) ∧ w'.cell? ⟨vb, 2, none⟩ = some (.slice (some ⟨g2, 0, none⟩) hd.length k2) ∧ w'.cell? ⟨g2, j, none⟩ = some (.int .i64 q) ∧ w'.cell? ⟨g1, r * 9 + 1, none⟩ = some (.int .i64 y0.val)) (go_keep) ((go_at_call 40; refine (ref_current base2 vb sb N rs hd m2 st G _ (R2.out.grown (by repeat first | exact gb_refl _ _ | refine gb_drew ?_ | refine gb_drewN ?_ _ | refine gb_alloc ?_ _)) j q x0 hp.out hq.out hrs (by have := HI.out.len; omega) hw0.out).mono ?_; rw [HI.out.stat, hrr.out]; rintro e u3 ⟨rfl, g3⟩; have f1 := g3.out.cell (a := ⟨vb, 1, none⟩) c1 (by simp); have f2 := g3.out.cell (a := ⟨vb, 2, none⟩) c2 (by simp); have f3 := g3.out.cell (a := ⟨g2, j, none⟩) hd2 (by simp); have f4 := g3.out.cell (a := ⟨g1, r * 9 + 1, none⟩) d1 (by simp)))
  have G3 := Lib.hid (gb_trans (gb_drew (gb_refl u2 none)) g3.out)
  have R3 := Lib.hid (R2.out.grown G3.out)
  have C3 := Lib.hid (C2.out.grown G3.out)
  have S3 := Lib.hid (S.out.trans (Step.none G3.out))
  clear R2 C2 S c1 c2 hd2 d1 lg1 lg2 lv g3 f1 f2 f3 f4 G3
  go_wp2_with fail
  refine (cells_locator_none base cb tb ab m N rs hd is num (B + 100 + 100) F _ C3.out (by omega) hN (j : Int) K2.out).mono ?_
  rintro e u4 ⟨rfl, C4, S4⟩
  have R4 := Lib.hid (R3.out.only S4.out.only SP.out.symm)
  have S5 := Lib.hid (S3.out.trans S4.out)
  obtain ⟨a1, k1, a2, k2, lv, _, c1, _, _, hLL, _⟩ := R4.out.cells
  clear C3 R3 S3 S4
  clear hLL
  go_wp2_with fail
  go_quiet ((go_at_call 16; refine Calls.quiet_of_same ((ref_is_no base2 vb sb N rs hd m2 st G _ (R4.out.grown (by repeat first | exact gb_refl _ _ | refine gb_drew ?_ | refine gb_drewN ?_ _ | refine gb_alloc ?_ _)) (j : Int) 2 hrs K2.out).mono fun _ _ h => ⟨h.1, h.2.symm⟩)))
  have G6 : u4.grownBy ((u4.alloc (.cells #[.int .i64 0, .int .i64 0, .int .i64 0, .int .i64 0, .int .i64 0, .int .i64 0, .int .i64 0, .int .i64 0, .int .i64 0] 45)).drewN nq) none := gb_drewN (gb_alloc (gb_refl _ _) _) _
  have C6 := Lib.hid (C4.out.grown G6)
  have R6 := Lib.hid (R4.out.grown G6)
  have S6 := Lib.hid (S5.out.trans (Step.none G6))
  clear G6 C4 R4 S5 c1 lv
  generalize ((u4.alloc (.cells #[.int .i64 0, .int .i64 0, .int .i64 0, .int .i64 0, .int .i64 0, .int .i64 0, .int .i64 0, .int .i64 0, .int .i64 0] 45)).drewN nq) = u6 at *
  go_wp2_with fail
  refine (cells_value_none base cb tb ab m N rs hd is num (B + 100 + 100 + 100) F u6 C6.out (by omega) hN (j : Int) K1.out).mono ?_
  rintro e u7 ⟨rfl, C7, S7⟩
  have R7 := Lib.hid (R6.out.only S7.out.only SP.out.symm)
  have S8 := Lib.hid (S6.out.trans S7.out)
  clear C6 R6 S6 S7
  go_wp2_with (go_at_call 16; refine (ref_is_no base2 vb sb N rs hd m2 st G _ (R7.out.grown (by repeat first | exact gb_refl _ _ | refine gb_drew ?_ | refine gb_drewN ?_ _ | refine gb_alloc ?_ _)) (j : Int) 1 hrs K1.out).mono ?_; rintro e w' ⟨rfl, rfl⟩)
  go_ret
  exact ⟨rfl, C7.out.mono (by omega), S8.out⟩

set_option maxRecDepth 100000 in
set_option maxHeartbeats 4000000 in
theorem looks_in_two (base base2 cb tb ab vb sb m m2 L : Nat) (N : Int) (rs : List Rc) (hd : List Int) (is : Int → Bool) (num : Int → Nat → Int) (st : Int → Option Int) (B : Int) (F G : Nat → Prop) (w : World) (C : Cel base w cb tb ab N rs hd m is num B F) (R : RefC base2 w vb sb N rs hd m2 st G) (sep : Sep F G) (I : Inv N L rs hd m is num st) (hB : B ≤ 890000) (hN : N ≤ 4096) (hL : L ≤ 8) (n : Int) (j : Nat) (hnj : n = (j : Int)) (hj : j < L) (x : Rc) (hx : recAt rs n = some x) (hk : x.kind = 2) :
    Calls Try.prog 23 #[.pointer (some ⟨cb, 0, none⟩), .pointer (some ⟨tb, 0, none⟩), .pointer (some ⟨vb, 0, none⟩), .int .i64 n] w fun e w' => e = .returned (.bool true) ∧ Hid (Cel base w' cb tb ab N rs hd m is num (B + 400) F) ∧ Hid (Step F F w w') := by
  have C0 := Lib.hid C
  have R0 := Lib.hid R
  have SP := Lib.hid sep
  have HI := Lib.hid I
  have hlen := Lib.hid I.len
  have hfit := I.fits
  have hrs : rs.length ≤ 4096 := by omega
  obtain ⟨nn, hnn, hxn⟩ := recAt_some hx
  have Hxn := Lib.hid hxn
  have Hx := Lib.hid hx
  have Hk := Lib.hid hk
  have hnl := (List.getElem?_eq_some_iff.1 hxn).1
  have hlt' : (nn : Int) < (rs.length : Int) := by omega
  have K2 : Hid (IsK rs n 2) := ⟨x, hx, hk⟩
  have K1 : Hid (¬ IsK rs n 1) := fun ⟨y, h1, h2⟩ => by rw [hx] at h1; cases h1; omega
  clear hx hk hxn
  clear C R sep I hfit
  obtain ⟨p, x0, y0, hp0, hx00, hk00, hw00, hy00, hk01⟩ := HI.out.val hj
  obtain ⟨q, rfl, hq0⟩ := recAt_some hx00
  obtain ⟨r, hrr0, hr0⟩ := recAt_some hy00
  have V0 : Hid (ValAt rs hd is num j y0) := ⟨_, x0, hp0, hx00, hk00, hw00, hy00, hk01⟩
  have hp := Lib.hid hp0
  have hq := Lib.hid hq0
  have hw0 := Lib.hid hw00
  have hrr := Lib.hid hrr0
  have hr := Lib.hid hr0
  have hjL : (j : Int) < (hd.length : Int) := by have := hlen.out; omega
  have hrl : (r : Int) < (rs.length : Int) := by have := (List.getElem?_eq_some_iff.1 hr0).1; omega
  clear hp0 hx00 hk00 hw00 hy00 hk01 hq0 hr0 hrr0 hlen
  subst hnj
  obtain rfl : j = nn := by omega
  clear hnn
  go_enter Try.func23, Try.ntmps23
  go_wp2_with fail
  refine (cells_load base cb tb ab m N rs hd is num B F w C0.out (by omega) hN j (q : Int) hp.out).mono ?_
  rintro e u1 ⟨rfl, C1, S1⟩
  go_wp2_with fail
  refine (cells_current base cb tb ab m N rs hd is num (B + 100) F u1 C1.out (by omega) hN j y0 V0.out).mono ?_
  rintro e u2 ⟨rfl, C2, S2⟩
  have S := Lib.hid (S1.out.trans S2.out)
  have R2 := Lib.hid (R0.out.only S.out.only SP.out.symm)
  clear C0 C1 S1 S2 R0
  obtain ⟨a1, k1, a2, k2, lv, _, c1, c2, _, hLL, hAA⟩ := R2.out.cells
  obtain ⟨g1, rfl, hc⟩ := hLL r y0 hr.out
  obtain ⟨g2, rfl, hd2⟩ := hAA j (q : Int) hp.out
  have d1 : u2.cell? ⟨g1, r * 9 + 1, none⟩ = some (.int .i64 y0.val) := hc 1 (by omega)
  have lg1 := World.block_lt_of_cell? _ _ d1
  have lg2 := World.block_lt_of_cell? _ _ hd2
  clear hLL hAA hc
  go_wp2_with fail
  go_region_held3 (fun w' => w'.cell? ⟨vb, 1, none⟩ = some (.slice (some ⟨g1, 0, none⟩) rs.length k1) ∧ w'.cell? ⟨vb, 2, none⟩ = some (.slice (some ⟨g2, 0, none⟩) hd.length k2) ∧ w'.cell? ⟨g2, j, none⟩ = some (.int .i64 q) ∧ w'.cell? ⟨g1, r * 9 + 1, none⟩ = some (.int .i64 y0.val)) (go_keep) ((go_at_call 40; refine (ref_current base2 vb sb N rs hd m2 st G _ (R2.out.grown (by repeat first | exact gb_refl _ _ | refine gb_drew ?_ | refine gb_drewN ?_ _ | refine gb_alloc ?_ _)) j q x0 hp.out hq.out hrs (by have := HI.out.len; omega) hw0.out).mono ?_; rw [HI.out.stat, hrr.out]; rintro e u3 ⟨rfl, g3⟩; have f1 := g3.out.cell (a := ⟨vb, 1, none⟩) c1 (by simp); have f2 := g3.out.cell (a := ⟨vb, 2, none⟩) c2 (by simp); have f3 := g3.out.cell (a := ⟨g2, j, none⟩) hd2 (by simp); have f4 := g3.out.cell (a := ⟨g1, r * 9 + 1, none⟩) d1 (by simp)))
  have G3 := Lib.hid (gb_trans (gb_drew (gb_refl u2 none)) g3.out)
  have R3 := Lib.hid (R2.out.grown G3.out)
  have C3 := Lib.hid (C2.out.grown G3.out)
  have S3 := Lib.hid (S.out.trans (Step.none G3.out))
  clear R2 C2 S c1 c2 hd2 d1 lg1 lg2 lv g3 f1 f2 f3 f4 G3
  go_wp2_with fail
  refine (cells_locator base cb tb ab m N rs hd is num (B + 100 + 100) F _ C3.out (by omega) hN (j : Int) x Hx.out Hk.out).mono ?_
  rintro e u4 ⟨rfl, C4, S4⟩
  have R4 := Lib.hid (R3.out.only S4.out.only SP.out.symm)
  have S5 := Lib.hid (S3.out.trans S4.out)
  obtain ⟨a1, k1, a2, k2, lv, _, c1, _, _, hLL, _⟩ := R4.out.cells
  clear C3 R3 S3 S4
  obtain ⟨g1, rfl, hc⟩ := hLL _ x Hxn.out
  have d0 : u4.cell? ⟨g1, j * 9, none⟩ = some (.int .i64 x.kind) := hc 0 (by omega)
  have d1 : u4.cell? ⟨g1, j * 9 + 1, none⟩ = some (.int .i64 x.val) := hc 1 (by omega)
  have d2 : u4.cell? ⟨g1, j * 9 + 2, none⟩ = some (.int .i64 x.owner) := hc 2 (by omega)
  have d3 : u4.cell? ⟨g1, j * 9 + 3, none⟩ = some (.int .i64 x.old) := hc 3 (by omega)
  have d4 : u4.cell? ⟨g1, j * 9 + 4, none⟩ = some (.int .i64 x.new) := hc 4 (by omega)
  have d5 : u4.cell? ⟨g1, j * 9 + 5, none⟩ = some (.int .i64 x.thread) := hc 5 (by omega)
  have d6 : u4.cell? ⟨g1, j * 9 + 6, none⟩ = some (.int .i64 x.txn) := hc 6 (by omega)
  have d7 : u4.cell? ⟨g1, j * 9 + 7, none⟩ = some (.int .i64 x.attempt) := hc 7 (by omega)
  have d8 : u4.cell? ⟨g1, j * 9 + 8, none⟩ = some (.int .i64 x.stamp) := hc 8 (by omega)
  have lg1 := World.block_lt_of_cell? _ _ d0
  clear hc
  clear hLL
  go_wp2_with fail
  go_quiet ((go_at_call 16; refine Calls.quiet_of_same ((ref_is_yes base2 vb sb N rs hd m2 st G _ (R4.out.grown (by repeat first | exact gb_refl _ _ | refine gb_drew ?_ | refine gb_drewN ?_ _ | refine gb_alloc ?_ _)) (j : Int) 2 hrs K2.out).mono fun _ _ h => ⟨h.1, h.2.symm⟩)))
  have G6 : u4.grownBy ((u4.alloc (.cells #[.int .i64 x.kind, .int .i64 x.val, .int .i64 x.owner, .int .i64 x.old, .int .i64 x.new, .int .i64 x.thread, .int .i64 x.txn, .int .i64 x.attempt, .int .i64 x.stamp] 45)).drewN nq) none := gb_drewN (gb_alloc (gb_refl _ _) _) _
  have C6 := Lib.hid (C4.out.grown G6)
  have R6 := Lib.hid (R4.out.grown G6)
  have S6 := Lib.hid (S5.out.trans (Step.none G6))
  clear G6 C4 R4 S5 c1 lv d0 d1 d2 d3 d4 d5 d6 d7 d8 lg1
  generalize ((u4.alloc (.cells #[.int .i64 x.kind, .int .i64 x.val, .int .i64 x.owner, .int .i64 x.old, .int .i64 x.new, .int .i64 x.thread, .int .i64 x.txn, .int .i64 x.attempt, .int .i64 x.stamp] 45)).drewN nq) = u6 at *
  go_wp2_with fail
  refine (cells_value_none base cb tb ab m N rs hd is num (B + 100 + 100 + 100) F u6 C6.out (by omega) hN (j : Int) K1.out).mono ?_
  rintro e u7 ⟨rfl, C7, S7⟩
  have R7 := Lib.hid (R6.out.only S7.out.only SP.out.symm)
  have S8 := Lib.hid (S6.out.trans S7.out)
  clear C6 R6 S6 S7
  go_wp2_with (go_at_call 16; refine (ref_is_no base2 vb sb N rs hd m2 st G _ (R7.out.grown (by repeat first | exact gb_refl _ _ | refine gb_drew ?_ | refine gb_drewN ?_ _ | refine gb_alloc ?_ _)) (j : Int) 1 hrs K1.out).mono ?_; rintro e w' ⟨rfl, rfl⟩)
  go_ret
  exact ⟨rfl, C7.out.mono (by omega), S8.out⟩

set_option maxRecDepth 100000 in
set_option maxHeartbeats 4000000 in
theorem looks_in_one (base base2 cb tb ab vb sb m m2 L : Nat) (N : Int) (rs : List Rc) (hd : List Int) (is : Int → Bool) (num : Int → Nat → Int) (st : Int → Option Int) (B : Int) (F G : Nat → Prop) (w : World) (C : Cel base w cb tb ab N rs hd m is num B F) (R : RefC base2 w vb sb N rs hd m2 st G) (sep : Sep F G) (I : Inv N L rs hd m is num st) (hB : B ≤ 890000) (hN : N ≤ 4096) (hL : L ≤ 8) (n : Int) (j : Nat) (hnj : n = (j : Int)) (hj : j < L) (x : Rc) (hx : recAt rs n = some x) (hk : x.kind = 1) :
    Calls Try.prog 23 #[.pointer (some ⟨cb, 0, none⟩), .pointer (some ⟨tb, 0, none⟩), .pointer (some ⟨vb, 0, none⟩), .int .i64 n] w fun e w' => e = .returned (.bool true) ∧ Hid (Cel base w' cb tb ab N rs hd m is num (B + 400) F) ∧ Hid (Step F F w w') := by
  have C0 := Lib.hid C
  have R0 := Lib.hid R
  have SP := Lib.hid sep
  have HI := Lib.hid I
  have hlen := Lib.hid I.len
  have hfit := I.fits
  have hrs : rs.length ≤ 4096 := by omega
  obtain ⟨nn, hnn, hxn⟩ := recAt_some hx
  have Hxn := Lib.hid hxn
  have Hx := Lib.hid hx
  have Hk := Lib.hid hk
  have hnl := (List.getElem?_eq_some_iff.1 hxn).1
  have hlt' : (nn : Int) < (rs.length : Int) := by omega
  have K1 : Hid (IsK rs n 1) := ⟨x, hx, hk⟩
  have K2 : Hid (¬ IsK rs n 2) := fun ⟨y, h1, h2⟩ => by rw [hx] at h1; cases h1; omega
  clear hx hk hxn
  clear C R sep I hfit
  obtain ⟨p, x0, y0, hp0, hx00, hk00, hw00, hy00, hk01⟩ := HI.out.val hj
  obtain ⟨q, rfl, hq0⟩ := recAt_some hx00
  obtain ⟨r, hrr0, hr0⟩ := recAt_some hy00
  have V0 : Hid (ValAt rs hd is num j y0) := ⟨_, x0, hp0, hx00, hk00, hw00, hy00, hk01⟩
  have hp := Lib.hid hp0
  have hq := Lib.hid hq0
  have hw0 := Lib.hid hw00
  have hrr := Lib.hid hrr0
  have hr := Lib.hid hr0
  have hjL : (j : Int) < (hd.length : Int) := by have := hlen.out; omega
  have hrl : (r : Int) < (rs.length : Int) := by have := (List.getElem?_eq_some_iff.1 hr0).1; omega
  clear hp0 hx00 hk00 hw00 hy00 hk01 hq0 hr0 hrr0 hlen
  subst hnj
  obtain rfl : j = nn := by omega
  clear hnn
  go_enter Try.func23, Try.ntmps23
  go_wp2_with fail
  refine (cells_load base cb tb ab m N rs hd is num B F w C0.out (by omega) hN j (q : Int) hp.out).mono ?_
  rintro e u1 ⟨rfl, C1, S1⟩
  go_wp2_with fail
  refine (cells_current base cb tb ab m N rs hd is num (B + 100) F u1 C1.out (by omega) hN j y0 V0.out).mono ?_
  rintro e u2 ⟨rfl, C2, S2⟩
  have S := Lib.hid (S1.out.trans S2.out)
  have R2 := Lib.hid (R0.out.only S.out.only SP.out.symm)
  clear C0 C1 S1 S2 R0
  obtain ⟨a1, k1, a2, k2, lv, _, c1, c2, _, hLL, hAA⟩ := R2.out.cells
  obtain ⟨g1, rfl, hc⟩ := hLL r y0 hr.out
  obtain ⟨g2, rfl, hd2⟩ := hAA j (q : Int) hp.out
  have d1 : u2.cell? ⟨g1, r * 9 + 1, none⟩ = some (.int .i64 y0.val) := hc 1 (by omega)
  have lg1 := World.block_lt_of_cell? _ _ d1
  have lg2 := World.block_lt_of_cell? _ _ hd2
  clear hLL hAA hc
  go_wp2_with fail
  go_region_held3 (fun w' => w'.cell? ⟨vb, 1, none⟩ = some (.slice (some ⟨g1, 0, none⟩) rs.length k1) ∧ w'.cell? ⟨vb, 2, none⟩ = some (.slice (some ⟨g2, 0, none⟩) hd.length k2) ∧ w'.cell? ⟨g2, j, none⟩ = some (.int .i64 q) ∧ w'.cell? ⟨g1, r * 9 + 1, none⟩ = some (.int .i64 y0.val)) (go_keep) ((go_at_call 40; refine (ref_current base2 vb sb N rs hd m2 st G _ (R2.out.grown (by repeat first | exact gb_refl _ _ | refine gb_drew ?_ | refine gb_drewN ?_ _ | refine gb_alloc ?_ _)) j q x0 hp.out hq.out hrs (by have := HI.out.len; omega) hw0.out).mono ?_; rw [HI.out.stat, hrr.out]; rintro e u3 ⟨rfl, g3⟩; have f1 := g3.out.cell (a := ⟨vb, 1, none⟩) c1 (by simp); have f2 := g3.out.cell (a := ⟨vb, 2, none⟩) c2 (by simp); have f3 := g3.out.cell (a := ⟨g2, j, none⟩) hd2 (by simp); have f4 := g3.out.cell (a := ⟨g1, r * 9 + 1, none⟩) d1 (by simp)))
  have G3 := Lib.hid (gb_trans (gb_drew (gb_refl u2 none)) g3.out)
  have R3 := Lib.hid (R2.out.grown G3.out)
  have C3 := Lib.hid (C2.out.grown G3.out)
  have S3 := Lib.hid (S.out.trans (Step.none G3.out))
  clear R2 C2 S c1 c2 hd2 d1 lg1 lg2 lv g3 f1 f2 f3 f4 G3
  go_wp2_with fail
  refine (cells_locator_none base cb tb ab m N rs hd is num (B + 100 + 100) F _ C3.out (by omega) hN (j : Int) K2.out).mono ?_
  rintro e u4 ⟨rfl, C4, S4⟩
  have R4 := Lib.hid (R3.out.only S4.out.only SP.out.symm)
  have S5 := Lib.hid (S3.out.trans S4.out)
  obtain ⟨a1, k1, a2, k2, lv, _, c1, _, _, hLL, _⟩ := R4.out.cells
  clear C3 R3 S3 S4
  obtain ⟨g1, rfl, hc⟩ := hLL _ x Hxn.out
  have d0 : u4.cell? ⟨g1, j * 9, none⟩ = some (.int .i64 x.kind) := hc 0 (by omega)
  have d1 : u4.cell? ⟨g1, j * 9 + 1, none⟩ = some (.int .i64 x.val) := hc 1 (by omega)
  have d2 : u4.cell? ⟨g1, j * 9 + 2, none⟩ = some (.int .i64 x.owner) := hc 2 (by omega)
  have d3 : u4.cell? ⟨g1, j * 9 + 3, none⟩ = some (.int .i64 x.old) := hc 3 (by omega)
  have d4 : u4.cell? ⟨g1, j * 9 + 4, none⟩ = some (.int .i64 x.new) := hc 4 (by omega)
  have d5 : u4.cell? ⟨g1, j * 9 + 5, none⟩ = some (.int .i64 x.thread) := hc 5 (by omega)
  have d6 : u4.cell? ⟨g1, j * 9 + 6, none⟩ = some (.int .i64 x.txn) := hc 6 (by omega)
  have d7 : u4.cell? ⟨g1, j * 9 + 7, none⟩ = some (.int .i64 x.attempt) := hc 7 (by omega)
  have d8 : u4.cell? ⟨g1, j * 9 + 8, none⟩ = some (.int .i64 x.stamp) := hc 8 (by omega)
  have lg1 := World.block_lt_of_cell? _ _ d0
  clear hc
  clear hLL
  go_wp2_with fail
  go_quiet ((go_at_call 16; refine Calls.quiet_of_same ((ref_is_no base2 vb sb N rs hd m2 st G _ (R4.out.grown (by repeat first | exact gb_refl _ _ | refine gb_drew ?_ | refine gb_drewN ?_ _ | refine gb_alloc ?_ _)) (j : Int) 2 hrs K2.out).mono fun _ _ h => ⟨h.1, h.2.symm⟩)))
  have G6 : u4.grownBy ((u4.alloc (.cells #[.int .i64 0, .int .i64 0, .int .i64 0, .int .i64 0, .int .i64 0, .int .i64 0, .int .i64 0, .int .i64 0, .int .i64 0] 45)).drewN nq) none := gb_drewN (gb_alloc (gb_refl _ _) _) _
  have C6 := Lib.hid (C4.out.grown G6)
  have R6 := Lib.hid (R4.out.grown G6)
  have S6 := Lib.hid (S5.out.trans (Step.none G6))
  clear G6 C4 R4 S5 c1 lv d0 d1 d2 d3 d4 d5 d6 d7 d8 lg1
  generalize ((u4.alloc (.cells #[.int .i64 0, .int .i64 0, .int .i64 0, .int .i64 0, .int .i64 0, .int .i64 0, .int .i64 0, .int .i64 0, .int .i64 0] 45)).drewN nq) = u6 at *
  go_wp2_with fail
  refine (cells_value base cb tb ab m N rs hd is num (B + 100 + 100 + 100) F u6 C6.out (by omega) hN (j : Int) x Hx.out Hk.out).mono ?_
  rintro e u7 ⟨rfl, C7, S7⟩
  have R7 := Lib.hid (R6.out.only S7.out.only SP.out.symm)
  have S8 := Lib.hid (S6.out.trans S7.out)
  clear C6 R6 S6 S7
  obtain ⟨a1, k1, a2, k2, lv, _, c1, _, _, hLL, _⟩ := R7.out.cells
  obtain ⟨g1, rfl, hc⟩ := hLL _ x Hxn.out
  have d1 : u7.cell? ⟨g1, j * 9 + 1, none⟩ = some (.int .i64 x.val) := hc 1 (by omega)
  have lg1 := World.block_lt_of_cell? _ _ d1
  clear hc hLL
  go_wp2_with (go_at_call 16; refine (ref_is_yes base2 vb sb N rs hd m2 st G _ (R7.out.grown (by repeat first | exact gb_refl _ _ | refine gb_drew ?_ | refine gb_drewN ?_ _ | refine gb_alloc ?_ _)) (j : Int) 1 hrs K1.out).mono ?_; rintro e w' ⟨rfl, rfl⟩)
  go_ret
  exact ⟨rfl, C7.out.mono (by omega), S8.out⟩

theorem looks_true (base base2 cb tb ab vb sb m m2 L : Nat) (N : Int) (rs : List Rc) (hd : List Int) (is : Int → Bool) (num : Int → Nat → Int) (st : Int → Option Int) (B : Int) (F G : Nat → Prop) (w : World) (C : Cel base w cb tb ab N rs hd m is num B F) (R : RefC base2 w vb sb N rs hd m2 st G) (sep : Sep F G) (I : Inv N L rs hd m is num st) (hB : B ≤ 890000) (hN : N ≤ 4096) (hL : L ≤ 8) (n : Int) :
    Calls Try.prog 23 #[.pointer (some ⟨cb, 0, none⟩), .pointer (some ⟨tb, 0, none⟩), .pointer (some ⟨vb, 0, none⟩), .int .i64 n] w fun e w' => e = .returned (.bool true) ∧ Hid (Cel base w' cb tb ab N rs hd m is num (B + 400) F) ∧ Hid (Step F F w w') := by
  have other : ∀ (x : Rc) (q : Int), recAt rs n = some x → x.kind ≠ q → ¬ IsK rs n q := fun x q hx hq ⟨y, h1, h2⟩ => by rw [hx] at h1; cases h1; exact hq h2
  by_cases h0 : n < 0
  · have hx : recAt rs n = none := by unfold recAt; rw [if_neg (by omega)]
    exact looks_neg_no base base2 cb tb ab vb sb m m2 L N rs hd is num st B F G w C R sep I hB hN hL n h0 (fun ⟨y, h1, _⟩ => by rw [hx] at h1; cases h1) (fun ⟨y, h1, _⟩ => by rw [hx] at h1; cases h1)
  · by_cases hj : (L : Int) ≤ n
    · cases hx : recAt rs n with
      | none => exact looks_out_no base base2 cb tb ab vb sb m m2 L N rs hd is num st B F G w C R sep I hB hN hL n h0 hj (fun ⟨y, h1, _⟩ => by rw [hx] at h1; cases h1) (fun ⟨y, h1, _⟩ => by rw [hx] at h1; cases h1)
      | some x =>
        by_cases h2 : x.kind = 2
        · exact looks_out_two base base2 cb tb ab vb sb m m2 L N rs hd is num st B F G w C R sep I hB hN hL n h0 hj x hx h2
        · by_cases h1 : x.kind = 1
          · exact looks_out_one base base2 cb tb ab vb sb m m2 L N rs hd is num st B F G w C R sep I hB hN hL n h0 hj x hx h1
          · exact looks_out_no base base2 cb tb ab vb sb m m2 L N rs hd is num st B F G w C R sep I hB hN hL n h0 hj (other x 2 hx h2) (other x 1 hx h1)
    · cases hx : recAt rs n with
      | none => exact looks_in_no base base2 cb tb ab vb sb m m2 L N rs hd is num st B F G w C R sep I hB hN hL n n.toNat (by omega) (by omega) (fun ⟨y, h1, _⟩ => by rw [hx] at h1; cases h1) (fun ⟨y, h1, _⟩ => by rw [hx] at h1; cases h1)
      | some x =>
        by_cases h2 : x.kind = 2
        · exact looks_in_two base base2 cb tb ab vb sb m m2 L N rs hd is num st B F G w C R sep I hB hN hL n n.toNat (by omega) (by omega) x hx h2
        · by_cases h1 : x.kind = 1
          · exact looks_in_one base base2 cb tb ab vb sb m m2 L N rs hd is num st B F G w C R sep I hB hN hL n n.toNat (by omega) (by omega) x hx h1
          · exact looks_in_no base base2 cb tb ab vb sb m m2 L N rs hd is num st B F G w C R sep I hB hN hL n n.toNat (by omega) (by omega) (other x 2 hx h2) (other x 1 hx h1)
end Go.Proofs.Yticlmcoegcfanaa.acts
