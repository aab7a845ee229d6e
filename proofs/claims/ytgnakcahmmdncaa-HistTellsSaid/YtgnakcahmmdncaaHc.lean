/- Package hist's Tries, Commits, Of, Before. -/
import Derived.Test.YtgnakcahmmdncaaHtW
import Derived.Test.YtgnakcahmmdncaaHmR
namespace Go.Proofs.Ytgnakcahmmdncaa.hs
open Go Go.RowKit Go.Proofs.Ytgnakcahmmdncaa.base Go.Maps
set_option linter.unusedVariables false
set_option maxRecDepth 100000

theorem gb_of_below {w w' : World} (h : Below w.heap.size w w') : w.grownBy w' none := ⟨h.os, h.tape, h.output, h.size, fun k hk _ => h.block k hk⟩

set_option maxHeartbeats 1000000 in
theorem told_wrong (w : World) (a : Option Addr) (len cap : Nat) (e : Evs) (hl : IsEvs w a len e) (hr : right e len = false) (hlen : len ≤ 10000) (gw : Nat) (cw : Array Value) (go : Nat) :
    Calls Try.prog 23 #[.slice a len cap, .func (.func gw) #[] cw, .func (.func go) #[] #[]] w fun r w' => r = .returned (.slice none 0 0) ∧ Hid (w.grownBy w' none) := by
  have HL := Lib.hid hl
  have HRT := Lib.hid hr
  have GA := Lib.hid (World.grownBy_alloc w (.cells #[.func (.func gw) #[] cw] 56) none)
  have HLEN := Lib.hid hlen
  clear hl hr hlen
  go_enter Try.func23, Try.ntmps23
  go_wp2_with (first | (go_at_call 10; refine (right_any a len cap e _ (HL.out.grown GA.out) (by have := HLEN.out; omega)).mono ?_; rw [HRT.out]; rintro r u1 ⟨rfl, g1⟩) | go_in)
  go_ret
  exact ⟨rfl, gb_trans GA.out g1.out⟩

theorem all_wants : Wants [] 24 #[] (fun _ => true) := by
  refine ⟨enters_of Try.func24 (by kernel_rfl) rfl, fun u t v _ => ?_⟩
  show Calls Try.prog 24 #[.agg #[.int .i64 t.th, .int .i64 t.tx, .int .i64 t.at_, .int .i64 t.st, .int .i64 t.b, .int .i64 t.en, .int .i64 t.re, .bool t.co, v]] u _
  go_enter Try.func24, Try.ntmps24
  go_wp2
  go_ret
  exact ⟨rfl, (by repeat (first | exact gb_refl _ _ | refine gb_drewN ?_ _ | refine gb_drew ?_ | refine gb_alloc ?_ _))⟩
theorem co_wants : Wants [] 26 #[] (fun t => t.co) := by
  refine ⟨enters_of Try.func26 (by kernel_rfl) rfl, fun u t v _ => ?_⟩
  show Calls Try.prog 26 #[.agg #[.int .i64 t.th, .int .i64 t.tx, .int .i64 t.at_, .int .i64 t.st, .int .i64 t.b, .int .i64 t.en, .int .i64 t.re, .bool t.co, v]] u _
  go_enter Try.func26, Try.ntmps26
  go_wp2
  go_ret
  exact ⟨rfl, (by repeat (first | exact gb_refl _ _ | refine gb_drewN ?_ _ | refine gb_drew ?_ | refine gb_alloc ?_ _))⟩
theorem of_wants (b c : Nat) (th tx : Int) : Wants [(b, 3, [.int .i64 th]), (c, 3, [.int .i64 tx])] 28 #[.pointer (some ⟨b, 0, none⟩), .pointer (some ⟨c, 0, none⟩)] (fun t => t.th == th && t.tx == tx) := by
  refine ⟨enters_of Try.func28 (by kernel_rfl) rfl, fun u t v hC => ?_⟩
  have B1 : Blk 3 u b #[.int .i64 th] := hC (b, 3, [.int .i64 th]) (by simp)
  have B2 : Blk 3 u c #[.int .i64 tx] := hC (c, 3, [.int .i64 tx]) (by simp)
  have l1 := B1.lt
  have l2 := B2.lt
  have b1 : u.cell? ⟨b, 0, none⟩ = some (.int .i64 th) := B1.cell 0
  have b2 : u.cell? ⟨c, 0, none⟩ = some (.int .i64 tx) := B2.cell 0
  clear hC B1 B2
  show Calls Try.prog 28 #[.agg #[.int .i64 t.th, .int .i64 t.tx, .int .i64 t.at_, .int .i64 t.st, .int .i64 t.b, .int .i64 t.en, .int .i64 t.re, .bool t.co, v], .pointer (some ⟨b, 0, none⟩), .pointer (some ⟨c, 0, none⟩)] u _
  go_enter Try.func28, Try.ntmps28
  go_wp2
  all_goals go_ret
  all_goals refine ⟨?_, (by repeat (first | exact gb_refl _ _ | refine gb_drewN ?_ _ | refine gb_drew ?_ | refine gb_alloc ?_ _))⟩
  all_goals simp_all

/-- What is told of a right trace. -/
def Told (w w' : World) (r : Ending) (T : List Tr) (f : Tr → Int) : Prop := ∃ a c ys, r = .returned (.slice a ys.length c) ∧ Hid (IsTries w' a ys) ∧ Hid ((ys.map Prod.fst).Perm T) ∧ Hid ((ys.map Prod.fst).Pairwise (fun x y => f x ≤ f y)) ∧ Hid (w.grownBy w' none)

set_option maxHeartbeats 1000000 in
theorem tries_right (w : World) (a : Option Addr) (len cap : Nat) (e : Evs) (hl : IsEvs w a len e) (hr : right e len = true) (hlen : len ≤ 10000) :
    Calls Try.prog 11 #[.slice a len cap] w fun r w' => Told w w' r (tries e len) Tr.b := by
  have H := Lib.hid (told_right w w a len cap e hl (Below.refl _ _) hr hlen 24 #[] _ [] (by simp) all_wants 25 Tr.b byBegin_orders)
  clear hl hr hlen
  go_enter Try.func11, Try.ntmps11
  go_wp2_with (first | (go_at_call 23; refine H.out.mono ?_; rintro r u1 ⟨a', c', ys, rfl, h1, h2, h3, h4⟩) | go_in)
  go_ret
  refine ⟨a', c', ys, rfl, h1, ?_, h3, gb_of_below h4.out⟩
  have := h2.out
  rwa [List.filter_eq_self.2 (by simp)] at this

set_option maxHeartbeats 1000000 in
theorem commits_right (w : World) (a : Option Addr) (len cap : Nat) (e : Evs) (hl : IsEvs w a len e) (hr : right e len = true) (hlen : len ≤ 10000) :
    Calls Try.prog 12 #[.slice a len cap] w fun r w' => Told w w' r ((tries e len).filter fun t => t.co) Tr.en := by
  have H := Lib.hid (told_right w w a len cap e hl (Below.refl _ _) hr hlen 26 #[] _ [] (by simp) co_wants 27 Tr.en byEnd_orders)
  clear hl hr hlen
  go_enter Try.func12, Try.ntmps12
  go_wp2_with (first | (go_at_call 23; refine H.out.mono ?_; rintro r u1 ⟨a', c', ys, rfl, h1, h2, h3, h4⟩) | go_in)
  go_ret
  exact ⟨a', c', ys, rfl, h1, h2, h3, gb_of_below h4.out⟩

set_option maxHeartbeats 1000000 in
theorem of_right (w : World) (a : Option Addr) (len cap : Nat) (e : Evs) (th tx : Int) (hl : IsEvs w a len e) (hr : right e len = true) (hlen : len ≤ 10000) :
    Calls Try.prog 13 #[.slice a len cap, .int .i64 th, .int .i64 tx] w fun r w' => Told w w' r ((tries e len).filter fun t => t.th == th && t.tx == tx) Tr.b := by
  have H := Lib.hid (told_right w ((w.alloc (.cells #[.int .i64 th] 3)).alloc (.cells #[.int .i64 tx] 3)) a len cap e hl (bl_none (Below.refl _ _) (by repeat (first | exact gb_refl _ _ | refine gb_drewN ?_ _ | refine gb_drew ?_ | refine gb_alloc ?_ _))) hr hlen 28 #[.pointer (some ⟨w.heap.size, 0, none⟩), .pointer (some ⟨w.heap.size + 1, 0, none⟩)] _ [(w.heap.size, 3, [.int .i64 th]), (w.heap.size + 1, 3, [.int .i64 tx])]
    (by
      intro x hx
      simp at hx
      rcases hx with rfl | rfl
      · exact ⟨rfl, Nat.le_refl _, (Blk.made w _ _).alloc _⟩
      · refine ⟨rfl, Nat.le_succ _, ?_⟩
        have := Blk.made (w.alloc (.cells #[.int .i64 th] 3)) 3 #[.int .i64 tx]
        rwa [World.size_alloc] at this) (of_wants _ _ th tx) 25 Tr.b byBegin_orders)
  clear hl hr hlen
  go_enter Try.func13, Try.ntmps13
  go_wp2_with (first | (go_at_call 23; refine H.out.mono ?_; rintro r u1 ⟨a', c', ys, rfl, h1, h2, h3, h4⟩) | go_in)
  go_ret
  exact ⟨a', c', ys, rfl, h1, h2, h3, gb_of_below h4.out⟩

theorem tries_wrong (w : World) (a : Option Addr) (len cap : Nat) (e : Evs) (hl : IsEvs w a len e) (hr : right e len = false) (hlen : len ≤ 10000) :
    Calls Try.prog 11 #[.slice a len cap] w fun r w' => r = .returned (.slice none 0 0) ∧ Hid (w.grownBy w' none) := by
  have H := fun gw cw go => told_wrong w a len cap e hl hr hlen gw cw go
  go_enter Try.func11, Try.ntmps11
  go_wp2_with (first | (go_at_call 23; refine (H _ _ _).mono ?_; rintro r u1 ⟨rfl, g1⟩) | go_in)
  go_ret
  exact ⟨rfl, g1⟩
theorem commits_wrong (w : World) (a : Option Addr) (len cap : Nat) (e : Evs) (hl : IsEvs w a len e) (hr : right e len = false) (hlen : len ≤ 10000) :
    Calls Try.prog 12 #[.slice a len cap] w fun r w' => r = .returned (.slice none 0 0) ∧ Hid (w.grownBy w' none) := by
  have H := fun gw cw go => told_wrong w a len cap e hl hr hlen gw cw go
  go_enter Try.func12, Try.ntmps12
  go_wp2_with (first | (go_at_call 23; refine (H _ _ _).mono ?_; rintro r u1 ⟨rfl, g1⟩) | go_in)
  go_ret
  exact ⟨rfl, g1⟩
theorem of_wrong (w : World) (a : Option Addr) (len cap : Nat) (e : Evs) (th tx : Int) (hl : IsEvs w a len e) (hr : right e len = false) (hlen : len ≤ 10000) :
    Calls Try.prog 13 #[.slice a len cap, .int .i64 th, .int .i64 tx] w fun r w' => r = .returned (.slice none 0 0) ∧ Hid (w.grownBy w' none) := by
  have GA := Lib.hid (show World.grownBy w ((w.alloc (.cells #[.int .i64 th] 3)).alloc (.cells #[.int .i64 tx] 3)) none from (by repeat (first | exact gb_refl _ _ | refine gb_drewN ?_ _ | refine gb_drew ?_ | refine gb_alloc ?_ _)))
  have H := fun gw cw go => told_wrong _ a len cap e (hl.grown GA.out) hr hlen gw cw go
  go_enter Try.func13, Try.ntmps13
  go_wp2_with (first | (go_at_call 23; refine (H _ _ _).mono ?_; rintro r u1 ⟨rfl, g1⟩) | go_in)
  go_ret
  exact ⟨rfl, gb_trans GA.out g1.out⟩
end Go.Proofs.Ytgnakcahmmdncaa.hs
