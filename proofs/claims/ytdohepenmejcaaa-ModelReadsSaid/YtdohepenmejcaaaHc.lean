/- Package hist's Tries, Commits, Of, Before. -/
import Derived.Test.YtdohepenmejcaaaHtW
import Derived.Test.YtdohepenmejcaaaHmR
namespace Go.Proofs.Ytdohepenmejcaaa.hs
open Go Go.RowKit Go.Proofs.Ytdohepenmejcaaa.base Go.Maps
set_option linter.unusedVariables false
set_option maxRecDepth 100000

theorem gb_of_below {w w' : World} (h : Below w.heap.size w w') : w.grownBy w' none := ⟨h.os, h.tape, h.output, h.size, fun k hk _ => h.block k hk⟩

set_option maxHeartbeats 1000000 in
theorem told_wrong (w : World) (a : Option Addr) (len cap : Nat) (e : Evs) (hl : IsEvs w a len e) (hr : right e len = false) (hlen : len ≤ 10000) (gw : Nat) (cw : Array Value) (go : Nat) :
    Calls Try.prog 45 #[.slice a len cap, .func (.func gw) #[] cw, .func (.func go) #[] #[]] w fun r w' => r = .returned (.slice none 0 0) ∧ Hid (w.grownBy w' none) := by
  have HL := Lib.hid hl
  have HRT := Lib.hid hr
  have GA := Lib.hid (World.grownBy_alloc w (.cells #[.func (.func gw) #[] cw] 94) none)
  have HLEN := Lib.hid hlen
  clear hl hr hlen
  go_enter Try.func45, Try.ntmps45
  go_wp2_with (first | (go_at_call 23; refine (right_any a len cap e _ (HL.out.grown GA.out) (by have := HLEN.out; omega)).mono ?_; rw [HRT.out]; rintro r u1 ⟨rfl, g1⟩) | go_in)
  go_ret
  exact ⟨rfl, gb_trans GA.out g1.out⟩

theorem co_wants : Wants [] 46 #[] (fun t => t.co) := by
  refine ⟨enters_of Try.func46 (by kernel_rfl) rfl, fun u t v _ => ?_⟩
  show Calls Try.prog 46 #[.agg #[.int .i64 t.th, .int .i64 t.tx, .int .i64 t.at_, .int .i64 t.st, .int .i64 t.b, .int .i64 t.en, .int .i64 t.re, .bool t.co, v]] u _
  go_enter Try.func46, Try.ntmps46
  go_wp2
  go_ret
  exact ⟨rfl, (by repeat (first | exact gb_refl _ _ | refine gb_drewN ?_ _ | refine gb_drew ?_ | refine gb_alloc ?_ _))⟩

/-- What is told of a right trace. -/
def Told (w w' : World) (r : Ending) (T : List Tr) (f : Tr → Int) : Prop := ∃ a c ys, r = .returned (.slice a ys.length c) ∧ Hid (IsTries w' a ys) ∧ Hid ((ys.map Prod.fst).Perm T) ∧ Hid ((ys.map Prod.fst).Pairwise (fun x y => f x ≤ f y)) ∧ Hid (w.grownBy w' none)

set_option maxHeartbeats 1000000 in
theorem commits_right (w : World) (a : Option Addr) (len cap : Nat) (e : Evs) (hl : IsEvs w a len e) (hr : right e len = true) (hlen : len ≤ 10000) :
    Calls Try.prog 32 #[.slice a len cap] w fun r w' => Told w w' r ((tries e len).filter fun t => t.co) Tr.en := by
  have H := Lib.hid (told_right w w a len cap e hl (Below.refl _ _) hr hlen 46 #[] _ [] (by simp) co_wants 47 Tr.en byEnd_orders)
  clear hl hr hlen
  go_enter Try.func32, Try.ntmps32
  go_wp2_with (first | (go_at_call 45; refine H.out.mono ?_; rintro r u1 ⟨a', c', ys, rfl, h1, h2, h3, h4, h5⟩) | go_in)
  go_ret
  exact ⟨a', c', ys, rfl, h1, h2, h3, gb_of_below h4.out⟩

set_option maxHeartbeats 1000000 in
theorem commits_new (w : World) (a : Option Addr) (len cap : Nat) (e : Evs) (hl : IsEvs w a len e) (hr : right e len = true) (hlen : len ≤ 10000) :
    Calls Try.prog 32 #[.slice a len cap] w fun r w' => ∃ a c ys, r = .returned (.slice a ys.length c) ∧ Hid (IsTries w' a ys) ∧ Hid ((ys.map Prod.fst).Perm ((tries e len).filter fun t => t.co)) ∧ Hid ((ys.map Prod.fst).Pairwise (fun x y => x.en ≤ y.en)) ∧ Hid (w.grownBy w' none) ∧ Hid (NewT w.heap.size a ys) := by
  have H := Lib.hid (told_right w w a len cap e hl (Below.refl _ _) hr hlen 46 #[] _ [] (by simp) co_wants 47 Tr.en byEnd_orders)
  clear hl hr hlen
  go_enter Try.func32, Try.ntmps32
  go_wp2_with (first | (go_at_call 45; refine H.out.mono ?_; rintro r u1 ⟨a', c', ys, rfl, h1, h2, h3, h4, h5⟩) | go_in)
  go_ret
  exact ⟨a', c', ys, rfl, h1, h2, h3, gb_of_below h4.out, h5⟩

theorem commits_wrong (w : World) (a : Option Addr) (len cap : Nat) (e : Evs) (hl : IsEvs w a len e) (hr : right e len = false) (hlen : len ≤ 10000) :
    Calls Try.prog 32 #[.slice a len cap] w fun r w' => r = .returned (.slice none 0 0) ∧ Hid (w.grownBy w' none) := by
  have H := fun gw cw go => told_wrong w a len cap e hl hr hlen gw cw go
  go_enter Try.func32, Try.ntmps32
  go_wp2_with (first | (go_at_call 45; refine (H _ _ _).mono ?_; rintro r u1 ⟨rfl, g1⟩) | go_in)
  go_ret
  exact ⟨rfl, g1⟩

end Go.Proofs.Ytdohepenmejcaaa.hs
