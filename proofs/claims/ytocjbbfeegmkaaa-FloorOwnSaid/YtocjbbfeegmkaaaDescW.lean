/- The contracts of package desc that change a descriptor: Turn, Raise, Wait. -/
import Derived.Test.YtocjbbfeegmkaaaDesc
import Derived.Deep.RegionHeld3
import Derived.IntWalk
namespace Go.Proofs.Ytocjbbfeegmkaaa.ds
open Go Go.RowKit Go.Proofs.Ytocjbbfeegmkaaa.base Go.Proofs.Ytocjbbfeegmkaaa.ar Go.Proofs.Ytocjbbfeegmkaaa.wd

theorem turn_hit (base : Nat) (tb mb ab m : Nat) (is : Int → Bool) (blk : Int → Nat → Nat) (num : Int → Nat → Int) (B : Int) (w : World) (id : Int) (h : Tab base w tb mb ab m is blk num B) (to : Int) (hid : is id = true) (hw : (Lit.int .i64 id).wf = true) (hB : B ≤ 1000000) (hs : num id 0 = 1) (ht : to = 2 ∨ to = 3) :
    Calls Try.prog 37 #[.pointer (some ⟨tb, 0, none⟩), .int .i64 id, .int .i64 to] w fun e w' => e = .returned (.bool true) ∧ Hid (Tab base w' tb mb ab m is blk (upd num id 0 to) (B + 1)) ∧ Hid (w.grownBy w' (some (blk id 0))) := by
  obtain ⟨_, a, l, u, W0⟩ := h.word id 0 hid (by omega)
  rw [hs] at W0
  have W := Lib.hid W0
  have M := Lib.hid h.map
  have t1 := h.tab.cell 1
  have tl := h.tab.lt
  have HF : Hid ((fun j => if is j then some (dval (blk j)) else none) id = some (dval (blk id))) := by simp [Hid, hid]
  have H := Lib.hid h
  clear h W0
  rcases ht with rfl | rfl
  all_goals
    go_enter Try.func37, Try.ntmps37
    go_wp2_with (first | (at_lookup; refine wpList_hit_mapF _ rfl _ _ 95 rfl 3 112 Try.underlying3 Try.underlying95 _ (zeroD _) mb m _ rfl (M.out.keep ((show World.grownBy w _ none from (by repeat first | exact gb_refl _ _ | refine gb_alloc ?_ _)).block _ M.out.lt (by simp))) id rfl hw _ HF.out ?_) | (go_at_call 53; refine (swap_hit (blk id 0) 1 _ a _ (W.out.grown (show World.grownBy w _ none from (by repeat first | exact gb_refl _ _ | refine gb_alloc ?_ _)) (by simp)) l (by omega)).mono ?_; rintro e u1 ⟨rfl, W1, g1⟩; obtain ⟨q1, q2⟩ := gb_cellF (p := ⟨w.heap.size + 1, 0, none⟩) (v := .bool false) g1.out (by simp [go_sem]) (by simp [go_sem]) (by intro e; have := W.out.lt; simp at e; omega)) | go_in)
    go_ret
    have G : w.grownBy (u1.setCell ⟨w.heap.size + 1, 0, none⟩ (.bool true)) (some (blk id 0)) := gb_setNew (gb_trans (by repeat first | exact gb_refl _ _ | refine gb_alloc ?_ _) g1.out) (by simp) _
    have W2 := W1.out.setOther (p := ⟨w.heap.size + 1, 0, none⟩) (by have := W.out.lt; show blk id 0 ≠ w.heap.size + 1; omega) (.bool true)
    exact ⟨rfl, H.out.set hid (by omega) G W2 (by omega) (by omega : a + 1 ≤ B + 1) (by omega), G⟩

theorem turn_gone (base : Nat) (tb mb ab m : Nat) (is : Int → Bool) (blk : Int → Nat → Nat) (num : Int → Nat → Int) (B : Int) (w : World) (id : Int) (h : Tab base w tb mb ab m is blk num B) (to : Int) (hid : is id = true) (hw : (Lit.int .i64 id).wf = true) (hB : B ≤ 1000000) (hs : (num id 0 == 1) = false) (ht : to = 2 ∨ to = 3) :
    Calls Try.prog 37 #[.pointer (some ⟨tb, 0, none⟩), .int .i64 id, .int .i64 to] w fun e w' => e = .returned (.bool false) ∧ Hid (Tab base w' tb mb ab m is blk (upd num id 0 (num id 0)) (B + 1)) ∧ Hid (w.grownBy w' (some (blk id 0))) := by
  obtain ⟨_, a, l, u, W0⟩ := h.word id 0 hid (by omega)
  skip
  have W := Lib.hid W0
  have M := Lib.hid h.map
  have t1 := h.tab.cell 1
  have tl := h.tab.lt
  have HF : Hid ((fun j => if is j then some (dval (blk j)) else none) id = some (dval (blk id))) := by simp [Hid, hid]
  have H := Lib.hid h
  clear h W0
  rcases ht with rfl | rfl
  all_goals
    go_enter Try.func37, Try.ntmps37
    go_wp2_with (first | (at_lookup; refine wpList_hit_mapF _ rfl _ _ 95 rfl 3 112 Try.underlying3 Try.underlying95 _ (zeroD _) mb m _ rfl (M.out.keep ((show World.grownBy w _ none from (by repeat first | exact gb_refl _ _ | refine gb_alloc ?_ _)).block _ M.out.lt (by simp))) id rfl hw _ HF.out ?_) | (go_at_call 53; refine (swap_miss (blk id 0) (num id 0) 1 _ a _ (W.out.grown (show World.grownBy w _ none from (by repeat first | exact gb_refl _ _ | refine gb_alloc ?_ _)) (by simp)) l (by omega) hs).mono ?_; rintro e u1 ⟨rfl, W1, g1⟩; obtain ⟨q1, q2⟩ := gb_cellF (p := ⟨w.heap.size + 1, 0, none⟩) (v := .bool false) g1.out (by simp [go_sem]) (by simp [go_sem]) (by intro e; have := W.out.lt; simp at e; omega)) | go_in)
    go_ret
    have G : w.grownBy (u1.setCell ⟨w.heap.size + 1, 0, none⟩ (.bool false)) (some (blk id 0)) := gb_setNew (gb_trans (by repeat first | exact gb_refl _ _ | refine gb_alloc ?_ _) g1.out) (by simp) _
    have W2 := W1.out.setOther (p := ⟨w.heap.size + 1, 0, none⟩) (by have := W.out.lt; show blk id 0 ≠ w.heap.size + 1; omega) (.bool false)
    exact ⟨rfl, H.out.set hid (by omega) G W2 (by omega) (by omega : a + 1 ≤ B + 1) (by omega), G⟩

theorem turn_bad (p : Option Addr) (id to : Int) (w : World) (ht : to ≠ 2 ∧ to ≠ 3) :
    Calls Try.prog 37 #[.pointer p, .int .i64 id, .int .i64 to] w fun e w' => e = .returned (.bool false) ∧ Hid (w.grownBy w' none) := by
  have h2 : (to != 2) = true := by simpa using ht.1
  have h3 : (to != 3) = true := by simpa using ht.2
  clear ht
  go_enter Try.func37, Try.ntmps37
  go_wp2
  go_ret
  exact ⟨rfl, (by repeat first | exact gb_refl _ _ | refine gb_alloc ?_ _)⟩

theorem turn_nil (id to : Int) (w : World) :
    Calls Try.prog 37 #[.pointer none, .int .i64 id, .int .i64 to] w fun e w' => e = .returned (.bool false) ∧ Hid (w.grownBy w' none) := by
  by_cases h : to ≠ 2 ∧ to ≠ 3
  · exact turn_bad none id to w h
  · have h' : to = 2 ∨ to = 3 := by omega
    clear h
    rcases h' with rfl | rfl
    all_goals
      go_enter Try.func37, Try.ntmps37
      go_wp2_with (go_in)
      go_ret
      exact ⟨rfl, (by repeat first | exact gb_refl _ _ | refine gb_alloc ?_ _)⟩

theorem turn_miss (base : Nat) (tb mb ab m : Nat) (is : Int → Bool) (blk : Int → Nat → Nat) (num : Int → Nat → Int) (B : Int) (w : World) (id : Int) (h : Tab base w tb mb ab m is blk num B) (to : Int) (hid : is id = false) (hw : (Lit.int .i64 id).wf = true) :
    Calls Try.prog 37 #[.pointer (some ⟨tb, 0, none⟩), .int .i64 id, .int .i64 to] w fun e w' => e = .returned (.bool false) ∧ Hid (w.grownBy w' none) := by
  by_cases ht : to ≠ 2 ∧ to ≠ 3
  · exact turn_bad _ id to w ht
  · have h' : to = 2 ∨ to = 3 := by omega
    have M := Lib.hid h.map
    have t1 := h.tab.cell 1
    have tl := h.tab.lt
    have HF : Hid ((fun j => if is j then some (dval (blk j)) else none) id = none) := by simp [Hid, hid]
    have H := Lib.hid h
    clear h ht
    rcases h' with rfl | rfl
    all_goals
      go_enter Try.func37, Try.ntmps37
      go_wp2_with (first | (at_lookup; refine wpList_miss_mapF _ rfl _ _ 95 rfl 3 112 Try.underlying3 Try.underlying95 _ (zeroD _) mb m _ rfl (M.out.keep ((show World.grownBy w _ none from (by repeat first | exact gb_refl _ _ | refine gb_alloc ?_ _)).block _ M.out.lt (by simp))) id rfl hw HF.out ?_) | go_in)
      go_ret
      exact ⟨rfl, (by repeat first | exact gb_refl _ _ | refine gb_alloc ?_ _)⟩

/-- What a bool is, as a word's number. -/
def bit (b : Bool) : Int := if b then 1 else 0

end Go.Proofs.Ytocjbbfeegmkaaa.ds
