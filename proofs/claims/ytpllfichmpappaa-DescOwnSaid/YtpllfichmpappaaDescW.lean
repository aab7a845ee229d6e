/- The contracts of package desc that change a descriptor: Turn, Raise, Wait. -/
import Derived.Test.YtpllfichmpappaaDesc
import Derived.Deep.RegionHeld3
import Derived.IntWalk
namespace Go.Proofs.Ytpllfichmpappaa.ds
open Go Go.RowKit Go.Proofs.Ytpllfichmpappaa.base Go.Proofs.Ytpllfichmpappaa.ar Go.Proofs.Ytpllfichmpappaa.wd

theorem turn_hit (base : Nat) (tb mb ab m : Nat) (is : Int → Bool) (blk : Int → Nat → Nat) (num : Int → Nat → Int) (B : Int) (w : World) (id : Int) (h : Tab base w tb mb ab m is blk num B) (to : Int) (hid : is id = true) (hw : (Lit.int .i64 id).wf = true) (hB : B ≤ 1000000) (hs : num id 0 = 1) (ht : to = 2 ∨ to = 3) :
    Calls Try.prog 9 #[.pointer (some ⟨tb, 0, none⟩), .int .i64 id, .int .i64 to] w fun e w' => e = .returned (.bool true) ∧ Hid (Tab base w' tb mb ab m is blk (upd num id 0 to) (B + 1)) ∧ Hid (w.grownBy w' (some (blk id 0))) := by
  obtain ⟨_, a, l, u, W0⟩ := h.word id 0 hid (by omega)
  rw [hs] at W0
  have W := Lib.hid W0
  have M := Lib.hid h.map
  have t1 := h.tab.cell 1
  have tl := h.tab.lt
  have HF : Hid ((fun j => if is j then some (dval (blk j)) else none) id = some (dval (blk id))) := by simp [Hid, hid]
  have H := Lib.hid h
  clear h W0
  rcases ht with rfl | rfl
  all_goals
    go_enter Try.func9, Try.ntmps9
    go_wp2_with (first | (at_lookup; refine wpList_hit_mapF _ rfl _ _ 52 rfl 3 59 Try.underlying3 Try.underlying52 _ (zeroD _) mb m _ rfl (M.out.keep ((show World.grownBy w _ none from (by repeat first | exact gb_refl _ _ | refine gb_alloc ?_ _)).block _ M.out.lt (by simp))) id rfl hw _ HF.out ?_) | (go_at_call 23; refine (swap_hit (blk id 0) 1 _ a _ (W.out.grown (show World.grownBy w _ none from (by repeat first | exact gb_refl _ _ | refine gb_alloc ?_ _)) (by simp)) l (by omega)).mono ?_; rintro e u1 ⟨rfl, W1, g1⟩; obtain ⟨q1, q2⟩ := gb_cellF (p := ⟨w.heap.size + 1, 0, none⟩) (v := .bool false) g1.out (by simp [go_sem]) (by simp [go_sem]) (by intro e; have := W.out.lt; simp at e; omega)) | go_in)
    go_ret
    have G : w.grownBy (u1.setCell ⟨w.heap.size + 1, 0, none⟩ (.bool true)) (some (blk id 0)) := gb_setNew (gb_trans (by repeat first | exact gb_refl _ _ | refine gb_alloc ?_ _) g1.out) (by simp) _
    have W2 := W1.out.setOther (p := ⟨w.heap.size + 1, 0, none⟩) (by have := W.out.lt; show blk id 0 ≠ w.heap.size + 1; omega) (.bool true)
    exact ⟨rfl, H.out.set hid (by omega) G W2 (by omega) (by omega : a + 1 ≤ B + 1) (by omega), G⟩

theorem turn_gone (base : Nat) (tb mb ab m : Nat) (is : Int → Bool) (blk : Int → Nat → Nat) (num : Int → Nat → Int) (B : Int) (w : World) (id : Int) (h : Tab base w tb mb ab m is blk num B) (to : Int) (hid : is id = true) (hw : (Lit.int .i64 id).wf = true) (hB : B ≤ 1000000) (hs : (num id 0 == 1) = false) (ht : to = 2 ∨ to = 3) :
    Calls Try.prog 9 #[.pointer (some ⟨tb, 0, none⟩), .int .i64 id, .int .i64 to] w fun e w' => e = .returned (.bool false) ∧ Hid (Tab base w' tb mb ab m is blk (upd num id 0 (num id 0)) (B + 1)) ∧ Hid (w.grownBy w' (some (blk id 0))) := by
  obtain ⟨_, a, l, u, W0⟩ := h.word id 0 hid (by omega)
  skip
  have W := Lib.hid W0
  have M := Lib.hid h.map
  have t1 := h.tab.cell 1
  have tl := h.tab.lt
  have HF : Hid ((fun j => if is j then some (dval (blk j)) else none) id = some (dval (blk id))) := by simp [Hid, hid]
  have H := Lib.hid h
  clear h W0
  rcases ht with rfl | rfl
  all_goals
    go_enter Try.func9, Try.ntmps9
    go_wp2_with (first | (at_lookup; refine wpList_hit_mapF _ rfl _ _ 52 rfl 3 59 Try.underlying3 Try.underlying52 _ (zeroD _) mb m _ rfl (M.out.keep ((show World.grownBy w _ none from (by repeat first | exact gb_refl _ _ | refine gb_alloc ?_ _)).block _ M.out.lt (by simp))) id rfl hw _ HF.out ?_) | (go_at_call 23; refine (swap_miss (blk id 0) (num id 0) 1 _ a _ (W.out.grown (show World.grownBy w _ none from (by repeat first | exact gb_refl _ _ | refine gb_alloc ?_ _)) (by simp)) l (by omega) hs).mono ?_; rintro e u1 ⟨rfl, W1, g1⟩; obtain ⟨q1, q2⟩ := gb_cellF (p := ⟨w.heap.size + 1, 0, none⟩) (v := .bool false) g1.out (by simp [go_sem]) (by simp [go_sem]) (by intro e; have := W.out.lt; simp at e; omega)) | go_in)
    go_ret
    have G : w.grownBy (u1.setCell ⟨w.heap.size + 1, 0, none⟩ (.bool false)) (some (blk id 0)) := gb_setNew (gb_trans (by repeat first | exact gb_refl _ _ | refine gb_alloc ?_ _) g1.out) (by simp) _
    have W2 := W1.out.setOther (p := ⟨w.heap.size + 1, 0, none⟩) (by have := W.out.lt; show blk id 0 ≠ w.heap.size + 1; omega) (.bool false)
    exact ⟨rfl, H.out.set hid (by omega) G W2 (by omega) (by omega : a + 1 ≤ B + 1) (by omega), G⟩

theorem turn_bad (p : Option Addr) (id to : Int) (w : World) (ht : to ≠ 2 ∧ to ≠ 3) :
    Calls Try.prog 9 #[.pointer p, .int .i64 id, .int .i64 to] w fun e w' => e = .returned (.bool false) ∧ Hid (w.grownBy w' none) := by
  have h2 : (to != 2) = true := by simpa using ht.1
  have h3 : (to != 3) = true := by simpa using ht.2
  clear ht
  go_enter Try.func9, Try.ntmps9
  go_wp2
  go_ret
  exact ⟨rfl, (by repeat first | exact gb_refl _ _ | refine gb_alloc ?_ _)⟩

theorem turn_nil (id to : Int) (w : World) :
    Calls Try.prog 9 #[.pointer none, .int .i64 id, .int .i64 to] w fun e w' => e = .returned (.bool false) ∧ Hid (w.grownBy w' none) := by
  by_cases h : to ≠ 2 ∧ to ≠ 3
  · exact turn_bad none id to w h
  · have h' : to = 2 ∨ to = 3 := by omega
    clear h
    rcases h' with rfl | rfl
    all_goals
      go_enter Try.func9, Try.ntmps9
      go_wp2_with (go_in)
      go_ret
      exact ⟨rfl, (by repeat first | exact gb_refl _ _ | refine gb_alloc ?_ _)⟩

theorem turn_miss (base : Nat) (tb mb ab m : Nat) (is : Int → Bool) (blk : Int → Nat → Nat) (num : Int → Nat → Int) (B : Int) (w : World) (id : Int) (h : Tab base w tb mb ab m is blk num B) (to : Int) (hid : is id = false) (hw : (Lit.int .i64 id).wf = true) :
    Calls Try.prog 9 #[.pointer (some ⟨tb, 0, none⟩), .int .i64 id, .int .i64 to] w fun e w' => e = .returned (.bool false) ∧ Hid (w.grownBy w' none) := by
  by_cases ht : to ≠ 2 ∧ to ≠ 3
  · exact turn_bad _ id to w ht
  · have h' : to = 2 ∨ to = 3 := by omega
    have M := Lib.hid h.map
    have t1 := h.tab.cell 1
    have tl := h.tab.lt
    have HF : Hid ((fun j => if is j then some (dval (blk j)) else none) id = none) := by simp [Hid, hid]
    have H := Lib.hid h
    clear h ht
    rcases h' with rfl | rfl
    all_goals
      go_enter Try.func9, Try.ntmps9
      go_wp2_with (first | (at_lookup; refine wpList_miss_mapF _ rfl _ _ 52 rfl 3 59 Try.underlying3 Try.underlying52 _ (zeroD _) mb m _ rfl (M.out.keep ((show World.grownBy w _ none from (by repeat first | exact gb_refl _ _ | refine gb_alloc ?_ _)).block _ M.out.lt (by simp))) id rfl hw HF.out ?_) | go_in)
      go_ret
      exact ⟨rfl, (by repeat first | exact gb_refl _ _ | refine gb_alloc ?_ _)⟩

theorem raise_gone (base : Nat) (tb mb ab m : Nat) (is : Int → Bool) (blk : Int → Nat → Nat) (num : Int → Nat → Int) (B : Int) (w : World) (id : Int) (h : Tab base w tb mb ab m is blk num B) (hid : is id = true) (hw : (Lit.int .i64 id).wf = true) (hB : B ≤ 1000000) (hs : (num id 0 == 1) = false) :
    Calls Try.prog 11 #[.pointer (some ⟨tb, 0, none⟩), .int .i64 id] w fun e w' => e = .returned (.int .i64 7) ∧ Hid (Tab base w' tb mb ab m is blk num (B + 2)) ∧ Hid (w.grownBy w' (some (blk id 0))) := by
  obtain ⟨_, a, l, u, W0⟩ := h.word id 0 hid (by omega)
  have W := Lib.hid W0
  have M := Lib.hid h.map
  have t1 := h.tab.cell 1
  have tl := h.tab.lt
  have HF : Hid ((fun j => if is j then some (dval (blk j)) else none) id = some (dval (blk id))) := by simp [Hid, hid]
  have H := Lib.hid h
  clear h W0
  go_enter Try.func11, Try.ntmps11
  go_wp2_with (first | (at_lookup; refine wpList_hit_mapF _ rfl _ _ 52 rfl 3 59 Try.underlying3 Try.underlying52 _ (zeroD _) mb m _ rfl (M.out.keep ((show World.grownBy w _ none from (by repeat first | exact gb_refl _ _ | refine gb_alloc ?_ _)).block _ M.out.lt (by simp))) id rfl hw _ HF.out ?_) | (go_at_call 28; refine (load_any (blk id 0) (num id 0) a _ (W.out.grown (show World.grownBy w _ none from (by repeat first | exact gb_refl _ _ | refine gb_alloc ?_ _)) (by simp)) l (by omega)).mono ?_; rintro e u1 ⟨rfl, W1, g1⟩) | go_in)
  go_ret
  have G : w.grownBy u1 (some (blk id 0)) := gb_trans (by repeat first | exact gb_refl _ _ | refine gb_alloc ?_ _) g1.out
  refine ⟨rfl, ?_, G⟩
  have := H.out.set hid (by omega) G W1.out (by omega) (by omega : a + 1 ≤ B + 2) (by omega)
  rwa [upd_self] at this

theorem raise1 (x p y : Nat) (n a : Int) (w : World) (h : Word w p n a) (l : 0 ≤ a) (u : a ≤ 999999) (hn : 0 ≤ n ∧ n ≤ 1000000000) :
    Calls Try.prog 27 #[.agg #[.pointer (some ⟨x, 0, none⟩), .pointer (some ⟨p, 0, none⟩), .pointer (some ⟨y, 0, none⟩)]] w fun e w' => e = .returned (.tuple #[]) ∧ Hid (Word w' p (n + 1) (a + 2)) ∧ Hid (w.grownBy w' (some p)) := by
  have W := Lib.hid h
  have hn1 : IntKind.i64.wrap (n + 1) = n + 1 := IntWalk.i64_in _ (by omega)
  have hl := h.lt
  clear h hn
  go_enter Try.func27, Try.ntmps27
  go_wp2_with fail
  refine (load_any p n a _ (W.out.alloc _) l (by omega)).mono ?_
  rintro e u1 ⟨rfl, W1, g1⟩
  have q1 := g1.out.cell (a := ⟨w.heap.size, 1, none⟩) (v := .pointer (some ⟨p, 0, none⟩)) (by simp [go_sem]) (by intro e; simp at e; omega)
  go_wp2_with fail
  refine (swap_hit p n _ (a + 1) _ W1.out (by omega) (by omega)).mono ?_
  rintro e u2 ⟨rfl, W2, g2⟩
  go_wp2
  go_end0
  exact ⟨rfl, by have := W2.out; rwa [show a + 1 + 1 = a + 2 by omega] at this, gb_trans (gb_trans (gb_alloc (gb_refl _ _) _) g1.out) g2.out⟩

theorem raise_hit (base : Nat) (tb mb ab m : Nat) (is : Int → Bool) (blk : Int → Nat → Nat) (num : Int → Nat → Int) (B : Int) (w : World) (id : Int) (h : Tab base w tb mb ab m is blk num B) (hid : is id = true) (hw : (Lit.int .i64 id).wf = true) (hB : B ≤ 999999) (hs : num id 0 = 1) (hp : 0 ≤ num id 1 ∧ num id 1 ≤ 1000000000) :
    Calls Try.prog 11 #[.pointer (some ⟨tb, 0, none⟩), .int .i64 id] w fun e w' => e = .returned (.int .i64 0) ∧ Hid (Tab base w' tb mb ab m is blk (upd num id 1 (num id 1 + 1)) (B + 2)) ∧ Hid (Only (fun k => k = blk id 0 ∨ k = blk id 1) w w') := by
  obtain ⟨_, a, l, u, W0⟩ := h.word id 0 hid (by omega)
  obtain ⟨_, a1, l1, u1, P0⟩ := h.word id 1 hid (by omega)
  rw [hs] at W0
  have W := Lib.hid W0
  have P := Lib.hid P0
  have HP := Lib.hid hp
  have ne : Hid (blk id 0 ≠ blk id 1) := fun e => by have := h.apart id 0 id 1 hid hid (by omega) (by omega) e; omega
  have l0 := W0.lt
  have l1' := P0.lt
  have M := Lib.hid h.map
  have t1 := h.tab.cell 1
  have tl := h.tab.lt
  have HF : Hid ((fun j => if is j then some (dval (blk j)) else none) id = some (dval (blk id))) := by simp [Hid, hid]
  have H := Lib.hid h
  clear h W0 P0 hp
  go_enter Try.func11, Try.ntmps11
  go_wp2_with (first | (at_lookup; refine wpList_hit_mapF _ rfl _ _ 52 rfl 3 59 Try.underlying3 Try.underlying52 _ (zeroD _) mb m _ rfl (M.out.keep ((show World.grownBy w _ none from (by repeat first | exact gb_refl _ _ | refine gb_alloc ?_ _)).block _ M.out.lt (by simp))) id rfl hw _ HF.out ?_) | (go_at_call 28; refine (load_any (blk id 0) 1 a _ (W.out.grown (show World.grownBy w _ none from (by repeat first | exact gb_refl _ _ | refine gb_alloc ?_ _)) (by simp)) l (by omega)).mono ?_; rintro e u1 ⟨rfl, W1, g1⟩; have P1 := Lib.hid (P.out.grown (gb_trans (by repeat first | exact gb_refl _ _ | refine gb_alloc ?_ _) g1.out) (by intro e; simp at e; exact ne.out e.symm)); have q0 := g1.out.cell (a := ⟨w.heap.size, 0, none⟩) (v := .func (.func 27) #[] #[]) (by simp [go_sem]) (by intro e; simp at e; omega); have q1 := g1.out.cell (a := ⟨w.heap.size + 1 + 1, 0, none⟩) (v := .pointer (some ⟨blk id 0, 0, none⟩)) (by simp [go_sem]) (by intro e; simp at e; omega); have q2 := g1.out.cell (a := ⟨w.heap.size + 1 + 1, 1, none⟩) (v := .pointer (some ⟨blk id 1, 0, none⟩)) (by simp [go_sem]) (by intro e; simp at e; omega); have q3 := g1.out.cell (a := ⟨w.heap.size + 1 + 1, 2, none⟩) (v := .pointer (some ⟨blk id 2, 0, none⟩)) (by simp [go_sem]) (by intro e; simp at e; omega)) | (go_at_call 27; refine (raise1 _ (blk id 1) _ (num id 1) a1 u1 P1.out l1 (by omega) HP.out).mono ?_; rintro e u2 ⟨rfl, W2, g2⟩) | go_in)
  go_ret
  have G1 : w.grownBy u1 (some (blk id 0)) := gb_trans (by repeat first | exact gb_refl _ _ | refine gb_alloc ?_ _) g1.out
  have T1 := H.out.set hid (by omega) G1 W1.out (by omega) (by omega : a + 1 ≤ B + 1) (by omega)
  rw [show (1 : Int) = num id 0 from hs.symm, upd_self] at T1
  have T2 := T1.set hid (by omega) g2.out W2.out (by omega) (by omega : a1 + 2 ≤ B + 2) (by omega)
  exact ⟨rfl, T2, (Only.of G1 (fun k e _ => .inl (by simpa using e.symm))).trans (Only.of g2.out (fun k e _ => .inr (by simpa using e.symm)))⟩

/-- What a bool is, as a word's number. -/
def bit (b : Bool) : Int := if b then 1 else 0

theorem wait1 (x p y c : Nat) (n a : Int) (on : Bool) (w : World) (h : Word w y n a) (l : 0 ≤ a) (u : a ≤ 999999) (hc : w.cell? ⟨c, 0, none⟩ = some (.bool on)) :
    Calls Try.prog 33 #[.agg #[.pointer (some ⟨x, 0, none⟩), .pointer (some ⟨p, 0, none⟩), .pointer (some ⟨y, 0, none⟩)], .pointer (some ⟨c, 0, none⟩)] w fun e w' => e = .returned (.tuple #[]) ∧ Hid (Word w' y (bit on) (a + 2)) ∧ Hid (w.grownBy w' (some y)) := by
  have hl := h.lt
  have W0 := Lib.hid (h.alloc (.cells #[.pointer (some ⟨x, 0, none⟩), .pointer (some ⟨p, 0, none⟩), .pointer (some ⟨y, 0, none⟩)] 59))
  have G0 : Hid (w.grownBy (w.alloc (.cells #[.pointer (some ⟨x, 0, none⟩), .pointer (some ⟨p, 0, none⟩), .pointer (some ⟨y, 0, none⟩)] 59)) (some y)) := gb_alloc (gb_refl _ _) _
  have ne : Hid (y ≠ w.heap.size) := (by omega : y ≠ w.heap.size)
  have hcl := World.block_lt_of_cell? _ _ hc
  clear h
  cases on
  all_goals
    go_enter Try.func33, Try.ntmps33
    go_wp2
    have q0 : (w.alloc (.cells #[.pointer (some ⟨x, 0, none⟩), .pointer (some ⟨p, 0, none⟩), .pointer (some ⟨y, 0, none⟩)] 59)).cell? ⟨w.heap.size, 2, none⟩ = some (.pointer (some ⟨y, 0, none⟩)) := by simp [go_sem]
    generalize (w.alloc (.cells #[.pointer (some ⟨x, 0, none⟩), .pointer (some ⟨p, 0, none⟩), .pointer (some ⟨y, 0, none⟩)] 59)) = v0 at *
    go_region_held3 (fun w' => w'.cell? ⟨w.heap.size, 2, none⟩ = some (.pointer (some ⟨y, 0, none⟩))) (go_keep) (first | (go_at_call 28; refine (load_any y n a _ W0.out.drew l (by omega)).mono ?_; rintro e u1 ⟨rfl, W1, g1⟩; have q1 := g1.out.cell (a := ⟨w.heap.size, 2, none⟩) q0 (by intro e; simp at e; exact ne.out e.symm)) | (go_at_call 23; refine (swap_hit y n _ (a + 1) _ W1.out (by omega) (by omega)).mono ?_; rintro e u2 ⟨rfl, W2, g2⟩; have q2 := g2.out.cell (a := ⟨w.heap.size, 2, none⟩) q1 (by intro e; simp at e; exact ne.out e.symm)))
    go_wp2
    go_end0
    exact ⟨rfl, by have := W2.out; rwa [show a + 1 + 1 = a + 2 by omega] at this, gb_trans (gb_trans (gb_drew G0.out) g1.out) g2.out⟩

theorem wait_hit (base : Nat) (tb mb ab m : Nat) (is : Int → Bool) (blk : Int → Nat → Nat) (num : Int → Nat → Int) (B : Int) (w : World) (id : Int) (h : Tab base w tb mb ab m is blk num B) (on : Bool) (hid : is id = true) (hw : (Lit.int .i64 id).wf = true) (hB : B ≤ 999999) (hs : num id 0 = 1) :
    Calls Try.prog 16 #[.pointer (some ⟨tb, 0, none⟩), .int .i64 id, .bool on] w fun e w' => e = .returned (.int .i64 0) ∧ Hid (Tab base w' tb mb ab m is blk (upd num id 2 (bit on)) (B + 2)) ∧ Hid (Only (fun k => k = blk id 0 ∨ k = blk id 2) w w') := by
  obtain ⟨_, a, l, u, W0⟩ := h.word id 0 hid (by omega)
  obtain ⟨_, a1, l1, u1, P0⟩ := h.word id 2 hid (by omega)
  rw [hs] at W0
  have W := Lib.hid W0
  have P := Lib.hid P0
  have ne : Hid (blk id 0 ≠ blk id 2) := fun e => by have := h.apart id 0 id 2 hid hid (by omega) (by omega) e; omega
  have l0 := W0.lt
  have l1' := P0.lt
  have M := Lib.hid h.map
  have t1 := h.tab.cell 1
  have tl := h.tab.lt
  have HF : Hid ((fun j => if is j then some (dval (blk j)) else none) id = some (dval (blk id))) := by simp [Hid, hid]
  have H := Lib.hid h
  clear h W0 P0
  go_enter Try.func16, Try.ntmps16
  go_wp2_with (first | (at_lookup; refine wpList_hit_mapF _ rfl _ _ 52 rfl 3 59 Try.underlying3 Try.underlying52 _ (zeroD _) mb m _ rfl (M.out.keep ((show World.grownBy w _ none from (by repeat first | exact gb_refl _ _ | refine gb_alloc ?_ _)).block _ M.out.lt (by simp))) id rfl hw _ HF.out ?_) | (go_at_call 28; refine (load_any (blk id 0) 1 a _ (W.out.grown (show World.grownBy w _ none from (by repeat first | exact gb_refl _ _ | refine gb_alloc ?_ _)) (by simp)) l (by omega)).mono ?_; rintro e u1 ⟨rfl, W1, g1⟩; have P1 := Lib.hid (P.out.grown (gb_trans (by repeat first | exact gb_refl _ _ | refine gb_alloc ?_ _) g1.out) (by intro e; simp at e; exact ne.out e.symm)); have q0 := g1.out.cell (a := ⟨w.heap.size + 1, 0, none⟩) (v := .func (.func 33) #[] #[.pointer (some ⟨w.heap.size, 0, none⟩)]) (by simp [go_sem]) (by intro e; simp at e; omega); have qc := g1.out.cell (a := ⟨w.heap.size, 0, none⟩) (v := .bool on) (by simp [go_sem]) (by intro e; simp at e; omega); have q1 := g1.out.cell (a := ⟨w.heap.size + 1 + 1 + 1, 0, none⟩) (v := .pointer (some ⟨blk id 0, 0, none⟩)) (by simp [go_sem]) (by intro e; simp at e; omega); have q2 := g1.out.cell (a := ⟨w.heap.size + 1 + 1 + 1, 1, none⟩) (v := .pointer (some ⟨blk id 1, 0, none⟩)) (by simp [go_sem]) (by intro e; simp at e; omega); have q3 := g1.out.cell (a := ⟨w.heap.size + 1 + 1 + 1, 2, none⟩) (v := .pointer (some ⟨blk id 2, 0, none⟩)) (by simp [go_sem]) (by intro e; simp at e; omega)) | (go_at_call 33; refine (wait1 _ _ (blk id 2) _ (num id 2) a1 on u1 P1.out l1 (by omega) qc).mono ?_; rintro e u2 ⟨rfl, W2, g2⟩) | go_in)
  go_ret
  have G1 : w.grownBy u1 (some (blk id 0)) := gb_trans (by repeat first | exact gb_refl _ _ | refine gb_alloc ?_ _) g1.out
  have T1 := H.out.set hid (by omega) G1 W1.out (by omega) (by omega : a + 1 ≤ B + 1) (by omega)
  rw [show (1 : Int) = num id 0 from hs.symm, upd_self] at T1
  have T2 := T1.set hid (by omega) g2.out W2.out (by omega) (by omega : a1 + 2 ≤ B + 2) (by omega)
  exact ⟨rfl, T2, (Only.of G1 (fun k e _ => .inl (by simpa using e.symm))).trans (Only.of g2.out (fun k e _ => .inr (by simpa using e.symm)))⟩

theorem wait_gone (base : Nat) (tb mb ab m : Nat) (is : Int → Bool) (blk : Int → Nat → Nat) (num : Int → Nat → Int) (B : Int) (w : World) (id : Int) (h : Tab base w tb mb ab m is blk num B) (on : Bool) (hid : is id = true) (hw : (Lit.int .i64 id).wf = true) (hB : B ≤ 1000000) (hs : (num id 0 == 1) = false) :
    Calls Try.prog 16 #[.pointer (some ⟨tb, 0, none⟩), .int .i64 id, .bool on] w fun e w' => e = .returned (.int .i64 7) ∧ Hid (Tab base w' tb mb ab m is blk num (B + 2)) ∧ Hid (w.grownBy w' (some (blk id 0))) := by
  obtain ⟨_, a, l, u, W0⟩ := h.word id 0 hid (by omega)
  have W := Lib.hid W0
  have M := Lib.hid h.map
  have t1 := h.tab.cell 1
  have tl := h.tab.lt
  have HF : Hid ((fun j => if is j then some (dval (blk j)) else none) id = some (dval (blk id))) := by simp [Hid, hid]
  have H := Lib.hid h
  clear h W0
  go_enter Try.func16, Try.ntmps16
  go_wp2_with (first | (at_lookup; refine wpList_hit_mapF _ rfl _ _ 52 rfl 3 59 Try.underlying3 Try.underlying52 _ (zeroD _) mb m _ rfl (M.out.keep ((show World.grownBy w _ none from (by repeat first | exact gb_refl _ _ | refine gb_alloc ?_ _)).block _ M.out.lt (by simp))) id rfl hw _ HF.out ?_) | (go_at_call 28; refine (load_any (blk id 0) (num id 0) a _ (W.out.grown (show World.grownBy w _ none from (by repeat first | exact gb_refl _ _ | refine gb_alloc ?_ _)) (by simp)) l (by omega)).mono ?_; rintro e u1 ⟨rfl, W1, g1⟩) | go_in)
  go_ret
  have G : w.grownBy u1 (some (blk id 0)) := gb_trans (by repeat first | exact gb_refl _ _ | refine gb_alloc ?_ _) g1.out
  refine ⟨rfl, ?_, G⟩
  have := H.out.set hid (by omega) G W1.out (by omega) (by omega : a + 1 ≤ B + 2) (by omega)
  rwa [upd_self] at this

theorem raise_nil (id : Int) (w : World) :
    Calls Try.prog 11 #[.pointer none, .int .i64 id] w fun e w' => e = .returned (.int .i64 6) ∧ Hid (w.grownBy w' none) := by
  go_enter Try.func11, Try.ntmps11
  go_wp2_with (go_in)
  go_ret
  exact ⟨rfl, (by repeat first | exact gb_refl _ _ | refine gb_alloc ?_ _)⟩

theorem wait_nil (id : Int) (on : Bool) (w : World) :
    Calls Try.prog 16 #[.pointer none, .int .i64 id, .bool on] w fun e w' => e = .returned (.int .i64 6) ∧ Hid (w.grownBy w' none) := by
  go_enter Try.func16, Try.ntmps16
  go_wp2_with (go_in)
  go_ret
  exact ⟨rfl, (by repeat first | exact gb_refl _ _ | refine gb_alloc ?_ _)⟩

theorem raise_miss (base : Nat) (tb mb ab m : Nat) (is : Int → Bool) (blk : Int → Nat → Nat) (num : Int → Nat → Int) (B : Int) (w : World) (id : Int) (h : Tab base w tb mb ab m is blk num B) (hid : is id = false) (hw : (Lit.int .i64 id).wf = true) :
    Calls Try.prog 11 #[.pointer (some ⟨tb, 0, none⟩), .int .i64 id] w fun e w' => e = .returned (.int .i64 6) ∧ Hid (w.grownBy w' none) := by
  have M := Lib.hid h.map
  have t1 := h.tab.cell 1
  have tl := h.tab.lt
  have HF : Hid ((fun j => if is j then some (dval (blk j)) else none) id = none) := by simp [Hid, hid]
  have H := Lib.hid h
  clear h
  go_enter Try.func11, Try.ntmps11
  go_wp2_with (first | (at_lookup; refine wpList_miss_mapF _ rfl _ _ 52 rfl 3 59 Try.underlying3 Try.underlying52 _ (zeroD _) mb m _ rfl (M.out.keep ((show World.grownBy w _ none from (by repeat first | exact gb_refl _ _ | refine gb_alloc ?_ _)).block _ M.out.lt (by simp))) id rfl hw HF.out ?_) | go_in)
  go_ret
  exact ⟨rfl, (by repeat first | exact gb_refl _ _ | refine gb_alloc ?_ _)⟩

theorem wait_miss (base : Nat) (tb mb ab m : Nat) (is : Int → Bool) (blk : Int → Nat → Nat) (num : Int → Nat → Int) (B : Int) (w : World) (id : Int) (h : Tab base w tb mb ab m is blk num B) (on : Bool) (hid : is id = false) (hw : (Lit.int .i64 id).wf = true) :
    Calls Try.prog 16 #[.pointer (some ⟨tb, 0, none⟩), .int .i64 id, .bool on] w fun e w' => e = .returned (.int .i64 6) ∧ Hid (w.grownBy w' none) := by
  have M := Lib.hid h.map
  have t1 := h.tab.cell 1
  have tl := h.tab.lt
  have HF : Hid ((fun j => if is j then some (dval (blk j)) else none) id = none) := by simp [Hid, hid]
  have H := Lib.hid h
  clear h
  go_enter Try.func16, Try.ntmps16
  go_wp2_with (first | (at_lookup; refine wpList_miss_mapF _ rfl _ _ 52 rfl 3 59 Try.underlying3 Try.underlying52 _ (zeroD _) mb m _ rfl (M.out.keep ((show World.grownBy w _ none from (by repeat first | exact gb_refl _ _ | refine gb_alloc ?_ _)).block _ M.out.lt (by simp))) id rfl hw HF.out ?_) | go_in)
  go_ret
  exact ⟨rfl, (by repeat first | exact gb_refl _ _ | refine gb_alloc ?_ _)⟩
end Go.Proofs.Ytpllfichmpappaa.ds
