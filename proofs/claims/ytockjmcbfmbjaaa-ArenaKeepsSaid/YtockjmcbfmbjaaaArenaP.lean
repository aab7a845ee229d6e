/- The contracts of package arena at [2]int, over whatever translation they lie in: an arena is a block of two cells, its things and its room. -/
import Derived.Test.YtockjmcbfmbjaaaProg
import Derived.Test.YtockjmcbfmbjaaaGrow
import Derived.BigQuiet
import Derived.Deep.QuietTactic
import Derived.RegionTactic
namespace Go.Proofs.Ytockjmcbfmbjaaa.ar
open Go Go.RowKit Go.Proofs.Ytockjmcbfmbjaaa.base

/-- Block b is an arena of pairs of ints, with room for so many things, that has n of them: xs. -/
abbrev ArenaP (base : Nat) (w : World) (b : Nat) (room : Int) (n : Nat) (xs : List Value) (r : Option Nat) : Prop := Arn 58 42 2 base w b room n xs r

theorem infoP : (Try.prog.info? 42).map (fun i => (i.zero, i.size, i.bytes)) = some (some (.agg #[.int .i64 0, .int .i64 0]), 2, 16) := by kernel_rfl

theorem newP_out (m : Int) (w : World) (h : m < 1 ∨ 4096 < m) : Calls Try.prog 13 #[.int .i64 m] w fun e w' => e = .returned (.tuple #[.pointer none, .int .i64 2]) ∧ w = w' := by
  rcases h with h | h
  · go_enter Try.func13, Try.ntmps13
    go_wp2
    go_ret2
    exact ⟨rfl, rfl⟩
  · have h' : ¬ m < 1 := by omega
    go_enter Try.func13, Try.ntmps13
    go_wp2
    go_ret2
    exact ⟨rfl, rfl⟩

theorem newP_in (base : Nat) (m : Int) (w : World) (l : 1 ≤ m) (u : m ≤ 4096) (hb : base ≤ w.heap.size) : Calls Try.prog 13 #[.int .i64 m] w fun e w' => ∃ b, e = .returned (.tuple #[.pointer (some ⟨b, 0, none⟩), .int .i64 0]) ∧ Hid (w.heap.size ≤ b) ∧ Hid (ArenaP base w' b m 0 [] none) ∧ Hid (w.grownBy w' none) := by
  have hb := Lib.hid hb
  have l' : ¬ m < 1 := by omega
  go_enter Try.func13, Try.ntmps13
  go_wp2
  go_ret2
  exact ⟨_, rfl, Nat.le_refl _, Arn.made _ _ _ _ hb.out _, gb_alloc (gb_refl _ _) _⟩

theorem lenP (base b : Nat) (room : Int) (n : Nat) (xs : List Value) (r : Option Nat) (w : World) (h : ArenaP base w b room n xs r) : Calls Try.prog 16 #[.pointer (some ⟨b, 0, none⟩)] w fun e w' => e = .returned (.int .i64 n) ∧ w = w' := by
  obtain ⟨ao, cap, c0, c1, f0, _, _⟩ := h.open
  clear h
  go_enter Try.func16, Try.ntmps16
  go_wp2
  go_ret
  exact ⟨rfl, rfl⟩

theorem lenP_nil (w : World) : Calls Try.prog 16 #[.pointer none] w fun e w' => e = .returned (.int .i64 0) ∧ w = w' := by
  go_enter Try.func16, Try.ntmps16
  go_wp2
  go_ret
  exact ⟨rfl, rfl⟩

theorem leftP (base b : Nat) (room : Int) (n : Nat) (xs : List Value) (r : Option Nat) (w : World) (h : ArenaP base w b room n xs r) (l : (n : Int) ≤ room) (u : room ≤ 4096) :
    Calls Try.prog 20 #[.pointer (some ⟨b, 0, none⟩)] w fun e w' => ∃ k, e = .returned (.int .i64 (room - n)) ∧ w.drewN k = w' := by
  obtain ⟨ao, cap, c0, c1, f0, _, _⟩ := h.open
  clear h
  go_enter Try.func20, Try.ntmps20
  go_wp2
  go_quiet (fail)
  go_wp2
  go_ret
  exact ⟨_, rfl, rfl⟩

theorem leftP_nil (w : World) : Calls Try.prog 20 #[.pointer none] w fun e w' => e = .returned (.int .i64 0) ∧ w = w' := by
  go_enter Try.func20, Try.ntmps20
  go_wp2
  go_ret
  exact ⟨rfl, rfl⟩

theorem putP_nil (x y : Int) (w : World) : Calls Try.prog 14 #[.pointer none, .agg #[.int .i64 x, .int .i64 y]] w fun e w' => e = .returned (.tuple #[.int .i64 0, .int .i64 6]) ∧ Hid (w.grownBy w' none) := by
  go_enter Try.func14, Try.ntmps14
  go_wp2
  go_ret2
  exact ⟨rfl, gb_alloc (gb_refl _ _) _⟩

theorem putP_full (base b : Nat) (x y room : Int) (n : Nat) (xs : List Value) (r : Option Nat) (w : World) (h : ArenaP base w b room n xs r) (l : (n : Int) = room) (u : room ≤ 4096) :
    Calls Try.prog 14 #[.pointer (some ⟨b, 0, none⟩), .agg #[.int .i64 x, .int .i64 y]] w fun e w' => e = .returned (.tuple #[.int .i64 0, .int .i64 4]) ∧ Hid (w.grownBy w' none) := by
  have hd : (room - (n : Int) == 0) = true := by simpa using (by omega : room - (n : Int) = 0)
  have hl : (n : Int) ≤ room := by omega
  clear l
  go_enter Try.func14, Try.ntmps14
  go_wp2_with fail
  refine (leftP base b room n xs r _ (h.alloc _) hl u).mono ?_
  rintro e w' ⟨k, rfl, rfl⟩
  clear h
  go_wp2
  go_ret2
  exact ⟨rfl, gb_drewN (gb_alloc (gb_refl _ _) _) _⟩

set_option maxHeartbeats 1000000 in
theorem putP (base b : Nat) (x y room : Int) (n : Nat) (xs : List Value) (r : Option Nat) (w : World) (h : ArenaP base w b room n xs r) (l : (n : Int) < room) (u : room ≤ 4096) (hbs : base ≤ w.heap.size) :
    Calls Try.prog 14 #[.pointer (some ⟨b, 0, none⟩), .agg #[.int .i64 x, .int .i64 y]] w fun e w' =>
      ∃ r', e = .returned (.tuple #[.int .i64 n, .int .i64 0]) ∧ Hid (ArenaP base w' b room (n + 1) (xs ++ [.int .i64 x, .int .i64 y]) r') ∧ Hid (Chg b r r' w w') := by
  have hd : (room - (n : Int) == 0) = false := by simpa using (by omega : ¬ room - (n : Int) = 0)
  have hl : (n : Int) ≤ room := by omega
  have hn : n ≤ 4096 := by omega
  obtain ⟨i0, hi0, hz00, hz10, hz20⟩ := info_parts infoP
  have hi := Lib.hid hi0
  have hz0 := Lib.hid hz00
  have hz1 := Lib.hid hz10
  have hz2 := Lib.hid hz20
  have H := Lib.hid h
  have hbs1 := Lib.hid hbs
  clear h hi0 hz00 hz10 hz20 hbs
  go_enter Try.func14, Try.ntmps14
  go_wp2_with fail
  refine (leftP base b room n xs r _ (H.out.alloc _) hl u).mono ?_
  rintro e w' ⟨k, rfl, rfl⟩
  have X' : Blk 42 ((w.alloc (.cells #[.int .i64 x, .int .i64 y] 42)).drewN k) w.heap.size #[.int .i64 x, .int .i64 y] := Blk.made w _ _
  have H1 : Hid (ArenaP base ((w.alloc (.cells #[.int .i64 x, .int .i64 y] 42)).drewN k) b room n xs r) := (H.out.alloc _).drewN k
  have G1 : Hid (w.grownBy ((w.alloc (.cells #[.int .i64 x, .int .i64 y] 42)).drewN k) none) := gb_drewN (gb_alloc (gb_refl _ _) _) _
  generalize ((w.alloc (.cells #[.int .i64 x, .int .i64 y] 42)).drewN k) = u1 at *
  generalize w.heap.size = p at *
  obtain ⟨ao, cap, c0, c1, f0, ho0, hr0⟩ := H1.out.open
  have ho := Lib.hid ho0
  have hr := Lib.hid hr0
  have x0 := X'.cell 0
  have x1 := X'.cell 1
  have hbl := H1.out.lt
  have hpl := X'.lt
  have hbu : Hid (base ≤ u1.heap.size) := by have := hbs1.out; have := X'.lt; exact Nat.le_trans hbs1.out (by omega)
  clear X' ho0 hr0
  go_wp2_with fail
  go_region_law (refine step_append_at rfl (.tmp 21) (.tmp 23) 38 rfl base 42 i0 (.agg #[.int .i64 0, .int .i64 0]) 2 16 Try.underlying38 hi.out hz0.out hz1.out hz2.out rfl (by decide) (.slice ao n cap) n xs (by simp [Act.eval]) ((ho.out.alloc _).drew) ⟨u1.heap.size, 0, none⟩ 1 1 [.int .i64 x, .int .i64 y] (by simp [Act.eval]) rfl (new_cells u1.drew _ _) (by intro u hu; simp at hu; rcases hu with rfl | rfl <;> rfl) (by unfold maxLen; omega) (by omega) (by have := hbu.out; simp; omega) (by decide) ?_; intro g' c' w1 ho1 hg1 hv1; have hg2 := Lib.hid (show World.grownBy _ w1 r from hr.out ▸ hg1); have ho2 := Lib.hid ho1; have hv2 := Lib.hid hv1; obtain ⟨c2, f2⟩ := H1.out.drew.mid c0 hg2.out; clear ho1 hg1 hv1)
  all_goals
    have hp := ((H1.out.alloc (.cells #[.int .i64 x, .int .i64 y] 42)).drew).put ho2.out hg2.out (by rw [← hr.out]; exact hv2.out)
    have hp2 := Lib.hid (hp.2.after (gb_trans G1.out (gb_drew (gb_alloc (gb_refl _ _) _))))
    have hp1 := Lib.hid hp.1
    clear hp
    go_wp2
    go_ret2
    exact ⟨_, rfl, hp1.out, hp2.out⟩

theorem atP (base b j : Nat) (x y room : Int) (n : Nat) (xs : List Value) (r : Option Nat) (w : World) (h : ArenaP base w b room n xs r) (hj : j < n) (hm : n ≤ 4096) (hx : xs[j * 2]? = some (.int .i64 x)) (hy : xs[j * 2 + 1]? = some (.int .i64 y)) :
    Calls Try.prog 15 #[.pointer (some ⟨b, 0, none⟩), .int .i64 j] w fun e w' => e = .returned (.tuple #[.agg #[.int .i64 x, .int .i64 y], .int .i64 0]) ∧ Hid (w.grownBy w' none) := by
  obtain ⟨g, cap, c0, hc⟩ := h.elem (by omega)
  have c1 : w.cell? ⟨g, j * 2, none⟩ = some (.int .i64 x) := (hc (j * 2) (by omega)).trans hx
  have c2 : w.cell? ⟨g, j * 2 + 1, none⟩ = some (.int .i64 y) := (hc (j * 2 + 1) (by omega)).trans hy
  have H := Lib.hid h
  have hj' : (j : Int) < (n : Int) := by omega
  have hb := h.lt
  have hg : g < w.heap.size := World.block_lt_of_cell? _ _ c1
  clear h hc hx hy
  go_enter Try.func15, Try.ntmps15
  go_wp2_with (go_at_call 16; refine (lenP base b room n xs r _ (H.out.alloc _)).mono ?_; rintro e w' ⟨rfl, rfl⟩)
  exact bodyPost_ret (v := .tuple #[.agg #[.int .i64 x, .int .i64 y], .int .i64 0]) (by simp [results, Try.results15, go_sem]) rfl ⟨rfl, gb_alloc (gb_refl _ _) _⟩

end Go.Proofs.Ytockjmcbfmbjaaa.ar
