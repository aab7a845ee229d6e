/- The contracts of package arena at api.Rec, over whatever translation they lie in: an arena is a block of two cells, its things and its room. -/
import Derived.Test.YtnaagcofgnmmlaaProg
import Derived.Test.YtnaagcofgnmmlaaGrow
import Derived.BigQuiet
import Derived.Deep.QuietTactic
import Derived.RegionTactic
namespace Go.Proofs.Ytnaagcofgnmmlaa.ar
open Go Go.RowKit Go.Proofs.Ytnaagcofgnmmlaa.base

/-- A record: its nine numbers. -/
structure Rc where
  kind : Int
  val : Int
  owner : Int
  old : Int
  new : Int
  thread : Int
  txn : Int
  attempt : Int
  stamp : Int

/-- Its cells. -/
def Rc.cells (x : Rc) : List Value := [.int .i64 x.kind, .int .i64 x.val, .int .i64 x.owner, .int .i64 x.old, .int .i64 x.new, .int .i64 x.thread, .int .i64 x.txn, .int .i64 x.attempt, .int .i64 x.stamp]

/-- The cells of a list of records. -/
def recs (rs : List Rc) : List Value := rs.flatMap Rc.cells
theorem recs_length (rs : List Rc) : (recs rs).length = rs.length * 9 := by
  induction rs with
  | nil => rfl
  | cons x rs ih => simp [recs, Rc.cells] at *; omega
theorem recs_snoc (rs : List Rc) (x : Rc) : recs (rs ++ [x]) = recs rs ++ x.cells := by simp [recs]
theorem recs_get : ∀ (rs : List Rc) (j i : Nat) (x : Rc), rs[j]? = some x → i < 9 → (recs rs)[j * 9 + i]? = x.cells[i]?
  | [], j, i, x, h, _ => by simp at h
  | y :: rs, 0, i, x, h, hi => by
    simp at h
    subst h
    simp only [recs, List.flatMap_cons, Nat.zero_mul, Nat.zero_add]
    rw [List.getElem?_append_left (by simpa [Rc.cells] using hi)]
  | y :: rs, j + 1, i, x, h, hi => by
    have ih := recs_get rs j i x (by simpa using h) hi
    simp only [recs, List.flatMap_cons]
    rw [List.getElem?_append_right (by simp [Rc.cells]; omega)]
    rw [← ih]
    simp only [recs]
    congr 1
    simp [Rc.cells]
    omega

/-- Block b is an arena of records, with room for so many, that has those of rs. -/
abbrev ArenaR (base : Nat) (w : World) (b : Nat) (room : Int) (rs : List Rc) (r : Option Nat) : Prop := Arn 86 72 9 base w b room rs.length (recs rs) r

theorem infoR : (Try.prog.info? 72).map (fun i => (i.zero, i.size, i.bytes)) = some (some (.agg #[.int .i64 0, .int .i64 0, .int .i64 0, .int .i64 0, .int .i64 0, .int .i64 0, .int .i64 0, .int .i64 0, .int .i64 0]), 9, 72) := by kernel_rfl

theorem newR_out (m : Int) (w : World) (h : m < 1 ∨ 4096 < m) : Calls Try.prog 15 #[.int .i64 m] w fun e w' => e = .returned (.tuple #[.pointer none, .int .i64 2]) ∧ w = w' := by
  rcases h with h | h
  · go_enter Try.func15, Try.ntmps15
    go_wp2
    go_ret2
    exact ⟨rfl, rfl⟩
  · have h' : ¬ m < 1 := by omega
    go_enter Try.func15, Try.ntmps15
    go_wp2
    go_ret2
    exact ⟨rfl, rfl⟩

theorem newR_in (base : Nat) (m : Int) (w : World) (l : 1 ≤ m) (u : m ≤ 4096) (hb : base ≤ w.heap.size) : Calls Try.prog 15 #[.int .i64 m] w fun e w' => ∃ b, e = .returned (.tuple #[.pointer (some ⟨b, 0, none⟩), .int .i64 0]) ∧ Hid (w.heap.size ≤ b) ∧ Hid (ArenaR base w' b m [] none) ∧ Hid (w.grownBy w' none) := by
  have hb := Lib.hid hb
  have l' : ¬ m < 1 := by omega
  go_enter Try.func15, Try.ntmps15
  go_wp2
  go_ret2
  exact ⟨_, rfl, Nat.le_refl _, Arn.made _ _ _ _ hb.out _, gb_alloc (gb_refl _ _) _⟩

theorem lenR (base b : Nat) (room : Int) (rs : List Rc) (r : Option Nat) (w : World) (h : ArenaR base w b room rs r) : Calls Try.prog 30 #[.pointer (some ⟨b, 0, none⟩)] w fun e w' => e = .returned (.int .i64 rs.length) ∧ w = w' := by
  obtain ⟨ao, cap, c0, c1, f0, _, _⟩ := h.open
  clear h
  go_enter Try.func30, Try.ntmps30
  go_wp2
  go_ret
  exact ⟨rfl, rfl⟩

theorem lenR_nil (w : World) : Calls Try.prog 30 #[.pointer none] w fun e w' => e = .returned (.int .i64 0) ∧ w = w' := by
  go_enter Try.func30, Try.ntmps30
  go_wp2
  go_ret
  exact ⟨rfl, rfl⟩

theorem leftR (base b : Nat) (room : Int) (rs : List Rc) (r : Option Nat) (w : World) (h : ArenaR base w b room rs r) (l : (rs.length : Int) ≤ room) (u : room ≤ 4096) :
    Calls Try.prog 21 #[.pointer (some ⟨b, 0, none⟩)] w fun e w' => ∃ k, e = .returned (.int .i64 (room - rs.length)) ∧ w.drewN k = w' := by
  obtain ⟨ao, cap, c0, c1, f0, _, _⟩ := h.open
  clear h
  go_enter Try.func21, Try.ntmps21
  go_wp2
  go_quiet (fail)
  go_wp2
  go_ret
  exact ⟨_, rfl, rfl⟩

theorem leftR_nil (w : World) : Calls Try.prog 21 #[.pointer none] w fun e w' => e = .returned (.int .i64 0) ∧ w = w' := by
  go_enter Try.func21, Try.ntmps21
  go_wp2
  go_ret
  exact ⟨rfl, rfl⟩

theorem putR_nil (x : Rc) (w : World) : Calls Try.prog 25 #[.pointer none, .agg #[.int .i64 x.kind, .int .i64 x.val, .int .i64 x.owner, .int .i64 x.old, .int .i64 x.new, .int .i64 x.thread, .int .i64 x.txn, .int .i64 x.attempt, .int .i64 x.stamp]] w fun e w' => e = .returned (.tuple #[.int .i64 0, .int .i64 6]) ∧ Hid (w.grownBy w' none) := by
  go_enter Try.func25, Try.ntmps25
  go_wp2
  go_ret2
  exact ⟨rfl, gb_alloc (gb_refl _ _) _⟩

theorem putR_full (base b : Nat) (x : Rc) (room : Int) (rs : List Rc) (r : Option Nat) (w : World) (h : ArenaR base w b room rs r) (l : (rs.length : Int) = room) (u : room ≤ 4096) :
    Calls Try.prog 25 #[.pointer (some ⟨b, 0, none⟩), .agg #[.int .i64 x.kind, .int .i64 x.val, .int .i64 x.owner, .int .i64 x.old, .int .i64 x.new, .int .i64 x.thread, .int .i64 x.txn, .int .i64 x.attempt, .int .i64 x.stamp]] w fun e w' => e = .returned (.tuple #[.int .i64 0, .int .i64 4]) ∧ Hid (w.grownBy w' none) := by
  have hd : (room - (rs.length : Int) == 0) = true := by simpa using (by omega : room - (rs.length : Int) = 0)
  have hl : (rs.length : Int) ≤ room := by omega
  clear l
  go_enter Try.func25, Try.ntmps25
  go_wp2_with fail
  refine (leftR base b room rs r _ (h.alloc _) hl u).mono ?_
  rintro e w' ⟨k, rfl, rfl⟩
  clear h
  go_wp2
  go_ret2
  exact ⟨rfl, gb_drewN (gb_alloc (gb_refl _ _) _) _⟩

set_option maxHeartbeats 1000000 in
theorem putR (base b : Nat) (x : Rc) (room : Int) (rs : List Rc) (r : Option Nat) (w : World) (h : ArenaR base w b room rs r) (l : (rs.length : Int) < room) (u : room ≤ 4096) (hbs : base ≤ w.heap.size) :
    Calls Try.prog 25 #[.pointer (some ⟨b, 0, none⟩), .agg #[.int .i64 x.kind, .int .i64 x.val, .int .i64 x.owner, .int .i64 x.old, .int .i64 x.new, .int .i64 x.thread, .int .i64 x.txn, .int .i64 x.attempt, .int .i64 x.stamp]] w fun e w' =>
      ∃ r', e = .returned (.tuple #[.int .i64 rs.length, .int .i64 0]) ∧ Hid (ArenaR base w' b room (rs ++ [x]) r') ∧ Hid (Chg b r r' w w') := by
  have hd : (room - (rs.length : Int) == 0) = false := by simpa using (by omega : ¬ room - (rs.length : Int) = 0)
  have hl : (rs.length : Int) ≤ room := by omega
  have hn : rs.length ≤ 4096 := by omega
  have fin : ∀ {w1 : World} {r1 : Option Nat}, Arn 86 72 9 base w1 b room (rs.length + 1) (recs rs ++ x.cells) r1 → ArenaR base w1 b room (rs ++ [x]) r1 := by
    intro w1 r1 h1
    unfold ArenaR
    rw [recs_snoc, List.length_append]
    exact h1
  obtain ⟨i0, hi0, hz00, hz10, hz20⟩ := info_parts infoR
  have hi := Lib.hid hi0
  have hz0 := Lib.hid hz00
  have hz1 := Lib.hid hz10
  have hz2 := Lib.hid hz20
  have H := Lib.hid h
  have hbs1 := Lib.hid hbs
  clear h hi0 hz00 hz10 hz20 hbs
  go_enter Try.func25, Try.ntmps25
  go_wp2_with fail
  refine (leftR base b room rs r _ (H.out.alloc _) hl u).mono ?_
  rintro e w' ⟨k, rfl, rfl⟩
  have X' : Blk 72 ((w.alloc (.cells #[.int .i64 x.kind, .int .i64 x.val, .int .i64 x.owner, .int .i64 x.old, .int .i64 x.new, .int .i64 x.thread, .int .i64 x.txn, .int .i64 x.attempt, .int .i64 x.stamp] 72)).drewN k) w.heap.size #[.int .i64 x.kind, .int .i64 x.val, .int .i64 x.owner, .int .i64 x.old, .int .i64 x.new, .int .i64 x.thread, .int .i64 x.txn, .int .i64 x.attempt, .int .i64 x.stamp] := Blk.made w _ _
  have H1 : Hid (ArenaR base ((w.alloc (.cells #[.int .i64 x.kind, .int .i64 x.val, .int .i64 x.owner, .int .i64 x.old, .int .i64 x.new, .int .i64 x.thread, .int .i64 x.txn, .int .i64 x.attempt, .int .i64 x.stamp] 72)).drewN k) b room rs r) := (H.out.alloc _).drewN k
  have G1 : Hid (w.grownBy ((w.alloc (.cells #[.int .i64 x.kind, .int .i64 x.val, .int .i64 x.owner, .int .i64 x.old, .int .i64 x.new, .int .i64 x.thread, .int .i64 x.txn, .int .i64 x.attempt, .int .i64 x.stamp] 72)).drewN k) none) := gb_drewN (gb_alloc (gb_refl _ _) _) _
  generalize ((w.alloc (.cells #[.int .i64 x.kind, .int .i64 x.val, .int .i64 x.owner, .int .i64 x.old, .int .i64 x.new, .int .i64 x.thread, .int .i64 x.txn, .int .i64 x.attempt, .int .i64 x.stamp] 72)).drewN k) = u1 at *
  generalize w.heap.size = p at *
  obtain ⟨ao, cap, c0, c1, f0, ho0, hr0⟩ := H1.out.open
  have ho := Lib.hid ho0
  have hr := Lib.hid hr0
  have x0 := X'.cell 0
  have x1 := X'.cell 1
  have x2 := X'.cell 2
  have x3 := X'.cell 3
  have x4 := X'.cell 4
  have x5 := X'.cell 5
  have x6 := X'.cell 6
  have x7 := X'.cell 7
  have x8 := X'.cell 8
  have hbl := H1.out.lt
  have hpl := X'.lt
  have hbu : Hid (base ≤ u1.heap.size) := by have := hbs1.out; have := X'.lt; exact Nat.le_trans hbs1.out (by omega)
  have hc : x.cells = [.int .i64 x.kind, .int .i64 x.val, .int .i64 x.owner, .int .i64 x.old, .int .i64 x.new, .int .i64 x.thread, .int .i64 x.txn, .int .i64 x.attempt, .int .i64 x.stamp] := rfl
  clear X' ho0 hr0
  go_wp2_with fail
  go_region_law (refine step_append_at rfl (.tmp 21) (.tmp 23) 84 rfl base 72 i0 (.agg #[.int .i64 0, .int .i64 0, .int .i64 0, .int .i64 0, .int .i64 0, .int .i64 0, .int .i64 0, .int .i64 0, .int .i64 0]) 9 72 Try.underlying84 hi.out hz0.out hz1.out hz2.out rfl (by decide) (.slice ao rs.length cap) rs.length (recs rs) (by simp [Act.eval]) ((ho.out.alloc _).drew) ⟨u1.heap.size, 0, none⟩ 1 1 [.int .i64 x.kind, .int .i64 x.val, .int .i64 x.owner, .int .i64 x.old, .int .i64 x.new, .int .i64 x.thread, .int .i64 x.txn, .int .i64 x.attempt, .int .i64 x.stamp] (by simp [Act.eval]) rfl (new_cells u1.drew _ _) (by intro u hu; simp at hu; rcases hu with rfl | rfl | rfl | rfl | rfl | rfl | rfl | rfl | rfl <;> rfl) (by unfold maxLen; omega) (by omega) (by have := hbu.out; simp; omega) (by decide) ?_; intro g' c' w1 ho1 hg1 hv1; have hg2 := Lib.hid (show World.grownBy _ w1 r from hr.out ▸ hg1); have ho2 := Lib.hid ho1; have hv2 := Lib.hid hv1; obtain ⟨c2, f2⟩ := H1.out.drew.mid c0 hg2.out; clear ho1 hg1 hv1)
  all_goals
    have hp := ((H1.out.alloc (.cells #[.int .i64 x.kind, .int .i64 x.val, .int .i64 x.owner, .int .i64 x.old, .int .i64 x.new, .int .i64 x.thread, .int .i64 x.txn, .int .i64 x.attempt, .int .i64 x.stamp] 72)).drew).put ho2.out hg2.out (by rw [← hr.out]; exact hv2.out)
    have hp2 := Lib.hid (hp.2.after (gb_trans G1.out (gb_drew (gb_alloc (gb_refl _ _) _))))
    have hp1 := Lib.hid (fin (by rw [hc]; exact hp.1))
    clear hp
    go_wp2
    go_ret2
    exact ⟨_, rfl, hp1.out, hp2.out⟩

theorem atR (base b j : Nat) (x : Rc) (room : Int) (rs : List Rc) (r : Option Nat) (w : World) (h : ArenaR base w b room rs r) (hm : rs.length ≤ 4096) (hx : rs[j]? = some x) :
    Calls Try.prog 29 #[.pointer (some ⟨b, 0, none⟩), .int .i64 j] w fun e w' => e = .returned (.tuple #[.agg #[.int .i64 x.kind, .int .i64 x.val, .int .i64 x.owner, .int .i64 x.old, .int .i64 x.new, .int .i64 x.thread, .int .i64 x.txn, .int .i64 x.attempt, .int .i64 x.stamp], .int .i64 0]) ∧ Hid (w.grownBy w' none) := by
  have hj : j < rs.length := (List.getElem?_eq_some_iff.1 hx).1
  obtain ⟨g, cap, c0, hc⟩ := h.elem (by omega)
  have d0 : w.cell? ⟨g, j * 9, none⟩ = some (.int .i64 x.kind) := (hc (j * 9) (by omega)).trans (recs_get rs j 0 x hx (by omega))
  have d1 : w.cell? ⟨g, j * 9 + 1, none⟩ = some (.int .i64 x.val) := (hc (j * 9 + 1) (by omega)).trans (recs_get rs j 1 x hx (by omega))
  have d2 : w.cell? ⟨g, j * 9 + 2, none⟩ = some (.int .i64 x.owner) := (hc (j * 9 + 2) (by omega)).trans (recs_get rs j 2 x hx (by omega))
  have d3 : w.cell? ⟨g, j * 9 + 3, none⟩ = some (.int .i64 x.old) := (hc (j * 9 + 3) (by omega)).trans (recs_get rs j 3 x hx (by omega))
  have d4 : w.cell? ⟨g, j * 9 + 4, none⟩ = some (.int .i64 x.new) := (hc (j * 9 + 4) (by omega)).trans (recs_get rs j 4 x hx (by omega))
  have d5 : w.cell? ⟨g, j * 9 + 5, none⟩ = some (.int .i64 x.thread) := (hc (j * 9 + 5) (by omega)).trans (recs_get rs j 5 x hx (by omega))
  have d6 : w.cell? ⟨g, j * 9 + 6, none⟩ = some (.int .i64 x.txn) := (hc (j * 9 + 6) (by omega)).trans (recs_get rs j 6 x hx (by omega))
  have d7 : w.cell? ⟨g, j * 9 + 7, none⟩ = some (.int .i64 x.attempt) := (hc (j * 9 + 7) (by omega)).trans (recs_get rs j 7 x hx (by omega))
  have d8 : w.cell? ⟨g, j * 9 + 8, none⟩ = some (.int .i64 x.stamp) := (hc (j * 9 + 8) (by omega)).trans (recs_get rs j 8 x hx (by omega))
  have H := Lib.hid h
  have hj' : (j : Int) < (rs.length : Int) := by omega
  have hb := h.lt
  have hg : g < w.heap.size := World.block_lt_of_cell? _ _ d0
  clear h hc hx
  go_enter Try.func29, Try.ntmps29
  go_wp2_with (go_at_call 30; refine (lenR base b room rs r _ (H.out.alloc _)).mono ?_; rintro e w' ⟨rfl, rfl⟩)
  exact bodyPost_ret (v := .tuple #[.agg #[.int .i64 x.kind, .int .i64 x.val, .int .i64 x.owner, .int .i64 x.old, .int .i64 x.new, .int .i64 x.thread, .int .i64 x.txn, .int .i64 x.attempt, .int .i64 x.stamp], .int .i64 0]) (by simp [results, Try.results29, go_sem]) rfl ⟨rfl, gb_alloc (gb_refl _ _) _⟩

theorem atR_out (base b : Nat) (j : Int) (room : Int) (rs : List Rc) (r : Option Nat) (w : World) (h : ArenaR base w b room rs r) (hj : j < 0 ∨ (rs.length : Int) ≤ j) :
    Calls Try.prog 29 #[.pointer (some ⟨b, 0, none⟩), .int .i64 j] w fun e w' => e = .returned (.tuple #[.agg #[.int .i64 0, .int .i64 0, .int .i64 0, .int .i64 0, .int .i64 0, .int .i64 0, .int .i64 0, .int .i64 0, .int .i64 0], .int .i64 6]) ∧ Hid (w.grownBy w' none) := by
  have H := Lib.hid h
  clear h
  by_cases h0 : j < 0
  · clear hj
    go_enter Try.func29, Try.ntmps29
    go_wp2
    exact bodyPost_ret (v := .tuple #[.agg #[.int .i64 0, .int .i64 0, .int .i64 0, .int .i64 0, .int .i64 0, .int .i64 0, .int .i64 0, .int .i64 0, .int .i64 0], .int .i64 6]) (by simp [results, Try.results29, go_sem]) rfl ⟨rfl, by first | exact gb_alloc (gb_refl _ _) _ | exact gb_alloc (gb_alloc (gb_refl _ _) _) _ | exact gb_setNew (gb_alloc (gb_alloc (gb_refl _ _) _) _) (by simp) _⟩
  · have h1 : (rs.length : Int) ≤ j := by omega
    clear hj
    go_enter Try.func29, Try.ntmps29
    go_wp2_with (go_at_call 30; refine (lenR base b room rs r _ (H.out.alloc _)).mono ?_; rintro e w' ⟨rfl, rfl⟩)
    exact bodyPost_ret (v := .tuple #[.agg #[.int .i64 0, .int .i64 0, .int .i64 0, .int .i64 0, .int .i64 0, .int .i64 0, .int .i64 0, .int .i64 0, .int .i64 0], .int .i64 6]) (by simp [results, Try.results29, go_sem]) rfl ⟨rfl, by first | exact gb_alloc (gb_refl _ _) _ | exact gb_alloc (gb_alloc (gb_refl _ _) _) _ | exact gb_setNew (gb_alloc (gb_alloc (gb_refl _ _) _) _) (by simp) _⟩
end Go.Proofs.Ytnaagcofgnmmlaa.ar
