/- The contracts of package arena at string, over whatever translation they lie in: an arena is a block of two cells, its things and its room. -/
import Derived.Test.YtockjmcbfmbjaaaProg
import Derived.Test.YtockjmcbfmbjaaaGrow
import Derived.BigQuiet
import Derived.Deep.QuietTactic
import Derived.RegionTactic
namespace Go.Proofs.Ytockjmcbfmbjaaa.ar
open Go Go.RowKit Go.Proofs.Ytockjmcbfmbjaaa.base

/-- Block b is an arena of strings, with room for so many things, that has n of them: xs. -/
abbrev ArenaS (base : Nat) (w : World) (b : Nat) (room : Int) (n : Nat) (xs : List Value) (r : Option Nat) : Prop := Arn 61 9 1 base w b room n xs r

theorem infoS : (Try.prog.info? 9).map (fun i => (i.zero, i.size, i.bytes)) = some (some (.string ByteArray.empty), 1, 16) := by kernel_rfl

theorem newS_out (m : Int) (w : World) (h : m < 1 ∨ 4096 < m) : Calls Try.prog 17 #[.int .i64 m] w fun e w' => e = .returned (.tuple #[.pointer none, .int .i64 2]) ∧ w = w' := by
  rcases h with h | h
  · go_enter Try.func17, Try.ntmps17
    go_wp2
    go_ret2
    exact ⟨rfl, rfl⟩
  · have h' : ¬ m < 1 := by omega
    go_enter Try.func17, Try.ntmps17
    go_wp2
    go_ret2
    exact ⟨rfl, rfl⟩

theorem newS_in (base : Nat) (m : Int) (w : World) (l : 1 ≤ m) (u : m ≤ 4096) (hb : base ≤ w.heap.size) : Calls Try.prog 17 #[.int .i64 m] w fun e w' => ∃ b, e = .returned (.tuple #[.pointer (some ⟨b, 0, none⟩), .int .i64 0]) ∧ Hid (w.heap.size ≤ b) ∧ Hid (ArenaS base w' b m 0 [] none) ∧ Hid (w.grownBy w' none) := by
  have hb := Lib.hid hb
  have l' : ¬ m < 1 := by omega
  go_enter Try.func17, Try.ntmps17
  go_wp2
  go_ret2
  exact ⟨_, rfl, Nat.le_refl _, Arn.made _ _ _ _ hb.out _, gb_alloc (gb_refl _ _) _⟩

theorem lenS (base b : Nat) (room : Int) (n : Nat) (xs : List Value) (r : Option Nat) (w : World) (h : ArenaS base w b room n xs r) : Calls Try.prog 22 #[.pointer (some ⟨b, 0, none⟩)] w fun e w' => e = .returned (.int .i64 n) ∧ w = w' := by
  obtain ⟨ao, cap, c0, c1, f0, _, _⟩ := h.open
  clear h
  go_enter Try.func22, Try.ntmps22
  go_wp2
  go_ret
  exact ⟨rfl, rfl⟩

theorem lenS_nil (w : World) : Calls Try.prog 22 #[.pointer none] w fun e w' => e = .returned (.int .i64 0) ∧ w = w' := by
  go_enter Try.func22, Try.ntmps22
  go_wp2
  go_ret
  exact ⟨rfl, rfl⟩

theorem leftS (base b : Nat) (room : Int) (n : Nat) (xs : List Value) (r : Option Nat) (w : World) (h : ArenaS base w b room n xs r) (l : (n : Int) ≤ room) (u : room ≤ 4096) :
    Calls Try.prog 21 #[.pointer (some ⟨b, 0, none⟩)] w fun e w' => ∃ k, e = .returned (.int .i64 (room - n)) ∧ w.drewN k = w' := by
  obtain ⟨ao, cap, c0, c1, f0, _, _⟩ := h.open
  clear h
  go_enter Try.func21, Try.ntmps21
  go_wp2
  go_quiet (fail)
  go_wp2
  go_ret
  exact ⟨_, rfl, rfl⟩

theorem leftS_nil (w : World) : Calls Try.prog 21 #[.pointer none] w fun e w' => e = .returned (.int .i64 0) ∧ w = w' := by
  go_enter Try.func21, Try.ntmps21
  go_wp2
  go_ret
  exact ⟨rfl, rfl⟩

theorem putS_nil (x : ByteArray) (w : World) : Calls Try.prog 18 #[.pointer none, .string x] w fun e w' => e = .returned (.tuple #[.int .i64 0, .int .i64 6]) ∧ w = w' := by
  go_enter Try.func18, Try.ntmps18
  go_wp2
  go_ret2
  exact ⟨rfl, rfl⟩

theorem putS_full (base b : Nat) (x : ByteArray) (room : Int) (n : Nat) (xs : List Value) (r : Option Nat) (w : World) (h : ArenaS base w b room n xs r) (l : (n : Int) = room) (u : room ≤ 4096) :
    Calls Try.prog 18 #[.pointer (some ⟨b, 0, none⟩), .string x] w fun e w' => ∃ k, e = .returned (.tuple #[.int .i64 0, .int .i64 4]) ∧ w.drewN k = w' := by
  have hd : (room - (n : Int) == 0) = true := by simpa using (by omega : room - (n : Int) = 0)
  have hl : (n : Int) ≤ room := by omega
  clear l
  go_enter Try.func18, Try.ntmps18
  go_wp2_with fail
  refine (leftS base b room n xs r _ h hl u).mono ?_
  rintro e w' ⟨k, rfl, rfl⟩
  clear h
  go_wp2
  go_ret2
  exact ⟨_, rfl, rfl⟩

set_option maxHeartbeats 400000 in
theorem putS (base b : Nat) (x : ByteArray) (room : Int) (n : Nat) (xs : List Value) (r : Option Nat) (w : World) (h : ArenaS base w b room n xs r) (l : (n : Int) < room) (u : room ≤ 4096) (hbs : base ≤ w.heap.size) :
    Calls Try.prog 18 #[.pointer (some ⟨b, 0, none⟩), .string x] w fun e w' =>
      ∃ r', e = .returned (.tuple #[.int .i64 n, .int .i64 0]) ∧ Hid (ArenaS base w' b room (n + 1) (xs ++ [.string x]) r') ∧ Hid (Chg b r r' w w') := by
  have hd : (room - (n : Int) == 0) = false := by simpa using (by omega : ¬ room - (n : Int) = 0)
  have hl : (n : Int) ≤ room := by omega
  have hn : n ≤ 4096 := by omega
  obtain ⟨i0, hi0, hz00, hz10, hz20⟩ := info_parts infoS
  have hi := Lib.hid hi0
  have hz0 := Lib.hid hz00
  have hz1 := Lib.hid hz10
  have hz2 := Lib.hid hz20
  have H := Lib.hid h
  have hbs1 := Lib.hid hbs
  clear h hi0 hz00 hz10 hz20 hbs
  go_enter Try.func18, Try.ntmps18
  go_wp2_with fail
  refine (leftS base b room n xs r _ H.out hl u).mono ?_
  rintro e w' ⟨k, rfl, rfl⟩
  have H1 : Hid (ArenaS base (w.drewN k) b room n xs r) := H.out.drewN k
  obtain ⟨ao, cap, c0, c1, f0, ho0, hr0⟩ := H1.out.open
  have ho := Lib.hid ho0
  have hr := Lib.hid hr0
  clear ho0 hr0
  go_wp2_with (at_builtin; refine wpList_append_at _ rfl (.tmp 21) (.tmp 23) 59 rfl base 9 i0 (.string ByteArray.empty) 1 16 Try.underlying59 hi.out hz0.out hz1.out hz2.out rfl (by decide) _ _ _ rfl (ho.out.alloc _) ⟨w.heap.size, 0, none⟩ 1 1 [.string x] rfl rfl (new_cells _ _ _) (by intro u hu; simp at hu; subst hu; rfl) (by unfold maxLen; omega) (by omega) (by have := hbs1.out; simp; omega) (by decide) ?_; intro g' c' w1 ho1 hg1 hv1; have hg2 := Lib.hid (show World.grownBy _ w1 r from hr.out ▸ hg1); have ho2 := Lib.hid ho1; have hv2 := Lib.hid hv1; obtain ⟨c2, f2⟩ := H1.out.mid c0 hg2.out; clear ho1 hg1 hv1 c0 c1 f0)
  go_ret2
  have hp := (H1.out.alloc _).put ho2.out hg2.out (by rw [← hr.out]; exact hv2.out)
  exact ⟨_, rfl, hp.1, hp.2.after (gb_alloc (gb_drewN (gb_refl _ _) _) _)⟩

theorem atS (base b j : Nat) (x : ByteArray) (room : Int) (n : Nat) (xs : List Value) (r : Option Nat) (w : World) (h : ArenaS base w b room n xs r) (hj : j < n) (hm : n ≤ 4096) (hx : xs[j]? = some (.string x)) :
    Calls Try.prog 19 #[.pointer (some ⟨b, 0, none⟩), .int .i64 j] w fun e w' => e = .returned (.tuple #[.string x, .int .i64 0]) ∧ w = w' := by
  obtain ⟨g, cap, c0, hc⟩ := h.elem (by omega)
  have c1 : w.cell? ⟨g, j, none⟩ = some (.string x) := (hc j (by omega)).trans hx
  have H := Lib.hid h
  have hj' : (j : Int) < (n : Int) := by omega
  clear h hc hx
  go_enter Try.func19, Try.ntmps19
  go_wp2_with (go_at_call 22; refine (lenS base b room n xs r _ H.out).mono ?_; rintro e w' ⟨rfl, rfl⟩)
  go_ret2
  exact ⟨rfl, rfl⟩

theorem atS_out (base b : Nat) (i room : Int) (n : Nat) (xs : List Value) (r : Option Nat) (w : World) (h : ArenaS base w b room n xs r) (hi : i < 0 ∨ (n : Int) ≤ i) :
    Calls Try.prog 19 #[.pointer (some ⟨b, 0, none⟩), .int .i64 i] w fun e w' => e = .returned (.tuple #[.string ByteArray.empty, .int .i64 6]) ∧ w = w' := by
  have H := Lib.hid h
  clear h
  by_cases h0 : i < 0
  · clear hi
    go_enter Try.func19, Try.ntmps19
    go_wp2
    go_ret2
    exact ⟨rfl, rfl⟩
  · have hi' : (n : Int) ≤ i := by omega
    clear hi
    go_enter Try.func19, Try.ntmps19
    go_wp2_with (go_at_call 22; refine (lenS base b room n xs r _ H.out).mono ?_; rintro e w' ⟨rfl, rfl⟩)
    go_ret2
    exact ⟨rfl, rfl⟩

theorem atS_nil (i : Int) (w : World) : Calls Try.prog 19 #[.pointer none, .int .i64 i] w fun e w' => e = .returned (.tuple #[.string ByteArray.empty, .int .i64 6]) ∧ w = w' := by
  by_cases h0 : i < 0
  · go_enter Try.func19, Try.ntmps19
    go_wp2
    go_ret2
    exact ⟨rfl, rfl⟩
  · go_enter Try.func19, Try.ntmps19
    go_wp2_with (go_at_call 22; refine (lenS_nil _).mono ?_; rintro e w' ⟨rfl, rfl⟩)
    go_ret2
    exact ⟨rfl, rfl⟩

/-- For a region that draws its order: these two only read. -/
theorem lenS_q (base b : Nat) (room : Int) (n : Nat) (xs : List Value) (r : Option Nat) (w : World) (k : Nat) (h : ArenaS base (w.drewN k) b room n xs r) :
    Calls Try.prog 22 #[.pointer (some ⟨b, 0, none⟩)] (w.drewN k) fun e w' => e = .returned (.int .i64 n) ∧ ∃ m, w' = w.drewN m :=
  Calls.quiet_of_same ((lenS base b room n xs r _ h).mono fun _ _ ⟨he, hw⟩ => ⟨he, hw.symm⟩)
theorem leftS_q (base b : Nat) (room : Int) (n : Nat) (xs : List Value) (r : Option Nat) (w : World) (k : Nat) (h : ArenaS base (w.drewN k) b room n xs r) (l : (n : Int) ≤ room) (u : room ≤ 4096) :
    Calls Try.prog 21 #[.pointer (some ⟨b, 0, none⟩)] (w.drewN k) fun e w' => e = .returned (.int .i64 (room - n)) ∧ ∃ m, w' = w.drewN m :=
  Calls.quiet_of ((leftS base b room n xs r _ h l u).mono fun _ _ ⟨m, he, hw⟩ => ⟨he, m, hw.symm⟩)
end Go.Proofs.Ytockjmcbfmbjaaa.ar
