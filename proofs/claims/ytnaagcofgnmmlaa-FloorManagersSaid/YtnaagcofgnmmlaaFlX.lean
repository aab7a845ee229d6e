/- Package floor: a floor as one thing: the blocks of its own; what its methods ask of them. -/
import Derived.Test.YtnaagcofgnmmlaaFlG
import Derived.Test.YtnaagcofgnmmlaaFlR
import Derived.Test.YtnaagcofgnmmlaaFlD
import Derived.IntWalk
namespace Go.Proofs.Ytnaagcofgnmmlaa.fl
open Go Go.RowKit Go.Proofs.Ytnaagcofgnmmlaa.base Go.Proofs.Ytnaagcofgnmmlaa.lg
set_option linter.unusedVariables false

/-- An event's cells. -/
def evc (x : Nat → Int) : List Value := [.int .i64 (x 0), .int .i64 (x 1), .int .i64 (x 2), .int .i64 (x 3), .int .i64 (x 4), .int .i64 (x 5), .int .i64 (x 6)]
theorem evc_length (x : Nat → Int) : (evc x).length = 7 := rfl
theorem evc_one (l : List (Nat → Int)) : ∀ u ∈ rows evc l, u.oneCell' = true := rows_one_cell (by intro x u hu; simp [evc] at hu; rcases hu with rfl | rfl | rfl | rfl | rfl | rfl | rfl <;> rfl) l

/-- What a floor has beside its draws and its events: its arena's, table's, cells', tickets' and gate's blocks; its config but the threads; how many tickets were taken; the gate's senior, pulses, accesses. -/
structure Core where
  ab : Nat
  tb : Nat
  cb : Nat
  tk : Nat
  g : Nat
  o : Int
  r : Int
  k : Int
  m : Int
  p : Int
  tkn : Int
  b : Bool
  s : Int
  t : Int
  z : Nat → Int
  A : Int

/-- X are the blocks of a floor's own, in block fb: of n threads, with draws ds, of which each thread's next one is nx, with events ev. -/
def FloX (fb n : Nat) (ds : List Int) (nx : Nat → Nat) (ev : List (Nat → Int)) (C : Core) (X : Blks) : Prop :=
  ∃ (da : Option Addr) (dc nb : Nat) (ea : Option Addr) (ec sw pb : Nat) (num a : Int) (LB LE : Blks), 1 ≤ n ∧ n ≤ 6 ∧ (∀ i, 0 < ds.length → nx i < ds.length) ∧ ds.length ≤ 1000000 ∧ gate.Num n C.b C.s C.t num ∧ 0 ≤ a ∧ a ≤ C.A ∧
    Row u8c 1 5 ds (.slice da ds.length dc) LB ∧ Row evc 7 139 ev (.slice ea ev.length ec) LE ∧ X = (fb, 67, [.pointer (some ⟨C.ab, 0, none⟩), .pointer (some ⟨C.tb, 0, none⟩), .pointer (some ⟨C.cb, 0, none⟩), .int .i64 C.o, .int .i64 n, .int .i64 C.r, .int .i64 C.k, .int .i64 C.m, .int .i64 C.p, .pointer (some ⟨C.tk, 0, none⟩), .pointer (some ⟨C.g, 0, none⟩), mgr C.m, .slice da ds.length dc, .slice (some ⟨nb, 0, none⟩) n n, .slice ea ev.length ec]) :: (nb, 3, vals (fun i => (nx i : Int)) n) :: (C.tk, 100, [.int .i64 C.k, .int .i64 C.tkn]) :: (C.g, 102, [.pointer (some ⟨sw, 0, none⟩), .int .i64 0, .slice (some ⟨pb, 0, none⟩) n n]) :: (sw, 117, [.int .i64 num, .int .i64 a]) :: (pb, 3, vals C.z n) :: (LB ++ LE)

/-- A floor, in front of one's own other blocks. -/
abbrev Flo (w0 : Bas) (w : World) (fb n : Nat) (ds : List Int) (nx : Nat → Nat) (ev : List (Nat → Int)) (C : Core) (R : Blks) : Prop := Has (FloX fb n ds nx ev C) w0 w R

section
variable {w0 : Bas} {w : World} {fb n : Nat} {ds : List Int} {nx : Nat → Nat} {ev : List (Nat → Int)} {C : Core} {R : Blks}

/-- The dice's own step. -/
theorem dice_in (fb q nb n len dc k i h : Nat) (hk : k < n) (h6 : n ≤ 6) (hi : i < len) (hl : len ≤ 1000000) (hh : (i + 1) % len = h) (x : Int) (hx8 : 0 ≤ x ∧ x ≤ 255) (w : World) (c12 : w.cell? ⟨fb, 12, none⟩ = some (.slice (some ⟨q, 0, none⟩) len dc)) (c13 : w.cell? ⟨fb, 13, none⟩ = some (.slice (some ⟨nb, 0, none⟩) n n))
    (cn : w.cell? ⟨nb, k, none⟩ = some (.int .i64 i)) (fn : w.frozen? ⟨nb, k, none⟩ = false) (cq : w.cell? ⟨q, i, none⟩ = some (.int .u8 x)) (hq : nb ≠ q) (hq' : q ≠ nb) (hf : nb ≠ fb) (hf' : fb ≠ nb) :
    Calls Try.prog 13 #[.pointer (some ⟨fb, 12, none⟩), .int .i64 (k : Int)] w fun e w' => e = .returned (.int .i64 x) ∧ w.drew.setCell ⟨nb, k, none⟩ (.int .i64 (h : Int)) = w' := by
  have hw1 : IntKind.i64.wrap ((n : Int) - 1) = (n : Int) - 1 := IntWalk.i64_in _ (by omega)
  have hw2 : IntKind.i64.wrap ((i : Int) + 1) = (i : Int) + 1 := IntWalk.i64_in _ (by omega)
  have hlt : h < len := by rw [← hh]; exact Nat.mod_lt _ (by omega)
  have hw3 : IntKind.i64.wrap (h : Int) = (h : Int) := IntWalk.i64_in _ (by omega)
  have hw4 : IntKind.i64.wrap x = x := IntWalk.i64_in _ (by omega)
  have hm : ((i : Int) + 1).tmod (len : Int) = (h : Int) := by
    rw [← hh, Int.tmod_eq_emod_of_nonneg (by omega)]
    simp
  have hz1 : ((len : Int) == 0) = false := by simp; omega
  have hz2 : ¬ (len : Int) = 0 := by omega
  have hz3 : ¬ len = 0 := by omega
  have k0 : (0 : Int) ≤ (k : Int) := by omega
  have kn : (k : Int) < (n : Int) := by omega
  have i0 : (0 : Int) ≤ (i : Int) := by omega
  have il : (i : Int) < (len : Int) := by omega
  have HB := Lib.hid (inB_of (n := (k : Int)) (l := 0) (m := (n : Int) - 1) (by omega) (by omega))
  clear hh hlt hx8 hl h6
  go_enter Try.func13, Try.ntmps13
  go_wp2_with fail
  refine (within_any _ _ _ _ HB.out _).mono ?_
  rintro e v ⟨rfl, rfl⟩
  go_wp2
  go_region
  all_goals go_wp2
  all_goals go_ret
  all_goals exact ⟨rfl, rfl⟩

theorem dice_out (fb n len dc : Nat) (da na : Option Addr) (nc : Nat) (th : Int) (h6 : n ≤ 6) (h : th < 0 ∨ (n : Int) ≤ th ∨ len = 0) (w : World) (c12 : w.cell? ⟨fb, 12, none⟩ = some (.slice da len dc)) (c13 : w.cell? ⟨fb, 13, none⟩ = some (.slice na n nc)) :
    Calls Try.prog 13 #[.pointer (some ⟨fb, 12, none⟩), .int .i64 th] w fun e w' => e = .returned (.int .i64 0) ∧ w = w' := by
  have hw1 : IntKind.i64.wrap ((n : Int) - 1) = (n : Int) - 1 := IntWalk.i64_in _ (by omega)
  by_cases hb : inB th 0 ((n : Int) - 1) = true
  · have hl : len = 0 := by
      have := inB_true hb
      omega
    subst hl
    have HB := Lib.hid hb
    clear hb h h6
    go_enter Try.func13, Try.ntmps13
    go_wp2_with fail
    refine (within_any _ _ _ _ HB.out _).mono ?_
    rintro e v ⟨rfl, rfl⟩
    go_wp2
    go_ret
    exact ⟨rfl, rfl⟩
  · have HB := Lib.hid (Bool.eq_false_iff.2 hb)
    clear hb h h6
    go_enter Try.func13, Try.ntmps13
    go_wp2_with fail
    refine (within_any _ _ _ _ HB.out _).mono ?_
    rintro e v ⟨rfl, rfl⟩
    go_wp2
    go_ret
    exact ⟨rfl, rfl⟩

theorem draw_out (th : Int) (h : th < 0 ∨ (n : Int) ≤ th ∨ ds.length = 0) (H : Flo w0 w fb n ds nx ev C R) :
    Calls Try.prog 8 #[.pointer (some ⟨fb, 0, none⟩), .int .i64 th] w fun e w' => e = .returned (.int .i64 0) ∧ w = w' := by
  obtain ⟨X, ⟨da, dc, nb, ea, ec, sw, pb, num, a, LB, LE, h1, h6, hnx, hdl, hN, h0, hA, hR, hE, rfl⟩, O⟩ := H
  have D := Lib.hid (dice_out fb n ds.length dc da _ _ th h6 h w (O.cell 0 12 rfl rfl) (O.cell 0 13 rfl rfl))
  clear O hR hE hN hnx hdl h h1 h6 h0 hA
  go_enter Try.func8, Try.ntmps8
  go_wp2_with fail
  refine D.out.mono ?_
  rintro e v ⟨rfl, rfl⟩
  go_wp2
  go_ret
  exact ⟨rfl, rfl⟩

theorem draw_in (k : Nat) (hk : k < n) (hd : 0 < ds.length) (x : Int) (hx : ds[nx k]? = some x) (hx8 : 0 ≤ x ∧ x ≤ 255) (H : Flo w0 w fb n ds nx ev C R) :
    Calls Try.prog 8 #[.pointer (some ⟨fb, 0, none⟩), .int .i64 (k : Int)] w fun e w' => e = .returned (.int .i64 x) ∧ Hid (Flo w0 w' fb n ds (fun j => if j = k then (nx k + 1) % ds.length else nx j) ev C R) := by
  obtain ⟨X, ⟨da, dc, nb, ea, ec, sw, pb, num, a, LB, LE, h1, h6, hnx, hdl, hN, h0, hA, hR, hE, rfl⟩, O⟩ := H
  obtain ⟨q, dc', hq⟩ := hR.some hd
  injection hq with hq1 _ hq2
  subst hq1 hq2
  have hO := O
  have hOB : base.Own w0 w (LB ++ ((fb, 67, [.pointer (some ⟨C.ab, 0, none⟩), .pointer (some ⟨C.tb, 0, none⟩), .pointer (some ⟨C.cb, 0, none⟩), .int .i64 C.o, .int .i64 n, .int .i64 C.r, .int .i64 C.k, .int .i64 C.m, .int .i64 C.p, .pointer (some ⟨C.tk, 0, none⟩), .pointer (some ⟨C.g, 0, none⟩), mgr C.m, .slice (some ⟨q, 0, none⟩) ds.length dc, .slice (some ⟨nb, 0, none⟩) n n, .slice ea ev.length ec]) :: [])) := by
    refine (O.drop ?_ : base.Own w0 w (_ :: LB)).perm (List.perm_append_comm (l₁ := [_]) (l₂ := LB))
    exact List.Sublist.cons_cons _ (List.Sublist.cons _ (List.Sublist.cons _ (List.Sublist.cons _ (List.Sublist.cons _ (List.Sublist.cons _ ((List.sublist_append_left _ _).trans (List.sublist_append_left _ _)))))))
  obtain ⟨cur, hcur, hcl, hcc, hcm, htk⟩ := hR.open hOB
  have cq : w.cell? ⟨q, nx k, none⟩ = some (.int .u8 x) := by
    have hj : nx k < ds.length := hnx k hd
    rw [hcur.cell]
    have h2 := rows_get u8c_length ds (nx k) 0 x hx (by omega)
    simp only [Nat.mul_one, Nat.add_zero] at h2
    rw [← htk, List.getElem?_take_of_lt (by omega)] at h2
    simpa [u8c] using h2
  have hne : nb ≠ q := by
    intro e
    have h2 := O.get 1 rfl
    rw [e] at h2
    have h3 := hcur
    unfold Blk at h2 h3
    rw [h2] at h3
    simp at h3
  obtain ⟨nf1, nf2⟩ := O.ne' 1 0 rfl rfl (by omega)
  have D := Lib.hid (dice_in fb q nb n ds.length dc k (nx k) ((nx k + 1) % ds.length) hk h6 (hnx k hd) hdl rfl x hx8 w (O.cell 0 12 rfl rfl) (O.cell 0 13 rfl rfl) (O.cell 1 k rfl (vals_get _ n k hk)) (O.free 1 k rfl) cq hne (Ne.symm hne) nf1 nf2)
  have FO := Lib.hid (O.drew.set 1 k (.int .i64 (((nx k + 1) % ds.length : Nat) : Int)) rfl)
  have E1 := Lib.hid (gate.vals_set (fun i => (nx i : Int)) n k (((nx k + 1) % ds.length : Nat) : Int))
  clear O hOB hO cq hcur htk hcc hcl hcm
  go_enter Try.func8, Try.ntmps8
  go_wp2_with fail
  refine D.out.mono ?_
  rintro e v ⟨rfl, rfl⟩
  go_wp2
  go_ret
  refine ⟨rfl, _, ⟨some ⟨q, 0, none⟩, dc, nb, ea, ec, sw, pb, num, a, LB, LE, h1, h6, fun i h => ?_, hdl, hN, h0, hA, hR, hE, rfl⟩, ?_⟩
  · dsimp only
    split
    · exact Nat.mod_lt _ h
    · exact hnx i h
  · have h2 := FO.out
    simp only [List.cons_append, List.set_cons_succ, List.set_cons_zero] at h2
    rw [E1.out] at h2
    rw [show (fun i => (((fun j => if j = k then (nx k + 1) % ds.length else nx j) i : Nat) : Int)) = (fun j => if j = k then (((nx k + 1) % ds.length : Nat) : Int) else (nx j : Int)) from by funext j; dsimp only; split <;> rfl]
    exact h2
end

end Go.Proofs.Ytnaagcofgnmmlaa.fl
