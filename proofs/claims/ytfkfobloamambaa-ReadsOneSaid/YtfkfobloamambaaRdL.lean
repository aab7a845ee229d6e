/- What is put and released, as plain lists; the contracts told by them. -/
import Derived.Test.YtfkfobloamambaaAlive12
namespace Go.Proofs.Ytfkfobloamambaa.rd
open Go Go.RowKit Go.Proofs.Ytfkfobloamambaa.base Go.Proofs.Ytfkfobloamambaa.lg
set_option linter.unusedVariables false

/-- The own ones behind a put. -/
def putL (x : Ow) (m : List Ow) : List Ow := match pl Ow.o x.o m with | none => m ++ [x] | some k => m.set k x
/-- The readings behind a release. -/
def dropL (o : Int) (l : List Rd) : List Rd := match pl Rd.o o l with | none => l | some k => l.eraseIdx k

section
variable {α : Type} {g : α → Int}
theorem pl_snoc (o : Int) (l : List α) (x : α) : (pl g o (l ++ [x])).isSome = ((pl g o l).isSome || (g x == o)) := by
  induction l with
  | nil =>
    by_cases h : g x = o <;> simp [pl, h]
  | cons y l ih =>
    by_cases h : g y = o
    · simp [pl, h]
    · simp only [List.cons_append, pl, if_neg h, Option.isSome_map]
      exact ih
theorem pl_any (o : Int) (l : List α) : (pl g o l).isSome = l.any fun x => g x == o := by
  induction l with
  | nil => rfl
  | cons y l ih => by_cases h : g y = o <;> simp [pl, h, ih]
theorem pl_lt {o : Int} {l : List α} {k : Nat} (h : pl g o l = some k) : k < l.length := by
  rcases pl_spec g o l with ⟨h1, _⟩ | ⟨k', x, h1, h2, _⟩
  · rw [h1] at h; cases h
  · rw [h1] at h
    cases h
    exact (List.getElem?_eq_some_iff.1 h2).1
theorem pl_of_mem {o : Int} {l : List α} {x : α} (hx : x ∈ l) (ho : g x = o) : (pl g o l).isSome = true := by
  rw [pl_any, List.any_eq_true]
  exact ⟨x, hx, by simp [ho]⟩
theorem pl_set {o : Int} {l : List α} {k : Nat} {x y : α} (hk : l[k]? = some y) (hy : g y = g x) : (pl g o (l.set k x)).isSome = (pl g o l).isSome := by
  induction l generalizing k with
  | nil => simp at hk
  | cons z l ih =>
    cases k with
    | zero =>
      simp at hk
      subst hk
      simp only [List.set_cons_zero, pl, hy]
    | succ k =>
      have := ih (k := k) (by simpa using hk)
      simp only [List.set_cons_succ, pl]
      split
      · rfl
      · simpa using this
end

theorem putL_has (x : Ow) (m : List Ow) (o : Int) : (pl Ow.o o (putL x m)).isSome = ((pl Ow.o o m).isSome || (x.o == o)) := by
  unfold putL
  rcases pl_spec Ow.o x.o m with ⟨h1, _⟩ | ⟨k, y, h1, h2, h3, _⟩
  · rw [h1]
    exact pl_snoc o m x
  · rw [h1]
    show (pl Ow.o o (m.set k x)).isSome = _
    rw [pl_set (x := x) h2 h3]
    by_cases h : x.o = o
    · subst h
      rw [h1]
      simp
    · simp [h]
theorem putL_len (x : Ow) (m : List Ow) : (putL x m).length ≤ m.length + 1 := by
  unfold putL
  split <;> simp
theorem dropL_len (o : Int) (l : List Rd) : (dropL o l).length ≤ l.length := by
  unfold dropL
  split
  · exact Nat.le_refl _
  · rw [List.length_eraseIdx]; split <;> omega
theorem dropL_sub (o : Int) (l : List Rd) : List.Sublist (dropL o l) l := by
  unfold dropL
  split
  · exact List.Sublist.refl _
  · exact List.eraseIdx_sublist ..

/-- No object twice. -/
def Uniq (l : List Rd) : Prop := l.Pairwise fun a b => a.o ≠ b.o
theorem Uniq.add {l : List Rd} (h : Uniq l) {x : Rd} (hx : pl Rd.o x.o l = none) : Uniq (l ++ [x]) := by
  refine List.pairwise_append.2 ⟨h, List.pairwise_singleton _ _, fun a ha b hb => ?_⟩
  rw [List.mem_singleton] at hb
  subst hb
  intro e
  have := pl_of_mem (g := Rd.o) ha e
  rw [hx] at this
  cases this
theorem Uniq.drop {l : List Rd} (h : Uniq l) (o : Int) : Uniq (dropL o l) := List.Pairwise.sublist (dropL_sub o l) h
theorem dropL_flt {l : List Rd} (h : Uniq l) (o : Int) : flt o l = dropL o l := by
  unfold dropL flt
  induction l with
  | nil => rfl
  | cons y l ih =>
    have hp := List.pairwise_cons.1 h
    have ih := ih hp.2
    by_cases e : y.o = o
    · have e1 : pl Rd.o o (y :: l) = some 0 := by unfold pl; rw [if_pos e]
      rw [e1]
      have e2 : (y :: l).filter (fun x => !(x.o == o)) = l.filter (fun x => !(x.o == o)) := by rw [List.filter_cons]; simp [e]
      rw [e2]
      show _ = l
      rw [List.filter_eq_self]
      intro x hx
      have := hp.1 x hx
      have : ¬ x.o = o := fun h2 => this (e.trans h2.symm)
      simpa using this
    · have e1 : pl Rd.o o (y :: l) = (pl Rd.o o l).map (· + 1) := by
        conv => lhs; unfold pl
        rw [if_neg e]
      rw [e1, List.filter_cons, if_pos (by simpa using e), ih]
      cases pl Rd.o o l <;> rfl
theorem dropL_gone {l : List Rd} (h : Uniq l) (o : Int) : ∀ x ∈ dropL o l, x.o ≠ o := by
  rw [← dropL_flt h]
  intro x hx
  have := (List.mem_filter.1 hx).2
  simpa using this
theorem dropL_count {l : List Rd} (o : Int) : l.length = (dropL o l).length + (if (pl Rd.o o l).isSome then 1 else 0) := by
  unfold dropL
  rcases pl_spec Rd.o o l with ⟨h1, _⟩ | ⟨k, y, h1, h2, _⟩
  · rw [h1]; rfl
  · rw [h1]
    have := (List.getElem?_eq_some_iff.1 h2).1
    show l.length = (l.eraseIdx k).length + 1
    rw [List.length_eraseIdx, if_pos this]
    omega

theorem unc_at {m : List Ow} {l : List Rd} {i : Nat} {x : Rd} (hx : l[i]? = some x) (hp : pl Ow.o x.o m = none) : (unc m l)[(unc m (l.take i)).length]? = some x := by
  have hi := (List.getElem?_eq_some_iff.1 hx).1
  have e1 : l = l.take i ++ (x :: l.drop (i + 1)) := by
    have e2 : l.drop i = x :: l.drop (i + 1) := by
      rw [List.drop_eq_getElem_cons hi]
      congr 1
      exact (List.getElem?_eq_some_iff.1 hx).2
    rw [← e2, List.take_append_drop]
  have e3 : unc m l = unc m (l.take i) ++ (x :: unc m (l.drop (i + 1))) := by
    conv => lhs; rw [e1]
    unfold unc
    rw [List.filter_append, List.filter_cons, if_pos (by rw [hp]; rfl)]
  rw [e3, List.getElem?_append_right (Nat.le_refl _), Nat.sub_self]
  rfl

/-- One reading lies there. -/
theorem isL_one {w : World} {b off : Nat} {x : Rd} (h0 : w.cell? ⟨b, off, none⟩ = some (.int .i64 x.o)) (h1 : w.cell? ⟨b, off + 1, none⟩ = some (.int .i64 x.n)) (h2 : w.cell? ⟨b, off + 2, none⟩ = some (.int .i64 x.v)) : IsL Rd.cells w (some ⟨b, off, none⟩) [x] := by
  refine .inr ⟨b, off, rfl, World.block_lt_of_cell? _ _ h0, fun j u hu => ?_⟩
  have hj : j < 3 := (List.getElem?_eq_some_iff.1 hu).1
  rcases (by omega : j = 0 ∨ j = 1 ∨ j = 2) with rfl | rfl | rfl
  · exact h0.trans hu
  · exact h1.trans hu
  · exact h2.trans hu

/-- A row of bools. -/
def bls (f : Nat → Bool) (n : Nat) : List Value := (List.range n).map fun i => .bool (f i)
theorem bls_get (f : Nat → Bool) (n i : Nat) (h : i < n) : (bls f n)[i]? = some (.bool (f i)) := by simp [bls, h]
theorem bls_set (f : Nat → Bool) (n k : Nat) (b : Bool) : (bls f n).set k (.bool b) = bls (fun j => if j = k then b else f j) n := by
  apply List.ext_getElem?
  intro j
  by_cases hj : j < n
  · rw [bls_get _ _ _ hj]
    by_cases e : j = k
    · subst e
      rw [List.getElem?_set_self (by simpa [bls] using hj), if_pos rfl]
    · rw [List.getElem?_set_ne (fun h => e h.symm), bls_get _ _ _ hj, if_neg e]
  · rw [List.getElem?_eq_none (by simp [bls]; omega), List.getElem?_eq_none (by simp [bls]; omega)]

theorem zero256 (w : World) : (zeroValue 61).run Try.prog w = .ok (.agg ⟨bls (fun _ => false) 256⟩) w := by kernel_rfl

section
variable {w0 : World} {R : Blks} {s : Nat} {l : List Rd} {m : List Ow} {w : World}
theorem put_any (x : Ow) (h : Has (SA s l m) w0 w R) (hm : m.length < 1000000) :
    Calls Try.prog 13 #[.pointer (some ⟨s, 0, none⟩), .agg #[.int .i64 x.o, .int .i64 x.c, .int .i64 x.n, .int .i64 x.v, .bool x.b]] w fun e w' => e = .returned (.tuple #[]) ∧ Hid (Has (SA s l (putL x m)) w0 w' R) := by
  unfold putL
  cases h1 : pl Ow.o x.o m with
  | none => exact put_new w0 R s l m x w h hm h1
  | some k => exact put_in w0 R s l m x k w h (by omega) h1 (pl_lt h1)

theorem refput_any (x : Ow) (h : Has (SB s l m) w0 w R) (hm : m.length < 1000000) :
    Calls Try.prog 15 #[.pointer (some ⟨s, 0, none⟩), .agg #[.int .i64 x.o, .int .i64 x.c, .int .i64 x.n, .int .i64 x.v, .bool x.b]] w fun e w' => e = .returned (.tuple #[]) ∧ Hid (Has (SB s l (putL x m)) w0 w' R) := by
  unfold putL
  cases h1 : pl Ow.o x.o m with
  | none => exact refput_new w0 R s l m x w h hm h1
  | some k => exact refput_in w0 R s l m x k w h (by omega) h1 (pl_lt h1)

theorem drop_any (o : Int) (b : Bool) (h : Has (SA s l m) w0 w R) (hm : l.length ≤ 1000000) (hb : b = (pl Rd.o o l).isSome) :
    Calls Try.prog 11 #[.pointer (some ⟨s, 0, none⟩), .int .i64 o] w fun e w' => e = .returned (.bool b) ∧ Hid (Has (SA s (dropL o l) m) w0 w' R) := by
  subst hb
  unfold dropL
  cases h1 : pl Rd.o o l with
  | none =>
    refine (drop_none w0 R s l m o w h hm h1).mono ?_
    rintro e w' ⟨rfl, g⟩
    exact ⟨rfl, h.grown g.out⟩
  | some k => exact drop_in w0 R s l m o k w h hm h1 (pl_lt h1)

end
end Go.Proofs.Ytfkfobloamambaa.rd
