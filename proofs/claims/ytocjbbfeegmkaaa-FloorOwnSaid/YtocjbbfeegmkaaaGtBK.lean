/- The contracts of package gate over a gate as one thing, further: the sight, the swap, the leave, and a new gate. -/
import Derived.Test.YtocjbbfeegmkaaaGtK
import Derived.Deep.RegionHeld3
namespace Go.Proofs.Ytocjbbfeegmkaaa.gate
open Go Go.RowKit Go.Proofs.Ytocjbbfeegmkaaa.base Go.Proofs.Ytocjbbfeegmkaaa.ch Go.Proofs.Ytocjbbfeegmkaaa.wd
set_option linter.unusedVariables false

section
variable {w0 : Bas} {g n : Nat} {b : Bool} {s t : Int} {z : Nat → Int} {A : Int} {R : List (Nat × TypeId × List Value)}

theorem see_nil (w : World) : Calls Try.prog 27 #[.pointer none] w fun e w' => e = .returned (.agg #[.bool false, .int .i64 0, .int .i64 0, .int .i64 0]) ∧ Hid (w.grownBy w' none) := by
  go_enter Try.func27, Try.ntmps27
  go_wp2
  refine bodyPost_ret (v := .agg #[.bool false, .int .i64 0, .int .i64 0, .int .i64 0]) (by simp [results, Try.results27, go_sem]) rfl ⟨rfl, ?_⟩
  repeat (first | exact gb_refl _ _ | refine gb_alloc ?_ _ | refine gb_drew ?_ | refine gb_drewN ?_ _ | refine gb_setNew ?_ (by simp) _)

theorem see_none (w : World) (h : Gt w0 w g n false s t z A R) (hA : A ≤ 999999) : Calls Try.prog 27 #[.pointer (some ⟨g, 0, none⟩)] w fun e w' => e = .returned (.agg #[.bool false, .int .i64 0, .int .i64 0, .int .i64 0]) ∧ Hid (Gt w0 w' g n false s t z (A + 1) R) := by
  obtain ⟨sw, pb, num, a, h1, h2, h3, h4, o⟩ := h
  obtain ⟨_, rfl, rfl, rfl⟩ | ⟨h5, _⟩ := h2
  case inr => cases h5
  have O := Lib.hid (o.alloc 58 [.bool false, .int .i64 0, .int .i64 0, .int .i64 0])
  clear o
  go_enter Try.func27, Try.ntmps27
  have c0 := O.out.cell 1 0 rfl rfl; have c1 := O.out.cell 1 1 rfl rfl; have c2 := O.out.cell 1 2 rfl rfl
  go_wp2_with fail
  refine (load_any sw 0 a _ (O.out.get 2 rfl) h3 (by omega)).mono ?_
  rintro e v1 ⟨rfl, W, gw⟩
  have P := Lib.hid (O.out.change 2 rfl gw.out W.out)
  simp only [List.set_cons_succ, List.set_cons_zero] at P
  clear W gw O c0 c1 c2
  have r0 := P.out.cell 0 0 rfl rfl; have r1 := P.out.cell 0 1 rfl rfl; have r2 := P.out.cell 0 2 rfl rfl; have r3 := P.out.cell 0 3 rfl rfl
  have rf0 := P.out.free 0 0 rfl; have rf1 := P.out.free 0 1 rfl; have rf2 := P.out.free 0 2 rfl; have rf3 := P.out.free 0 3 rfl
  generalize w.heap.size = rb at *
  go_wp2
  have Q := Lib.hid ((((P.out.set 0 0 (.bool false) rfl).set 0 1 (.int .i64 0) rfl).set 0 2 (.int .i64 0) rfl).set 0 3 (.int .i64 0) rfl)
  simp only [List.set_cons_succ, List.set_cons_zero] at Q
  generalize (((((v1).setCell ⟨rb, 0, none⟩ (.bool false)).setCell ⟨rb, 1, none⟩ (.int .i64 0)).setCell ⟨rb, 2, none⟩ (.int .i64 0)).setCell ⟨rb, 3, none⟩ (.int .i64 0)) = v2 at *
  clear r0 r1 r2 r3 rf0 rf1 rf2 rf3
  have r0 := Q.out.cell 0 0 rfl rfl; have r1 := Q.out.cell 0 1 rfl rfl; have r2 := Q.out.cell 0 2 rfl rfl; have r3 := Q.out.cell 0 3 rfl rfl
  refine bodyPost_ret (v := .agg #[.bool false, .int .i64 0, .int .i64 0, .int .i64 0]) (by simp [results, Try.results27, go_sem, *]) rfl ⟨rfl, sw, pb, 0, a + 1, h1, .inl ⟨rfl, rfl, rfl, rfl⟩, by omega, by omega, Q.out.drop (List.Sublist.cons _ (List.Sublist.refl _))⟩

theorem see_some (k : Nat) (w : World) (h : Gt w0 w g n true s (k : Int) z A R) (hA : A ≤ 999999) : Calls Try.prog 27 #[.pointer (some ⟨g, 0, none⟩)] w fun e w' => e = .returned (.agg #[.bool true, .int .i64 s, .int .i64 (k : Int), .int .i64 (z k)]) ∧ Hid (Gt w0 w' g n true s k z (A + 1) R) := by
  obtain ⟨sw, pb, num, a, h1, h2, h3, h4, o⟩ := h
  obtain ⟨h5, _⟩ | ⟨_, hs0, hs1, ht0, ht1, hn⟩ := h2
  case inl => cases h5
  have N := Lib.hid hn
  have nz : (num == 0) = false := by simp; omega
  have O := Lib.hid (o.alloc 58 [.bool false, .int .i64 0, .int .i64 0, .int .i64 0])
  have hw : IntKind.i64.wrap (IntKind.i64.wrap 0 + s) = s := by rw [show IntKind.i64.wrap 0 = 0 from rfl, Int.zero_add]; exact IntWalk.i64_in _ (by omega)
  clear o hn
  go_enter Try.func27, Try.ntmps27
  have c0 := O.out.cell 1 0 rfl rfl; have c1 := O.out.cell 1 1 rfl rfl; have c2 := O.out.cell 1 2 rfl rfl
  go_wp2_with fail
  refine (load_any sw num a _ (O.out.get 2 rfl) h3 (by omega)).mono ?_
  rintro e v1 ⟨rfl, W, gw⟩
  have P := Lib.hid (O.out.change 2 rfl gw.out W.out)
  simp only [List.set_cons_succ, List.set_cons_zero] at P
  clear W gw O c0 c1 c2
  go_wp2_with fail
  refine (apart_any num s k N.out hs0 hs1 ht0 (by omega) _).mono ?_
  rintro e v2 ⟨rfl, rfl⟩
  have GT := Lib.hid (show Gt w0 v1 g n true s k z (A + 1) ((w.heap.size, 58, [.bool false, .int .i64 0, .int .i64 0, .int .i64 0]) :: R) from ⟨sw, pb, num, a + 1, h1, .inr ⟨rfl, hs0, hs1, ht0, ht1, N.out⟩, by omega, by omega, P.out.perm ((List.Perm.swap _ _ _).trans (List.Perm.cons _ ((List.Perm.swap _ _ _).trans (List.Perm.cons _ (List.Perm.swap _ _ _)))))⟩)
  have c0 := P.out.cell 1 0 rfl rfl; have c1 := P.out.cell 1 1 rfl rfl; have c2 := P.out.cell 1 2 rfl rfl
  have r0 := P.out.cell 0 0 rfl rfl; have r1 := P.out.cell 0 1 rfl rfl; have r2 := P.out.cell 0 2 rfl rfl; have r3 := P.out.cell 0 3 rfl rfl
  have rf0 := P.out.free 0 0 rfl; have rf1 := P.out.free 0 1 rfl; have rf2 := P.out.free 0 2 rfl; have rf3 := P.out.free 0 3 rfl
  obtain ⟨e1, e2⟩ := P.out.ne' 0 1 rfl rfl (by decide)
  generalize w.heap.size = rb at *
  have HP := Lib.hid (fun (u : World) (hu : Gt w0 u g n true s k z (A + 1) ((rb, 58, [.bool false, .int .i64 0, .int .i64 0, .int .i64 0]) :: R)) => pulse_in k (by omega) u hu)
  go_wp2
  go_region_held3 (fun w' => w'.cell? ⟨g, 1, none⟩ = some (.int .i64 0)) (go_keep) ((go_at_call 39; refine (HP.out _ (by first | exact GT.out | exact GT.out.drew | exact GT.out.drewN _)).mono ?_; rintro e v3 ⟨rfl, rfl⟩))
  go_wp2
  try rw [hw]
  have Q := Lib.hid ((((((GT.out).set 0 0 (.bool true) rfl).set 0 1 (.int .i64 s) rfl).set 0 2 (.int .i64 (k : Int)) rfl).set 0 3 (.int .i64 (z k)) rfl).drew)
  simp only [List.set_cons_succ, List.set_cons_zero] at Q
  generalize (((((v1).setCell ⟨rb, 0, none⟩ (.bool true)).setCell ⟨rb, 1, none⟩ (.int .i64 s)).setCell ⟨rb, 2, none⟩ (.int .i64 (k : Int))).setCell ⟨rb, 3, none⟩ (.int .i64 (z k))) = v4 at *
  clear r0 r1 r2 r3 rf0 rf1 rf2 rf3
  have r0 := Q.out.cell 0 0 rfl rfl; have r1 := Q.out.cell 0 1 rfl rfl; have r2 := Q.out.cell 0 2 rfl rfl; have r3 := Q.out.cell 0 3 rfl rfl
  refine bodyPost_ret (v := .agg #[.bool true, .int .i64 s, .int .i64 (k : Int), .int .i64 (z k)]) (by simp [results, Try.results27, go_sem, *]) rfl ⟨rfl, Q.out.drop (List.Sublist.cons _ (List.Sublist.refl _))⟩

theorem names_nil (xs xt xp : Int) (w : World) : Calls Try.prog 69 #[.pointer none, .agg #[.bool true, .int .i64 xs, .int .i64 xt, .int .i64 xp]] w fun e w' => e = .returned (.tuple #[.int .i64 0, .bool false]) ∧ Hid (w.grownBy w' none) := by
  by_cases h : xs < 0
  · have hd : decide (xs < 0) = true := by simpa using h
    go_enter Try.func69, Try.ntmps69
    go_wp2
    go_ret2
    exact ⟨rfl, gb_alloc (gb_refl _ _) _⟩
  · have hd : decide (xs < 0) = false := by simpa using h
    go_enter Try.func69, Try.ntmps69
    go_wp2_with fail
    refine (has_nil _ _).mono ?_
    rintro e v1 ⟨rfl, rfl⟩
    go_wp2
    go_ret2
    exact ⟨rfl, gb_alloc (gb_refl _ _) _⟩

theorem names_none (g : Nat) (xp : Int) (w : World) : Calls Try.prog 69 #[.pointer (some ⟨g, 0, none⟩), .agg #[.bool false, .int .i64 0, .int .i64 0, .int .i64 xp]] w fun e w' => e = .returned (.tuple #[.int .i64 0, .bool true]) ∧ Hid (w.grownBy w' none) := by
  go_enter Try.func69, Try.ntmps69
  go_wp2
  go_quiet (fail)
  go_wp2
  go_ret2
  exact ⟨rfl, gb_drewN (gb_alloc (gb_refl _ _) _) _⟩

theorem names_out (g sw pb n : Nat) (xs xt xp : Int) (h : xs < 0 ∨ xt < 0 ∨ (n : Int) ≤ xt) (w : World) (hG : GB w g sw pb n) : Calls Try.prog 69 #[.pointer (some ⟨g, 0, none⟩), .agg #[.bool true, .int .i64 xs, .int .i64 xt, .int .i64 xp]] w fun e w' => e = .returned (.tuple #[.int .i64 0, .bool false]) ∧ Hid (w.grownBy w' none) := by
  have H := Lib.hid hG
  clear hG
  by_cases h1 : xs < 0
  · have hd : decide (xs < 0) = true := by simpa using h1
    go_enter Try.func69, Try.ntmps69
    go_wp2
    go_ret2
    exact ⟨rfl, gb_alloc (gb_refl _ _) _⟩
  · have hd : decide (xs < 0) = false := by simpa using h1
    have h2 := Lib.hid (h.resolve_left h1)
    clear h h1
    go_enter Try.func69, Try.ntmps69
    go_wp2_with fail
    refine (has_out g sw pb n xt h2.out _ (H.out.alloc _)).mono ?_
    rintro e v1 ⟨rfl, rfl⟩
    go_wp2
    go_ret2
    exact ⟨rfl, gb_alloc (gb_refl _ _) _⟩

theorem names_in (g sw pb n : Nat) (xs xt xp : Int) (h0 : 0 ≤ xs) (h1 : xs ≤ 1099511627776) (h2 : 0 ≤ xt) (h3 : xt < n) (h4 : n ≤ 6) (w : World) (hG : GB w g sw pb n) : Calls Try.prog 69 #[.pointer (some ⟨g, 0, none⟩), .agg #[.bool true, .int .i64 xs, .int .i64 xt, .int .i64 xp]] w fun e w' => e = .returned (.tuple #[.int .i64 (xs * 6 + xt + 1), .bool true]) ∧ Hid (w.grownBy w' none) := by
  have hd : decide (xs < 0) = false := by simpa using h0
  have hq : xs.tdiv 1537228672809129301 = 0 := by rw [Int.tdiv_eq_ediv_of_nonneg h0]; omega
  have hq2 : IntKind.i64.wrap (xs.tdiv 1537228672809129301) = 0 := by rw [hq]; rfl
  have H := Lib.hid (hG.alloc (.cells #[.bool true, .int .i64 xs, .int .i64 xt, .int .i64 xp] 58))
  have hb := hG.lt
  have K := Lib.hid (together_any xs xt h0 h1 h2 (by omega))
  clear hG h0 h1
  have c1 := H.out.at 1 rfl
  go_enter Try.func69, Try.ntmps69
  go_wp2_with fail
  refine (has_in g sw pb n xt h2 h3 _ H.out).mono ?_
  rintro e v1 ⟨rfl, rfl⟩
  go_wp2
  go_quiet ((go_at_call 57; refine Calls.quiet_of_same ((K.out _).mono fun _ _ h => ⟨h.1, h.2.symm⟩)))
  go_wp2
  go_ret2
  exact ⟨rfl, gb_drewN (gb_alloc (gb_refl _ _) _) _⟩

theorem turn_nil (xs xt xp m q : Int) (w : World) : Calls Try.prog 56 #[.pointer none, .agg #[.bool true, .int .i64 xs, .int .i64 xt, .int .i64 xp], .int .i64 m, .int .i64 q] w fun e w' => e = .returned (.bool false) ∧ Hid (w.grownBy w' none) := by
  go_enter Try.func56, Try.ntmps56
  go_wp2_with fail
  refine (names_nil xs xt xp _).mono ?_
  rintro e v1 ⟨rfl, g1⟩
  go_wp2
  go_ret
  exact ⟨rfl, gb_trans (gb_alloc (gb_refl _ _) _) g1.out⟩

theorem turn_out (xb : Bool) (xs xt xp m q : Int) (HN : ∀ sw pb u, GB u g sw pb n → Calls Try.prog 69 #[.pointer (some ⟨g, 0, none⟩), .agg #[.bool xb, .int .i64 xs, .int .i64 xt, .int .i64 xp]] u fun e w' => e = .returned (.tuple #[.int .i64 0, .bool false]) ∧ Hid (u.grownBy w' none)) (w : World) (h : Gt w0 w g n b s t z A R) :
    Calls Try.prog 56 #[.pointer (some ⟨g, 0, none⟩), .agg #[.bool xb, .int .i64 xs, .int .i64 xt, .int .i64 xp], .int .i64 m, .int .i64 q] w fun e w' => e = .returned (.bool false) ∧ Hid (Gt w0 w' g n b s t z A R) := by
  obtain ⟨sw, pb, num, a, h1, h2, h3, h4, o⟩ := h
  have O := Lib.hid (o.alloc 58 [.bool xb, .int .i64 xs, .int .i64 xt, .int .i64 xp])
  have H2 := Lib.hid h2
  have HN := Lib.hid HN
  clear o h2
  go_enter Try.func56, Try.ntmps56
  go_wp2_with fail
  refine (HN.out sw pb _ (O.out.get 1 rfl)).mono ?_
  rintro e v1 ⟨rfl, g1⟩
  go_wp2
  go_ret
  exact ⟨rfl, sw, pb, num, a, h1, H2.out, h3, h4, (O.out.grown g1.out).drop (List.Sublist.cons _ (List.Sublist.refl _))⟩

theorem turn_miss (xb : Bool) (xs xt xp m q old : Int) (HN : ∀ sw pb u, GB u g sw pb n → Calls Try.prog 69 #[.pointer (some ⟨g, 0, none⟩), .agg #[.bool xb, .int .i64 xs, .int .i64 xt, .int .i64 xp]] u fun e w' => e = .returned (.tuple #[.int .i64 old, .bool true]) ∧ Hid (u.grownBy w' none)) (hne : ∀ num, Num n b s t num → (num == old) = false) (hA : A ≤ 999999) (w : World) (h : Gt w0 w g n b s t z A R) :
    Calls Try.prog 56 #[.pointer (some ⟨g, 0, none⟩), .agg #[.bool xb, .int .i64 xs, .int .i64 xt, .int .i64 xp], .int .i64 m, .int .i64 q] w fun e w' => e = .returned (.bool false) ∧ Hid (Gt w0 w' g n b s t z (A + 1) R) := by
  obtain ⟨sw, pb, num, a, h1, h2, h3, h4, o⟩ := h
  have O := Lib.hid (o.alloc 58 [.bool xb, .int .i64 xs, .int .i64 xt, .int .i64 xp])
  have hne' := Lib.hid (hne num h2)
  have H2 := Lib.hid h2
  have HN := Lib.hid HN
  clear o h2 hne
  go_enter Try.func56, Try.ntmps56
  go_wp2_with fail
  refine (HN.out sw pb _ (O.out.get 1 rfl)).mono ?_
  rintro e v1 ⟨rfl, g1⟩
  have P := Lib.hid (O.out.grown g1.out)
  clear O g1
  have c0 := P.out.cell 1 0 rfl rfl; have c1 := P.out.cell 1 1 rfl rfl; have c2 := P.out.cell 1 2 rfl rfl
  go_wp2_with fail
  refine (swap_miss sw num old m a _ (P.out.get 2 rfl) h3 (by omega) hne'.out).mono ?_
  rintro e v2 ⟨rfl, W, g2⟩
  have Q := Lib.hid (P.out.change 2 rfl g2.out W.out)
  simp only [List.set_cons_succ, List.set_cons_zero] at Q
  clear P W g2 c0 c1 c2
  go_wp2
  go_ret
  exact ⟨rfl, sw, pb, num, a + 1, h1, H2.out, by omega, by omega, Q.out.drop (List.Sublist.cons _ (List.Sublist.refl _))⟩

theorem turn_hit (xb : Bool) (xs xt xp m old : Int) (b' : Bool) (s' t' : Int) (HN : ∀ sw pb u, GB u g sw pb n → Calls Try.prog 69 #[.pointer (some ⟨g, 0, none⟩), .agg #[.bool xb, .int .i64 xs, .int .i64 xt, .int .i64 xp]] u fun e w' => e = .returned (.tuple #[.int .i64 old, .bool true]) ∧ Hid (u.grownBy w' none)) (he : ∀ num, Num n b s t num → num = old) (hm : Num n b' s' t' m) (hA : A ≤ 999999) (w : World) (h : Gt w0 w g n b s t z A R) :
    Calls Try.prog 56 #[.pointer (some ⟨g, 0, none⟩), .agg #[.bool xb, .int .i64 xs, .int .i64 xt, .int .i64 xp], .int .i64 m, .int .i64 0] w fun e w' => e = .returned (.bool true) ∧ Hid (Gt w0 w' g n b' s' t' z (A + 1) R) := by
  obtain ⟨sw, pb, num, a, h1, h2, h3, h4, o⟩ := h
  have O := Lib.hid (o.alloc 58 [.bool xb, .int .i64 xs, .int .i64 xt, .int .i64 xp])
  obtain rfl := he num h2
  have H2 := Lib.hid hm
  have HN := Lib.hid HN
  clear o h2 he hm
  go_enter Try.func56, Try.ntmps56
  go_wp2_with fail
  refine (HN.out sw pb _ (O.out.get 1 rfl)).mono ?_
  rintro e v1 ⟨rfl, g1⟩
  have P := Lib.hid (O.out.grown g1.out)
  clear O g1
  have c0 := P.out.cell 1 0 rfl rfl; have c1 := P.out.cell 1 1 rfl rfl; have c2 := P.out.cell 1 2 rfl rfl
  go_wp2_with fail
  refine (swap_hit sw num m a _ (P.out.get 2 rfl) h3 (by omega)).mono ?_
  rintro e v2 ⟨rfl, W, g2⟩
  have Q := Lib.hid (P.out.change 2 rfl g2.out W.out)
  simp only [List.set_cons_succ, List.set_cons_zero] at Q
  clear P W g2 c0 c1 c2
  have c0 := Q.out.cell 1 0 rfl rfl; have c1 := Q.out.cell 1 1 rfl rfl; have c2 := Q.out.cell 1 2 rfl rfl
  have cf := Q.out.free 1 1 rfl
  go_wp2
  go_ret
  exact ⟨rfl, sw, pb, m, a + 1, h1, H2.out, by omega, by omega, (Q.out.set 1 1 (.int .i64 0) rfl).drop (List.Sublist.cons _ (List.Sublist.refl _))⟩

theorem Gt.num {w : World} (h : Gt w0 w g n b s t z A R) : ∃ num, Num n b s t num ∧ n ≤ 6 := by
  obtain ⟨sw, pb, num, a, h1, h2, h3, h4, o⟩ := h
  exact ⟨num, h2, h1⟩

theorem num_miss {xb : Bool} {xs xt old num : Int} (hx : Num n xb xs xt old) (h : Num n b s t num) (hne : ¬ (xb = b ∧ xs = s ∧ xt = t)) (h6 : n ≤ 6) : (num == old) = false := by
  rw [beq_eq_false_iff_ne]
  intro e
  apply hne
  rcases hx with ⟨rfl, rfl, rfl, rfl⟩ | ⟨rfl, h1, h2, h3, h4, h5⟩ <;> rcases h with ⟨rfl, rfl, rfl, rfl⟩ | ⟨rfl, k1, k2, k3, k4, k5⟩
  · exact ⟨rfl, rfl, rfl⟩
  · omega
  · omega
  · exact ⟨rfl, by omega, by omega⟩

theorem num_hit {num m : Int} (h : Num n b s t num) (k : Num n b s t m) : num = m := by
  rcases h with ⟨rfl, rfl, rfl, rfl⟩ | ⟨rfl, h1, h2, h3, h4, h5⟩ <;> rcases k with ⟨k0, k1, k2, k3⟩ | ⟨k0, k1, k2, k3, k4, k5⟩
  · exact k3.symm
  · cases k0
  · cases k0
  · omega

/-- The number of what a sight says. -/
theorem names_num (xb : Bool) (xs xt xp old : Int) (hx : Num n xb xs xt old) (h6 : n ≤ 6) : ∀ sw pb u, GB u g sw pb n → Calls Try.prog 69 #[.pointer (some ⟨g, 0, none⟩), .agg #[.bool xb, .int .i64 xs, .int .i64 xt, .int .i64 xp]] u fun e w' => e = .returned (.tuple #[.int .i64 old, .bool true]) ∧ Hid (u.grownBy w' none) := by
  intro sw pb u hG
  rcases hx with ⟨rfl, rfl, rfl, rfl⟩ | ⟨rfl, h1, h2, h3, h4, rfl⟩
  · exact names_none g xp u
  · exact names_in g sw pb n xs xt xp h1 h2 h3 h4 h6 u hG

theorem swap_nil (xb : Bool) (xs xt xp st th : Int) (w : World) : Calls Try.prog 38 #[.pointer none, .agg #[.bool xb, .int .i64 xs, .int .i64 xt, .int .i64 xp], .int .i64 st, .int .i64 th] w fun e w' => e = .returned (.bool false) ∧ Hid (w.grownBy w' none) := by
  by_cases h : st < 0
  · have hd : decide (st < 0) = true := by simpa using h
    go_enter Try.func38, Try.ntmps38
    go_wp2
    go_ret
    exact ⟨rfl, gb_alloc (gb_refl _ _) _⟩
  · have hd : decide (st < 0) = false := by simpa using h
    go_enter Try.func38, Try.ntmps38
    go_wp2_with fail
    refine (has_nil _ _).mono ?_
    rintro e v1 ⟨rfl, rfl⟩
    go_wp2
    go_ret
    exact ⟨rfl, gb_alloc (gb_refl _ _) _⟩

theorem swap_out (xb : Bool) (xs xt xp st th : Int) (hr : st < 0 ∨ th < 0 ∨ (n : Int) ≤ th) (w : World) (h : Gt w0 w g n b s t z A R) : Calls Try.prog 38 #[.pointer (some ⟨g, 0, none⟩), .agg #[.bool xb, .int .i64 xs, .int .i64 xt, .int .i64 xp], .int .i64 st, .int .i64 th] w fun e w' => e = .returned (.bool false) ∧ Hid (Gt w0 w' g n b s t z A R) := by
  have H := Lib.hid h
  by_cases h1 : st < 0
  · have hd : decide (st < 0) = true := by simpa using h1
    clear h
    go_enter Try.func38, Try.ntmps38
    go_wp2
    go_ret
    exact ⟨rfl, H.out.skip _⟩
  · have hd : decide (st < 0) = false := by simpa using h1
    have h2 := Lib.hid (hr.resolve_left h1)
    obtain ⟨sw, pb, num, a, _, _, _, _, o⟩ := h
    have O := Lib.hid ((o.skip (.cells #[.bool xb, .int .i64 xs, .int .i64 xt, .int .i64 xp] 58)).get 0 rfl)
    clear o hr h1
    go_enter Try.func38, Try.ntmps38
    go_wp2_with fail
    refine (has_out g sw pb n th h2.out _ O.out).mono ?_
    rintro e v1 ⟨rfl, rfl⟩
    go_wp2
    go_ret
    exact ⟨rfl, H.out.skip _⟩

/-- What a swap does whose new senior may be. -/
theorem swap_turn (xb : Bool) (xs xt xp st th : Int) (b' r : Bool) (s' t' : Int) (h0 : 0 ≤ st) (h1 : st ≤ 1099511627776) (h2 : 0 ≤ th) (h3 : th < n) (w : World) (h : Gt w0 w g n b s t z A R)
    (HT : ∀ u R', Gt w0 u g n b s t z A R' → Calls Try.prog 56 #[.pointer (some ⟨g, 0, none⟩), .agg #[.bool xb, .int .i64 xs, .int .i64 xt, .int .i64 xp], .int .i64 (st * 6 + th + 1), .int .i64 0] u fun e w' => e = .returned (.bool r) ∧ Hid (Gt w0 w' g n b' s' t' z (A + 1) R')) :
    Calls Try.prog 38 #[.pointer (some ⟨g, 0, none⟩), .agg #[.bool xb, .int .i64 xs, .int .i64 xt, .int .i64 xp], .int .i64 st, .int .i64 th] w fun e w' => e = .returned (.bool r) ∧ Hid (Gt w0 w' g n b' s' t' z (A + 1) R) := by
  have hd : decide (st < 0) = false := by simpa using h0
  have hq : st.tdiv 1537228672809129301 = 0 := by rw [Int.tdiv_eq_ediv_of_nonneg h0]; omega
  have hq2 : IntKind.i64.wrap (st.tdiv 1537228672809129301) = 0 := by rw [hq]; rfl
  have h6 := h.six
  have K := Lib.hid (together_any st th h0 h1 h2 (by omega))
  have H := Lib.hid (h.alloc 58 [.bool xb, .int .i64 xs, .int .i64 xt, .int .i64 xp])
  obtain ⟨sw, pb, num, a, _, _, _, _, o⟩ := h
  have O := Lib.hid ((o.skip (.cells #[.bool xb, .int .i64 xs, .int .i64 xt, .int .i64 xp] 58)).get 0 rfl)
  have HT := Lib.hid (fun u => HT u ((w.heap.size, 58, [.bool xb, .int .i64 xs, .int .i64 xt, .int .i64 xp]) :: R))
  clear o h0 h1
  go_enter Try.func38, Try.ntmps38
  go_wp2_with fail
  refine (has_in g sw pb n th h2 h3 _ O.out).mono ?_
  rintro e v1 ⟨rfl, rfl⟩
  have c0 := H.out.cell 0 0 rfl rfl; have c1 := H.out.cell 0 1 rfl rfl; have c2 := H.out.cell 0 2 rfl rfl; have c3 := H.out.cell 0 3 rfl rfl
  generalize w.heap.size = sb at *
  generalize w.alloc _ = v1 at *
  go_wp2
  go_region_held3 (fun w' => w'.cell? ⟨sb, 0, none⟩ = some (.bool xb) ∧ w'.cell? ⟨sb, 1, none⟩ = some (.int .i64 xs) ∧ w'.cell? ⟨sb, 2, none⟩ = some (.int .i64 xt) ∧ w'.cell? ⟨sb, 3, none⟩ = some (.int .i64 xp)) (go_keep) (first | (go_at_call 57; refine (K.out _).mono ?_; rintro e v3 ⟨rfl, rfl⟩) | (go_at_call 56; refine (HT.out _ (by first | exact H.out | exact H.out.drew | exact H.out.drewN _)).mono ?_; rintro e v3 ⟨rfl, G3⟩; have d0 := G3.out.cell 0 0 rfl rfl; have d1 := G3.out.cell 0 1 rfl rfl; have d2 := G3.out.cell 0 2 rfl rfl; have d3 := G3.out.cell 0 3 rfl rfl))
  go_wp2
  go_ret
  exact ⟨rfl, G3.out.drop (List.Sublist.cons _ (List.Sublist.refl _))⟩

theorem swap_hits (xp st th : Int) (h0 : 0 ≤ st) (h1 : st ≤ 1099511627776) (h2 : 0 ≤ th) (h3 : th < n) (hA : A ≤ 999999) (w : World) (h : Gt w0 w g n b s t z A R) :
    Calls Try.prog 38 #[.pointer (some ⟨g, 0, none⟩), .agg #[.bool b, .int .i64 s, .int .i64 t, .int .i64 xp], .int .i64 st, .int .i64 th] w fun e w' => e = .returned (.bool true) ∧ Hid (Gt w0 w' g n true st th z (A + 1) R) := by
  obtain ⟨num, hn, h6⟩ := h.num
  exact swap_turn b s t xp st th true true st th h0 h1 h2 h3 w h (fun u R' hu => turn_hit b s t xp _ num true st th (names_num b s t xp num hn h6) (fun m hm => num_hit hm hn) (.inr ⟨rfl, h0, h1, h2, h3, rfl⟩) hA u hu)

theorem swap_misses (xb : Bool) (xs xt xp st th : Int) (hx : xs ≤ 1099511627776) (hx2 : xb = false → xs = 0 ∧ xt = 0) (h1 : st ≤ 1099511627776) (hne : ¬ (0 ≤ st ∧ 0 ≤ th ∧ th < n ∧ xb = b ∧ xs = s ∧ xt = t)) (hA : A ≤ 999999) (w : World) (h : Gt w0 w g n b s t z A R) :
    Calls Try.prog 38 #[.pointer (some ⟨g, 0, none⟩), .agg #[.bool xb, .int .i64 xs, .int .i64 xt, .int .i64 xp], .int .i64 st, .int .i64 th] w fun e w' => e = .returned (.bool false) ∧ Hid (Gt w0 w' g n b s t z (A + 1) R) := by
  obtain ⟨_, _, h6⟩ := h.num
  by_cases hr : st < 0 ∨ th < 0 ∨ (n : Int) ≤ th
  · exact (swap_out xb xs xt xp st th hr w h).mono fun _ _ k => ⟨k.1, k.2.out.le (by omega)⟩
  refine swap_turn xb xs xt xp st th b false s t (by omega) h1 (by omega) (by omega) w h (fun u R' hu => ?_)
  have hne' : ¬ (xb = b ∧ xs = s ∧ xt = t) := fun e => hne ⟨by omega, by omega, by omega, e⟩
  by_cases hn : xb = true ∧ (xs < 0 ∨ xt < 0 ∨ (n : Int) ≤ xt)
  · obtain ⟨rfl, hn⟩ := hn
    exact (turn_out true xs xt xp _ 0 (fun sw pb u hG => names_out g sw pb n xs xt xp hn u hG) u hu).mono fun _ _ k => ⟨k.1, k.2.out.le (by omega)⟩
  · obtain ⟨old, ho⟩ : ∃ old, Num n xb xs xt old := by
      cases xb
      · obtain ⟨rfl, rfl⟩ := hx2 rfl
        exact ⟨0, .inl ⟨rfl, rfl, rfl, rfl⟩⟩
      · have hn' : ¬ (xs < 0 ∨ xt < 0 ∨ (n : Int) ≤ xt) := fun e => hn ⟨rfl, e⟩
        exact ⟨_, .inr ⟨rfl, by omega, hx, by omega, by omega, rfl⟩⟩
    exact turn_miss xb xs xt xp _ 0 old (names_num xb xs xt xp old ho h6) (fun m hm => num_miss ho hm hne' h6) hA u hu
end

end Go.Proofs.Ytocjbbfeegmkaaa.gate
