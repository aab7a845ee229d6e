/- Whether a trace is right: what an event changes; Right itself. -/
import Derived.Test.YtdohepenmejcaaaHr
namespace Go.Proofs.Ytdohepenmejcaaa.hs
open Go Go.RowKit Go.Proofs.Ytdohepenmejcaaa.base Go.Maps
set_option linter.unusedVariables false
set_option maxRecDepth 100000

noncomputable def enterF (f : Int → Option Value) (e : Ev) : Int → Option Value := if e.k = 1 then upd f e.th (some (.agg ⟨evc e⟩)) else if e.k = 5 ∨ e.k = 6 then upd f e.th none else f
noncomputable def enterG (g : Int × Int → Option Value) (e : Ev) : Int × Int → Option Value := if e.k = 1 then upd g (e.th, e.tx) (some (.int .i64 e.at_)) else g

set_option maxHeartbeats 1000000 in
theorem enter_any (om tm n1 n2 : Nat) (f : Int → Option Value) (g : Int × Int → Option Value) (e : Ev) (w : World) (he : Ev.Wf e) (hne : om ≠ tm) (hn1 : n1 < maxLen) (hn2 : n2 < maxLen) (hf : MapG Try.prog 3 (Value.int .i64) w om n1 f) (hg : MapG Try.prog 105 two w tm n2 g) :
    Calls Try.prog 38 #[.agg #[.map (some om), .map (some tm)], .agg #[.int .i64 e.k, .int .i64 e.th, .int .i64 e.tx, .int .i64 e.at_, .int .i64 e.ob, .int .i64 e.va, .int .i64 e.re]] w fun r w' => r = .returned (.tuple #[]) ∧ Hid (MapG Try.prog 3 (Value.int .i64) w' om (n1 + 1) (enterF f e)) ∧ Hid (MapG Try.prog 105 two w' tm (n2 + 1) (enterG g e)) ∧ Hid (Only (fun k => k = om ∨ k = tm) w w') := by
  obtain ⟨k, th, tx, at_, ob, va, re⟩ := e
  have M1 := Lib.hid hf
  have M2 := Lib.hid hg
  have E := Lib.hid he
  have NE := Lib.hid hne
  obtain ⟨kl, hkl⟩ := keyTxn (x := (th, tx)) he.th he.tx
  have KL := Lib.hid hkl
  clear hf hg he hkl hne
  dsimp only at *
  by_cases h1 : k = 1
  · subst h1
    have GA := Lib.hid (show World.grownBy w ((w.alloc (.cells #[.map (some om), .map (some tm)] 84)).alloc (.cells #[.int .i64 1, .int .i64 th, .int .i64 tx, .int .i64 at_, .int .i64 ob, .int .i64 va, .int .i64 re] 58)) none from (by repeat (first | exact gb_refl _ _ | refine gb_drewN ?_ _ | refine gb_drew ?_ | refine gb_alloc ?_ _)))
    have om_lt := M1.out.lt
    have tm_lt := M2.out.lt
    have BB := Lib.hid ((Blk.made w 84 #[.map (some om), .map (some tm)]).alloc (.cells #[.int .i64 1, .int .i64 th, .int .i64 tx, .int .i64 at_, .int .i64 ob, .int .i64 va, .int .i64 re] 58))
    have EB : Hid (Blk 58 ((w.alloc (.cells #[.map (some om), .map (some tm)] 84)).alloc (.cells #[.int .i64 1, .int .i64 th, .int .i64 tx, .int .i64 at_, .int .i64 ob, .int .i64 va, .int .i64 re] 58)) (w.heap.size + 1) #[.int .i64 1, .int .i64 th, .int .i64 tx, .int .i64 at_, .int .i64 ob, .int .i64 va, .int .i64 re]) := Lib.hid (by have := Blk.made (w.alloc (.cells #[.map (some om), .map (some tm)] 84)) 58 #[.int .i64 1, .int .i64 th, .int .i64 tx, .int .i64 at_, .int .i64 ob, .int .i64 va, .int .i64 re]; rwa [World.size_alloc] at this)
    go_enter Try.func38, Try.ntmps38
    go_wp2_with (first | (at_mapUpdate; (refine wpList_set_mapG rfl (.tmp 9) (.tmp 11) (.tmp 12) 81 rfl 3 58 kInt (Value.int .i64) vint_inj Try.underlying81 om n1 f rfl (M1.out.grown GA.out (by simp)) hn1 th _ rfl (keyInt E.out.th) _ rfl ?_); intro u1 m1 g1; have b1 := BB.out.grown g1 (by simp; omega); have b2 := EB.out.grown g1 (by simp; omega); have q0 := b1.cell 1; have q1 := b2.cell 1; have q2 := b2.cell 2; have q3 := b2.cell 3; have MM := Lib.hid ((M2.out.grown GA.out (by simp)).grown g1 (by simp; exact fun h => NE.out h.symm)); have M1B := Lib.hid m1; have G1 := Lib.hid g1; clear m1 g1 b1 b2) | (at_mapUpdate; (refine wpList_set_mapG rfl (.tmp 14) (.tmp 19) (.tmp 21) 82 rfl 105 3 kTxn two two_inj Try.underlying82 tm n2 g rfl MM.out hn2 (th, tx) _ rfl KL.out _ rfl ?_); intro u2 m2 g2; have M1C := Lib.hid (M1B.out.grown g2 (by simp; exact NE.out)); have M2C := Lib.hid m2; have G2 := Lib.hid g2; clear m2 g2) | go_in)
    go_end0
    refine ⟨rfl, ?_, ?_, ?_⟩
    · rw [enterF, if_pos rfl]; exact M1C.out
    · rw [enterG, if_pos rfl]; exact M2C.out
    · exact ((Only.none GA.out).trans (Only.of G1.out (fun _ e _ => .inl (by cases e; rfl)))).trans (Only.of G2.out (fun _ e _ => .inr (by cases e; rfl)))
  have f1 : (k == 1) = false := by simp [h1]
  by_cases h5 : k = 5
  · subst h5
    have GA := Lib.hid (show World.grownBy w ((w.alloc (.cells #[.map (some om), .map (some tm)] 84)).alloc (.cells #[.int .i64 5, .int .i64 th, .int .i64 tx, .int .i64 at_, .int .i64 ob, .int .i64 va, .int .i64 re] 58)) none from (by repeat (first | exact gb_refl _ _ | refine gb_drewN ?_ _ | refine gb_drew ?_ | refine gb_alloc ?_ _)))
    have om_lt := M1.out.lt
    have tm_lt := M2.out.lt
    have BB := Lib.hid ((Blk.made w 84 #[.map (some om), .map (some tm)]).alloc (.cells #[.int .i64 5, .int .i64 th, .int .i64 tx, .int .i64 at_, .int .i64 ob, .int .i64 va, .int .i64 re] 58))
    have EB : Hid (Blk 58 ((w.alloc (.cells #[.map (some om), .map (some tm)] 84)).alloc (.cells #[.int .i64 5, .int .i64 th, .int .i64 tx, .int .i64 at_, .int .i64 ob, .int .i64 va, .int .i64 re] 58)) (w.heap.size + 1) #[.int .i64 5, .int .i64 th, .int .i64 tx, .int .i64 at_, .int .i64 ob, .int .i64 va, .int .i64 re]) := Lib.hid (by have := Blk.made (w.alloc (.cells #[.map (some om), .map (some tm)] 84)) 58 #[.int .i64 5, .int .i64 th, .int .i64 tx, .int .i64 at_, .int .i64 ob, .int .i64 va, .int .i64 re]; rwa [World.size_alloc] at this)
    go_enter Try.func38, Try.ntmps38
    go_wp2_with (first | (at_delete; refine wpList_del_mapG rfl _ _ 81 3 rfl 58 kInt (Value.int .i64) vint_inj Try.underlying81 om n1 f rfl (M1.out.grown GA.out (by simp)) th _ rfl (keyInt E.out.th) ?_; intro u1 m1 g1; have MM := Lib.hid ((M2.out.grown GA.out (by simp)).grown g1 (by simp; exact fun h => NE.out h.symm)); have M1B := Lib.hid m1; have G1 := Lib.hid g1; clear m1 g1) | go_in)
    go_end0
    refine ⟨rfl, ?_, ?_, ?_⟩
    · rw [enterF, if_neg (by simp), if_pos (by simp)]; exact M1B.out.more (by omega)
    · rw [enterG, if_neg (by simp)]; exact MM.out.more (by omega)
    · exact (Only.none GA.out).trans (Only.of G1.out (fun _ e _ => .inl (by cases e; rfl)))
  have f5 : (k == 5) = false := by simp [h5]
  by_cases h6 : k = 6
  · subst h6
    have GA := Lib.hid (show World.grownBy w ((w.alloc (.cells #[.map (some om), .map (some tm)] 84)).alloc (.cells #[.int .i64 6, .int .i64 th, .int .i64 tx, .int .i64 at_, .int .i64 ob, .int .i64 va, .int .i64 re] 58)) none from (by repeat (first | exact gb_refl _ _ | refine gb_drewN ?_ _ | refine gb_drew ?_ | refine gb_alloc ?_ _)))
    have om_lt := M1.out.lt
    have tm_lt := M2.out.lt
    have BB := Lib.hid ((Blk.made w 84 #[.map (some om), .map (some tm)]).alloc (.cells #[.int .i64 6, .int .i64 th, .int .i64 tx, .int .i64 at_, .int .i64 ob, .int .i64 va, .int .i64 re] 58))
    have EB : Hid (Blk 58 ((w.alloc (.cells #[.map (some om), .map (some tm)] 84)).alloc (.cells #[.int .i64 6, .int .i64 th, .int .i64 tx, .int .i64 at_, .int .i64 ob, .int .i64 va, .int .i64 re] 58)) (w.heap.size + 1) #[.int .i64 6, .int .i64 th, .int .i64 tx, .int .i64 at_, .int .i64 ob, .int .i64 va, .int .i64 re]) := Lib.hid (by have := Blk.made (w.alloc (.cells #[.map (some om), .map (some tm)] 84)) 58 #[.int .i64 6, .int .i64 th, .int .i64 tx, .int .i64 at_, .int .i64 ob, .int .i64 va, .int .i64 re]; rwa [World.size_alloc] at this)
    go_enter Try.func38, Try.ntmps38
    go_wp2_with (first | (at_delete; refine wpList_del_mapG rfl _ _ 81 3 rfl 58 kInt (Value.int .i64) vint_inj Try.underlying81 om n1 f rfl (M1.out.grown GA.out (by simp)) th _ rfl (keyInt E.out.th) ?_; intro u1 m1 g1; have MM := Lib.hid ((M2.out.grown GA.out (by simp)).grown g1 (by simp; exact fun h => NE.out h.symm)); have M1B := Lib.hid m1; have G1 := Lib.hid g1; clear m1 g1) | go_in)
    go_end0
    refine ⟨rfl, ?_, ?_, ?_⟩
    · rw [enterF, if_neg (by simp), if_pos (by simp)]; exact M1B.out.more (by omega)
    · rw [enterG, if_neg (by simp)]; exact MM.out.more (by omega)
    · exact (Only.none GA.out).trans (Only.of G1.out (fun _ e _ => .inl (by cases e; rfl)))
  have f6 : (k == 6) = false := by simp [h6]
  have GA := Lib.hid (show World.grownBy w ((w.alloc (.cells #[.map (some om), .map (some tm)] 84)).alloc (.cells #[.int .i64 k, .int .i64 th, .int .i64 tx, .int .i64 at_, .int .i64 ob, .int .i64 va, .int .i64 re] 58)) none from (by repeat (first | exact gb_refl _ _ | refine gb_drewN ?_ _ | refine gb_drew ?_ | refine gb_alloc ?_ _)))
  have om_lt := M1.out.lt
  have tm_lt := M2.out.lt
  have BB := Lib.hid ((Blk.made w 84 #[.map (some om), .map (some tm)]).alloc (.cells #[.int .i64 k, .int .i64 th, .int .i64 tx, .int .i64 at_, .int .i64 ob, .int .i64 va, .int .i64 re] 58))
  have EB : Hid (Blk 58 ((w.alloc (.cells #[.map (some om), .map (some tm)] 84)).alloc (.cells #[.int .i64 k, .int .i64 th, .int .i64 tx, .int .i64 at_, .int .i64 ob, .int .i64 va, .int .i64 re] 58)) (w.heap.size + 1) #[.int .i64 k, .int .i64 th, .int .i64 tx, .int .i64 at_, .int .i64 ob, .int .i64 va, .int .i64 re]) := Lib.hid (by have := Blk.made (w.alloc (.cells #[.map (some om), .map (some tm)] 84)) 58 #[.int .i64 k, .int .i64 th, .int .i64 tx, .int .i64 at_, .int .i64 ob, .int .i64 va, .int .i64 re]; rwa [World.size_alloc] at this)
  go_enter Try.func38, Try.ntmps38
  go_wp2
  go_end0
  refine ⟨rfl, ?_, ?_, ?_⟩
  · rw [enterF, if_neg h1, if_neg (by rintro (h | h); exact h5 h; exact h6 h)]; exact (M1.out.grown GA.out (by simp)).more (by omega)
  · rw [enterG, if_neg h1]; exact (M2.out.grown GA.out (by simp)).more (by omega)
  · exact Only.none GA.out

/-- What the maps have, one event on. -/
theorem enterF_opn (e : Evs) (i : Nat) (x : Int) : enterF (fun th => opnV ((opn e i th).map e)) (e i) x = opnV ((opn e (i + 1) x).map e) := by
  unfold enterF
  rw [opn]
  by_cases h1 : (e i).k = 1
  · rw [if_pos h1, if_pos h1]
    by_cases hx : x = (e i).th
    · subst hx
      rw [upd_same, if_pos rfl]
      rfl
    · rw [upd_other _ _ hx, if_neg (fun h => hx h.symm)]
  · rw [if_neg h1, if_neg h1]
    by_cases h56 : (e i).k = 5 ∨ (e i).k = 6
    · rw [if_pos h56, if_pos h56]
      by_cases hx : x = (e i).th
      · subst hx
        rw [upd_same, if_pos rfl]
        rfl
      · rw [upd_other _ _ hx, if_neg (fun h => hx h.symm)]
    · rw [if_neg h56, if_neg h56]
      split <;> rfl
theorem enterG_cnt (e : Evs) (i : Nat) (g : Int × Int → Option Value) (h : ∀ th tx, (g (th, tx)).getD (.int .i64 0) = .int .i64 (cnt e i th tx)) (th tx : Int) : (enterG g (e i) (th, tx)).getD (.int .i64 0) = .int .i64 (cnt e (i + 1) th tx) := by
  unfold enterG
  rw [cnt]
  by_cases h1 : (e i).k = 1
  · rw [if_pos h1]
    by_cases hx : (th, tx) = ((e i).th, (e i).tx)
    · cases hx
      rw [upd_same, if_pos ⟨h1, rfl, rfl⟩]
      rfl
    · rw [upd_other _ _ hx, if_neg (fun h => hx (by rw [h.2.1, h.2.2]))]
      exact h th tx
  · rw [if_neg h1, if_neg (fun h => h1 h.1)]
    exact h th tx
theorem may_mayB (e : Evs) (i : Nat) : may e i = mayB ((opn e i (e i).th).map e) (cnt e i (e i).th (e i).tx) (e i) := by
  unfold may mayB
  cases opn e i (e i).th <;> rfl
end Go.Proofs.Ytdohepenmejcaaa.hs
