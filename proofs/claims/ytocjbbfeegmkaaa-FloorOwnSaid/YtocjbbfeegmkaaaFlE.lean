/- Package floor: its events: Note, Trace. -/
import Derived.Test.YtocjbbfeegmkaaaFlX
import Derived.Deep.RegionLaw
namespace Go.Proofs.Ytocjbbfeegmkaaa.fl
open Go Go.RowKit Go.Proofs.Ytocjbbfeegmkaaa.base Go.Proofs.Ytocjbbfeegmkaaa.lg
set_option linter.unusedVariables false

theorem infoEv : (Try.prog.info? 23).map (fun i => (i.zero, i.size, i.bytes)) = some (some (.agg #[.int .i64 0, .int .i64 0, .int .i64 0, .int .i64 0, .int .i64 0, .int .i64 0, .int .i64 0]), 7, 56) := by kernel_rfl

theorem appendEv (w : World) {ops : Array Oper} {rest : List Oper} {o : Oper} {a : Act} {Q : Exit → Act → World → Prop}
    (hgd : o.guard = none) (s x : Operand) (hop : o.op = Op.call { callee := Callee.builtin Builtin.append, args := #[s, x], argTypes := #[44, 44] }) (base : Nat)
    (v : Value) (n : Nat) (xs : List Value) (hs : a.eval s = v) (hown : w.ownsRow base 23 7 v n xs)
    (ao : Option Addr) (m c : Nat) (news : List Value) (hx : a.eval x = .slice ao m c) (hl : news.length = m * 7) (hsrc : (m = 0 ∧ news = []) ∨ ∃ ad, ao = some ad ∧ ∀ j u, news[j]? = some u → w.cell? (ad.add j) = some u) (h1c : ∀ u ∈ news, u.oneCell' = true)
    (hn : n + m ≤ 1000000) (hbase : base ≤ w.heap.size)
    (hK : ∀ b' cap w', w'.ownsRow base 23 7 (.slice b' (n + m) cap) (n + m) (xs ++ news) → w.grownBy w' v.ownBlock → ((Value.slice b' (n + m) cap).ownBlock = v.ownBlock ∨ ∃ k, (Value.slice b' (n + m) cap).ownBlock = some k ∧ w.heap.size ≤ k) → wpList Try.prog ops Q rest (a.put o.dst (.slice b' (n + m) cap)) w') :
    wpList Try.prog ops Q (o :: rest) a w := by
  obtain ⟨i0, hi, hz0, hz1, hz2⟩ := info_parts infoEv
  exact wpList_append_any w hgd s x 44 hop base 23 i0 (.agg #[.int .i64 0, .int .i64 0, .int .i64 0, .int .i64 0, .int .i64 0, .int .i64 0, .int .i64 0]) 7 56 Try.underlying44 hi hz0 hz1 hz2 rfl (by decide) v n xs hs hown ao m c news hx hl hsrc h1c (by unfold maxLen; omega) (by omega) hbase hK

/-- What stands at the end, in front. -/
theorem own_behind {w0 : Bas} {w : World} {Z LE R : Blks} : base.Own w0 w ((Z ++ LE) ++ R) ↔ base.Own w0 w (LE ++ (Z ++ R)) := by
  constructor
  · intro h
    rw [List.append_assoc] at h
    exact h.comm
  · intro h
    rw [List.append_assoc]
    exact h.comm

section
variable {w0 : Bas} {w : World} {fb n : Nat} {ds : List Int} {nx : Nat → Nat} {ev : List (Nat → Int)} {C : Core} {R : Blks}

theorem trace_any (hm : ev.length ≤ 1000000) (H : Flo w0 w fb n ds nx ev C R) :
    Calls Try.prog 16 #[.pointer (some ⟨fb, 0, none⟩)] w fun e w' => ∃ a c L, e = .returned (.slice a ev.length c) ∧ Hid (Row evc 7 23 ev (.slice a ev.length c) L) ∧ Hid (Flo w0 w' fb n ds nx ev C (L ++ R)) := by
  have HH := Lib.hid H
  obtain ⟨X, ⟨da, dc, nb, ea, ec, sw, pb, num, a, LB, LE, h1, h6, hnx, hdl, hN, h0, hA, hR, hE, rfl⟩, O⟩ := H
  have c14 := O.cell 0 14 rfl rfl
  have hs := (hE.isL evc_length ((own_behind (Z := (fb, 86, [.pointer (some ⟨C.ab, 0, none⟩), .pointer (some ⟨C.tb, 0, none⟩), .pointer (some ⟨C.cb, 0, none⟩), .int .i64 C.o, .int .i64 n, .int .i64 C.r, .int .i64 C.k, .int .i64 C.m, .int .i64 C.p, .pointer (some ⟨C.tk, 0, none⟩), .pointer (some ⟨C.g, 0, none⟩), mgr C.m, .slice da ds.length dc, .slice (some ⟨nb, 0, none⟩) n n, .slice ea ev.length ec]) :: (nb, 3, vals (fun i => (nx i : Int)) n) :: (C.tk, 102, [.int .i64 C.k, .int .i64 C.tkn]) :: (C.g, 105, [.pointer (some ⟨sw, 0, none⟩), .int .i64 0, .slice (some ⟨pb, 0, none⟩) n n]) :: (sw, 134, [.int .i64 num, .int .i64 a]) :: (pb, 3, vals C.z n) :: LB)).1 O))
  obtain ⟨ea', ec', e1, hI⟩ := hs
  injection e1 with e1 _ e2
  subst e1 e2
  have HI := Lib.hid hI
  clear O hR hE hN hnx hdl h1 h6 h0 hA hI
  go_enter Try.func16, Try.ntmps16
  go_wp2_with (refine appendEv _ rfl _ _ rfl w.heap.size (.slice none 0 0) 0 [] rfl ⟨rfl, .inl ⟨rfl, rfl⟩⟩ _ ev.length _ (rows evc ev) rfl (rows_length evc_length ev) HI.out.src (evc_one ev) (by omega) (Nat.le_refl _) ?_; intro b' cap v1 r1 r2 r3; rw [Nat.zero_add] at r1 ⊢; have Q1 := Lib.hid r1; have Q2 : Hid (w.grownBy v1 none) := r2; clear r1 r2 r3)
  go_ret
  obtain ⟨X, hX, o⟩ := HH.out
  obtain ⟨L, hr, ho⟩ := Row.of_own (f := evc) (l := ev) o Q2.out Q1.out (Nat.le_refl _) rfl
  exact ⟨b', cap, rfl, L, hr, X, hX, ho.comm⟩

set_option maxHeartbeats 1000000 in
theorem note_any (x : Nat → Int) (hm : ev.length < 1000000) (H : Flo w0 w fb n ds nx ev C R) :
    Calls Try.prog 7 #[.pointer (some ⟨fb, 0, none⟩), .agg #[.int .i64 (x 0), .int .i64 (x 1), .int .i64 (x 2), .int .i64 (x 3), .int .i64 (x 4), .int .i64 (x 5), .int .i64 (x 6)]] w fun e w' => e = .returned (.tuple #[]) ∧ Hid (Flo w0 w' fb n ds nx (ev ++ [x]) C R) := by
  have H1 := Lib.hid (H.alloc 23 [.int .i64 (x 0), .int .i64 (x 1), .int .i64 (x 2), .int .i64 (x 3), .int .i64 (x 4), .int .i64 (x 5), .int .i64 (x 6)])
  obtain ⟨i0, hi0, hz00, hz10, hz20⟩ := info_parts infoEv
  have hi := Lib.hid hi0
  have hz0 := Lib.hid hz00
  have hz1 := Lib.hid hz10
  have hz2 := Lib.hid hz20
  clear H hi0 hz00 hz10 hz20
  go_enter Try.func7, Try.ntmps7
  go_upto_region 2 with fail
  generalize w.alloc _ = v at *
  generalize w.heap.size = p at *
  obtain ⟨X, ⟨da, dc, nb, ea, ec, sw, pb, num, a, LB, LE, h1, h6, hnx, hdl, hN, h0, hA, hR, hE, rfl⟩, O⟩ := H1.out
  have c14 := O.cell 0 14 rfl rfl
  have hsv := O.lt 0 rfl
  have o2 := (own_behind (Z := (fb, 86, [.pointer (some ⟨C.ab, 0, none⟩), .pointer (some ⟨C.tb, 0, none⟩), .pointer (some ⟨C.cb, 0, none⟩), .int .i64 C.o, .int .i64 n, .int .i64 C.r, .int .i64 C.k, .int .i64 C.m, .int .i64 C.p, .pointer (some ⟨C.tk, 0, none⟩), .pointer (some ⟨C.g, 0, none⟩), mgr C.m, .slice da ds.length dc, .slice (some ⟨nb, 0, none⟩) n n, .slice ea ev.length ec]) :: (nb, 3, vals (fun i => (nx i : Int)) n) :: (C.tk, 102, [.int .i64 C.k, .int .i64 C.tkn]) :: (C.g, 105, [.pointer (some ⟨sw, 0, none⟩), .int .i64 0, .slice (some ⟨pb, 0, none⟩) n n]) :: (sw, 134, [.int .i64 num, .int .i64 a]) :: (pb, 3, vals C.z n) :: LB)).1 O
  have ho := Lib.hid (hE.owns evc_length o2)
  have hE := Lib.hid hE
  have O2 := Lib.hid o2
  have hv0 : w0.heap.size ≤ v.heap.size := O.size
  have hpv := H1.out.lt 0 rfl
  have x0 := H1.out.cell 0 0 rfl rfl; have x1 := H1.out.cell 0 1 rfl rfl; have x2 := H1.out.cell 0 2 rfl rfl; have x3 := H1.out.cell 0 3 rfl rfl; have x4 := H1.out.cell 0 4 rfl rfl; have x5 := H1.out.cell 0 5 rfl rfl; have x6 := H1.out.cell 0 6 rfl rfl
  have REST := Lib.hid (show 1 ≤ n ∧ n ≤ 6 ∧ (∀ i, 0 < ds.length → nx i < ds.length) ∧ ds.length ≤ 1000000 ∧ gate.Num n C.b C.s C.t num ∧ 0 ≤ a ∧ a ≤ C.A ∧ Row u8c 1 5 ds (.slice da ds.length dc) LB from ⟨h1, h6, hnx, hdl, hN, h0, hA, hR⟩)
  clear O o2 h1 h6 hnx hdl hN h0 hA hR
  go_wp2_with fail
  go_region_law (refine step_append_at rfl (.tmp 11) (.tmp 13) 44 rfl w0.heap.size 23 i0 (.agg #[.int .i64 0, .int .i64 0, .int .i64 0, .int .i64 0, .int .i64 0, .int .i64 0, .int .i64 0]) 7 56 Try.underlying44 hi.out hz0.out hz1.out hz2.out rfl (by decide) (.slice ea ev.length ec) ev.length (rows evc ev) (by simp [Act.eval]) ((ho.out.alloc _).drew) ⟨v.heap.size, 0, none⟩ 1 1 [.int .i64 (x 0), .int .i64 (x 1), .int .i64 (x 2), .int .i64 (x 3), .int .i64 (x 4), .int .i64 (x 5), .int .i64 (x 6)] (by simp [Act.eval]) rfl (new_cells v.drew _ _) (evc_one [x]) (by unfold maxLen; omega) (by omega) (by simp; omega) (by decide) ?_; intro g' c' w1 ho1 hg1 hv1; obtain ⟨L', hr, o4⟩ := Row.snoc (x := x) hE.out O2.out (by repeat (first | exact gb_refl _ _ | refine gb_drewN ?_ _ | refine gb_drew ?_ | refine gb_alloc ?_ _)) ho1 hg1 hv1; have c2 := (Own.mid.2 o4).cell 0 14 rfl rfl; have f2 := (Own.mid.2 o4).free 0 14 rfl; have HR := Lib.hid hr; have O4 := Lib.hid o4; clear ho1 hg1 hv1 hr o4)
  all_goals
    go_wp2
    (first | go_end0 | refine bodyPost_ret (results_none rfl _ _ _) rfl ?_)
    have el : (ev ++ [x]).length = ev.length + 1 := by simp
    have Q := (Own.mid.2 O4.out).set 0 14 (.slice (some ⟨g', 0, none⟩) (ev.length + 1) c') rfl
    have Q := (own_behind (Z := (fb, 86, [.pointer (some ⟨C.ab, 0, none⟩), .pointer (some ⟨C.tb, 0, none⟩), .pointer (some ⟨C.cb, 0, none⟩), .int .i64 C.o, .int .i64 n, .int .i64 C.r, .int .i64 C.k, .int .i64 C.m, .int .i64 C.p, .pointer (some ⟨C.tk, 0, none⟩), .pointer (some ⟨C.g, 0, none⟩), mgr C.m, .slice da ds.length dc, .slice (some ⟨nb, 0, none⟩) n n, .slice (some ⟨g', 0, none⟩) (ev.length + 1) c']) :: (nb, 3, vals (fun i => (nx i : Int)) n) :: (C.tk, 102, [.int .i64 C.k, .int .i64 C.tkn]) :: (C.g, 105, [.pointer (some ⟨sw, 0, none⟩), .int .i64 0, .slice (some ⟨pb, 0, none⟩) n n]) :: (sw, 134, [.int .i64 num, .int .i64 a]) :: (pb, 3, vals C.z n) :: LB)).2 (Own.mid.1 Q)
    have HR' := HR.out
    rw [← el] at Q HR' ⊢
    obtain ⟨h1, h6, hnx, hdl, hN, h0, hA, hR⟩ := REST.out
    exact ⟨rfl, Has.drop (R := (p, 23, [.int .i64 (x 0), .int .i64 (x 1), .int .i64 (x 2), .int .i64 (x 3), .int .i64 (x 4), .int .i64 (x 5), .int .i64 (x 6)]) :: R) ⟨_, ⟨da, dc, nb, _, c', sw, pb, num, a, LB, L', h1, h6, hnx, hdl, hN, h0, hA, hR, HR', rfl⟩, Q⟩ (List.Sublist.cons _ (List.Sublist.refl _))⟩
end

end Go.Proofs.Ytocjbbfeegmkaaa.fl
