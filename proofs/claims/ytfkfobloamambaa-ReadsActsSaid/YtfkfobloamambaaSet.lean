/- The contracts of package reads: New, Has, Mine, Readings, Owns. -/
import Derived.Test.YtfkfobloamambaaSt
import Derived.Deep.RegionLaw
namespace Go.Proofs.Ytfkfobloamambaa.rd
open Go Go.RowKit Go.Proofs.Ytfkfobloamambaa.base Go.Proofs.Ytfkfobloamambaa.lg
set_option linter.unusedVariables false

theorem new_any (w0 : World) (R : Blks) (w : World) (h : Own w0 w R) : Calls Try.prog 8 #[] w fun e w' => e = .returned (.pointer (some ⟨w.heap.size, 0, none⟩)) ∧ Hid (Has (SA w.heap.size [] []) w0 w' R) := by
  have O := Lib.hid (SetS.made (T := 66) (e1 := 40) (e2 := 44) h)
  clear h
  go_enter Try.func8, Try.ntmps8
  go_wp2
  go_ret
  exact ⟨rfl, O.out⟩

theorem hasR_nil (o : Int) (w : World) : Calls Try.prog 16 #[.pointer none, .int .i64 o] w fun e w' => e = .returned (.tuple #[.agg #[.int .i64 0, .int .i64 0, .int .i64 0], .bool false]) ∧ Hid (w.grownBy w' none) := by
  go_enter Try.func16, Try.ntmps16
  go_wp2
  refine bodyPost_ret (v := .tuple #[.agg #[.int .i64 0, .int .i64 0, .int .i64 0], .bool false]) ?_ rfl ⟨rfl, ?_⟩
  · simp [results, Try.results16, go_sem, *]
  · first | with_reducible exact gb_alloc (gb_refl _ _) _ | (repeat (first | exact gb_alloc (gb_refl _ _) _ | refine gb_setNew ?_ (by simp) _))

theorem hasO_nil (o : Int) (w : World) : Calls Try.prog 17 #[.pointer none, .int .i64 o] w fun e w' => e = .returned (.tuple #[.agg #[.int .i64 0, .int .i64 0, .int .i64 0, .int .i64 0, .bool false], .bool false]) ∧ Hid (w.grownBy w' none) := by
  go_enter Try.func17, Try.ntmps17
  go_wp2
  refine bodyPost_ret (v := .tuple #[.agg #[.int .i64 0, .int .i64 0, .int .i64 0, .int .i64 0, .bool false], .bool false]) ?_ rfl ⟨rfl, ?_⟩
  · simp [results, Try.results17, go_sem, *]
  · first | with_reducible exact gb_alloc (gb_refl _ _) _ | (repeat (first | exact gb_alloc (gb_refl _ _) _ | refine gb_setNew ?_ (by simp) _))

theorem hasR (w0 : World) (R : Blks) (s : Nat) (l : List Rd) (m : List Ow) (o : Int) (x : Rd) (b : Bool) (w : World) (h : Has (SA s l m) w0 w R) (hm : l.length ≤ 1000000) (hx : x = gt Rz Rd.o o l) (hb : b = (pl Rd.o o l).isSome) :
    Calls Try.prog 16 #[.pointer (some ⟨s, 0, none⟩), .int .i64 o] w fun e w' => e = .returned (.tuple #[.agg #[.int .i64 x.o, .int .i64 x.n, .int .i64 x.v], .bool b]) ∧ Hid (w.grownBy w' none) := by
  obtain ⟨a0, ca0, a1, ca1, c0, c1, i0, i1⟩ := SetS.read h
  have F := Lib.hid (fun u hu => findR a0 l.length ca0 l o x b u hu rfl hm hx hb)
  have I := Lib.hid i0
  have hs := SetS.lt h
  have n0 := World.new_ne w _ c0
  clear h hx hb i0 i1
  go_enter Try.func16, Try.ntmps16
  go_wp2_with fail
  refine (F.out _ (I.out.alloc _)).mono ?_
  rintro e u ⟨rfl, g⟩
  have O := Lib.hid (((Own.start w).alloc 40 [.int .i64 0, .int .i64 0, .int .i64 0]).grown g.out)
  clear g
  generalize w.heap.size = B at *
  have d0 := O.out.cell 0 0 rfl rfl; have d1 := O.out.cell 0 1 rfl rfl; have d2 := O.out.cell 0 2 rfl rfl; have f0 := O.out.free 0 0 rfl; have f1 := O.out.free 0 1 rfl; have f2 := O.out.free 0 2 rfl
  go_wp2
  refine bodyPost_ret (v := .tuple #[.agg #[.int .i64 x.o, .int .i64 x.n, .int .i64 x.v], .bool b]) ?_ rfl ⟨rfl, ?_⟩
  · simp [results, Try.results16, go_sem, *]
  · exact ((((O.out.set 0 0 (.int .i64 x.o) rfl).set 0 1 (.int .i64 x.n) rfl).set 0 2 (.int .i64 x.v) rfl)).grow

theorem hasO (w0 : World) (R : Blks) (s : Nat) (l : List Rd) (m : List Ow) (o : Int) (x : Ow) (b : Bool) (w : World) (h : Has (SA s l m) w0 w R) (hm : m.length ≤ 1000000) (hx : x = gt Oz Ow.o o m) (hb : b = (pl Ow.o o m).isSome) :
    Calls Try.prog 17 #[.pointer (some ⟨s, 0, none⟩), .int .i64 o] w fun e w' => e = .returned (.tuple #[.agg #[.int .i64 x.o, .int .i64 x.c, .int .i64 x.n, .int .i64 x.v, .bool x.b], .bool b]) ∧ Hid (w.grownBy w' none) := by
  obtain ⟨a0, ca0, a1, ca1, c0, c1, i0, i1⟩ := SetS.read h
  have F := Lib.hid (fun u hu => findO a1 m.length ca1 m o x b u hu rfl hm hx hb)
  have I := Lib.hid i1
  have hs := SetS.lt h
  have n0 := World.new_ne w _ c0
  clear h hx hb i0 i1
  go_enter Try.func17, Try.ntmps17
  go_wp2_with fail
  refine (F.out _ (I.out.alloc _)).mono ?_
  rintro e u ⟨rfl, g⟩
  have O := Lib.hid (((Own.start w).alloc 44 [.int .i64 0, .int .i64 0, .int .i64 0, .int .i64 0, .bool false]).grown g.out)
  clear g
  generalize w.heap.size = B at *
  have d0 := O.out.cell 0 0 rfl rfl; have d1 := O.out.cell 0 1 rfl rfl; have d2 := O.out.cell 0 2 rfl rfl; have d3 := O.out.cell 0 3 rfl rfl; have d4 := O.out.cell 0 4 rfl rfl; have f0 := O.out.free 0 0 rfl; have f1 := O.out.free 0 1 rfl; have f2 := O.out.free 0 2 rfl; have f3 := O.out.free 0 3 rfl; have f4 := O.out.free 0 4 rfl
  go_wp2
  refine bodyPost_ret (v := .tuple #[.agg #[.int .i64 x.o, .int .i64 x.c, .int .i64 x.n, .int .i64 x.v, .bool x.b], .bool b]) ?_ rfl ⟨rfl, ?_⟩
  · simp [results, Try.results17, go_sem, *]
  · exact ((((((O.out.set 0 0 (.int .i64 x.o) rfl).set 0 1 (.int .i64 x.c) rfl).set 0 2 (.int .i64 x.n) rfl).set 0 3 (.int .i64 x.v) rfl).set 0 4 (.bool x.b) rfl)).grow

theorem appendTypes {P : Program} {t tx e e2 ty : TypeId} {i : TypeInfo} (ht : P.underlying t = some (.slice e)) (hx : P.underlying tx = some (.slice e2)) (hi : P.info? e = some i) (b : Option Addr) (n c : Nat) (x : Value) (w : World) : (Builtin.append_ #[t, tx] ty #[.slice b n c, x]).run P w = (Builtin.append_ #[t, t] ty #[.slice b n c, x]).run P w := by
  simp [Builtin.append_, run_underlying ht, run_underlying hx, sizeOf, typeInfo, hi]

/-- append of whatever slice, of another type with the same elements, onto a slice of one's own. -/
theorem wpList_append_mix {P : Program} (w : World) {ops : Array Oper} {rest : List Oper} {o : Oper} {a : Act} {Q : Exit → Act → World → Prop}
    (hgd : o.guard = none) (s x : Operand) (t tx : TypeId) (hop : o.op = Op.call { callee := Callee.builtin Builtin.append, args := #[s, x], argTypes := #[t, tx] })
    (base : Nat) (e e2 : TypeId) (i : TypeInfo) (z : Value) (size bytes : Nat) (h1 : P.underlying t = some (.slice e)) (hx2 : P.underlying tx = some (.slice e2)) (h2 : P.info? e = some i) (h3 : i.zero = some z) (h4 : i.size = size) (h5 : i.bytes = bytes) (h6 : z.cells.size = size) (h7 : 0 < size)
    (v : Value) (n : Nat) (xs : List Value) (hs : a.eval s = v) (hown : w.ownsRow base e size v n xs)
    (ao : Option Addr) (m c : Nat) (news : List Value) (hx : a.eval x = .slice ao m c) (hl : news.length = m * size) (hsrc : (m = 0 ∧ news = []) ∨ ∃ ad, ao = some ad ∧ ∀ j u, news[j]? = some u → w.cell? (ad.add j) = some u) (h1c : ∀ u ∈ news, u.oneCell' = true)
    (h63 : n + m ≤ maxLen) (hbytes : (n + m) * bytes ≤ 140737488355328) (hbase : base ≤ w.heap.size)
    (hK : ∀ b' cap w', w'.ownsRow base e size (.slice b' (n + m) cap) (n + m) (xs ++ news) → w.grownBy w' v.ownBlock → ((Value.slice b' (n + m) cap).ownBlock = v.ownBlock ∨ ∃ k, (Value.slice b' (n + m) cap).ownBlock = some k ∧ w.heap.size ≤ k) → wpList P ops Q rest (a.put o.dst (.slice b' (n + m) cap)) w') :
    wpList P ops Q (o :: rest) a w := by
  refine wpList_plain hgd fun K hK' => ?_
  obtain ⟨v', w', hrun0, r1, r2, r3⟩ := run_append_any (P := P) w base t o.type e i z size bytes h1 h2 h3 h4 h5 h6 h7 v n xs hown ao m c news hl hsrc h1c h63 hbytes hbase
  obtain ⟨sb, sc, rfl⟩ : ∃ sb sc, v = .slice sb n sc := by
    rcases hown.2 with ⟨rfl, rfl⟩ | ⟨g, cap, cur, rfl, _⟩
    · exact ⟨none, 0, rfl⟩
    · exact ⟨_, cap, rfl⟩
  have hrun := (appendTypes (ty := o.type) h1 hx2 h2 sb n sc (.slice ao m c) w).trans hrun0
  obtain ⟨b', cap, rfl⟩ : ∃ b' cap, v' = .slice b' (n + m) cap := by
    rcases r1.2 with ⟨rfl, h0⟩ | ⟨g, cap, cur, rfl, _⟩
    · exact ⟨none, 0, by rw [h0]⟩
    · exact ⟨_, cap, rfl⟩
  unfold Oper.wp
  simp [execOp, hop, resolve, invoke, builtin, hs, hx, hrun, Result.andThen]
  exact hK' _ _ (hK b' cap w' r1 r2 r3)

theorem infoR : (Try.prog.info? 40).map (fun i => (i.zero, i.size, i.bytes)) = some (some (.agg #[.int .i64 0, .int .i64 0, .int .i64 0]), 3, 24) := by kernel_rfl

theorem infoO : (Try.prog.info? 44).map (fun i => (i.zero, i.size, i.bytes)) = some (some (.agg #[.int .i64 0, .int .i64 0, .int .i64 0, .int .i64 0, .bool false]), 5, 40) := by kernel_rfl

theorem allR_nil (w : World) : Calls Try.prog 20 #[.pointer none] w fun e w' => e = .returned (.slice none 0 0) ∧ w = w' := by
  go_enter Try.func20, Try.ntmps20
  go_wp2
  go_ret
  exact ⟨rfl, rfl⟩

theorem allO_nil (w : World) : Calls Try.prog 22 #[.pointer none] w fun e w' => e = .returned (.slice none 0 0) ∧ w = w' := by
  go_enter Try.func22, Try.ntmps22
  go_wp2
  go_ret
  exact ⟨rfl, rfl⟩

theorem allR (w0 : World) (R : Blks) (s : Nat) (l : List Rd) (m : List Ow) (w : World) (h : Has (SA s l m) w0 w R) (hm : l.length ≤ 1000000) :
    Calls Try.prog 20 #[.pointer (some ⟨s, 0, none⟩)] w fun e w' => ∃ a c, e = .returned (.slice a l.length c) ∧ Hid (w'.ownsRow w.heap.size 40 3 (.slice a l.length c) l.length (rows Rd.cells l)) ∧ Hid (w.grownBy w' none) := by
  obtain ⟨a0, ca0, a1, ca1, c0, c1, i0, i1⟩ := SetS.read h
  have I := Lib.hid i0
  obtain ⟨j0, hi0, hz00, hz10, hz20⟩ := info_parts infoR
  have hi := Lib.hid hi0
  have hz0 := Lib.hid hz00
  have hz1 := Lib.hid hz10
  have hz2 := Lib.hid hz20
  clear h i0 i1 hi0 hz00 hz10 hz20
  go_enter Try.func20, Try.ntmps20
  go_wp2_with (at_builtin; refine wpList_append_mix _ rfl (.const (.slice none 0 0)) (.tmp 8) 52 63 rfl w.heap.size 40 40 j0 (.agg #[.int .i64 0, .int .i64 0, .int .i64 0]) 3 24 Try.underlying52 Try.underlying63 hi.out hz0.out hz1.out hz2.out rfl (by decide) (.slice none 0 0) 0 [] rfl (World.ownsRow_nil _ _ _ _) a0 l.length ca0 (rows Rd.cells l) rfl (rows_length rlen _) I.out.src (rows_one_cell rone _) (by unfold maxLen; omega) (by omega) (Nat.le_refl _) ?_; intro b' c' w' ho hg hv; rw [Nat.zero_add, List.nil_append] at ho; have O := Lib.hid ho; have G := Lib.hid hg; clear ho hg hv)
  go_wp2
  go_ret
  exact ⟨b', c', rfl, O.out, G.out⟩

theorem allO (w0 : World) (R : Blks) (s : Nat) (l : List Rd) (m : List Ow) (w : World) (h : Has (SA s l m) w0 w R) (hm : m.length ≤ 1000000) :
    Calls Try.prog 22 #[.pointer (some ⟨s, 0, none⟩)] w fun e w' => ∃ a c, e = .returned (.slice a m.length c) ∧ Hid (w'.ownsRow w.heap.size 44 5 (.slice a m.length c) m.length (rows Ow.cells m)) ∧ Hid (w.grownBy w' none) := by
  obtain ⟨a0, ca0, a1, ca1, c0, c1, i0, i1⟩ := SetS.read h
  have I := Lib.hid i1
  obtain ⟨j0, hi0, hz00, hz10, hz20⟩ := info_parts infoO
  have hi := Lib.hid hi0
  have hz0 := Lib.hid hz00
  have hz1 := Lib.hid hz10
  have hz2 := Lib.hid hz20
  clear h i0 i1 hi0 hz00 hz10 hz20
  go_enter Try.func22, Try.ntmps22
  go_wp2_with (at_builtin; refine wpList_append_mix _ rfl (.const (.slice none 0 0)) (.tmp 8) 55 64 rfl w.heap.size 44 44 j0 (.agg #[.int .i64 0, .int .i64 0, .int .i64 0, .int .i64 0, .bool false]) 5 40 Try.underlying55 Try.underlying64 hi.out hz0.out hz1.out hz2.out rfl (by decide) (.slice none 0 0) 0 [] rfl (World.ownsRow_nil _ _ _ _) a1 m.length ca1 (rows Ow.cells m) rfl (rows_length olen _) I.out.src (rows_one_cell oone _) (by unfold maxLen; omega) (by omega) (Nat.le_refl _) ?_; intro b' c' w' ho hg hv; rw [Nat.zero_add, List.nil_append] at ho; have O := Lib.hid ho; have G := Lib.hid hg; clear ho hg hv)
  go_wp2
  go_ret
  exact ⟨b', c', rfl, O.out, G.out⟩

end Go.Proofs.Ytfkfobloamambaa.rd
