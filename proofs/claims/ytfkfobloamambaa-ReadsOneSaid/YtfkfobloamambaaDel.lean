/- slices.Delete of one reading; package reads' Drop. -/
import Derived.Test.YtfkfobloamambaaChg
import Derived.Lib.SliceRun
namespace Go.Proofs.Ytfkfobloamambaa.rd
open Go Go.RowKit Go.Proofs.Ytfkfobloamambaa.base Go.Proofs.Ytfkfobloamambaa.lg
set_option linter.unusedVariables false

section
variable {w0 w : World} {g : Nat} {e : TypeId} {Q : Blks}
theorem Own.setCells : ∀ (vs : List Value) (o : Nat) {cs : List Value} {w : World}, Own w0 w ((g, e, cs) :: Q) → o + vs.length ≤ cs.length → Own w0 (w.setCells g o vs) ((g, e, cs.take o ++ vs ++ cs.drop (o + vs.length)) :: Q)
  | [], o, cs, w, h, hl => by
    simp only [World.setCells, List.append_nil, List.length_nil, Nat.add_zero, List.take_append_drop]
    exact h
  | v :: r, o, cs, w, h, hl => by
    have h1 := Own.setCells r (o + 1) (h.set 0 o v rfl) (by simp at hl ⊢; omega)
    have e1 : (cs.set o v).take (o + 1) ++ r ++ (cs.set o v).drop (o + 1 + r.length) = cs.take o ++ (v :: r) ++ cs.drop (o + (v :: r).length) := by
      simp only [List.length_cons] at hl
      rw [List.drop_set_of_lt (by omega), List.take_add_one, List.getElem?_set_self (by omega), List.take_set_of_le (by omega)]
      simp [Nat.add_assoc, Nat.add_comm 1]
    rw [← e1]
    exact h1
end

theorem clear_one {P : Program} (t e ty : TypeId) (ht : P.underlying t = some (.slice e)) (hv : ∀ w, (zeroValue e).run P w = .ok (.agg #[.int .i64 0, .int .i64 0, .int .i64 0]) w) (b o c : Nat) (w : World) (hc : ∀ j, j < 3 → (w.cell? ⟨b, o + j, none⟩).isSome = true) (hf : ∀ j, j < 3 → w.frozen? ⟨b, o + j, none⟩ = false) :
    (Builtin.clear_ #[t] ty #[.slice (some ⟨b, o, none⟩) 1 c]).run P w = .ok (.tuple #[]) (w.setCells b o [.int .i64 0, .int .i64 0, .int .i64 0]) := by
  have hzc : (Builtin.zeroCells (Value.agg #[Value.int .i64 0, Value.int .i64 0, Value.int .i64 0]).cells 1).toList = [.int .i64 0, .int .i64 0, .int .i64 0] := by kernel_rfl
  have hst := run_storeCells_cells (P := P) b o [.int .i64 0, .int .i64 0, .int .i64 0] 0 w (by simpa using hc) (by simpa using hf) (by intro v hv'; simp at hv'; subst hv'; rfl)
  simp only [Nat.add_zero] at hst
  simp [Builtin.clear_, run_underlying ht, hv, hzc, hst]

theorem del_one (w0 : World) (Q : Blks) (L : Blks) (l : List Rd) (g cap k r : Nat) (w : World) (hr : l.length = k + 1 + r) (h : Row Rd.cells 3 40 l (.slice (some ⟨g, 0, none⟩) l.length cap) L) (o : Own w0 w (L ++ Q)) :
    Calls Try.prog 27 #[.slice (some ⟨g, 0, none⟩) (k + 1 + r) cap, .int .i64 (k : Int), .int .i64 ((k : Int) + 1)] w fun e w' => e = .returned (.slice (some ⟨g, 0, none⟩) (k + r) cap) ∧ Hid (∃ L', Row Rd.cells 3 40 (l.eraseIdx k) (.slice (some ⟨g, 0, none⟩) (k + r) cap) L' ∧ Own w0 w' (L' ++ Q)) := by
  obtain ⟨cur, rfl, h1, h2, h3, h4⟩ : ∃ cur, L = [(g, 40, cur)] ∧ cur.length = cap * 3 ∧ l.length ≤ cap ∧ cap ≤ maxLen ∧ cur.take (l.length * 3) = rows Rd.cells l := by
    rcases h with ⟨rfl, h, rfl⟩ | ⟨g0, cap0, cur0, h, rfl, q1, q2, q3, q4⟩
    · cases h
    · injection h with e1 e2 e3
      injection e1 with e1
      injection e1 with e1
      subst e1; subst e3
      exact ⟨cur0, rfl, q3, q1, q2, q4⟩
  have hb := o.get 0 rfl
  obtain ⟨i0, hi0, hz00, hz10, hz20⟩ := info_parts infoR
  have hi := Lib.hid hi0
  have hz1 := Lib.hid hz10
  have hz0 := Lib.hid hz00
  have O := Lib.hid o
  rw [hr] at h2 h4
  unfold maxLen at h3
  have hd : (l.drop (k + 1)).length = r := by simp; omega
  have hnl : (rows Rd.cells (l.drop (k + 1))).length = r * 3 := by rw [rows_length rlen, hd]
  have hcell : ∀ j, j < cap * 3 → (w.cell? ⟨g, j, none⟩).isSome = true ∧ w.frozen? ⟨g, j, none⟩ = false := fun j hj => ⟨by rw [hb.cell j]; simp; omega, hb.free j⟩
  obtain ⟨A, hA, hsrc⟩ : ∃ A : Addr, (if cap = k + 1 then some (⟨g, 0, none⟩ : Addr) else some ⟨g, (k + 1) * 3, none⟩) = some A ∧ Hid (∀ j u, (rows Rd.cells (l.drop (k + 1)))[j]? = some u → w.drew.cell? (A.add j) = some u) := by
    by_cases hc : cap = k + 1
    · refine ⟨⟨g, 0, none⟩, by simp [hc], fun j u hu => ?_⟩
      have := (List.getElem?_eq_some_iff.1 hu).1
      omega
    · refine ⟨⟨g, (k + 1) * 3, none⟩, by simp [hc], fun j u hu => ?_⟩
      have hj := (List.getElem?_eq_some_iff.1 hu).1
      rw [add_eq]
      have e1 : (rows Rd.cells l) = rows Rd.cells (l.take (k + 1)) ++ rows Rd.cells (l.drop (k + 1)) := by rw [← rows_append, List.take_append_drop]
      have e2 : (rows Rd.cells (l.take (k + 1))).length = (k + 1) * 3 := by rw [rows_length rlen]; simp; omega
      show w.cell? ⟨g, (k + 1) * 3 + j, none⟩ = some u
      rw [hb.cell]
      have e3 : (cur.take ((k + 1 + r) * 3))[(k + 1) * 3 + j]? = some u := by
        rw [h4, e1, List.getElem?_append_right (by omega), e2, Nat.add_sub_cancel_left]
        exact hu
      rw [List.getElem?_take] at e3
      split at e3
      · simpa using e3
      · cases e3
  have hkc : k ≤ cap := by omega
  have hkc1 : k + 1 ≤ cap := by omega
  have hk1 : (0 : Int) ≤ (k : Int) + 1 := by omega
  have hk2 : (k : Int) + 1 ≤ (k : Int) + 1 + (r : Int) := by omega
  have s1 := Lib.hid hnl
  have s3 : Hid (∀ j, j < (rows Rd.cells (l.drop (k + 1))).length → (w.drew.cell? ⟨g, 0 + k * 3 + j, none⟩).isSome = true ∧ w.drew.frozen? ⟨g, 0 + k * 3 + j, none⟩ = false) := fun j hj => hcell (0 + k * 3 + j) (by omega)
  clear h o hi0 hz00 hz10 hz20 hnl
  go_enter Try.func27, Try.ntmps27
  go_upto_region 5 with fail
  go_region_law? (refine step_append_room rfl (.tmp 22) (.tmp 25) 63 rfl 40 i0 3 Try.underlying63 hi.out hz1.out g 0 k cap (by simp [Act.eval, Act.put]) A r (cap - (k + 1)) (rows Rd.cells (l.drop (k + 1))) (by simp [Act.eval, Act.put]) s1.out hsrc.out (rows_one_cell rone _) (by omega) s3.out ?_; have OW := Lib.hid (Own.setCells (rows Rd.cells (l.drop (k + 1))) (k * 3) O.out.drew (by rw [s1.out, h1]; omega)))
  generalize w.drew.setCells g (k * 3) (rows Rd.cells (l.drop (k + 1))) = W1 at *
  have hn1 : k + 1 + r - (k + r) = 1 := by omega
  have hcl : ∀ ty, (Builtin.clear_ #[63] ty #[.slice (some ⟨g, (k + r) * 3, none⟩) 1 (cap - (k + r))]).run Try.prog W1 = .ok (.tuple #[]) (W1.setCells g ((k + r) * 3) [.int .i64 0, .int .i64 0, .int .i64 0]) :=
    fun ty => clear_one _ _ ty Try.underlying63 (fun u => by simp [zeroValue, typeInfo, hi.out, hz0.out]) g ((k + r) * 3) _ W1 (fun j hj => by rw [(OW.out.get 0 rfl).cell]; simp [s1.out, h1]; omega) (fun j _ => (OW.out.get 0 rfl).free _)
  have OZ := Lib.hid (Own.setCells [.int .i64 0, .int .i64 0, .int .i64 0] ((k + r) * 3) OW.out (by simp [s1.out, h1]; omega))
  generalize W1.setCells _ _ _ = W2 at *
  go_wp2
  go_ret
  have hel : (l.eraseIdx k).length = k + r := by rw [List.length_eraseIdx, if_pos (by omega)]; omega
  have htk : (cur.take (k * 3)).length = k * 3 := by rw [List.length_take, h1]; omega
  refine ⟨rfl, _, .inr ⟨g, cap, _, by rw [hel], rfl, by omega, by unfold maxLen; omega, ?_, ?_⟩, OZ.out⟩
  · simp only [List.length_append, List.length_take, List.length_drop, s1.out, h1, List.length_cons, List.length_nil]
    omega
  · rw [hel, List.append_assoc, List.take_left' (by simp only [List.length_append, List.length_take, List.length_drop, s1.out, h1]; omega), List.take_left' (by rw [List.length_append, htk, s1.out]; omega), List.eraseIdx_eq_take_drop_succ, rows_append]
    congr 1
    have e1 : rows Rd.cells l = rows Rd.cells (l.take k) ++ rows Rd.cells (l.drop k) := by rw [← rows_append, List.take_append_drop]
    have e2 : (rows Rd.cells (l.take k)).length = k * 3 := by rw [rows_length rlen, List.length_take]; omega
    have e3 : (cur.take ((k + 1 + r) * 3)).take (k * 3) = rows Rd.cells (l.take k) := by rw [h4, e1, List.take_left' e2]
    rw [← e3, List.take_take, Nat.min_eq_left (by omega)]

theorem drop_nil (o : Int) (w : World) : Calls Try.prog 11 #[.pointer none, .int .i64 o] w fun e w' => e = .returned (.bool false) ∧ w = w' := by
  go_enter Try.func11, Try.ntmps11
  go_wp2
  go_ret
  exact ⟨rfl, rfl⟩

theorem drop_none (w0 : World) (R : Blks) (s : Nat) (l : List Rd) (m : List Ow) (o : Int) (w : World) (h : Has (SA s l m) w0 w R) (hm : l.length ≤ 1000000) (hk : pl Rd.o o l = none) :
    Calls Try.prog 11 #[.pointer (some ⟨s, 0, none⟩), .int .i64 o] w fun e w' => e = .returned (.bool false) ∧ Hid (w.grownBy w' none) := by
  obtain ⟨a0, ca0, _, _, c0, _, i0, _⟩ := SetS.read h
  have F := Lib.hid (placeR a0 l.length ca0 l o w i0 rfl (by omega))
  rw [hk] at F
  clear h hk i0
  go_enter Try.func11, Try.ntmps11
  go_wp2_with fail
  refine F.out.mono ?_
  rintro e u ⟨rfl, g⟩
  simp only [pv]
  go_wp2
  go_ret
  exact ⟨rfl, g⟩

theorem drop_in (w0 : World) (R : Blks) (s : Nat) (l : List Rd) (m : List Ow) (o : Int) (k : Nat) (w : World) (h : Has (SA s l m) w0 w R) (hm : l.length ≤ 1000000) (hk : pl Rd.o o l = some k) (hkl : k < l.length) :
    Calls Try.prog 11 #[.pointer (some ⟨s, 0, none⟩), .int .i64 o] w fun e w' => e = .returned (.bool true) ∧ Hid (Has (SA s (l.eraseIdx k) m) w0 w' R) := by
  obtain ⟨a0, ca0, _, _, c0, _, i0, _⟩ := SetS.read h
  have F := Lib.hid (placeR a0 l.length ca0 l o w i0 rfl (by omega))
  rw [hk] at F
  have H := Lib.hid h
  obtain ⟨r, hr⟩ : ∃ r, Hid (l.length = k + 1 + r) := ⟨l.length - (k + 1), show _ = _ by omega⟩
  have h0 : ((k : Int) == -1) = false := by first | (simp; done) | (simp; omega)
  clear h hk i0
  go_enter Try.func11, Try.ntmps11
  go_wp2_with fail
  refine F.out.mono ?_
  rintro e u ⟨rfl, g⟩
  simp only [pv]
  have H2 := Lib.hid (H.out.grown g.out)
  have c1 := g.out.cell c0 (by simp)
  obtain ⟨V, U, L, M, h1, h2, o3⟩ := SetS.openR H2.out
  obtain ⟨g1, cap, rfl⟩ := h1.some (by have := hr.out; omega)
  have O3' := Lib.hid (Own.mid.2 o3)
  obtain ⟨rfl, rfl⟩ : some ⟨g1, 0, none⟩ = a0 ∧ cap = ca0 := by simpa using (O3'.out.cell 0 0 rfl rfl).symm.trans c1
  have D := Lib.hid (del_one w0 _ L l g1 cap k r u hr.out h1 o3)
  have h2 := Lib.hid h2
  clear g c0 F H H2 h1 o3
  rw [hr.out] at c1
  go_wp2_with fail
  refine D.out.mono ?_
  rintro e u2 ⟨rfl, hd⟩
  obtain ⟨L', hr2, o4⟩ := hd.out
  have HR := Lib.hid hr2
  have O4 := Lib.hid o4
  have c2 := (Own.mid.2 o4).cell 0 0 rfl rfl
  have f2 := (Own.mid.2 o4).free 0 0 rfl
  clear hd hr2 o4 D O3' c1
  go_wp2
  go_ret
  exact ⟨rfl, SetS.putR HR.out h2.out O4.out⟩

end Go.Proofs.Ytfkfobloamambaa.rd
