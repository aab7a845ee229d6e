/- The document's own tries of chapter 17: plain facts. -/
import Derived.Test.YtdohepenmejcaaaHw
import Derived.Test.YtdohepenmejcaaaHs
import Derived.Test.YtdohepenmejcaaaHp
namespace Go.Proofs.Ytdohepenmejcaaa.hs
open Go Go.RowKit Go.Proofs.Ytdohepenmejcaaa.base Go.Maps
set_option linter.unusedVariables false
set_option maxRecDepth 100000

theorem wp_pcs {P : Program} {c c' : Code} {Q : Exit → Act → World → Prop} {a : Act} {w : World} (h : c = c') (hw : Code.wp P c' Q a w) : Code.wp P c Q a w := h ▸ hw
theorem own_flip {w0 w : World} {A B : Blks} (h : base.Own w0 w (A ++ B)) : base.Own w0 w (B ++ A) := h.perm List.perm_append_comm
theorem owns_zero {base : Nat} {e : TypeId} {sz : Nat} {w : World} {v : Value} {n : Nat} {xs : List Value} (h : w.ownsRow base e sz v n xs) : w.ownsRow 0 e sz v n xs := by
  refine ⟨h.1, ?_⟩
  rcases h.2 with h | ⟨g, cap, cur, h1, _, h3⟩
  · exact .inl h
  · exact .inr ⟨g, cap, cur, h1, Nat.zero_le _, h3⟩

/-- What the document's loop does to a try at a place. -/
theorem doc_step (e : Evs) {len b k : Nat} (hr : right e len = true) (hk1 : (e b).k = 1) (hbk : b < k) (hkl : k < len) (hen : (trAt e b k).en < 0) : trAt e b (k + 1) = if ownE (e b) (e k) = true then base.stepT (trAt e b k) k (e k) else trAt e b k := by
  have h1 := docAt_eq e b hk1 (k + 1) (right_le e hr (k + 1) hkl)
  have h0 := docAt_eq e b hk1 k (right_le e hr k (by omega))
  rw [docAt, h0] at h1
  rw [← h1]
  by_cases h : ownE (e b) (e k) = true
  · rw [if_pos ⟨hbk, h, hen⟩, if_pos h]
  · rw [if_neg (fun h2 => h h2.2.1), if_neg h]

theorem stepT_2 (t : Tr) (i : Nat) {e : Ev} (h : e.k = 2) : base.stepT t i e = { t with ac := t.ac ++ [⟨i, 2, e.ob, e.va, wrote t.ac e.ob, false⟩] } := by unfold base.stepT; rw [if_pos h]
theorem stepT_3 (t : Tr) (i : Nat) {e : Ev} (h : e.k = 3) : base.stepT t i e = { t with ac := t.ac ++ [⟨i, 3, e.ob, e.va, false, false⟩] } := by unfold base.stepT; rw [if_neg (by omega), if_pos h]
theorem stepT_4 (t : Tr) (i : Nat) {e : Ev} (h : e.k = 4) : base.stepT t i e = { t with ac := relAll t.ac e.ob } := by unfold base.stepT; rw [if_neg (by omega), if_neg (by omega), if_pos h]
theorem stepT_5 (t : Tr) (i : Nat) {e : Ev} (h : e.k = 5) : base.stepT t i e = { t with en := i, co := true } := by unfold base.stepT; rw [if_neg (by omega), if_neg (by omega), if_neg (by omega), if_pos h]
theorem stepT_6 (t : Tr) (i : Nat) {e : Ev} (h : e.k = 6) : base.stepT t i e = { t with en := i, re := e.re } := by unfold base.stepT; rw [if_neg (by omega), if_neg (by omega), if_neg (by omega), if_neg (by omega), if_pos h]
theorem stepT_no (t : Tr) (i : Nat) {e : Ev} (h2 : e.k ≠ 2) (h3 : e.k ≠ 3) (h4 : e.k ≠ 4) (h5 : e.k ≠ 5) (h6 : e.k ≠ 6) : base.stepT t i e = t := by unfold base.stepT; rw [if_neg h2, if_neg h3, if_neg h4, if_neg h5, if_neg h6]

theorem wrote_take {l : List Acc} {n : Nat} {a : Acc} (h : l[n]? = some a) (o : Int) : wrote (l.take (n + 1)) o = (wrote (l.take n) o || (decide (a.k = 3) && decide (a.ob = o))) := by
  rw [List.take_add_one, h]
  simp [wrote]
theorem wrote_all (l : List Acc) (o : Int) : wrote (l.take l.length) o = wrote l o := by rw [List.take_length]
theorem wrote_zero (l : List Acc) (o : Int) : wrote (l.take 0) o = false := rfl

/-- The readings of an object among the first n accesses are released. -/
def relN (l : List Acc) (o : Int) (n : Nat) : List Acc := (l.take n).map (Acc.free o) ++ l.drop n
theorem relN_zero (l : List Acc) (o : Int) : relN l o 0 = l := by simp [relN]
theorem relN_all (l : List Acc) (o : Int) : relN l o l.length = relAll l o := by simp [relN, relAll]
theorem relN_len (l : List Acc) (o : Int) (n : Nat) : (relN l o n).length = l.length := by simp [relN]; omega
theorem relN_get {l : List Acc} {o : Int} {n : Nat} (h : n < l.length) : (relN l o n)[n]? = some l[n] := by
  unfold relN
  rw [List.getElem?_append_right (by simp; omega)]
  simp [Nat.min_eq_left (Nat.le_of_lt h)]
theorem setRel_mid (x : Acc) (B : List Acc) : ∀ A : List Acc, setRel (A ++ x :: B) A.length = A ++ { x with rel := true } :: B
  | [] => by simp [setRel]
  | a :: A => by
    rw [List.cons_append, List.length_cons, setRel_cons, setRel_mid x B A]
    rfl
theorem relN_step {l : List Acc} {o : Int} {n : Nat} (h : n < l.length) : relN l o (n + 1) = if l[n].k = 2 ∧ l[n].ob = o then setRel (relN l o n) n else relN l o n := by
  have e1 : relN l o (n + 1) = (l.take n).map (Acc.free o) ++ Acc.free o l[n] :: l.drop (n + 1) := by
    unfold relN
    rw [List.take_add_one, List.getElem?_eq_getElem h, List.map_append, List.append_assoc]
    rfl
  have e2 : relN l o n = (l.take n).map (Acc.free o) ++ l[n] :: l.drop (n + 1) := by
    unfold relN
    rw [List.drop_eq_getElem_cons h]
  have e3 : ((l.take n).map (Acc.free o)).length = n := by simp; omega
  rw [e1]
  split
  · next hc =>
    rw [e2]
    have e4 := setRel_mid l[n] (l.drop (n + 1)) ((l.take n).map (Acc.free o))
    rw [e3] at e4
    rw [e4]
    simp [Acc.free, hc]
  · next hc =>
    rw [e2]
    simp [Acc.free, hc]

/-- The tries of ys lie there, each with its accesses, wherever. -/
def TsAt (w : World) (a : Option Addr) (ys : List (Tr × Value)) : Prop :=
  (∀ i x, ys[i]? = some x → ∃ b off, a = some ⟨b, off, none⟩ ∧ b < w.heap.size ∧ ∀ j u, (tvC x)[j]? = some u → w.cell? ⟨b, off + i * 9 + j, none⟩ = some u) ∧
  ∀ x ∈ ys, ∃ va vc, x.2 = .slice va x.1.ac.length vc ∧ IsL accC w va x.1.ac
theorem TsAt.grown {w w' : World} {a : Option Addr} {ys : List (Tr × Value)} (h : TsAt w a ys) (g : w.grownBy w' none) : TsAt w' a ys := by
  refine ⟨fun i x hx => ?_, fun x hx => ?_⟩
  · obtain ⟨b, off, h1, h2, h3⟩ := h.1 i x hx
    exact ⟨b, off, h1, Nat.lt_of_lt_of_le h2 g.size, fun j u hu => g.cell (h3 j u hu) (by simp)⟩
  · obtain ⟨va, vc, h1, h2⟩ := h.2 x hx
    exact ⟨va, vc, h1, h2.grown g⟩
theorem TsAt.of_isTries {w : World} {a : Option Addr} {ys : List (Tr × Value)} (h : IsTries w a ys) : TsAt w a ys := by
  obtain ⟨h1, h2⟩ := h
  refine ⟨fun i x hx => ?_, fun x hx => ?_⟩
  · rcases h1 with rfl | ⟨g, rfl, hg, hc⟩
    · simp at hx
    · exact ⟨g, 0, rfl, hg, fun j u hu => by rw [Nat.zero_add]; exact hc i x hx j u hu⟩
  · have h3 := h2 x hx
    obtain ⟨va, vc, hv⟩ := owns_slice h3
    exact ⟨va, vc, hv, IsL.of_own (by rw [← hv]; exact h3) accC_len rfl⟩
theorem TsAt.of_row {w0 w : World} {e : TypeId} {v : Value} {ys : List (Tr × Value)} {L R : Blks} (h : Row tvC 9 e ys v L) (o : base.Own w0 w (L ++ R)) (ha : ∀ x ∈ ys, ∃ va vc, x.2 = .slice va x.1.ac.length vc ∧ IsL accC w va x.1.ac) : ∃ a c, v = .slice a ys.length c ∧ TsAt w a ys := by
  obtain ⟨a, c, hv, hi⟩ := h.isL tvC_len o
  exact ⟨a, c, hv, fun i x hx => hi.at tvC_len hx, ha⟩
/-- The fields of a try, in their cells. -/
theorem TsAt.at {w : World} {a : Option Addr} {ys : List (Tr × Value)} (h : TsAt w a ys) {i : Nat} {x : Tr × Value} (hx : ys[i]? = some x) : ∃ b off va vc, a = some ⟨b, off, none⟩ ∧ b < w.heap.size ∧ x.2 = .slice va x.1.ac.length vc ∧ IsL accC w va x.1.ac ∧
    w.cell? ⟨b, off + i * 9, none⟩ = some (.int .i64 x.1.th) ∧ w.cell? ⟨b, off + i * 9 + 1, none⟩ = some (.int .i64 x.1.tx) ∧ w.cell? ⟨b, off + i * 9 + 2, none⟩ = some (.int .i64 x.1.at_) ∧ w.cell? ⟨b, off + i * 9 + 3, none⟩ = some (.int .i64 x.1.st) ∧ w.cell? ⟨b, off + i * 9 + 4, none⟩ = some (.int .i64 x.1.b) ∧ w.cell? ⟨b, off + i * 9 + 5, none⟩ = some (.int .i64 x.1.en) ∧ w.cell? ⟨b, off + i * 9 + 6, none⟩ = some (.int .i64 x.1.re) ∧ w.cell? ⟨b, off + i * 9 + 7, none⟩ = some (.bool x.1.co) ∧ w.cell? ⟨b, off + i * 9 + 8, none⟩ = some (.slice va x.1.ac.length vc) := by
  obtain ⟨b, off, h1, h2, h3⟩ := h.1 i x hx
  obtain ⟨va, vc, h4, h5⟩ := h.2 x (List.mem_of_getElem? hx)
  exact ⟨b, off, va, vc, h1, h2, h4, h5, h3 0 _ rfl, h3 1 _ rfl, h3 2 _ rfl, h3 3 _ rfl, h3 4 _ rfl, h3 5 _ rfl, h3 6 _ rfl, h3 7 _ rfl, by rw [← h4]; exact h3 8 _ rfl⟩
/-- An access, in its cells. -/
theorem accAt {w : World} {va : Option Addr} {l : List Acc} (h : IsL accC w va l) {j : Nat} {a : Acc} (hj : l[j]? = some a) : ∃ b off, va = some ⟨b, off, none⟩ ∧ b < w.heap.size ∧ w.cell? ⟨b, off + j * 6, none⟩ = some (.int .i64 a.pl) ∧ w.cell? ⟨b, off + j * 6 + 1, none⟩ = some (.int .i64 a.k) ∧ w.cell? ⟨b, off + j * 6 + 2, none⟩ = some (.int .i64 a.ob) ∧ w.cell? ⟨b, off + j * 6 + 3, none⟩ = some (.int .i64 a.va) ∧ w.cell? ⟨b, off + j * 6 + 4, none⟩ = some (.bool a.own) ∧ w.cell? ⟨b, off + j * 6 + 5, none⟩ = some (.bool a.rel) := by
  obtain ⟨b, off, h1, h2, h3⟩ := h.at accC_len hj
  exact ⟨b, off, h1, h2, h3 0 _ rfl, h3 1 _ rfl, h3 2 _ rfl, h3 3 _ rfl, h3 4 _ rfl, h3 5 _ rfl⟩
/-- Accesses of one's own, as long as only others' blocks are written. -/
theorem isL_owns {w : World} {v : Value} {t : Tr} {e : TypeId} {base : Nat} (h : w.ownsRow base e 6 v t.ac.length (rows accC t.ac)) : ∃ va vc, v = .slice va t.ac.length vc ∧ IsL accC w va t.ac := by
  obtain ⟨va, vc, hv⟩ := owns_slice h
  exact ⟨va, vc, hv, IsL.of_own (by rw [← hv]; exact h) accC_len rfl⟩

/-- Rows of two types have no block in common. -/
theorem owns_other {w w' : World} {b1 b2 : Nat} {E1 E2 : TypeId} {s1 s2 n1 n2 : Nat} {v1 v2 : Value} {x1 x2 : List Value} (h1 : w.ownsRow b1 E1 s1 v1 n1 x1) (h2 : w.ownsRow b2 E2 s2 v2 n2 x2) (hne : E1 ≠ E2) (g : w.grownBy w' v2.ownBlock) : w'.ownsRow b1 E1 s1 v1 n1 x1 := by
  refine ownsRow_keep h1 (fun k e => g.block k (h1.lt k e).2 (fun e2 => ?_))
  obtain ⟨cs, hc⟩ := ownsRow_type h1 e
  obtain ⟨ds, hd⟩ := ownsRow_type h2 e2.symm
  rw [hc] at hd
  injection hd with hd
  injection hd with _ hd
  exact hne hd
/-- One more try, and its accesses. -/
theorem acs_snoc {u w w' : World} {E E2 : TypeId} {b2 s2 n2 : Nat} {v2 : Value} {x2 : List Value} {ys : List (Tr × Value)} {x : Tr × Value} {base : Nat} (hy : ∀ y ∈ ys, u.ownsRow 0 E 6 y.2 y.1.ac.length (rows accC y.1.ac)) (g : u.grownBy w none) (hx : w.ownsRow base E 6 x.2 x.1.ac.length (rows accC x.1.ac)) (h2 : w.ownsRow b2 E2 s2 v2 n2 x2) (hne : E ≠ E2) (g2 : w.grownBy w' v2.ownBlock) : ∀ y ∈ ys ++ [x], w'.ownsRow 0 E 6 y.2 y.1.ac.length (rows accC y.1.ac) := by
  intro y hm
  rcases List.mem_append.1 hm with hm | hm
  · exact owns_other (ownsRow_keep (hy y hm) (fun k e => g.block k ((hy y hm).lt k e).2 (by simp))) h2 hne g2
  · have : y = x := by simpa using hm
    subst this
    exact owns_other (owns_zero hx) h2 hne g2

/-- One of one's own accesses is marked as released. -/
theorem row_mark {w0 w : World} {E : TypeId} {l : List Acc} {g m cap n : Nat} {L R : Blks} (h : Row accC 6 E l (.slice (some ⟨g, 0, none⟩) m cap) L) (hm : m = l.length) (o : base.Own w0 w (L ++ R)) (hn : n < l.length) :
    ∃ L', Row accC 6 E (setRel l n) (.slice (some ⟨g, 0, none⟩) m cap) L' ∧ base.Own w0 (w.setCell ⟨g, n * 6 + 5, none⟩ (.bool true)) (L' ++ R) := by
  subst hm
  obtain ⟨cur, h1, h2, h3, h4, h5⟩ := h.open o
  have hb : Blk E (w.setCell ⟨g, n * 6 + 5, none⟩ (.bool true)) g ⟨cur.set (n * 6 + 5) (.bool true)⟩ := by simpa using h1.set (n * 6 + 5) (.bool true)
  obtain ⟨L', r1, r2⟩ := Row.write (l' := setRel l n) h o (gb_setB (gb_refl w _) (.bool true)) hb (by rw [List.length_set]; exact h2) (by rw [setRel_len]; exact h3) (by rw [setRel_len, List.take_set, h5, rows_setRel l n hn])
  rw [setRel_len] at r1
  exact ⟨L', r1, r2⟩
theorem row_free {w0 w : World} {E : TypeId} {l : List Acc} {g m cap : Nat} {L R : Blks} (h : Row accC 6 E l (.slice (some ⟨g, 0, none⟩) m cap) L) (hm : m = l.length) (o : base.Own w0 w (L ++ R)) (j : Nat) : w.frozen? ⟨g, j, none⟩ = false := by
  subst hm
  obtain ⟨cur, h1, _⟩ := h.open o
  exact h1.free j

theorem begins_succ (e : Evs) (n : Nat) : begins e (n + 1) = if (e n).k = 1 then begins e n ++ [n] else begins e n := by
  unfold begins
  rw [List.range_succ, List.filter_append]
  by_cases h : (e n).k = 1
  · rw [if_pos h]
    simp [h]
  · rw [if_neg h]
    simp [h]
end Go.Proofs.Ytdohepenmejcaaa.hs
