/- A set as one thing: a struct of two slices, in front of one's own others; plain facts on both sets (the program's, the document's own). Contracts of package reads' find. -/
import Derived.Test.YtfkfobloamambaaRd
import Derived.Deep.RegionLaw
namespace Go.Proofs.Ytfkfobloamambaa.rd
open Go Go.RowKit Go.Proofs.Ytfkfobloamambaa.base
set_option linter.unusedVariables false

/-- Block s is a struct (of type T) of two slices of one's own: of readings l (of type e1), of own ones m (of type e2). -/
def SetS (T e1 e2 : TypeId) (s : Nat) (l : List Rd) (m : List Ow) : Blks → Prop := fun X => ∃ v u L M, Row Rd.cells 3 e1 l v L ∧ Row Ow.cells 5 e2 m u M ∧ X = (s, T, [v, u]) :: (L ++ M)

section
variable {T e1 e2 : TypeId} {s : Nat} {l l' : List Rd} {m m' : List Ow} {w0 w w' w1 : World} {R L M : Blks} {v u v' : Value}
theorem SetS.openR (h : Has (SetS T e1 e2 s l m) w0 w R) : ∃ v u L M, Row Rd.cells 3 e1 l v L ∧ Row Ow.cells 5 e2 m u M ∧ Own w0 w (L ++ ((s, T, [v, u]) :: (M ++ R))) := by
  obtain ⟨X, ⟨v, u, L, M, h1, h2, rfl⟩, o⟩ := h
  refine ⟨v, u, L, M, h1, h2, Own.mid.1 ?_⟩
  simpa using o
theorem SetS.openO (h : Has (SetS T e1 e2 s l m) w0 w R) : ∃ v u L M, Row Rd.cells 3 e1 l v L ∧ Row Ow.cells 5 e2 m u M ∧ Own w0 w (M ++ ((s, T, [v, u]) :: (L ++ R))) := by
  obtain ⟨v, u, L, M, h1, h2, o⟩ := SetS.openR h
  refine ⟨v, u, L, M, h1, h2, Own.mid.1 ?_⟩
  have o2 := Own.mid.2 o
  exact o2.perm (List.Perm.cons _ (by rw [← List.append_assoc, ← List.append_assoc]; exact List.perm_append_comm.append_right R))
theorem SetS.close (h1 : Row Rd.cells 3 e1 l v L) (h2 : Row Ow.cells 5 e2 m u M) (o : Own w0 w ((s, T, [v, u]) :: (L ++ (M ++ R)))) : Has (SetS T e1 e2 s l m) w0 w R :=
  ⟨_, ⟨v, u, L, M, h1, h2, rfl⟩, by simpa using o⟩
theorem SetS.closeR (h1 : Row Rd.cells 3 e1 l v L) (h2 : Row Ow.cells 5 e2 m u M) (o : Own w0 w (L ++ ((s, T, [v, u]) :: (M ++ R)))) : Has (SetS T e1 e2 s l m) w0 w R := SetS.close h1 h2 (Own.mid.2 o)
theorem SetS.closeO (h1 : Row Rd.cells 3 e1 l v L) (h2 : Row Ow.cells 5 e2 m u M) (o : Own w0 w (M ++ ((s, T, [v, u]) :: (L ++ R)))) : Has (SetS T e1 e2 s l m) w0 w R :=
  SetS.close h1 h2 ((Own.mid.2 o).perm (List.Perm.cons _ (by rw [← List.append_assoc, ← List.append_assoc]; exact List.perm_append_comm.append_right R)))
/-- The slice of readings is stored. -/
theorem SetS.putR (h1 : Row Rd.cells 3 e1 l' v' L) (h2 : Row Ow.cells 5 e2 m u M) (o : Own w0 w (L ++ ((s, T, [v, u]) :: (M ++ R)))) : Has (SetS T e1 e2 s l' m) w0 (w.setCell ⟨s, 0, none⟩ v') R :=
  SetS.close h1 h2 ((Own.mid.2 o).set 0 0 v' rfl)
theorem SetS.putO (h1 : Row Rd.cells 3 e1 l v L) (h2 : Row Ow.cells 5 e2 m' v' M) (o : Own w0 w (M ++ ((s, T, [v, u]) :: (L ++ R)))) : Has (SetS T e1 e2 s l m') w0 (w.setCell ⟨s, 1, none⟩ v') R :=
  SetS.closeO h1 h2 (Own.mid.1 ((Own.mid.2 o).set 0 1 v' rfl))
/-- Its readings are others now. -/
theorem SetS.newR {base n : Nat} (h : Has (SetS T e1 e2 s l m) w0 w R) (g : w.grownBy w' none) (ho : w'.ownsRow base e1 3 v' n (rows Rd.cells l')) (hb : w.heap.size ≤ base) (hn : n = l'.length) : Has (SetS T e1 e2 s l' m) w0 (w'.setCell ⟨s, 0, none⟩ v') R := by
  obtain ⟨v, u, L, M, h1, h2, o⟩ := SetS.openR h
  obtain ⟨L', h3, o3⟩ := Row.of_own (o.drop (List.sublist_append_right _ _)) g ho hb hn
  exact SetS.putR h3 h2 o3
theorem SetS.free (h : Has (SetS T e1 e2 s l m) w0 w R) (j : Nat) : w.frozen? ⟨s, j, none⟩ = false := by
  obtain ⟨v, u, L, M, h1, h2, o⟩ := SetS.openR h
  exact (Own.mid.2 o).free 0 j rfl
/-- What is read of it. -/
theorem SetS.read (h : Has (SetS T e1 e2 s l m) w0 w R) : ∃ a c b d, w.cell? ⟨s, 0, none⟩ = some (.slice a l.length c) ∧ w.cell? ⟨s, 1, none⟩ = some (.slice b m.length d) ∧ IsL Rd.cells w a l ∧ IsL Ow.cells w b m := by
  obtain ⟨v, u, L, M, h1, h2, o⟩ := SetS.openR h
  obtain ⟨v', u', L', M', h1', h2', o'⟩ := SetS.openO h
  have o1 := Own.mid.2 o
  obtain ⟨a, c, rfl, ia⟩ := h1.isL rlen o
  have om : Own w0 w (M ++ ((s, T, [Value.slice a l.length c, u]) :: (L ++ R))) := Own.mid.1 (o1.perm (List.Perm.cons _ (by rw [← List.append_assoc, ← List.append_assoc]; exact List.perm_append_comm.append_right R)))
  obtain ⟨b, d, rfl, ib⟩ := h2.isL olen om
  exact ⟨a, c, b, d, o1.cell 0 0 rfl rfl, o1.cell 0 1 rfl rfl, ia, ib⟩
/-- .. and how much room there is. -/
theorem SetS.readR (h : Has (SetS T e1 e2 s l m) w0 w R) {p : Nat} {x : Rd} (hp : l[p]? = some x) : ∃ g c, w.cell? ⟨s, 0, none⟩ = some (.slice (some ⟨g, 0, none⟩) l.length c) ∧ l.length ≤ c ∧ c ≤ maxLen ∧ g < w.heap.size ∧ w.cell? ⟨g, p * 3, none⟩ = some (.int .i64 x.o) ∧ w.cell? ⟨g, p * 3 + 1, none⟩ = some (.int .i64 x.n) ∧ w.cell? ⟨g, p * 3 + 2, none⟩ = some (.int .i64 x.v) := by
  obtain ⟨v, u, L, M, h1, h2, o⟩ := SetS.openR h
  obtain ⟨g, c, rfl⟩ := h1.some (by have := (List.getElem?_eq_some_iff.1 hp).1; omega)
  obtain ⟨cur, hb, _, hc, hm, _⟩ := h1.open o
  obtain ⟨b, off, e, hlt, c0, c1, c2⟩ := at3 (IsL.of_own (h1.owns rlen o) rlen rfl) hp
  cases e
  simp only [Nat.zero_add] at c0 c1 c2
  exact ⟨g, c, (Own.mid.2 o).cell 0 0 rfl rfl, hc, hm, hlt, c0, c1, c2⟩
theorem SetS.readO (h : Has (SetS T e1 e2 s l m) w0 w R) {p : Nat} {x : Ow} (hp : m[p]? = some x) : ∃ g c, w.cell? ⟨s, 1, none⟩ = some (.slice (some ⟨g, 0, none⟩) m.length c) ∧ g < w.heap.size ∧ w.cell? ⟨g, p * 5, none⟩ = some (.int .i64 x.o) ∧ w.cell? ⟨g, p * 5 + 1, none⟩ = some (.int .i64 x.c) ∧ w.cell? ⟨g, p * 5 + 2, none⟩ = some (.int .i64 x.n) ∧ w.cell? ⟨g, p * 5 + 3, none⟩ = some (.int .i64 x.v) ∧ w.cell? ⟨g, p * 5 + 4, none⟩ = some (.bool x.b) := by
  obtain ⟨v, u, L, M, h1, h2, o⟩ := SetS.openO h
  obtain ⟨g, c, rfl⟩ := h2.some (by have := (List.getElem?_eq_some_iff.1 hp).1; omega)
  obtain ⟨b, off, e, hlt, c0, c1, c2, c3, c4⟩ := at5 (IsL.of_own (h2.owns olen o) olen rfl) hp
  cases e
  simp only [Nat.zero_add] at c0 c1 c2 c3 c4
  exact ⟨g, c, (Own.mid.2 o).cell 0 1 rfl rfl, hlt, c0, c1, c2, c3, c4⟩
theorem SetS.lt (h : Has (SetS T e1 e2 s l m) w0 w R) : s < w.heap.size := by
  obtain ⟨v, u, L, M, h1, h2, o⟩ := SetS.openR h
  exact (Own.mid.2 o).lt 0 rfl
theorem SetS.made (o : Own w0 w R) : Has (SetS T e1 e2 w.heap.size [] []) w0 (w.alloc (.cells #[.slice none 0 0, .slice none 0 0] T)) R :=
  ⟨_, ⟨_, _, _, _, Row.nil, Row.nil, rfl⟩, o.alloc T [.slice none 0 0, .slice none 0 0]⟩
end

theorem two_less {α : Type} (a b : α) (R : List α) : List.Sublist R (a :: b :: R) := List.Sublist.cons _ (List.Sublist.cons _ (List.Sublist.refl _))
theorem one_less {α : Type} (a : α) (R : List α) : List.Sublist R (a :: R) := List.Sublist.cons _ (List.Sublist.refl _)

/-- The cells of own ones, one of which was stored. -/
theorem rows_set5 (m : List Ow) (k : Nat) (x : Ow) (hk : k < m.length) : (((((rows Ow.cells m).set (k * 5) (.int .i64 x.o)).set (k * 5 + 1) (.int .i64 x.c)).set (k * 5 + 2) (.int .i64 x.n)).set (k * 5 + 3) (.int .i64 x.v)).set (k * 5 + 4) (.bool x.b) = rows Ow.cells (m.set k x) := by
  have hlen := rows_length olen m
  refine rows_ext olen (by decide) _ _ (by simp [hlen]) ?_
  intro j i y hy hi
  simp only [List.getElem?_set, List.length_set, hlen]
  by_cases e : k = j
  · subst e
    rw [List.getElem?_set_self hk] at hy
    cases hy
    rcases (by omega : i = 0 ∨ i = 1 ∨ i = 2 ∨ i = 3 ∨ i = 4) with rfl | rfl | rfl | rfl | rfl
    · rw [if_neg (by omega), if_neg (by omega), if_neg (by omega), if_neg (by omega), if_pos (by omega), if_pos (by omega)]; rfl
    · rw [if_neg (by omega), if_neg (by omega), if_neg (by omega), if_pos (by omega), if_pos (by omega)]; rfl
    · rw [if_neg (by omega), if_neg (by omega), if_pos (by omega), if_pos (by omega)]; rfl
    · rw [if_neg (by omega), if_pos (by omega), if_pos (by omega)]; rfl
    · rw [if_pos (by omega), if_pos (by omega)]; rfl
  · rw [List.getElem?_set_ne e] at hy
    rw [if_neg (by omega), if_neg (by omega), if_neg (by omega), if_neg (by omega), if_neg (by omega)]
    exact rows_get olen m j i y hy hi

/-- An own one is stored in its place. -/
theorem set5 {e : TypeId} {m : List Ow} {g cap k : Nat} {M Q : Blks} {w0 w : World} (x : Ow) (h : Row Ow.cells 5 e m (.slice (some ⟨g, 0, none⟩) m.length cap) M) (o : Own w0 w (M ++ Q)) (hk : k < m.length) :
    ∃ M', Row Ow.cells 5 e (m.set k x) (.slice (some ⟨g, 0, none⟩) m.length cap) M' ∧ Own w0 (((((w.setCell ⟨g, k * 5, none⟩ (.int .i64 x.o)).setCell ⟨g, k * 5 + 1, none⟩ (.int .i64 x.c)).setCell ⟨g, k * 5 + 2, none⟩ (.int .i64 x.n)).setCell ⟨g, k * 5 + 3, none⟩ (.int .i64 x.v)).setCell ⟨g, k * 5 + 4, none⟩ (.bool x.b)) (M' ++ Q) := by
  rcases h with ⟨rfl, h, rfl⟩ | ⟨g0, cap0, cur0, h, rfl, h1, h2, h3, h4⟩
  · cases h
  · injection h with e1 e2 e3
    injection e1 with e1
    injection e1 with e1
    subst e1; subst e3
    refine ⟨[(g, e, ((((cur0.set (k * 5) (.int .i64 x.o)).set (k * 5 + 1) (.int .i64 x.c)).set (k * 5 + 2) (.int .i64 x.n)).set (k * 5 + 3) (.int .i64 x.v)).set (k * 5 + 4) (.bool x.b))], .inr ⟨g, cap, _, by simp, rfl, by simpa using h1, h2, by simpa using h3, ?_⟩, ?_⟩
    · rw [← rows_set5 m k x hk, ← h4]
      simp only [List.take_set, List.length_set]
    · exact ((((o.set 0 (k * 5) (.int .i64 x.o) rfl).set 0 (k * 5 + 1) (.int .i64 x.c) rfl).set 0 (k * 5 + 2) (.int .i64 x.n) rfl).set 0 (k * 5 + 3) (.int .i64 x.v) rfl).set 0 (k * 5 + 4) (.bool x.b) rfl

/-- The program's set, the document's own. -/
abbrev SA (s : Nat) (l : List Rd) (m : List Ow) : Blks → Prop := SetS 66 40 44 s l m

abbrev SB (s : Nat) (l : List Rd) (m : List Ow) : Blks → Prop := SetS 30 32 34 s l m

theorem orow_grown {base k n : Nat} {e : TypeId} {v : Value} {xs : List Value} {w w' : World} (h : w.ownsRow base e k v n xs) (g : w.grownBy w' none) : w'.ownsRow base e k v n xs := ownsRow_keep h (fun b hb => g.block b (h.lt b hb).2 (by simp))

/-- The readings of objects other than o. -/
def flt (o : Int) (l : List Rd) : List Rd := l.filter fun x => !(x.o == o)
/-- The readings of objects without an own one. -/
def unc (m : List Ow) (l : List Rd) : List Rd := l.filter fun x => (pl Ow.o x.o m).isNone
theorem take_next {α : Type} {l : List α} {k : Nat} {x : α} (hx : l[k]? = some x) : l.take (k + 1) = l.take k ++ [x] := by rw [List.take_add_one, hx]; rfl
theorem flt_next {o : Int} {l : List Rd} {k : Nat} {x : Rd} (hx : l[k]? = some x) : flt o (l.take (k + 1)) = if x.o = o then flt o (l.take k) else flt o (l.take k) ++ [x] := by
  rw [take_next hx]
  unfold flt
  rw [List.filter_append]
  by_cases h : x.o = o <;> simp [h]
theorem unc_next {m : List Ow} {l : List Rd} {k : Nat} {x : Rd} (hx : l[k]? = some x) : unc m (l.take (k + 1)) = if (pl Ow.o x.o m).isSome then unc m (l.take k) else unc m (l.take k) ++ [x] := by
  rw [take_next hx]
  unfold unc
  rw [List.filter_append]
  cases h : pl Ow.o x.o m <;> simp [h]
theorem flt_len (o : Int) (l : List Rd) : (flt o l).length ≤ l.length := List.length_filter_le _ _
theorem unc_len (m : List Ow) (l : List Rd) : (unc m l).length ≤ l.length := List.length_filter_le _ _

def Rz : Rd := ⟨0, 0, 0⟩
def Oz : Ow := ⟨0, 0, 0, 0, false⟩
/-- The thing of object o, or z. -/
def gt {α : Type} (z : α) (g : α → Int) (o : Int) (l : List α) : α := ((pl g o l).bind (l[·]?)).getD z
theorem gt_none {α : Type} {z : α} {g : α → Int} {o : Int} {l : List α} (h : pl g o l = none) : gt z g o l = z := by simp [gt, h]
theorem gt_some {α : Type} {z : α} {g : α → Int} {o : Int} {l : List α} {k : Nat} {x : α} (h : pl g o l = some k) (hx : l[k]? = some x) : gt z g o l = x := by simp [gt, h, hx]

set_option maxHeartbeats 1000000 in
theorem findR (a : Option Addr) (len cap : Nat) (l : List Rd) (o : Int) (x : Rd) (b : Bool) (w : World) (hz : IsL Rd.cells w a l) (hl : len = l.length) (hm : len ≤ 1000000) (hx : x = gt Rz Rd.o o l) (hb : b = (pl Rd.o o l).isSome) :
    Calls Try.prog 30 #[.slice a len cap, .func (Fn.func 26) #[] #[], .int .i64 o] w fun e w' => e = .returned (.tuple #[.agg #[.int .i64 x.o, .int .i64 x.n, .int .i64 x.v], .bool b]) ∧ Hid (w.grownBy w' none) := by
  have Z := Lib.hid hz
  have P := Lib.hid (fun (u : World) (hu : IsL Rd.cells u a l) => placeR a len cap l o u hu hl hm)
  rcases pl_spec Rd.o o l with ⟨h1, -⟩ | ⟨k, y, h1, h2, -⟩
  · rw [h1] at P
    rw [gt_none h1] at hx
    rw [h1] at hb
    subst hx
    obtain rfl : b = false := hb
    clear hz hl h1
    go_enter Try.func30, Try.ntmps30
    go_wp2_with fail
    refine (P.out _ (Z.out.alloc _)).mono ?_
    rintro e u ⟨rfl, g⟩
    have O := Lib.hid (((Own.start w).alloc 40 [.int .i64 0, .int .i64 0, .int .i64 0]).grown g.out)
    clear g
    generalize w.heap.size = B at *
    simp only [pv]
    go_upto_region 4 with fail
    have O2 := Lib.hid (O.out.alloc 40 [.int .i64 0, .int .i64 0, .int .i64 0])
    generalize u.heap.size = C at *
    generalize u.alloc _ = v at *
    clear O
    have c0 := O2.out.cell 1 0 rfl rfl; have c1 := O2.out.cell 1 1 rfl rfl; have c2 := O2.out.cell 1 2 rfl rfl; have f0 := O2.out.free 1 0 rfl; have f1 := O2.out.free 1 1 rfl; have f2 := O2.out.free 1 2 rfl; have d0 := O2.out.cell 0 0 rfl rfl; have d1 := O2.out.cell 0 1 rfl rfl; have d2 := O2.out.cell 0 2 rfl rfl
    go_wp2
    refine bodyPost_ret (v := .tuple #[.agg #[.int .i64 0, .int .i64 0, .int .i64 0], .bool false]) ?_ rfl ⟨rfl, ?_⟩
    · simp [results, Try.results30, go_sem, *]
    · exact ((((O2.out.set 1 0 (.int .i64 0) rfl).set 1 1 (.int .i64 0) rfl).set 1 2 (.int .i64 0) rfl)).grow
  · have hlt := (List.getElem?_eq_some_iff.1 h2).1
    rw [h1] at P
    rw [gt_some h1 h2] at hx
    rw [h1] at hb
    subst hx
    obtain rfl : b = true := hb
    have hlt' : (k : Int) < (len : Int) := by omega
    have h0 : ((k : Int) == -1) = false := by first | (simp; done) | (simp; omega)
    have X := Lib.hid h2
    clear hz hl h1 h2 hlt
    go_enter Try.func30, Try.ntmps30
    go_wp2_with fail
    refine (P.out _ (Z.out.alloc _)).mono ?_
    rintro e u ⟨rfl, g⟩
    have O := Lib.hid (((Own.start w).alloc 40 [.int .i64 0, .int .i64 0, .int .i64 0]).grown g.out)
    obtain ⟨b1, off1, rfl, hb1, c0, c1, c2⟩ := at3 (Z.out.grown O.out.grow) X.out
    clear g
    generalize w.heap.size = B at *
    have d0 := O.out.cell 0 0 rfl rfl; have d1 := O.out.cell 0 1 rfl rfl; have d2 := O.out.cell 0 2 rfl rfl; have f0 := O.out.free 0 0 rfl; have f1 := O.out.free 0 1 rfl; have f2 := O.out.free 0 2 rfl
    simp only [pv]
    go_wp2
    refine bodyPost_ret (v := .tuple #[.agg #[.int .i64 x.o, .int .i64 x.n, .int .i64 x.v], .bool true]) ?_ rfl ⟨rfl, ?_⟩
    · simp [results, Try.results30, go_sem, *]
    · exact ((((O.out.set 0 0 (.int .i64 x.o) rfl).set 0 1 (.int .i64 x.n) rfl).set 0 2 (.int .i64 x.v) rfl)).grow

set_option maxHeartbeats 1000000 in
theorem findO (a : Option Addr) (len cap : Nat) (l : List Ow) (o : Int) (x : Ow) (b : Bool) (w : World) (hz : IsL Ow.cells w a l) (hl : len = l.length) (hm : len ≤ 1000000) (hx : x = gt Oz Ow.o o l) (hb : b = (pl Ow.o o l).isSome) :
    Calls Try.prog 31 #[.slice a len cap, .func (Fn.func 29) #[] #[], .int .i64 o] w fun e w' => e = .returned (.tuple #[.agg #[.int .i64 x.o, .int .i64 x.c, .int .i64 x.n, .int .i64 x.v, .bool x.b], .bool b]) ∧ Hid (w.grownBy w' none) := by
  have Z := Lib.hid hz
  have P := Lib.hid (fun (u : World) (hu : IsL Ow.cells u a l) => placeO a len cap l o u hu hl hm)
  rcases pl_spec Ow.o o l with ⟨h1, -⟩ | ⟨k, y, h1, h2, -⟩
  · rw [h1] at P
    rw [gt_none h1] at hx
    rw [h1] at hb
    subst hx
    obtain rfl : b = false := hb
    clear hz hl h1
    go_enter Try.func31, Try.ntmps31
    go_wp2_with fail
    refine (P.out _ (Z.out.alloc _)).mono ?_
    rintro e u ⟨rfl, g⟩
    have O := Lib.hid (((Own.start w).alloc 44 [.int .i64 0, .int .i64 0, .int .i64 0, .int .i64 0, .bool false]).grown g.out)
    clear g
    generalize w.heap.size = B at *
    simp only [pv]
    go_upto_region 4 with fail
    have O2 := Lib.hid (O.out.alloc 44 [.int .i64 0, .int .i64 0, .int .i64 0, .int .i64 0, .bool false])
    generalize u.heap.size = C at *
    generalize u.alloc _ = v at *
    clear O
    have c0 := O2.out.cell 1 0 rfl rfl; have c1 := O2.out.cell 1 1 rfl rfl; have c2 := O2.out.cell 1 2 rfl rfl; have c3 := O2.out.cell 1 3 rfl rfl; have c4 := O2.out.cell 1 4 rfl rfl; have f0 := O2.out.free 1 0 rfl; have f1 := O2.out.free 1 1 rfl; have f2 := O2.out.free 1 2 rfl; have f3 := O2.out.free 1 3 rfl; have f4 := O2.out.free 1 4 rfl; have d0 := O2.out.cell 0 0 rfl rfl; have d1 := O2.out.cell 0 1 rfl rfl; have d2 := O2.out.cell 0 2 rfl rfl; have d3 := O2.out.cell 0 3 rfl rfl; have d4 := O2.out.cell 0 4 rfl rfl
    go_wp2
    refine bodyPost_ret (v := .tuple #[.agg #[.int .i64 0, .int .i64 0, .int .i64 0, .int .i64 0, .bool false], .bool false]) ?_ rfl ⟨rfl, ?_⟩
    · simp [results, Try.results31, go_sem, *]
    · exact ((((((O2.out.set 1 0 (.int .i64 0) rfl).set 1 1 (.int .i64 0) rfl).set 1 2 (.int .i64 0) rfl).set 1 3 (.int .i64 0) rfl).set 1 4 (.bool false) rfl)).grow
  · have hlt := (List.getElem?_eq_some_iff.1 h2).1
    rw [h1] at P
    rw [gt_some h1 h2] at hx
    rw [h1] at hb
    subst hx
    obtain rfl : b = true := hb
    have hlt' : (k : Int) < (len : Int) := by omega
    have h0 : ((k : Int) == -1) = false := by first | (simp; done) | (simp; omega)
    have X := Lib.hid h2
    clear hz hl h1 h2 hlt
    go_enter Try.func31, Try.ntmps31
    go_wp2_with fail
    refine (P.out _ (Z.out.alloc _)).mono ?_
    rintro e u ⟨rfl, g⟩
    have O := Lib.hid (((Own.start w).alloc 44 [.int .i64 0, .int .i64 0, .int .i64 0, .int .i64 0, .bool false]).grown g.out)
    obtain ⟨b1, off1, rfl, hb1, c0, c1, c2, c3, c4⟩ := at5 (Z.out.grown O.out.grow) X.out
    clear g
    generalize w.heap.size = B at *
    have d0 := O.out.cell 0 0 rfl rfl; have d1 := O.out.cell 0 1 rfl rfl; have d2 := O.out.cell 0 2 rfl rfl; have d3 := O.out.cell 0 3 rfl rfl; have d4 := O.out.cell 0 4 rfl rfl; have f0 := O.out.free 0 0 rfl; have f1 := O.out.free 0 1 rfl; have f2 := O.out.free 0 2 rfl; have f3 := O.out.free 0 3 rfl; have f4 := O.out.free 0 4 rfl
    simp only [pv]
    go_wp2
    refine bodyPost_ret (v := .tuple #[.agg #[.int .i64 x.o, .int .i64 x.c, .int .i64 x.n, .int .i64 x.v, .bool x.b], .bool true]) ?_ rfl ⟨rfl, ?_⟩
    · simp [results, Try.results31, go_sem, *]
    · exact ((((((O.out.set 0 0 (.int .i64 x.o) rfl).set 0 1 (.int .i64 x.c) rfl).set 0 2 (.int .i64 x.n) rfl).set 0 3 (.int .i64 x.v) rfl).set 0 4 (.bool x.b) rfl)).grow

end Go.Proofs.Ytfkfobloamambaa.rd
