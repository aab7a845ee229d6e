/- What the statement CellsActs holds at the head of each round: the code's cells and the document's tell the same; and the contract of 'looks'. -/
import Derived.Test.YticlmcoegcfanaaMade04
import Derived.Test.YticlmcoegcfanaaCellsLem
import Derived.Test.YticlmcoegcfanaaEqRec
namespace Go.Proofs.Yticlmcoegcfanaa.acts
open Go Go.RowKit Go.Proofs.Yticlmcoegcfanaa.base Go.Proofs.Yticlmcoegcfanaa.ar Go.Proofs.Yticlmcoegcfanaa.ds Go.Proofs.Yticlmcoegcfanaa.rf Go.Proofs.Yticlmcoegcfanaa.mm Go.Proofs.Yticlmcoegcfanaa.vl Go.Proofs.Yticlmcoegcfanaa.ce
set_option linter.unusedVariables false

theorem more_ {rs t : List Rc} {k q : Int} (h : IsK rs k q) : IsK (rs ++ t) k q := by
  obtain ⟨x, hx, hk⟩ := h
  obtain ⟨n, rfl, hn⟩ := recAt_some hx
  have := (List.getElem?_eq_some_iff.1 hn).1
  exact ⟨x, by rw [recAt_left _ _ _ (by omega)]; exact hx, hk⟩
theorem recAt_snoc {rs : List Rc} {y x : Rc} {p : Int} (h : recAt (rs ++ [y]) p = some x) : recAt rs p = some x ∨ (p = rs.length ∧ x = y) := by
  by_cases hp : p < rs.length
  · rw [recAt_left _ _ _ hp] at h
    exact .inl h
  · rw [recAt_right _ _ _ (by omega)] at h
    obtain ⟨n, hn, hx⟩ := recAt_some h
    cases n with
    | zero => exact .inr ⟨by omega, by simpa using hx.symm⟩
    | succ n => simp at hx
theorem isK_snoc (rs : List Rc) (y : Rc) : IsK (rs ++ [y]) rs.length y.kind := ⟨y, by rw [recAt_nat]; simp, rfl⟩
theorem isK_snoc_iff (rs : List Rc) (y : Rc) (k : Int) (hk : k ≠ rs.length) (q : Int) : IsK (rs ++ [y]) k q ↔ IsK rs k q := by
  refine ⟨fun ⟨x, hx, hq⟩ => ?_, more_⟩
  rcases recAt_snoc hx with h | ⟨h, _⟩
  · exact ⟨x, h, hq⟩
  · exact absurd h hk

/-- The two tell the same. -/
structure Inv (N : Int) (L : Nat) (rs : List Rc) (hd : List Int) (m : Nat) (is : Int → Bool) (num : Int → Nat → Int) (st : Int → Option Int) : Prop where
  len : hd.length = L
  fits : (rs.length : Int) ≤ N
  hds : ∀ (j : Nat) (p : Int), hd[j]? = some p → IsK rs p 2
  loc : ∀ (p : Int) (x : Rc), recAt rs p = some x → x.kind = 2 → (Lit.int .i64 x.owner).wf = true ∧ IsK rs x.old 1 ∧ IsK rs x.new 1
  ids : ∀ j, is j = true → 0 ≤ j ∧ j < rs.length
  cnt : m ≤ rs.length
  sts : ∀ j, st j = if is j then some (num j 0) else none

section
variable {N : Int} {L : Nat} {rs : List Rc} {hd : List Int} {m : Nat} {is : Int → Bool} {num : Int → Nat → Int} {st : Int → Option Int}
theorem Inv.stat (h : Inv N L rs hd m is num st) (j : Int) : stat st j = stt is num j := by
  unfold rf.stat stt
  rw [h.sts j]
  split <;> rfl
theorem Inv.val (h : Inv N L rs hd m is num st) {j : Nat} (hj : j < L) : ∃ (p : Int) (x y : Rc), hd[j]? = some p ∧ recAt rs p = some x ∧ x.kind = 2 ∧ (Lit.int .i64 x.owner).wf = true ∧ recAt rs (rsv x (stt is num x.owner)) = some y ∧ y.kind = 1 := by
  obtain ⟨p, hp⟩ : ∃ p, hd[j]? = some p := ⟨_, List.getElem?_eq_getElem (by have := h.len; omega)⟩
  obtain ⟨x, hx, hk⟩ := h.hds j p hp
  obtain ⟨h1, ⟨yo, h2, h2'⟩, ⟨yn, h3, h3'⟩⟩ := h.loc p x hx hk
  by_cases hc : x.owner = -1 ∨ stt is num x.owner = 2
  · exact ⟨p, x, yn, hp, hx, hk, h1, by rw [show rsv x (stt is num x.owner) = x.new by simp [rsv, hk, hc]]; exact h3, h3'⟩
  · exact ⟨p, x, yo, hp, hx, hk, h1, by rw [show rsv x (stt is num x.owner) = x.old by simp [rsv, hk, hc]]; exact h2, h2'⟩
theorem Inv.vals (h : Inv N L rs hd m is num st) : ∃ l : List Int, l.length = L ∧ Have rs hd st hd.length l ∧ ∀ j, j < L → ∃ y, ValAt rs hd is num j y ∧ l[j]? = some y.val := by
  have hv : ∀ j : Nat, ∃ v : Int, j < L → ∃ (p : Int) (x y : Rc), hd[j]? = some p ∧ recAt rs p = some x ∧ x.kind = 2 ∧ (Lit.int .i64 x.owner).wf = true ∧ recAt rs (rsv x (stt is num x.owner)) = some y ∧ y.kind = 1 ∧ y.val = v := fun j => by
    by_cases hj : j < L
    · obtain ⟨p, x, y, h1, h2, h3, h4, h5, h6⟩ := h.val hj
      exact ⟨y.val, fun _ => ⟨p, x, y, h1, h2, h3, h4, h5, h6, rfl⟩⟩
    · exact ⟨0, fun h => absurd h hj⟩
  obtain ⟨f, hf⟩ : ∃ f : Nat → Int, ∀ j, j < L → ∃ (p : Int) (x y : Rc), hd[j]? = some p ∧ recAt rs p = some x ∧ x.kind = 2 ∧ (Lit.int .i64 x.owner).wf = true ∧ recAt rs (rsv x (stt is num x.owner)) = some y ∧ y.kind = 1 ∧ y.val = f j := Classical.axiomOfChoice hv
  refine ⟨(List.range L).map f, by simp, ⟨by simp [h.len], fun i hi => ?_⟩, fun j hj => ?_⟩
  · have hi' : i < L := by have := h.len; omega
    obtain ⟨p, x, y, h1, h2, h3, h4, h5, h6, h7⟩ := hf i hi'
    obtain ⟨q, rfl, hq⟩ := recAt_some h2
    obtain ⟨r, hr, hr'⟩ := recAt_some h5
    exact ⟨q, r, x, y, h1, hq, h4, by rw [h.stat]; exact hr, hr', by simp [hi', h7]⟩
  · obtain ⟨p, x, y, h1, h2, h3, h4, h5, h6, h7⟩ := hf j hj
    exact ⟨y, ⟨p, x, h1, h2, h3, h4, h5, h6⟩, by simp [hj, h7]⟩

theorem Inv.start (z : Nat → Int) (hN : 2 * (L : Int) ≤ N) : Inv N L (firsts z L) (heads L) 0 (fun _ => false) (fun _ _ => 0) (fun _ => none) := by
  have hl := firsts_length z L
  refine ⟨heads_length L, by omega, fun j p hp => ?_, fun p x hx hk => ?_, fun j hj => by (cases hj), by omega, fun j => rfl⟩
  · have hj : j < L := by have := (List.getElem?_eq_some_iff.1 hp).1; rwa [heads_length] at this
    rw [heads_get L j hj] at hp
    obtain rfl : 2 * (j : Int) + 1 = p := by simpa using hp
    have := (recAt_twos (fun i => ⟨1, z i, 0, 0, 0, 0, 0, 0, 0⟩) (fun i => ⟨2, 0, -1, 2 * i, 2 * i, 0, 0, 0, 0⟩) L j hj).2
    exact ⟨_, this, rfl⟩
  · obtain ⟨n, rfl, hn⟩ := recAt_some hx
    have hnl := (List.getElem?_eq_some_iff.1 hn).1
    obtain ⟨i, hi⟩ : ∃ i, n = 2 * i ∨ n = 2 * i + 1 := ⟨n / 2, by omega⟩
    have hiL : i < L := by omega
    have h2 := twos_get (fun i => ⟨1, z i, 0, 0, 0, 0, 0, 0, 0⟩) (fun i => ⟨2, 0, -1, 2 * i, 2 * i, 0, 0, 0, 0⟩) L i hiL
    have h3 := (recAt_twos (fun i => ⟨1, z i, 0, 0, 0, 0, 0, 0, 0⟩) (fun i => ⟨2, 0, -1, 2 * i, 2 * i, 0, 0, 0, 0⟩) L i hiL).1
    rw [← firsts_twos] at h2 h3
    rcases hi with rfl | rfl
    · rw [h2.1] at hn
      cases hn
      cases hk
    · rw [h2.2] at hn
      cases hn
      exact ⟨(by decide : (Lit.int .i64 (-1)).wf = true), ⟨_, h3, rfl⟩, ⟨_, h3, rfl⟩⟩

/-- A record more, that is no descriptor. -/
theorem Inv.put (h : Inv N L rs hd m is num st) (hl : (rs.length : Int) < N) (y : Rc) (hy : y.kind = 2 → (Lit.int .i64 y.owner).wf = true ∧ IsK rs y.old 1 ∧ IsK rs y.new 1) : Inv N L (rs ++ [y]) hd m is num st := by
  have e : (rs ++ [y]).length = rs.length + 1 := by simp
  refine ⟨h.len, by omega, fun j p hp => more_ (h.hds j p hp), fun p x hx hk => ?_, fun j hj => by have := h.ids j hj; omega, by have := h.cnt; omega, h.sts⟩
  rcases recAt_snoc hx with h1 | ⟨_, rfl⟩
  · obtain ⟨a, b, c⟩ := h.loc p x h1 hk
    exact ⟨a, more_ b, more_ c⟩
  · obtain ⟨a, b, c⟩ := hy hk
    exact ⟨a, more_ b, more_ c⟩
theorem Inv.fresh (h : Inv N L rs hd m is num st) : is rs.length = false := by
  by_cases e : is rs.length = true
  · have := h.ids _ e; omega
  · simpa using e
theorem Inv.begin (h : Inv N L rs hd m is num st) (hl : (rs.length : Int) < N) (y : Rc) (hy : y.kind ≠ 2) (f : Nat → Int) (n : Int) (hn : n = rs.length) : Inv N L (rs ++ [y]) hd (m + 1) (more is n true) (more num n f) (fun j => if j = n then some (f 0) else st j) := by
  subst hn
  have h2 := h.put hl y (fun e => absurd e hy)
  have e : (rs ++ [y]).length = rs.length + 1 := by simp
  refine ⟨h2.len, h2.fits, h2.hds, h2.loc, fun j hj => ?_, by have := h.cnt; omega, fun j => ?_⟩
  · by_cases ej : j = (rs.length : Int)
    · subst ej; exact ⟨by omega, by omega⟩
    · exact h2.ids j (by simpa [more, ej] using hj)
  · by_cases ej : j = (rs.length : Int)
    · subst ej; simp [more]
    · simp [more, ej, h.sts j]
theorem Inv.turn (h : Inv N L rs hd m is num st) (id to : Int) (hi : is id = true) : Inv N L rs hd m is (upd num id 0 to) (fun j => if j = id then some to else st j) := by
  refine ⟨h.len, h.fits, h.hds, h.loc, h.ids, h.cnt, fun j => ?_⟩
  by_cases ej : j = id
  · subst ej; simp [hi, upd]
  · simp [ej, upd, h.sts j]
theorem Inv.swap (h : Inv N L rs hd m is num st) (j : Nat) (q : Int) (hq : IsK rs q 2) : Inv N L rs (hd.set j q) m is num st := by
  refine ⟨by rw [List.length_set]; exact h.len, h.fits, fun k p hp => ?_, h.loc, h.ids, h.cnt, h.sts⟩
  by_cases e : k = j
  · subst e
    have hk : k < hd.length := by have := (List.getElem?_eq_some_iff.1 hp).1; rwa [List.length_set] at this
    rw [List.getElem?_set_self hk] at hp
    obtain rfl : q = p := by simpa using hp
    exact hq
  · rw [List.getElem?_set_ne (fun e2 => e e2.symm)] at hp
    exact h.hds k p hp
end

theorem ref_is_yes (base vb sb : Nat) (N : Int) (rs : List Rc) (at_ : List Int) (m : Nat) (st : Int → Option Int) (F : Nat → Prop) (w : World) (h : RefC base w vb sb N rs at_ m st F) (k q : Int) (hm : rs.length ≤ 4096) (hk : IsK rs k q) : Calls Try.prog 16 #[.pointer (some ⟨vb, 0, none⟩), .int .i64 k, .int .i64 q] w fun e w' => e = .returned (.bool true) ∧ w = w' := by
  obtain ⟨x, hx, hq⟩ := hk
  obtain ⟨n, rfl, hn⟩ := recAt_some hx
  refine (ref_is_in base vb sb N rs at_ m st F w h n q x hn hm).mono ?_
  rintro e w' ⟨rfl, rfl⟩
  exact ⟨by simp [hq], rfl⟩

theorem ref_is_no (base vb sb : Nat) (N : Int) (rs : List Rc) (at_ : List Int) (m : Nat) (st : Int → Option Int) (F : Nat → Prop) (w : World) (h : RefC base w vb sb N rs at_ m st F) (k q : Int) (hm : rs.length ≤ 4096) (hk : ¬ IsK rs k q) : Calls Try.prog 16 #[.pointer (some ⟨vb, 0, none⟩), .int .i64 k, .int .i64 q] w fun e w' => e = .returned (.bool false) ∧ w = w' := by
  cases hx : recAt rs k with
  | none => exact ref_is_out base vb sb N rs at_ m st F w h k q (recAt_none hx)
  | some x =>
    obtain ⟨n, rfl, hn⟩ := recAt_some hx
    refine (ref_is_in base vb sb N rs at_ m st F w h n q x hn hm).mono ?_
    rintro e w' ⟨rfl, rfl⟩
    exact ⟨by simpa using (fun e => hk ⟨x, hx, e⟩), rfl⟩
end Go.Proofs.Yticlmcoegcfanaa.acts
