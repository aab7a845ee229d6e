/- Two floors side by side: what is asked of either, in words of HFlo. -/
import Derived.Test.YtocjbbfeegmkaaaMad3
import Derived.Test.YtocjbbfeegmkaaaAlive13
namespace Go.Proofs.Ytocjbbfeegmkaaa.fl
open Go Go.RowKit Go.Proofs.Ytocjbbfeegmkaaa.base Go.Proofs.Ytocjbbfeegmkaaa.lg Go.Proofs.Ytocjbbfeegmkaaa.ce Go.Proofs.Ytocjbbfeegmkaaa.rf Go.Proofs.Ytocjbbfeegmkaaa.ds Go.Proofs.Ytocjbbfeegmkaaa.mm
set_option linter.unusedVariables false

/-- Of the thing P a part is Q, and what becomes of that part becomes of P what mk says. -/
def Steps (P Q : World → (Nat → Prop) → Prop) (mk : (World → (Nat → Prop) → Prop) → (World → (Nat → Prop) → Prop)) : Prop :=
  ∀ (w0 w : World) (L : Blks), Hold P w0 w L → ∃ A, Q w A ∧ ∀ (Q' : World → (Nat → Prop) → Prop) (w' : World) (A' : Nat → Prop), Q' w' A' → (∀ k, A' k → k < w'.heap.size) → Step A A' w w' → Hold (mk Q') w0 w' L
theorem steps_left {Q S : World → (Nat → Prop) → Prop} (hS : Firm S) : Steps (Pair Q S) Q (fun Q' => Pair Q' S) := fun _ _ _ h => Hold.stepL h hS
theorem steps_right {Q S : World → (Nat → Prop) → Prop} (hS : Firm S) : Steps (Pair S Q) Q (fun Q' => Pair S Q') := fun w0 w L h => by
  obtain ⟨A, q, back⟩ := Hold.stepL (Hold.flip h) hS
  exact ⟨A, q, fun Q' w' A' h1 h2 h3 => Hold.flip (back Q' w' A' h1 h2 h3)⟩

section
variable {P Q : World → (Nat → Prop) → Prop} {w0 w w' : World} {fb n fb2 n2 : Nat} {dl dl2 : List Int} {nx nx2 : Nat → Nat} {ev ev2 : List (Nat → Int)} {C C2 : Core} {R X2 : Blks}

/-- A second floor was made. -/
theorem hf_join (h : HFlo P w0 w fb n dl nx ev C R) (hP : Firm P) (k : Hold Q w w' X2) : HFlo (Pair P Q) w0 w' fb n dl nx ev C (X2 ++ R) := by
  obtain ⟨X, hX, H⟩ := h
  refine ⟨X, hX, ?_⟩
  have J := H.join hP k
  obtain ⟨F, p, hf, o⟩ := J
  exact ⟨F, p, hf, o.comm⟩

/-- The other one in front. -/
theorem hf_turn (h : HFlo P w0 w fb n dl nx ev C (X2 ++ R)) (h2 : FloX fb2 n2 dl2 nx2 ev2 C2 X2) : ∃ X, FloX fb n dl nx ev C X ∧ HFlo P w0 w fb2 n2 dl2 nx2 ev2 C2 (X ++ R) := by
  obtain ⟨X, hX, F, p, hf, o⟩ := h
  exact ⟨X, hX, X2, h2, F, p, hf, o.comm⟩

theorem hf_drop (h : HFlo P w0 w fb n dl nx ev C (X2 ++ R)) : HFlo P w0 w fb n dl nx ev C R := by
  obtain ⟨X, hX, F, p, hf, o⟩ := h
  exact ⟨X, hX, F, p, hf, o.drop (List.Sublist.append (List.Sublist.refl _) (List.sublist_append_right _ _))⟩

/-- One's own slice of numbers. -/
theorem hf_rd (h : HFlo P w0 w fb n dl nx ev C R) (hP : Firm P) {b : Nat} {t : TypeId} {l : List Int} (hk : R[0]? = some (b, t, l.map fun x => .int .i64 x)) : vl.Rd w (some ⟨b, 0, none⟩) l := by
  refine .inr ⟨b, 0, rfl, fun i x hx => ?_⟩
  rw [Nat.zero_add]
  exact h.cell hP 0 i hk (by simp [hx])

theorem note_h (h : HFlo P w0 w fb n dl nx ev C R) (hP : Firm P) (x : Nat → Int) (hm : ev.length < 1000000) :
    Calls Try.prog 7 #[.pointer (some ⟨fb, 0, none⟩), .agg #[.int .i64 (x 0), .int .i64 (x 1), .int .i64 (x 2), .int .i64 (x 3), .int .i64 (x 4), .int .i64 (x 5), .int .i64 (x 6)]] w fun e w' => e = .returned (.tuple #[]) ∧ Hid (HFlo P w0 w' fb n dl nx (ev ++ [x]) C R) := by
  obtain ⟨bb, _, F, back⟩ := h.flo hP
  refine (note_any x hm F).mono ?_
  rintro e w' ⟨rfl, F'⟩
  exact ⟨rfl, back w' nx _ C R F'.out⟩

theorem draw_h (h : HFlo P w0 w fb n dl nx ev C R) (hP : Firm P) (k : Nat) (hk : k < n) (x : Int) (hx : dl[nx k]? = some x) (hx8 : 0 ≤ x ∧ x ≤ 255) :
    Calls Try.prog 15 #[.pointer (some ⟨fb, 0, none⟩), .int .i64 (k : Int)] w fun e w' => e = .returned (.int .i64 x) ∧ Hid (HFlo P w0 w' fb n dl (fun j => if j = k then (nx k + 1) % dl.length else nx j) ev C R) := by
  obtain ⟨bb, _, F, back⟩ := h.flo hP
  refine (draw_eq k k rfl hk x _ hx hx8 rfl F).mono ?_
  rintro e w' ⟨rfl, F'⟩
  exact ⟨rfl, back w' _ ev C R F'.out⟩

theorem draw_none (h : HFlo P w0 w fb n dl nx ev C R) (hP : Firm P) (th : Int) (hz : dl.length = 0) :
    Calls Try.prog 15 #[.pointer (some ⟨fb, 0, none⟩), .int .i64 th] w fun e w' => e = .returned (.int .i64 0) ∧ w = w' :=
  hf_ro h hP fun _ F => draw_out th (.inr (.inr hz)) F

theorem hf_next (h : HFlo P w0 w fb n dl nx ev C R) (k : Nat) (hd : 0 < dl.length) : nx k < dl.length := by
  obtain ⟨X, ⟨da, dc, nb, ea, ec, sw, pb, num, a, LB, LE, h1, h6, hnx, _⟩, _⟩ := h
  exact hnx k hd

/-- Whatever is drawn. -/
theorem draw_any_h (h : HFlo P w0 w fb n dl nx ev C R) (hP : Firm P) (k : Nat) (hk : k < n) (h8 : ∀ (i : Nat) (x : Int), dl[i]? = some x → 0 ≤ x ∧ x ≤ 255) :
    Calls Try.prog 15 #[.pointer (some ⟨fb, 0, none⟩), .int .i64 (k : Int)] w fun e w' => ∃ x nx', e = .returned (.int .i64 x) ∧ Hid (HFlo P w0 w' fb n dl nx' ev C R) := by
  by_cases hz : dl.length = 0
  · refine (draw_none h hP k hz).mono ?_
    rintro e w' ⟨rfl, rfl⟩
    exact ⟨0, nx, rfl, h⟩
  · have hlt := hf_next h k (by omega)
    have hx : dl[nx k]? = some dl[nx k] := List.getElem?_eq_getElem hlt
    refine (draw_h h hP k hk _ hx (h8 _ _ hx)).mono ?_
    rintro e w' ⟨rfl, H'⟩
    exact ⟨_, _, rfl, H'⟩

theorem gswap_h (h : HFlo P w0 w fb n dl nx ev C R) (hP : Firm P) (st th : Int) (h0 : 0 ≤ st) (h1 : st ≤ 1099511627776) (h2 : 0 ≤ th) (h3 : th < n) (hb : C.b = false) (hs : C.s = 0) (ht : C.t = 0) (hA : C.A ≤ 999999) :
    Calls Try.prog 38 #[.pointer (some ⟨C.g, 0, none⟩), .agg #[.bool false, .int .i64 0, .int .i64 0, .int .i64 0], .int .i64 st, .int .i64 th] w fun e w' => e = .returned (.bool true) ∧ Hid (HFlo P w0 w' fb n dl nx ev { C with b := true, s := st, t := th, A := C.A + 1 } R) := by
  obtain ⟨bb, _, F, back⟩ := h.flo hP
  obtain ⟨R', G, gb⟩ := flo_gate F
  rw [hb, hs, ht] at G
  refine (gate.swap_hits 0 st th h0 h1 h2 h3 hA w G).mono ?_
  rintro e w' ⟨rfl, G'⟩
  exact ⟨rfl, back w' nx ev _ R (gb w' true st th C.z (C.A + 1) G'.out)⟩

theorem pulse_h (h : HFlo P w0 w fb n dl nx ev C R) (hP : Firm P) (k : Nat) (hk : k < n) :
    Calls Try.prog 39 #[.pointer (some ⟨C.g, 0, none⟩), .int .i64 (k : Int)] w fun e w' => e = .returned (.int .i64 (C.z k)) ∧ w = w' := by
  obtain ⟨bb, _, F, back⟩ := h.flo hP
  obtain ⟨R', G, gb⟩ := flo_gate F
  exact gate.pulse_in k hk w G
end

section
variable {P : World → (Nat → Prop) → Prop} {mk : (World → (Nat → Prop) → Prop) → (World → (Nat → Prop) → Prop)} {w0 w : World} {fb n : Nat} {dl : List Int} {nx : Nat → Nat} {ev : List (Nat → Int)} {C : Core} {R : Blks} {b0 cb tb ab : Nat} {r : Int} {rs : List ar.Rc} {hd : List Int} {dm : Nat} {is : Int → Bool} {num : Int → Nat → Int} {B : Int}

theorem begin_s (h : HFlo P w0 w fb n dl nx ev C R) (st : Steps P (CelP b0 cb tb ab r rs hd dm is num B) mk) (hB : B ≤ 900000) (hroom : r ≤ 4096) (h0 : 0 ≤ B) (N : Nat) (hn : rs.length = N) (hl : (N : Int) < r) (hm : dm ≤ 4096) (hid : is N = false) :
    Calls Try.prog 32 #[.pointer (some ⟨tb, 0, none⟩), .int .i64 0, .int .i64 0, .int .i64 0, .int .i64 0, .int .i64 0] w fun e w' => e = .returned (.tuple #[.int .i64 N, .int .i64 0]) ∧
      Hid (HFlo (mk (CelP b0 cb tb ab r (rs ++ [⟨3, 0, 0, 0, 0, 0, 0, 0, 0⟩]) hd (dm + 1) (more is N true) (more num N (fun c => if c = 0 then 1 else if c = 1 then 0 else 0)) (B + 100))) w0 w' fb n dl nx ev C R) := by
  obtain ⟨X, hX, H⟩ := h
  obtain ⟨A, c, back⟩ := st _ _ _ H
  refine (cells_begin b0 cb tb ab dm r rs hd is num B A w c hB hroom h0 0 0 0 0 0 N hn hl hm hid (by omega)).mono ?_
  rintro e w' ⟨F', rfl, c', s'⟩
  exact ⟨rfl, X, hX, back _ w' F' c'.out (fun k hk => (Cel.foot c'.out k hk).2) s'.out⟩

theorem version_s (h : HFlo P w0 w fb n dl nx ev C R) (st : Steps P (CelP b0 cb tb ab r rs hd dm is num B) mk) (hB : B ≤ 900000) (hroom : r ≤ 4096) (v : Int) (N : Nat) (hn : rs.length = N) (hl : (N : Int) < r) :
    Calls Try.prog 33 #[.pointer (some ⟨cb, 0, none⟩), .int .i64 v] w fun e w' => e = .returned (.tuple #[.int .i64 N, .int .i64 0]) ∧ Hid (HFlo (mk (CelP b0 cb tb ab r (rs ++ [⟨1, v, 0, 0, 0, 0, 0, 0, 0⟩]) hd dm is num (B + 100))) w0 w' fb n dl nx ev C R) := by
  obtain ⟨X, hX, H⟩ := h
  obtain ⟨A, c, back⟩ := st _ _ _ H
  refine (cells_version b0 cb tb ab dm r rs hd is num B A w c hB hroom v N hn hl).mono ?_
  rintro e w' ⟨F', rfl, c', s'⟩
  exact ⟨rfl, X, hX, back _ w' F' c'.out (fun k hk => (Cel.foot c'.out k hk).2) s'.out⟩

theorem load_s (h : HFlo P w0 w fb n dl nx ev C R) (st : Steps P (CelP b0 cb tb ab r rs hd dm is num B) mk) (hB : B ≤ 900000) (hroom : r ≤ 4096) (j : Nat) (p : Int) (hp : hd[j]? = some p) :
    Calls Try.prog 34 #[.pointer (some ⟨cb, 0, none⟩), .int .i64 j] w fun e w' => e = .returned (.tuple #[.int .i64 p, .int .i64 0]) ∧ Hid (HFlo (mk (CelP b0 cb tb ab r rs hd dm is num (B + 100))) w0 w' fb n dl nx ev C R) := by
  obtain ⟨X, hX, H⟩ := h
  obtain ⟨A, c, back⟩ := st _ _ _ H
  refine (cells_load b0 cb tb ab dm r rs hd is num B A w c hB hroom j p hp).mono ?_
  rintro e w' ⟨rfl, c', s'⟩
  exact ⟨rfl, X, hX, back _ w' A c'.out (fun k hk => (Cel.foot c'.out k hk).2) s'.out⟩

theorem build_s (h : HFlo P w0 w fb n dl nx ev C R) (st : Steps P (CelP b0 cb tb ab r rs hd dm is num B) mk) (hB : B ≤ 900000) (hroom : r ≤ 4096) (o p q : Int) (ho : -1 ≤ o) (hp : IsK rs p 1) (hq : IsK rs q 1) (N : Nat) (hn : rs.length = N) (hl : (N : Int) < r) :
    Calls Try.prog 35 #[.pointer (some ⟨cb, 0, none⟩), .int .i64 o, .int .i64 p, .int .i64 q] w fun e w' => e = .returned (.tuple #[.int .i64 N, .int .i64 0]) ∧ Hid (HFlo (mk (CelP b0 cb tb ab r (rs ++ [⟨2, 0, o, p, q, 0, 0, 0, 0⟩]) hd dm is num (B + 100))) w0 w' fb n dl nx ev C R) := by
  obtain ⟨X, hX, H⟩ := h
  obtain ⟨A, c, back⟩ := st _ _ _ H
  refine (cells_build b0 cb tb ab dm r rs hd is num B A w c hB hroom o p q ho hp hq N hn hl).mono ?_
  rintro e w' ⟨F', rfl, c', s'⟩
  exact ⟨rfl, X, hX, back _ w' F' c'.out (fun k hk => (Cel.foot c'.out k hk).2) s'.out⟩

theorem cswap_s (h : HFlo P w0 w fb n dl nx ev C R) (st : Steps P (CelP b0 cb tb ab r rs hd dm is num B) mk) (hB : B ≤ 900000) (hroom : r ≤ 4096) (j : Nat) (p new : Int) (hp : hd[j]? = some p) :
    Calls Try.prog 36 #[.pointer (some ⟨cb, 0, none⟩), .int .i64 j, .int .i64 p, .int .i64 new] w fun e w' => e = .returned (.bool true) ∧ Hid (HFlo (mk (CelP b0 cb tb ab r rs (hd.set j new) dm is num (B + 100))) w0 w' fb n dl nx ev C R) := by
  obtain ⟨X, hX, H⟩ := h
  obtain ⟨A, c, back⟩ := st _ _ _ H
  refine (cells_swap b0 cb tb ab dm r rs hd is num B A w c hB hroom j p p new hp).mono ?_
  rintro e w' ⟨rfl, c', s'⟩
  have hpp : (p == p) = true := by simp
  rw [hpp] at c' ⊢
  rw [if_pos rfl] at c'
  exact ⟨rfl, X, hX, back _ w' A c'.out (fun k hk => (Cel.foot c'.out k hk).2) s'.out⟩

theorem turn_s (h : HFlo P w0 w fb n dl nx ev C R) (st : Steps P (CelP b0 cb tb ab r rs hd dm is num B) mk) (hB : B ≤ 900000) (hroom : r ≤ 4096) (id tt : Int) (hw : (Lit.int .i64 id).wf = true) (ht : turns is num id tt = true) :
    Calls Try.prog 37 #[.pointer (some ⟨tb, 0, none⟩), .int .i64 id, .int .i64 tt] w fun e w' => e = .returned (.bool true) ∧ Hid (HFlo (mk (CelP b0 cb tb ab r rs hd dm is (upd num id 0 tt) (B + 100))) w0 w' fb n dl nx ev C R) := by
  obtain ⟨X, hX, H⟩ := h
  obtain ⟨A, c, back⟩ := st _ _ _ H
  refine (cells_turn b0 cb tb ab dm r rs hd is num B A w c hB hroom id tt hw).mono ?_
  rintro e w' ⟨F', rfl, c', s'⟩
  rw [ht] at c' ⊢
  rw [if_pos rfl] at c'
  exact ⟨rfl, X, hX, back _ w' F' c'.out (fun k hk => (Cel.foot c'.out k hk).2) s'.out⟩

theorem values_s (h : HFlo P w0 w fb n dl nx ev C R) (hP : Firm P) (hc : C.cb = cb) (ht : C.tb = tb) (st : Steps P (CelP b0 cb tb ab r rs hd dm is num B) mk) (hB : B ≤ 900000) (hroom : r ≤ 4096) (l : List Int) (N : Nat) (hn : hd.length = N) (hl : l.length = N) (h8 : N ≤ 8) (hv : ∀ j, j < N → ∃ y, ValAt rs hd is num j y ∧ l[j]? = some y.val) :
    Calls Try.prog 17 #[.pointer (some ⟨fb, 0, none⟩)] w fun e w' => ∃ a c, e = .returned (.slice a N c) ∧ Hid (vl.Rd w' a l) ∧ Hid (HFlo (mk (CelP b0 cb tb ab r rs hd dm is num (B + 100))) w0 w' fb n dl nx ev C R) := by
  subst hc ht
  obtain ⟨bb, _, F, _⟩ := h.flo hP
  obtain ⟨X, hX, H⟩ := h.drew hP
  obtain ⟨A, c, back⟩ := st _ _ _ H
  refine values_of F (fun e w' ⟨a, q, he, _⟩ => ⟨a, N, q, he⟩) ((cells_all b0 C.cb C.tb ab dm r rs hd is num B A w.drew c hB hroom l N hn hl h8 hv).mono ?_)
  rintro e w' ⟨a, q, rfl, hr, _, hc, hs⟩
  exact ⟨a, q, rfl, hr, X, hX, back _ w' A hc.out (fun k hk => (Cel.foot hc.out k hk).2) hs.out⟩

theorem cel_s (h : HFlo P w0 w fb n dl nx ev C R) (st : Steps P (CelP b0 cb tb ab r rs hd dm is num B) mk) : ∃ F, Cel b0 w cb tb ab r rs hd dm is num B F := by
  obtain ⟨X, hX, H⟩ := h
  obtain ⟨A, c, _⟩ := st _ _ _ H
  exact ⟨A, c⟩
end

end Go.Proofs.Ytocjbbfeegmkaaa.fl
