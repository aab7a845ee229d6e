/- What is asked of a floor with its cells, in words of HFlo. -/
import Derived.Test.YtocjbbfeegmkaaaMad2
namespace Go.Proofs.Ytocjbbfeegmkaaa.fl
open Go Go.RowKit Go.Proofs.Ytocjbbfeegmkaaa.base Go.Proofs.Ytocjbbfeegmkaaa.lg Go.Proofs.Ytocjbbfeegmkaaa.ce Go.Proofs.Ytocjbbfeegmkaaa.rf
set_option linter.unusedVariables false

theorem hold_nil {w0 : Bas} {w : World} {L : Blks} {b : World} (h : base.Own ⟨b, fun _ => none⟩ w L) : Hold Nil b w L := by
  have e : keptOf (fun _ => False) w = fun _ => none := by funext k; simp [keptOf]
  exact ⟨fun _ => False, rfl, fun _ h => h.elim, by rw [e]; exact h⟩

section
variable {P : World → (Nat → Prop) → Prop} {w0 w w' : World} {fb n : Nat} {ds : List Int} {nx : Nat → Nat} {ev : List (Nat → Int)} {C : Core} {R : Blks}

/-- A floor that was made beside one's own blocks. -/
theorem hf_new {b u : World} {X R : Blks} {Q : World → (Nat → Prop) → Prop} (o : base.Own ⟨b, fun _ => none⟩ u R) (hX : FloX fb n ds nx ev C X) (k : Hold Q u w' X) : HFlo Q b w' fb n ds nx ev C R :=
  ⟨X, hX, hold_strip ((hold_nil (w0 := ⟨b, fun _ => none⟩) o).join Firm.nil k)⟩

theorem hf_ro (h : HFlo P w0 w fb n ds nx ev C R) (hP : Firm P) {f : FuncId} {args : Array Value} {post : Ending → World → Prop} (hc : ∀ bb : Bas, Flo bb w fb n ds nx ev C R → Calls Try.prog f args w post) : Calls Try.prog f args w post := by
  obtain ⟨bb, _, F, _⟩ := h.flo hP
  exact hc bb F

theorem see_h (h : HFlo P w0 w fb n ds nx ev C R) (hP : Firm P) (hb : C.b = false) (hA : C.A ≤ 999999) : Calls Try.prog 27 #[.pointer (some ⟨C.g, 0, none⟩)] w fun e w' => e = .returned (.agg #[.bool false, .int .i64 0, .int .i64 0, .int .i64 0]) ∧ Hid (HFlo P w0 w' fb n ds nx ev { C with A := C.A + 1 } R) := by
  obtain ⟨bb, _, F, back⟩ := h.flo hP
  obtain ⟨R', G, gb⟩ := flo_gate F
  rw [hb] at G
  refine (gate.see_none w G hA).mono ?_
  rintro e w' ⟨rfl, G'⟩
  have X := gb w' false C.s C.t C.z (C.A + 1) G'.out
  refine ⟨rfl, back w' nx ev _ R ?_⟩
  have e1 : ({ C with b := false, s := C.s, t := C.t, z := C.z, A := C.A + 1 } : Core) = { C with A := C.A + 1 } := by rw [← hb]
  rw [e1] at X
  exact X

theorem take_h (h : HFlo P w0 w fb n ds nx ev C R) (hP : Firm P) (l : 0 ≤ C.tkn) (u : C.tkn < C.k) (v : C.k ≤ 255) : Calls Try.prog 28 #[.pointer (some ⟨C.tk, 0, none⟩)] w fun e w' => e = .returned (.tuple #[.int .i64 C.tkn, .int .i64 0]) ∧ Hid (HFlo P w0 w' fb n ds nx ev { C with tkn := C.tkn + 1 } R) := by
  obtain ⟨bb, _, F, back⟩ := h.flo hP
  refine (flo_take F l u v).mono ?_
  rintro e w' ⟨rfl, F'⟩
  exact ⟨rfl, back w' nx ev _ R F'.out⟩

theorem take_end_h (h : HFlo P w0 w fb n ds nx ev C R) (hP : Firm P) (u : C.k ≤ C.tkn) : Calls Try.prog 28 #[.pointer (some ⟨C.tk, 0, none⟩)] w fun e w' => e = .returned (.tuple #[.int .i64 0, .int .i64 5]) ∧ Hid (HFlo P w0 w' fb n ds nx ev C R) := by
  obtain ⟨bb, _, F, back⟩ := h.flo hP
  refine (flo_take_end F u).mono ?_
  rintro e w' ⟨rfl, F'⟩
  exact ⟨rfl, back w' nx ev _ R F'.out⟩

theorem beat_in_h (h : HFlo P w0 w fb n ds nx ev C R) (hP : Firm P) (k : Nat) (hk : k < n) (hz : -9223372036854775808 ≤ C.z k) (hz1 : C.z k ≤ 9223372036854775806) : Calls Try.prog 29 #[.pointer (some ⟨C.g, 0, none⟩), .int .i64 (k : Int)] w fun e w' => e = .returned (.int .i64 0) ∧ Hid (HFlo P w0 w' fb n ds nx ev { C with z := fun j => if j = k then C.z k + 1 else C.z j } R) := by
  obtain ⟨bb, _, F, back⟩ := h.flo hP
  obtain ⟨R', G, gb⟩ := flo_gate F
  refine (gate.beat_in k hk hz hz1 w G).mono ?_
  rintro e w' ⟨rfl, G'⟩
  exact ⟨rfl, back w' nx ev _ R (gb w' C.b C.s C.t _ C.A G'.out)⟩

theorem beat_out_h (h : HFlo P w0 w fb n ds nx ev C R) (hP : Firm P) (th : Int) (ht : th < 0 ∨ (n : Int) ≤ th) : Calls Try.prog 29 #[.pointer (some ⟨C.g, 0, none⟩), .int .i64 th] w fun e w' => e = .returned (.int .i64 6) ∧ w = w' := by
  obtain ⟨bb, _, F, back⟩ := h.flo hP
  obtain ⟨R', G, gb⟩ := flo_gate F
  exact gate.beat_out th ht w G

theorem trace_h (h : HFlo P w0 w fb n ds nx ev C R) (hP : Firm P) (hm : ev.length ≤ 1000000) : Calls Try.prog 16 #[.pointer (some ⟨fb, 0, none⟩)] w fun e w' => ∃ a c, e = .returned (.slice a ev.length c) ∧ Hid (HFlo P w0 w' fb n ds nx ev C R) := by
  obtain ⟨bb, _, F, back⟩ := h.flo hP
  refine (trace_any hm F).mono ?_
  rintro e w' ⟨a, c, L, rfl, _, F'⟩
  exact ⟨a, c, rfl, back w' nx ev _ R (Has.drop F'.out (List.sublist_append_right _ _))⟩
end

section
variable {b0 : Nat} {rs : List ar.Rc} {hd : List Int} {dm : Nat} {is : Int → Bool} {num : Int → Nat → Int} {B : Int} {w0 w : World} {fb n : Nat} {ds : List Int} {nx : Nat → Nat} {ev : List (Nat → Int)} {C : Core} {R : Blks}

theorem hf_cel (h : HFlo (CelP b0 C.cb C.tb C.ab C.r rs hd dm is num B) w0 w fb n ds nx ev C R) : ∃ F, Cel b0 w C.cb C.tb C.ab C.r rs hd dm is num B F := by
  obtain ⟨X, hX, F, c, _⟩ := h
  exact ⟨F, c⟩

theorem values_h (h : HFlo (CelP b0 C.cb C.tb C.ab C.r rs hd dm is num B) w0 w fb n ds nx ev C R) (hB : B ≤ 900000) (hroom : C.r ≤ 4096) (l : List Int) (N : Nat) (hn : hd.length = N) (hl : l.length = N) (h8 : N ≤ 8) (hv : ∀ j, j < N → ∃ y, ValAt rs hd is num j y ∧ l[j]? = some y.val) :
    Calls Try.prog 17 #[.pointer (some ⟨fb, 0, none⟩)] w fun e w' => ∃ a c, e = .returned (.slice a N c) ∧ Hid (vl.Rd w' a l) ∧ Hid (HFlo (CelP b0 C.cb C.tb C.ab C.r rs hd dm is num (B + 100)) w0 w' fb n ds nx ev C R) := by
  obtain ⟨bb, _, F, _⟩ := h.flo firm_cel
  obtain ⟨X, hX, H⟩ := h.drew firm_cel
  obtain ⟨A, c, back⟩ := Hold.stepP H
  refine values_of F (fun e w' ⟨a, q, he, _⟩ => ⟨a, N, q, he⟩) ((cells_all b0 C.cb C.tb C.ab dm C.r rs hd is num B A w.drew c hB hroom l N hn hl h8 hv).mono ?_)
  rintro e w' ⟨a, q, rfl, hr, _, hc, hs⟩
  exact ⟨a, q, rfl, hr, X, hX, back _ w' A hc.out (fun k hk => (Cel.foot hc.out k hk).2) hs.out⟩
end

end Go.Proofs.Ytocjbbfeegmkaaa.fl
