/- Package cells: all objects' values; new cells. -/
import Derived.Test.YtnaagcofgnmmlaaCelD
namespace Go.Proofs.Ytnaagcofgnmmlaa.ce
open Go Go.RowKit Go.Proofs.Ytnaagcofgnmmlaa.base Go.Proofs.Ytnaagcofgnmmlaa.ar Go.Proofs.Ytnaagcofgnmmlaa.wd Go.Proofs.Ytnaagcofgnmmlaa.rf Go.Proofs.Ytnaagcofgnmmlaa.mm Go.Proofs.Ytnaagcofgnmmlaa.vl Go.Proofs.Ytnaagcofgnmmlaa.ds
set_option linter.unusedVariables false

section
variable {base : Nat} {w w' : World} {cb tb ab m : Nat} {room : Int} {rs : List Rc} {hd : List Int} {is : Int → Bool} {num : Int → Nat → Int} {B : Int} {F : Nat → Prop}
/-- A step that changes a block that is new. -/
theorem Step.over {F F' : Nat → Prop} {w w' w'' : World} {r : Option Nat} (h : Step F F' w w') (k : w'.grownBy w'' r) (hr : ∀ i, r = some i → w.heap.size ≤ i) : Step F F' w w'' :=
  ⟨⟨k.os.trans h.only.os, k.tape.trans h.only.tape, k.output.trans h.only.output, Nat.le_trans h.only.size k.size, fun i hi hn => (k.block i (Nat.lt_of_lt_of_le hi h.only.size) (fun e => by have := hr i e.symm; omega)).trans (h.only.block i hi hn)⟩, h.foot⟩

/-- One object more. -/
theorem Cel.view (h : Cel base w cb tb ab room rs hd m is num B F) (h0 : 0 ≤ B) : ∃ r wb, CelC base w cb ab hd B r wb ∧
    ∀ (w' w'' : World) (b : Nat) (p : Int) (r' : Option Nat), w.grownBy w' none → w.heap.size ≤ b → Word w' b p 0 → Fld 93 97 1 base w'' cb [.pointer (some ⟨ab, 0, none⟩)] [] (hd.length + 1) (ptrs wb hd.length ++ [.pointer (some ⟨b, 0, none⟩)]) r' → Chg cb r r' w' w'' →
      ∃ F', Cel base w'' cb tb ab room rs (hd ++ [p]) m is num B F' ∧ Step F F' w w'' := by
  obtain ⟨G, r, wb, M, K, hs, hl, rfl⟩ := h
  refine ⟨r, wb, K, fun w' w'' b p r' g hb W f c => ?_⟩
  have hbs := M.base_size
  have cl := K.fld.lt
  have keepOld : ∀ k, k < w.heap.size → k ≠ cb → some k ≠ r → w''.heap[k]? = w.heap[k]? := fun k hk h1 h2 => (c.block k (Nat.lt_of_lt_of_le hk g.size) h1 h2).trans (g.block k hk (by simp))
  have wbl : ∀ j, j < hd.length → wb j < w.heap.size := fun j hj => (K.at hj).2
  have Wb : Word w'' b p 0 := (c.block b W.lt (by omega) (fun e => by have := (K.fld.row_lt b e.symm).2; omega)).trans W
  have M' : Mem base w'' tb ab room rs m is num B G := M.keep fun k hk => keepOld k (M.foot k hk).2 (fun e => hs k (.inl e) hk) (fun e => hs k (.inr (.inl e)) hk)
  have e1 : ptrs wb hd.length ++ [.pointer (some ⟨b, 0, none⟩)] = ptrs (fun j => if j = hd.length then b else wb j) (hd.length + 1) := by
    rw [ptrs_succ, if_pos rfl, ptrs_congr wb (fun j => if j = hd.length then b else wb j) hd.length (fun j hj => by rw [if_neg (by omega)])]
  rw [e1] at f
  refine ⟨_, ⟨G, r', fun j => if j = hd.length then b else wb j, M', ⟨by rw [List.length_append]; exact f, fun j q hq => ?_, fun j k hj hk e => ?_⟩, fun k hk hg => ?_, hl, rfl⟩, ⟨⟨c.os.trans g.os, c.tape.trans g.tape, c.output.trans g.output, Nat.le_trans g.size c.size, fun k hk hn => keepOld k hk (fun e => hn (.inr (.inl e))) (fun e => hn (.inr (.inr (.inl e))))⟩, fun k hk => ?_⟩⟩
  · by_cases ej : j = hd.length
    · subst ej
      rw [List.getElem?_append_right (Nat.le_refl _)] at hq
      obtain rfl : p = q := by simpa using hq
      rw [if_pos rfl]
      exact ⟨by omega, 0, by omega, h0, Wb⟩
    · rw [if_neg ej]
      have hj : j < hd.length := by
        have := (List.getElem?_eq_some_iff.1 hq).1
        rw [List.length_append] at this
        simp at this
        omega
      rw [List.getElem?_append_left hj] at hq
      obtain ⟨h1, a, h2, h3, h4⟩ := K.word j q hq
      obtain ⟨n1, n2⟩ := K.ne hj
      exact ⟨h1, a, h2, h3, (keepOld _ h4.lt (fun e => n1 e.symm) (fun e => n2 e.symm)).trans h4⟩
  · rw [List.length_append] at hj hk
    simp at hj hk
    by_cases ej : j = hd.length <;> by_cases ek : k = hd.length
    · omega
    · rw [if_pos ej, if_neg ek] at e
      have := wbl k (by omega)
      omega
    · rw [if_neg ej, if_pos ek] at e
      have := wbl j (by omega)
      omega
    · rw [if_neg ej, if_neg ek] at e
      exact K.apart j k (by omega) (by omega) e
  · have hgl := (M.foot k hg).2
    rcases hk with hk | hk | ⟨j, hj, hk⟩
    · exact hs k (.inl hk) hg
    · rcases c.row with h1 | ⟨i, h1, hi⟩
      · exact hs k (.inr (.inl (hk.trans h1))) hg
      · rw [h1] at hk
        cases hk
        have := g.size
        omega
    · rw [List.length_append] at hj
      simp at hj
      dsimp only at hk
      by_cases ej : j = hd.length
      · rw [if_pos ej] at hk; omega
      · rw [if_neg ej] at hk
        exact hs k (.inr (.inr ⟨j, by omega, hk⟩)) hg
  · rcases hk with hk | hk | hk | ⟨j, hj, hk⟩
    · exact .inl (.inl hk)
    · exact .inl (.inr (.inl hk))
    · rcases c.row with h1 | ⟨i, h1, hi⟩
      · exact .inl (.inr (.inr (.inl (hk.trans h1))))
      · rw [h1] at hk
        cases hk
        exact .inr (Nat.le_trans g.size hi)
    · rw [List.length_append] at hj
      simp at hj
      dsimp only at hk
      by_cases ej : j = hd.length
      · rw [if_pos ej] at hk; right; omega
      · rw [if_neg ej] at hk
        exact .inl (.inr (.inr (.inr ⟨j, by omega, hk⟩)))
end

/-- At the head of a round of All. -/
def RelAllC (base : Nat) (w : World) (cb tb ab m : Nat) (room : Int) (rs : List Rc) (hd : List Int) (is : Int → Bool) (num : Int → Nat → Int) (B : Int) (F : Nat → Prop) (l : List Int) (n : Nat) (out i : Value) (wr : World) : Prop :=
  ∃ k : Nat, k ≤ n ∧ i = .int .i64 k ∧ wr.ownsRow w.heap.size 2 1 out k (ints (l.take k)) ∧ Cel base wr cb tb ab room rs hd m is num (B + 2 * k) F ∧ Step F F w wr

end Go.Proofs.Ytnaagcofgnmmlaa.ce
