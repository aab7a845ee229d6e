/- Package cells: all objects' values; new cells. -/
import Derived.Test.YtocjbbfeegmkaaaCelD
namespace Go.Proofs.Ytocjbbfeegmkaaa.ce
open Go Go.RowKit Go.Proofs.Ytocjbbfeegmkaaa.base Go.Proofs.Ytocjbbfeegmkaaa.ar Go.Proofs.Ytocjbbfeegmkaaa.wd Go.Proofs.Ytocjbbfeegmkaaa.rf Go.Proofs.Ytocjbbfeegmkaaa.mm Go.Proofs.Ytocjbbfeegmkaaa.vl Go.Proofs.Ytocjbbfeegmkaaa.ds
set_option linter.unusedVariables false

section
variable {base : Nat} {w w' : World} {cb tb ab m : Nat} {room : Int} {rs : List Rc} {hd : List Int} {is : Int → Bool} {num : Int → Nat → Int} {B : Int} {F : Nat → Prop}
/-- A step that changes a block that is new. -/
theorem Step.over {F F' : Nat → Prop} {w w' w'' : World} {r : Option Nat} (h : Step F F' w w') (k : w'.grownBy w'' r) (hr : ∀ i, r = some i → w.heap.size ≤ i) : Step F F' w w'' :=
  ⟨⟨k.os.trans h.only.os, k.tape.trans h.only.tape, k.output.trans h.only.output, Nat.le_trans h.only.size k.size, fun i hi hn => (k.block i (Nat.lt_of_lt_of_le hi h.only.size) (fun e => by have := hr i e.symm; omega)).trans (h.only.block i hi hn)⟩, h.foot⟩

/-- One object more. -/
theorem Cel.view (h : Cel base w cb tb ab room rs hd m is num B F) (h0 : 0 ≤ B) : ∃ r wb, CelC base w cb ab hd B r wb ∧
    ∀ (w' w'' : World) (b : Nat) (p : Int) (r' : Option Nat), w.grownBy w' none → w.heap.size ≤ b → Word w' b p 0 → Fld 100 103 1 base w'' cb [.pointer (some ⟨ab, 0, none⟩)] [] (hd.length + 1) (ptrs wb hd.length ++ [.pointer (some ⟨b, 0, none⟩)]) r' → Chg cb r r' w' w'' →
      ∃ F', Cel base w'' cb tb ab room rs (hd ++ [p]) m is num B F' ∧ Step F F' w w'' := by
  obtain ⟨G, r, wb, M, K, hs, hl, rfl⟩ := h
  refine ⟨r, wb, K, fun w' w'' b p r' g hb W f c => ?_⟩
  have hbs := M.base_size
  have cl := K.fld.lt
  have keepOld : ∀ k, k < w.heap.size → k ≠ cb → some k ≠ r → w''.heap[k]? = w.heap[k]? := fun k hk h1 h2 => (c.block k (Nat.lt_of_lt_of_le hk g.size) h1 h2).trans (g.block k hk (by simp))
  have wbl : ∀ j, j < hd.length → wb j < w.heap.size := fun j hj => (K.at hj).2
  have Wb : Word w'' b p 0 := (c.block b W.lt (by omega) (fun e => by have := (K.fld.row_lt b e.symm).2; omega)).trans W
  have M' : Mem base w'' tb ab room rs m is num B G := M.keep fun k hk => keepOld k (M.foot k hk).2 (fun e => hs k (.inl e) hk) (fun e => hs k (.inr (.inl e)) hk)
  have e1 : ptrs wb hd.length ++ [.pointer (some ⟨b, 0, none⟩)] = ptrs (fun j => if j = hd.length then b else wb j) (hd.length + 1) := by
    rw [ptrs_succ, if_pos rfl, ptrs_congr wb (fun j => if j = hd.length then b else wb j) hd.length (fun j hj => by rw [if_neg (by omega)])]
  rw [e1] at f
  refine ⟨_, ⟨G, r', fun j => if j = hd.length then b else wb j, M', ⟨by rw [List.length_append]; exact f, fun j q hq => ?_, fun j k hj hk e => ?_⟩, fun k hk hg => ?_, hl, rfl⟩, ⟨⟨c.os.trans g.os, c.tape.trans g.tape, c.output.trans g.output, Nat.le_trans g.size c.size, fun k hk hn => keepOld k hk (fun e => hn (.inr (.inl e))) (fun e => hn (.inr (.inr (.inl e))))⟩, fun k hk => ?_⟩⟩
  · by_cases ej : j = hd.length
    · subst ej
      rw [List.getElem?_append_right (Nat.le_refl _)] at hq
      obtain rfl : p = q := by simpa using hq
      rw [if_pos rfl]
      exact ⟨by omega, 0, by omega, h0, Wb⟩
    · rw [if_neg ej]
      have hj : j < hd.length := by
        have := (List.getElem?_eq_some_iff.1 hq).1
        rw [List.length_append] at this
        simp at this
        omega
      rw [List.getElem?_append_left hj] at hq
      obtain ⟨h1, a, h2, h3, h4⟩ := K.word j q hq
      obtain ⟨n1, n2⟩ := K.ne hj
      exact ⟨h1, a, h2, h3, (keepOld _ h4.lt (fun e => n1 e.symm) (fun e => n2 e.symm)).trans h4⟩
  · rw [List.length_append] at hj hk
    simp at hj hk
    by_cases ej : j = hd.length <;> by_cases ek : k = hd.length
    · omega
    · rw [if_pos ej, if_neg ek] at e
      have := wbl k (by omega)
      omega
    · rw [if_neg ej, if_pos ek] at e
      have := wbl j (by omega)
      omega
    · rw [if_neg ej, if_neg ek] at e
      exact K.apart j k (by omega) (by omega) e
  · have hgl := (M.foot k hg).2
    rcases hk with hk | hk | ⟨j, hj, hk⟩
    · exact hs k (.inl hk) hg
    · rcases c.row with h1 | ⟨i, h1, hi⟩
      · exact hs k (.inr (.inl (hk.trans h1))) hg
      · rw [h1] at hk
        cases hk
        have := g.size
        omega
    · rw [List.length_append] at hj
      simp at hj
      dsimp only at hk
      by_cases ej : j = hd.length
      · rw [if_pos ej] at hk; omega
      · rw [if_neg ej] at hk
        exact hs k (.inr (.inr ⟨j, by omega, hk⟩)) hg
  · rcases hk with hk | hk | hk | ⟨j, hj, hk⟩
    · exact .inl (.inl hk)
    · exact .inl (.inr (.inl hk))
    · rcases c.row with h1 | ⟨i, h1, hi⟩
      · exact .inl (.inr (.inr (.inl (hk.trans h1))))
      · rw [h1] at hk
        cases hk
        exact .inr (Nat.le_trans g.size hi)
    · rw [List.length_append] at hj
      simp at hj
      dsimp only at hk
      by_cases ej : j = hd.length
      · rw [if_pos ej] at hk; right; omega
      · rw [if_neg ej] at hk
        exact .inl (.inr (.inr (.inr ⟨j, by omega, hk⟩)))
end

theorem cells_objects0 (base cb tb ab m : Nat) (room : Int) (rs : List Rc) (hd : List Int) (is : Int → Bool) (num : Int → Nat → Int) (B : Int) (F : Nat → Prop) (w : World) (h : Cel base w cb tb ab room rs hd m is num B F) : Calls Try.prog 25 #[.pointer (some ⟨cb, 0, none⟩)] w fun e w' => e = .returned (.int .i64 hd.length) ∧ w = w' := by
  obtain ⟨G, r, wb, M, K, hs, hl, rfl⟩ := h
  exact objects_in base cb ab hd B r wb w K

/-- At the head of a round of All. -/
def RelAllC (base : Nat) (w : World) (cb tb ab m : Nat) (room : Int) (rs : List Rc) (hd : List Int) (is : Int → Bool) (num : Int → Nat → Int) (B : Int) (F : Nat → Prop) (l : List Int) (n : Nat) (out i : Value) (wr : World) : Prop :=
  ∃ k : Nat, k ≤ n ∧ i = .int .i64 k ∧ wr.ownsRow w.heap.size 2 1 out k (ints (l.take k)) ∧ Cel base wr cb tb ab room rs hd m is num (B + 2 * k) F ∧ Step F F w wr

set_option maxRecDepth 100000 in
set_option maxHeartbeats 2000000 in
theorem cells_all (base cb tb ab m : Nat) (room : Int) (rs : List Rc) (hd : List Int) (is : Int → Bool) (num : Int → Nat → Int) (B : Int) (F : Nat → Prop) (w : World) (h : Cel base w cb tb ab room rs hd m is num B F) (hB : B ≤ 900000) (hroom : room ≤ 4096) (l : List Int) (n : Nat) (hn : hd.length = n) (hl : l.length = n) (h8 : n ≤ 8) (hv : ∀ j, j < n → ∃ y, ValAt rs hd is num j y ∧ l[j]? = some y.val) :
    Calls Try.prog 41 #[.pointer (some ⟨cb, 0, none⟩), .pointer (some ⟨tb, 0, none⟩)] w fun e w' => ∃ a cap, e = .returned (.slice a n cap) ∧ Hid (Rd w' a l) ∧ Hid (∀ b off, a = some ⟨b, off, none⟩ → w.heap.size ≤ b) ∧ Hid (Cel base w' cb tb ab room rs hd m is num (B + 100) F) ∧ Hid (Step F F w w') := by
  have H := Lib.hid h
  have V := Lib.hid hv
  have Hn := Lib.hid hn
  have Hl := Lib.hid hl
  clear h hv hn hl
  obtain ⟨i0, hi0, hz00, hz10, hz20⟩ := info_parts infoI
  have hi := Lib.hid hi0
  have hz0 := Lib.hid hz00
  have hz1 := Lib.hid hz10
  have hz2 := Lib.hid hz20
  clear hi0 hz00 hz10 hz20
  go_enter Try.func41, Try.ntmps41
  go_wp2_with fail
  refine (cells_objects0 base cb tb ab m room rs hd is num B F w H.out).mono ?_
  rw [Hn.out]
  rintro e u0 ⟨rfl, rfl⟩
  go_wp2_with fail
  go_loopw [5, 11] (fun out i wr => RelAllC base w cb tb ab m room rs hd is num B F l n out i wr) (fun _ i _ => (n - intOf i).toNat)
  case atStart => exact ⟨0, by omega, rfl, World.ownsRow_nil _ _ _ _, H.out.mono (by omega), Step.refl _ _⟩
  case round =>
    obtain ⟨k, hk, rfl, ho0, C0, S0⟩ := hrel
    have ho := Lib.hid ho0
    have C := Lib.hid C0
    have S := Lib.hid S0
    have hsz := Lib.hid S0.only.size
    obtain ⟨ao, cap, rfl⟩ : ∃ ao cap, u5 = .slice ao k cap := by
      rcases ho0.2 with ⟨rfl, h0⟩ | ⟨b, cap, cur, rfl, _⟩
      · exact ⟨none, 0, by rw [h0]⟩
      · exact ⟨_, _, rfl⟩
    clear ho0 C0 S0
    by_cases hlt : k < n
    · obtain ⟨y, hy, hly⟩ := V.out k hlt
      have hy := Lib.hid hy
      have hly := Lib.hid hly
      have hlt' : (k : Int) < (n : Int) := by omega
      go_wp2_with fail
      refine (current_in base cb tb ab m room rs hd is num (B + 2 * k) F wr C.out (by omega) hroom k y hy.out).mono ?_
      rintro e u1 ⟨rfl, C1, S1⟩
      have hlow : ∀ b, F b → b < w.heap.size := fun b hb => (H.out.foot b hb).2
      have ho1 := Lib.hid (ownsRow_keep (w' := u1) ho.out (fun b e => S1.out.only.block b (ho.out.lt b e).2 (fun hb => by have := hlow b hb; have := (ho.out.lt b e).1; omega)))
      have S2 := Lib.hid (S.out.trans S1.out)
      have Hlow := Lib.hid hlow
      clear hlow
      go_wp2_with (at_builtin; refine wpList_append_at _ rfl (.tmp 21) (.tmp 23) 46 rfl w.heap.size 2 i0 (.int .i64 0) 1 8 Try.underlying46 hi.out hz0.out hz1.out hz2.out rfl (by decide) _ k (ints (l.take k)) rfl (ho1.out.alloc _) ⟨u1.heap.size, 0, none⟩ 1 1 [.int .i64 y.val] rfl rfl (new_cells _ _ _) (by intro u hu; simp at hu; subst hu; rfl) (by unfold maxLen; omega) (by omega) (by have := S2.out.only.size; simp; omega) (by decide) ?_; intro g' c' w1 ho2 hg1 hv1)
      have Ho2 := Lib.hid ho2
      have Hg1 := Lib.hid hg1
      have hown : ∀ i, (Value.slice ao k cap).ownBlock = some i → w.heap.size ≤ i := fun i e => (ho.out.lt i e).1
      have C2 := Lib.hid (((C1.out.grown (gb_alloc (gb_refl u1 none) (.cells #[.int .i64 y.val] 2))).keep fun b hb => Hg1.out.block b (by have := (C1.out.foot b hb).2; simp; omega) (fun e => by have := hown b e.symm; have := Hlow.out b hb; omega)).mono (by omega : B + 2 * (k : Int) + 2 ≤ B + 2 * ((k + 1 : Nat) : Int)))
      have S3 := Lib.hid (Step.over (S2.out.trans (Step.none (gb_alloc (gb_refl u1 none) (.cells #[.int .i64 y.val] 2)))) Hg1.out hown)
      have ht : ints (l.take (k + 1)) = ints (l.take k) ++ [.int .i64 y.val] := by rw [List.take_add_one, hly.out]; simp [ints]
      clear ho2 hg1 hv1 hown
      go_wp2
      go_roundw
      case rel => exact ⟨k + 1, by omega, by go_num, by rw [ht]; exact Ho2.out, C2.out, S3.out⟩
      case measure => simp [intOf]; omega
    · obtain rfl : k = n := by omega
      go_wp2
      go_ret
      have ho9 := ho.out
      rw [List.take_of_length_le (by have := Hl.out; omega)] at ho9
      have hll := Hl.out
      refine ⟨_, _, rfl, ?_, fun b off e => ?_, C.out.mono (by omega), S.out⟩
      · subst hll
        exact Rd.of_own ho9
      · subst e
        exact (ho9.lt b (by rfl)).1

end Go.Proofs.Ytocjbbfeegmkaaa.ce
