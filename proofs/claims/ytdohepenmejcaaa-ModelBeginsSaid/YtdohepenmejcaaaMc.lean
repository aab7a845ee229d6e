/- States of a beginning of a trace; lists of states as they lie; are they the same? -/
import Derived.Test.YtdohepenmejcaaaMs
import Derived.Test.YtdohepenmejcaaaMv
import Derived.Test.YtdohepenmejcaaaHx
import Derived.Deep.RegionHeld3
namespace Go.Proofs.Ytdohepenmejcaaa.md
open Go Go.RowKit Go.Proofs.Ytdohepenmejcaaa.base Go.Proofs.Ytdohepenmejcaaa.hs Go.Proofs.Ytdohepenmejcaaa.lg Go.Maps
set_option linter.unusedVariables false
set_option maxRecDepth 100000

theorem map_filter_same {α β : Type} (p : β → Bool) (f g : α → β) : ∀ l : List α, (∀ b ∈ l, (p (f b) = false ∧ p (g b) = false) ∨ f b = g b) → (l.map f).filter p = (l.map g).filter p
  | [], _ => rfl
  | b :: l, h => by
    have ih := map_filter_same p f g l (fun x hx => h x (List.mem_cons_of_mem _ hx))
    simp only [List.map_cons, List.filter_cons]
    rcases h b (by simp) with ⟨h1, h2⟩ | h1
    · rw [h1, h2, ih]; simp
    · rw [h1, ih]

theorem tries_at_end (e : Evs) (n i : Nat) (hi : i < n) : (tries e (n + 1)).filter (fun t => t.co && decide (t.en = (i : Int))) = (tries e n).filter (fun t => t.co && decide (t.en = (i : Int))) := by
  have key : ((begins e n).map fun b => trAt e b (n + 1)).filter (fun t => t.co && decide (t.en = (i : Int))) = ((begins e n).map fun b => trAt e b n).filter (fun t => t.co && decide (t.en = (i : Int))) := by
    refine map_filter_same _ _ _ _ fun b hb => ?_
    by_cases h : 0 ≤ (trAt e b n).en
    · exact .inr (trAt_end e b h (Nat.le_succ n))
    · left
      have h1 : ¬ (trAt e b n).en = (i : Int) := by omega
      refine ⟨?_, by simp [h1]⟩
      have h2 : ¬ (trAt e b (n + 1)).en = (i : Int) := by
        rw [trAt]
        split
        · rw [stepT_en]
          split
          · omega
          · exact h1
        · exact h1
      simp [h2]
  unfold tries
  rw [begins_succ]
  split
  · rw [List.map_append, List.filter_append, key]
    have h0 : trAt e n (n + 1) = init n (e n) := trAt_init e n (n + 1) (Nat.le_refl _)
    simp [h0, init]
  · exact key

theorem commsD_succ (e : Evs) (n : Nat) : commsD e (n + 1) = commsD e n ++ (tries e (n + 1)).filter (fun t => t.co && decide (t.en = (n : Int))) := by
  unfold commsD
  rw [List.range_succ, List.flatMap_append]
  congr 1
  · have h : ∀ l : List Nat, (∀ i ∈ l, i < n) → l.flatMap (fun (i : Nat) => (tries e (n + 1)).filter (fun t => t.co && decide (t.en = (i : Int)))) = l.flatMap (fun (i : Nat) => (tries e n).filter (fun t => t.co && decide (t.en = (i : Int)))) := by
      intro l
      induction l with
      | nil => intro _; rfl
      | cons i l ih =>
        intro h
        rw [List.flatMap_cons, List.flatMap_cons, tries_at_end e n i (h i (by simp)), ih (fun x hx => h x (List.mem_cons_of_mem _ hx))]
    exact h _ (fun i hi => List.mem_range.1 hi)
  · simp
theorem commsD_pre (e : Evs) (m : Nat) : ∀ j, ∃ R, commsD e (m + j) = commsD e m ++ R
  | 0 => ⟨[], by simp⟩
  | j + 1 => by
    obtain ⟨R, h⟩ := commsD_pre e m j
    exact ⟨R ++ _, by rw [← Nat.add_assoc, commsD_succ, h, List.append_assoc]⟩
theorem cacs_pre (e : Evs) {m n : Nat} (hr : right e n = true) (hm : m ≤ n) : ∃ R, cacs e n = cacs e m ++ R := by
  obtain ⟨R, h⟩ := commsD_pre e m (n - m)
  rw [show m + (n - m) = n by omega] at h
  exact ⟨R.map Tr.ac, by unfold cacs; rw [if_pos hr, if_pos (right_le e hr m hm), h, List.map_append]⟩
theorem cacs_before (e : Evs) {n : Nat} (hr : right e n = true) : (cacs e n).length = before e n := by
  unfold cacs
  rw [if_pos hr, List.length_map, (commsD_perm e hr).length_eq, comms_before e hr]
theorem cacs_len (e : Evs) (n : Nat) : (cacs e n).length ≤ n := by
  unfold cacs
  split
  · next hr =>
    rw [List.length_map, (commsD_perm e hr).length_eq]
    exact Nat.le_trans (List.length_filter_le _ _) (tries_n' e n)
  · exact Nat.zero_le _

/-- m lists of n numbers lie there, wherever. -/
def StsAt (w : World) (a : Option Addr) (m n : Nat) (F : Nat → Nat → Int) : Prop :=
  m = 0 ∨ ∃ b off, a = some ⟨b, off, none⟩ ∧ b < w.heap.size ∧ ∀ i, i < m → ∃ ai ci, w.cell? ⟨b, off + i, none⟩ = some (.slice ai n ci) ∧ IsNums .i64 w ai n (F i)
theorem StsAt.keep {w w' : World} {a : Option Addr} {m n : Nat} {F : Nat → Nat → Int} (h : StsAt w a m n F) (g : ∀ k, k < w.heap.size → w'.heap[k]? = w.heap[k]?) (hs : w.heap.size ≤ w'.heap.size) : StsAt w' a m n F := by
  rcases h with h | ⟨b, off, h1, h2, h3⟩
  · exact .inl h
  · refine .inr ⟨b, off, h1, by omega, fun i hi => ?_⟩
    obtain ⟨ai, ci, h4, h5⟩ := h3 i hi
    exact ⟨ai, ci, (World.cell?_of_block (g b h2)).trans h4, h5.keep (fun k _ _ hk => g k hk) hs⟩
theorem StsAt.grown {w w' : World} {a : Option Addr} {m n : Nat} {F : Nat → Nat → Int} (h : StsAt w a m n F) (g : w.grownBy w' none) : StsAt w' a m n F := h.keep (fun k hk => g.block k hk (by simp)) g.size
theorem StsAt.below {w w' : World} {a : Option Addr} {m n : Nat} {F : Nat → Nat → Int} (h : StsAt w a m n F) (g : Below w.heap.size w w') : StsAt w' a m n F := h.keep (fun k hk => g.block k hk) g.size
theorem StsAt.less {w : World} {a : Option Addr} {m n k : Nat} {F : Nat → Nat → Int} (h : StsAt w a m n F) (hk : k ≤ m) : StsAt w a k n F := by
  rcases h with h | ⟨b, off, h1, h2, h3⟩
  · exact .inl (by omega)
  · exact .inr ⟨b, off, h1, h2, fun i hi => h3 i (by omega)⟩
theorem StsAt.congr {w : World} {a : Option Addr} {m n : Nat} {F G : Nat → Nat → Int} (h : StsAt w a m n F) (e : ∀ i, i < m → F i = G i) : StsAt w a m n G := by
  rcases h with h | ⟨b, off, h1, h2, h3⟩
  · exact .inl h
  · refine .inr ⟨b, off, h1, h2, fun i hi => ?_⟩
    rw [← e i hi]
    exact h3 i hi
theorem StsAt.at {w : World} {a : Option Addr} {m n i : Nat} {F : Nat → Nat → Int} (h : StsAt w a m n F) (hi : i < m) : ∃ b off ai ci, a = some ⟨b, off, none⟩ ∧ b < w.heap.size ∧ w.cell? ⟨b, off + i, none⟩ = some (.slice ai n ci) ∧ IsNums .i64 w ai n (F i) := by
  rcases h with h | ⟨b, off, h1, h2, h3⟩
  · omega
  · obtain ⟨ai, ci, h4, h5⟩ := h3 i hi
    exact ⟨b, off, ai, ci, h1, h2, h4, h5⟩
theorem StsAt.of_rows {w : World} {B B' : Nat} {a : Option Addr} {c n : Nat} {us : List Value} {F : Nat → Nat → Int} (h : w.ownsRow B 22 1 (.slice a us.length c) us.length us) (hu : ∀ i u, us[i]? = some u → RowAt w B' n (F i) u) : StsAt w a us.length n F := by
  rcases h.2 with ⟨_, h0⟩ | ⟨g, cap, cur, e, hb, hg, _⟩
  · exact .inl h0
  · injection e with e1 e2 e3
    subst e1
    refine .inr ⟨g, 0, rfl, lt_of_block hg, fun i hi => ?_⟩
    obtain ⟨ai, ci, h1, h2⟩ := hu i us[i] (List.getElem?_eq_getElem hi)
    refine ⟨ai, ci, ?_, ?_⟩
    · rw [Nat.zero_add, ← h1, ← List.getElem?_eq_getElem hi]
      exact h.cellAt i (by omega)
    · rw [h1] at h2
      exact IsNums.of_own h2

set_option maxHeartbeats 1000000 in
theorem sts_same (a b : Option Addr) (m n ca cb : Nat) (F : Nat → Nat → Int) (w : World) (ha : StsAt w a m n F) (hb : StsAt w b m n F) (hm : m ≤ 100000) (hn : n ≤ 100000) :
    Calls Try.prog 12 #[.slice a m ca, .slice b m cb] w fun e w' => e = .returned (.bool true) ∧ Hid (w.grownBy w' none) := by
  have HA := Lib.hid ha
  have HB := Lib.hid hb
  clear ha hb
  go_enter Try.func12, Try.ntmps12
  go_wp2
  go_loopw [5] (fun i wr => ∃ k : Nat, k ≤ m ∧ i = .int .i64 k ∧ Hid (w.grownBy wr none)) (fun i _ => (m - intOf i).toNat)
  case atStart => exact ⟨0, by omega, rfl, gb_refl _ _⟩
  case round =>
    obtain ⟨k, hk, rfl, G⟩ := hrel
    by_cases hlt : k < m
    · obtain ⟨b1, o1, a1, c1, rfl, hb1, d1, N1⟩ := (HA.out.grown G.out).at hlt
      obtain ⟨b2, o2, a2, c2, rfl, hb2, d2, N2⟩ := (HB.out.grown G.out).at hlt
      have hlt' : (k : Int) < (m : Int) := by omega
      have M1 := Lib.hid N1
      have M2 := Lib.hid N2
      clear N1 N2
      go_wp2_with fail
      go_region_held3 (fun w' => w'.cell? ⟨b1, o1 + k, none⟩ = some (.slice a1 n c1) ∧ w'.cell? ⟨b2, o2 + k, none⟩ = some (.slice a2 n c2)) (go_keep) ((go_at_call 13; refine (vals_yes _ _ n _ _ (F k) _ (M1.out.grown (gb_drew (gb_refl _ _))) (M2.out.grown (gb_drew (gb_refl _ _))) hn).mono ?_; rintro r u3 ⟨rfl, g3⟩; have x1 := g3.out.cell d1 (by simp); have x2 := g3.out.cell d2 (by simp)))
      go_wp2
      go_roundw
      case rel => exact ⟨k + 1, by omega, by go_num, gb_trans (gb_drew G.out) g3.out⟩
      case measure => simp [intOf]; omega
    · obtain rfl : k = m := by omega
      go_wp2
      go_ret
      exact ⟨rfl, G⟩
end Go.Proofs.Ytdohepenmejcaaa.md
