/- Package model's Apply: the values behind a try. -/
import Derived.Test.YtdohepenmejcaaaMm
import Derived.Test.YtdohepenmejcaaaHg
import Derived.Test.YtdohepenmejcaaaApp
import Derived.Test.YtdohepenmejcaaaCrs
namespace Go.Proofs.Ytdohepenmejcaaa.md
open Go Go.RowKit Go.Proofs.Ytdohepenmejcaaa.base Go.Proofs.Ytdohepenmejcaaa.hs Go.Proofs.Ytdohepenmejcaaa.lg Go.Maps
set_option linter.unusedVariables false
set_option maxRecDepth 100000

theorem has_yesq (a : Option Addr) (n c i : Nat) (w : World) (h : i < n) : Calls Try.prog 44 #[.slice a n c, .int .i64 (i : Int)] w fun r w' => r = .returned (.bool true) ∧ w' = w := by
  have h1 : (0 : Int) ≤ (i : Int) := by omega
  have h2 : (i : Int) < (n : Int) := by omega
  go_enter Try.func44, Try.ntmps44
  go_wp2
  go_ret
  exact ⟨rfl, rfl⟩

theorem has_noq (a : Option Addr) (n c : Nat) (o : Int) (w : World) (h : o < 0 ∨ (n : Int) ≤ o) : Calls Try.prog 44 #[.slice a n c, .int .i64 o] w fun r w' => r = .returned (.bool false) ∧ w' = w := by
  by_cases h1 : o < 0
  · have q1 : decide (0 ≤ o) = false := by simpa using h1
    clear h h1
    go_enter Try.func44, Try.ntmps44
    go_wp2
    go_ret
    exact ⟨rfl, rfl⟩
  · have q1 : 0 ≤ o := by omega
    have q2 : decide (o < (n : Int)) = false := by simp; omega
    clear h h1
    go_enter Try.func44, Try.ntmps44
    go_wp2
    go_ret
    exact ⟨rfl, rfl⟩

theorem has_yes (a : Option Addr) (n c i : Nat) (w : World) (h : i < n) : Calls Try.prog 44 #[.slice a n c, .int .i64 (i : Int)] w fun r w' => r = .returned (.bool true) ∧ Hid (w.grownBy w' none) :=
  (has_yesq a n c i w h).mono fun r w' ⟨h1, h2⟩ => ⟨h1, by rw [h2]; exact gb_refl _ _⟩

theorem has_no (a : Option Addr) (n c : Nat) (o : Int) (w : World) (h : o < 0 ∨ (n : Int) ≤ o) : Calls Try.prog 44 #[.slice a n c, .int .i64 o] w fun r w' => r = .returned (.bool false) ∧ Hid (w.grownBy w' none) :=
  (has_noq a n c o w h).mono fun r w' ⟨h1, h2⟩ => ⟨h1, by rw [h2]; exact gb_refl _ _⟩

theorem copied_any (a : Option Addr) (n c : Nat) (z : Nat → Int) (w : World) (hz : IsNums .i64 w a n z) (hn : n ≤ 1000000) :
    Calls Try.prog 28 #[.slice a n c] w fun r w' => ∃ a' c', r = .returned (.slice a' n c') ∧ Hid (w'.ownsRow w.heap.size 2 1 (.slice a' n c') n (vals z n)) ∧ Hid (w.grownBy w' none) := by
  have Z := Lib.hid hz.src
  clear hz
  go_enter Try.func28, Try.ntmps28
  go_wp2_with (at_builtin; go_loud (refine append64 _ rfl (.const (.slice none 0 0)) (.tmp 3) rfl w.heap.size _ 0 [] rfl (World.ownsRow_nil _ _ _ _) a n c (vals z n) rfl (by simp [vals]) Z.out (one_nums _ _ _) (by omega) (by simp) ?_); intro b' c' u2 ho hg hv; clear hv)
  simp only [Nat.zero_add, List.nil_append] at ho hg
  go_ret
  exact ⟨b', c', rfl, ho, hg⟩

/-- An access, in its cells. -/
theorem acc6 {w : World} {va : Option Addr} {l : List Acc} (h : IsL accC w va l) {j : Nat} {a : Acc} (hj : l[j]? = some a) : ∃ b off, va = some ⟨b, off, none⟩ ∧ b < w.heap.size ∧ w.cell? ⟨b, off + j * 6, none⟩ = some (.int .i64 a.pl) ∧ w.cell? ⟨b, off + j * 6 + 1, none⟩ = some (.int .i64 a.k) ∧ w.cell? ⟨b, off + j * 6 + 2, none⟩ = some (.int .i64 a.ob) ∧ w.cell? ⟨b, off + j * 6 + 3, none⟩ = some (.int .i64 a.va) ∧ w.cell? ⟨b, off + j * 6 + 4, none⟩ = some (.bool a.own) ∧ w.cell? ⟨b, off + j * 6 + 5, none⟩ = some (.bool a.rel) := by
  obtain ⟨b, off, h1, h2, h3⟩ := h.at accC_len hj
  exact ⟨b, off, h1, h2, h3 0 _ rfl, h3 1 _ rfl, h3 2 _ rfl, h3 3 _ rfl, h3 4 _ rfl, h3 5 _ rfl⟩

/-- Values of one's own, with the first k accesses done to them. -/
structure AR (w : World) (base : Nat) (z : Nat → Int) (l : List Acc) (a : Option Addr) (n c k : Nat) (wr : World) : Prop where
  row : wr.ownsRow base 2 1 (.slice a n c) n (vals (app z (l.take k)) n)
  grow : w.grownBy wr (Value.slice a n c).ownBlock

section
variable {w wr w' : World} {base n k c : Nat} {a : Option Addr} {z : Nat → Int} {l : List Acc}
theorem AR.grown (h : AR w base z l a n c k wr) (g : wr.grownBy w' none) : AR w base z l a n c k w' :=
  ⟨ownsRow_keep h.row fun b e => g.block b (h.row.lt b e).2 (by simp), gb_trans h.grow ⟨g.os, g.tape, g.output, g.size, fun i hi _ => g.block i hi (by simp)⟩⟩
theorem AR.same (h : AR w base z l a n c k wr) (e : app z (l.take (k + 1)) = app z (l.take k)) : AR w base z l a n c (k + 1) wr := ⟨by rw [e]; exact h.row, h.grow⟩
theorem AR.at (h : AR w base z l a n c k wr) {i : Nat} (hi : i < n) : ∃ g, a = some ⟨g, 0, none⟩ ∧ g < wr.heap.size ∧ wr.cell? ⟨g, i, none⟩ = some (.int .i64 (app z (l.take k) i)) ∧ wr.frozen? ⟨g, i, none⟩ = false := by
  rcases h.row.2 with ⟨_, h0⟩ | ⟨g, cap, cur, e, hb, hg, _⟩
  · omega
  · injection e with e1 e2 e3
    subst e1
    refine ⟨g, rfl, lt_of_block hg, (h.row.cellAt i (by omega)).trans (vals_get _ n i hi), by simp [World.frozen?, hg]⟩
theorem AR.set (h : AR w base z l a n c k wr) {i g : Nat} {u : Int} (hi : i < n) (hg : a = some ⟨g, 0, none⟩) (e : app z (l.take (k + 1)) = fun j => if j = i then u else app z (l.take k) j) : AR w base z l a n c (k + 1) (wr.setCell ⟨g, i, none⟩ (.int .i64 u)) := by
  refine ⟨?_, gb_setCell h.grow (by rw [hg]; rfl) _⟩
  rw [e, ← vals_set]
  exact ownsRow_set h.row (by rw [hg]; rfl) hi _
theorem AR.accs (h : AR w base z l a n c k wr) {va : Option Addr} (hl : IsL accC w va l) (hap : l ≠ [] → ∀ b off g, va = some ⟨b, off, none⟩ → a = some ⟨g, 0, none⟩ → b ≠ g) : IsL accC wr va l := by
  by_cases hne : l = []
  · exact .inl hne
  exact hl.keep (fun b off e hb => h.grow.block b hb (fun e2 => by
    rcases h.row.2 with ⟨e3, _⟩ | ⟨g, cap, cur, e3, _⟩
    · rw [e3] at e2; simp [Value.ownBlock] at e2
    · injection e3 with e3
      subst e3
      simp [Value.ownBlock] at e2
      exact hap hne b off g e rfl e2)) h.grow.size
end

set_option maxHeartbeats 1000000 in
theorem change_any (base : Nat) (a : Option Addr) (n c : Nat) (z : Nat → Int) (t : Tr) (av : Option Addr) (vc : Nat) (w : World) (hv : w.ownsRow base 2 1 (.slice a n c) n (vals z n)) (hl : IsL accC w av t.ac) (hap : t.ac ≠ [] → ∀ b off g, av = some ⟨b, off, none⟩ → a = some ⟨g, 0, none⟩ → b ≠ g) (hn : n ≤ 1000000) (hm : t.ac.length ≤ 1000000) :
    Calls Try.prog 29 #[.slice a n c, .agg ⟨trC t (.slice av t.ac.length vc)⟩] w fun r w' => r = .returned (.tuple #[]) ∧ Hid (w'.ownsRow base 2 1 (.slice a n c) n (vals (app z t.ac) n)) ∧ Hid (w.grownBy w' (Value.slice a n c).ownBlock) := by
  obtain ⟨xth, xtx, xat, xst, xb, xen, xre, xco, ac⟩ := t
  dsimp only at hl hm hap
  show Calls Try.prog 29 #[.slice a n c, .agg #[.int .i64 xth, .int .i64 xtx, .int .i64 xat, .int .i64 xst, .int .i64 xb, .int .i64 xen, .int .i64 xre, .bool xco, .slice av ac.length vc]] w _
  have A0 : Hid (AR w base z ac a n c 0 w) := Lib.hid ⟨hv, gb_refl _ _⟩
  have HL := Lib.hid hl
  have HAP := Lib.hid hap
  clear hv hl hap
  go_enter Try.func29, Try.ntmps29
  go_wp2
  go_loopw [9] (fun iv wr => ∃ k : Nat, k ≤ ac.length ∧ iv = .int .i64 k ∧ Hid (AR w base z ac a n c k wr)) (fun iv _ => (ac.length - intOf iv).toNat)
  case atStart => exact ⟨0, by omega, rfl, A0.out.grown (World.grownBy_alloc w _ none)⟩
  case round =>
    obtain ⟨k, hk, rfl, A⟩ := hrel
    clear A0
    by_cases hlt : k < ac.length
    · have hlt' : (k : Int) < (ac.length : Int) := by omega
      have hk6 : (k : Int) < 1000000 := by omega
      obtain ⟨b, off, rfl, hb, c0, c1, c2, c3, c4, c5⟩ := acc6 (A.out.accs HL.out HAP.out) (List.getElem?_eq_getElem hlt)
      have HT := Lib.hid (app_take z (List.getElem?_eq_getElem hlt))
      generalize ac[k] = y at *
      obtain ⟨pl, ak, ob, va, own, rel⟩ := y
      dsimp only at c0 c1 c2 c3 c4 c5
      by_cases h3 : ak = 3
      · subst h3
        have A1 := Lib.hid (A.out.grown (World.grownBy_alloc wr (.cells #[.int .i64 pl, .int .i64 3, .int .i64 ob, .int .i64 va, .bool own, .bool rel] 54) none))
        have EB := Lib.hid (Blk.made wr 54 #[.int .i64 pl, .int .i64 3, .int .i64 ob, .int .i64 va, .bool own, .bool rel])
        by_cases hin : 0 ≤ ob ∧ ob < (n : Int)
        · obtain ⟨i, rfl⟩ : ∃ i : Nat, ob = (i : Int) := ⟨ob.toNat, by omega⟩
          have hi : i < n := by omega
          have hi' : (i : Int) < (n : Int) := by omega
          have HE := Lib.hid (show app z (ac.take (k + 1)) = fun j => if j = i then va else app z (ac.take k) j by rw [HT.out]; exact app1_in _ rfl rfl)
          clear hin A HT
          go_wp2_with (first | (go_at_call 44; refine (has_yes _ n _ i _ hi).mono ?_; rintro r u1 ⟨rfl, g1⟩; have A2 := Lib.hid (A1.out.grown g1.out); have E2 := Lib.hid (EB.out.grown g1.out (by simp)); obtain ⟨g, hg, hgl, cv, fv⟩ := A2.out.at hi; subst hg; have e2 : u1.cell? ⟨wr.heap.size, 2, none⟩ = some (.int .i64 (i : Int)) := E2.out.cell 2; have e3 : u1.cell? ⟨wr.heap.size, 3, none⟩ = some (.int .i64 va) := E2.out.cell 3) | go_in)
          go_roundw
          case rel => exact ⟨k + 1, by omega, by go_num, A2.out.set hi rfl HE.out⟩
          case measure => simp [intOf]; omega
        · have hno : ob < 0 ∨ (n : Int) ≤ ob := by omega
          have HNO := Lib.hid hno
          clear hin hno A
          go_wp2_with (first | (go_at_call 44; refine (has_no _ n _ ob _ HNO.out).mono ?_; rintro r u1 ⟨rfl, g1⟩; have A2 := Lib.hid (A1.out.grown g1.out)) | go_in)
          go_roundw
          case rel => exact ⟨k + 1, by omega, by go_num, by
            have h := A2.out
            refine ⟨?_, h.grow⟩
            have e : vals (app z (ac.take (k + 1))) n = vals (app z (ac.take k)) n := by
              unfold vals
              apply List.map_congr_left
              intro j hj
              rw [HT.out]
              unfold app1
              have hj2 : j < n := by simpa using hj
              have := HNO.out
              rw [if_neg (by dsimp only; omega)]
            rw [e]
            exact h.row⟩
          case measure => simp [intOf]; omega
      · have f3 : (ak == 3) = false := by simp [h3]
        have A1 := Lib.hid (A.out.grown (World.grownBy_alloc wr (.cells #[.int .i64 pl, .int .i64 ak, .int .i64 ob, .int .i64 va, .bool own, .bool rel] 54) none))
        have HE := Lib.hid (show app z (ac.take (k + 1)) = app z (ac.take k) by rw [HT.out]; exact app1_no _ h3)
        clear h3 HT A
        go_wp2
        go_roundw
        case rel => exact ⟨k + 1, by omega, by go_num, A1.out.same HE.out⟩
        case measure => simp [intOf]; omega
    · obtain rfl : k = ac.length := by omega
      go_wp2
      go_end0
      exact ⟨rfl, by have h := A.out.row; rw [app_all] at h; exact h, A.out.grow⟩

theorem apply_any (a : Option Addr) (n c : Nat) (z : Nat → Int) (t : Tr) (av : Option Addr) (vc : Nat) (w : World) (hz : IsNums .i64 w a n z) (hl : IsL accC w av t.ac) (hn : n ≤ 1000000) (hm : t.ac.length ≤ 1000000) :
    Calls Try.prog 16 #[.slice a n c, .agg ⟨trC t (.slice av t.ac.length vc)⟩] w fun r w' => ∃ a' c', r = .returned (.slice a' n c') ∧ Hid (w'.ownsRow w.heap.size 2 1 (.slice a' n c') n (vals (app z t.ac) n)) ∧ Hid (w.grownBy w' none) := by
  have HZ := Lib.hid hz
  have HL := Lib.hid hl
  have BT := Lib.hid (Blk.made w 33 #[.int .i64 t.th, .int .i64 t.tx, .int .i64 t.at_, .int .i64 t.st, .int .i64 t.b, .int .i64 t.en, .int .i64 t.re, .bool t.co, .slice av t.ac.length vc])
  clear hz hl
  show Calls Try.prog 16 #[.slice a n c, .agg #[.int .i64 t.th, .int .i64 t.tx, .int .i64 t.at_, .int .i64 t.st, .int .i64 t.b, .int .i64 t.en, .int .i64 t.re, .bool t.co, .slice av t.ac.length vc]] w _
  have GA := Lib.hid (World.grownBy_alloc w (.cells #[.int .i64 t.th, .int .i64 t.tx, .int .i64 t.at_, .int .i64 t.st, .int .i64 t.b, .int .i64 t.en, .int .i64 t.re, .bool t.co, .slice av t.ac.length vc] 33) none)
  go_enter Try.func16, Try.ntmps16
  go_wp2_with fail
  refine (copied_any a n c z _ (HZ.out.grown GA.out) hn).mono ?_
  rintro r u1 ⟨a', c', rfl, HR, g1⟩
  have B1 := Lib.hid (BT.out.grown g1.out (by simp))
  have q0 := B1.out.at 0 rfl; have q1 := B1.out.at 1 rfl; have q2 := B1.out.at 2 rfl; have q3 := B1.out.at 3 rfl; have q4 := B1.out.at 4 rfl; have q5 := B1.out.at 5 rfl; have q6 := B1.out.at 6 rfl; have q7 := B1.out.at 7 rfl; have q8 := B1.out.at 8 rfl
  have G1 := Lib.hid (gb_trans GA.out g1.out)
  go_wp2_with fail
  refine (change_any _ a' n c' z t av vc _ HR.out (HL.out.grown G1.out) ?_ hn hm).mono ?_
  · intro hne b off g e1 e2
    have h2 := (HR.out.lt g (by rw [e2]; rfl)).1
    rcases HL.out with h | ⟨b', off', e3, h1, _⟩
    · exact absurd h hne
    · rw [e1] at e3
      cases e3
      simp at h2
      omega
  rintro r u2 ⟨rfl, HR2, g2⟩
  go_wp2
  go_ret
  exact ⟨a', c', rfl, ownsRow_drop HR2.out (by simp), gb_overO G1.out g2.out (by intro i e; have := (HR.out.lt i e).1; simp at this; omega)⟩
end Go.Proofs.Ytdohepenmejcaaa.md
