/- What the statements of layer 3 begin with: an arena and a table on it; the document's example; the contracts of package desc in the words of a statement's walk. -/
import Derived.Test.YtpllfichmpappaaDescW
import Derived.Test.YtpllfichmpappaaDescB
namespace Go.Proofs.Ytpllfichmpappaa.ds
open Go Go.RowKit Go.Proofs.Ytpllfichmpappaa.base Go.Proofs.Ytpllfichmpappaa.ar Go.Proofs.Ytpllfichmpappaa.wd

section
variable {base : Nat} {w0 w w' : World} {tb mb ab m : Nat} {is : Int → Bool} {blk : Int → Nat → Nat} {num : Int → Nat → Int} {B : Int}
theorem Tab.base_size (h : Tab base w tb mb ab m is blk num B) : base ≤ w.heap.size := by have := h.tb_le; have := h.tab.lt; omega
theorem low {S : Nat → Prop} (k : Below base w0 w) (h : Only S w w') (hs : ∀ i, i < w.heap.size → S i → base ≤ i) (hb : base ≤ w.heap.size) : Below base w0 w' :=
  k.trans ⟨h.os, h.tape, h.output, h.size, fun i hi => h.block i (by omega) (fun e => by have := hs i (by omega) e; omega)⟩
theorem Tab.low1 (h : Tab base w tb mb ab m is blk num B) {j : Int} {c : Nat} (hj : is j = true) (hc : c < 3) (k : Below base w0 w) (g : w.grownBy w' (some (blk j c))) : Below base w0 w' :=
  low k (Only.of (S := fun i => i = blk j c) g (fun i e _ => by simpa using e.symm)) (fun i _ e => by rw [e]; exact (h.word j c hj hc).1) h.base_size
theorem Tab.low2 (h : Tab base w tb mb ab m is blk num B) {j : Int} {c c' : Nat} (hj : is j = true) (hc : c < 3) (hc' : c' < 3) (k : Below base w0 w) (g : Only (fun i => i = blk j c ∨ i = blk j c') w w') : Below base w0 w' :=
  low k g (fun i _ e => by rcases e with rfl | rfl; exact (h.word j c hj hc).1; exact (h.word j c' hj hc').1) h.base_size
theorem Tab.low0 (h : Tab base w tb mb ab m is blk num B) (k : Below base w0 w) (g : w.grownBy w' none) : Below base w0 w' := low k (Only.none (S := fun _ => False) g) (fun i _ e => e.elim) h.base_size
/-- The arena is as it was, where a descriptor's word was changed. -/
theorem Tab.arena (h : Tab base w tb mb ab m is blk num B) {b : Nat} {room : Int} {rs : List Rc} {r : Option Nat} (A : ArenaR base w b room rs r) {S : Nat → Prop} (g : Only S w w') (hs : ∀ i, i < w.heap.size → S i → ∃ j c, is j = true ∧ c < 3 ∧ i = blk j c) : ArenaR base w' b room rs r := by
  have no : ∀ j c, is j = true → c < 3 → b ≠ blk j c ∧ r ≠ some (blk j c) := by
    intro j c hj hc
    obtain ⟨_, a, _, _, hw⟩ := h.word j c hj hc
    refine ⟨fun e => ?_, fun e => ?_⟩
    · obtain ⟨_, _, v, hb, _, _⟩ := A
      unfold Blk at hb
      unfold Word Two at hw
      rw [← e, hb] at hw
      simp at hw
    · exact Fld.row_type A (cs := #[.int .i64 (num j c), .int .i64 a]) hw (by decide) e.symm
  refine A.keep (g.block b A.lt fun e => ?_) (fun k hk => g.block k (A.row_lt k hk).2 fun e => ?_)
  · obtain ⟨j, c, hj, hc, e1⟩ := hs b A.lt e
    exact (no j c hj hc).1 e1
  · obtain ⟨j, c, hj, hc, e1⟩ := hs k (A.row_lt k hk).2 e
    exact (no j c hj hc).2 (by rw [hk, e1])
end

/-- Begin, in the words of a walk: n records stand in the arena. -/
theorem begin_at (base tb mb ab m : Nat) (is : Int → Bool) (blk : Int → Nat → Nat) (num : Int → Nat → Int) (B : Int) (w : World) (h : Tab base w tb mb ab m is blk num B) (hB : 0 ≤ B) (th tx at' st pr : Int) (room : Int) (rs : List Rc) (r : Option Nat) (A : ArenaR base w ab room rs r) (n : Nat) (hn : rs.length = n)
    (hr : (n : Int) < room) (hroom : room ≤ 4096) (hm : m ≤ 4096) (hid : is n = false) (h0 : 0 ≤ th ∧ 0 ≤ tx ∧ 0 ≤ at' ∧ 0 ≤ st ∧ 0 ≤ pr) :
    Calls Try.prog 8 #[.pointer (some ⟨tb, 0, none⟩), .int .i64 th, .int .i64 tx, .int .i64 at', .int .i64 st, .int .i64 pr] w fun e w' => ∃ r' is' blk' num', e = .returned (.tuple #[.int .i64 n, .int .i64 0]) ∧
      Hid (ArenaR base w' ab room (rs ++ [⟨3, 0, 0, 0, 0, th, tx, at', st⟩]) r') ∧ Hid (Tab base w' tb mb ab (m + 1) is' blk' num' B) ∧ Hid (is' n = true ∧ num' n 0 = 1 ∧ num' n 1 = pr ∧ num' n 2 = 0) ∧ Hid (∀ j : Int, j ≠ (n : Int) → is' j = is j ∧ blk' j = blk j ∧ num' j = num j) ∧ Hid (Below base w w') := by
  subst hn
  refine (begin_ok base tb mb ab m is blk num B w h hB th tx at' st pr room rs r A hr hroom hm h.base_size hid h0).mono ?_
  rintro e u1 ⟨r1, f, rfl, A1, T1, o1, hf⟩
  refine ⟨r1, _, _, _, rfl, A1, T1, ⟨by simp [more], by simp [more], by simp [more], by simp [more]⟩, fun j hj => by simp [more, hj], ?_⟩
  refine low (Below.refl _ _) o1.out (fun i _ hi => ?_) h.base_size
  rcases hi with rfl | rfl | hi
  · exact h.mb_le
  · exact A.base_le
  · exact (A.row_lt i hi.symm).1

theorem Tab.mono {base : Nat} {w : World} {tb mb ab m : Nat} {is : Int → Bool} {blk : Int → Nat → Nat} {num : Int → Nat → Int} {B B' : Int} (h : Tab base w tb mb ab m is blk num B) (hB : B ≤ B') : Tab base w tb mb ab m is blk num B' :=
  ⟨h.tb_le, h.mb_le, h.tab, h.map, fun j c hj hc => by
    obtain ⟨hb, a, l, u, hw⟩ := h.word j c hj hc
    exact ⟨hb, a, l, by omega, hw⟩, h.apart⟩

/-- Turn, to whatever, of one that is active. -/
theorem turn_some (base : Nat) (tb mb ab m : Nat) (is : Int → Bool) (blk : Int → Nat → Nat) (num : Int → Nat → Int) (B : Int) (w : World) (id : Int) (h : Tab base w tb mb ab m is blk num B) (to : Int) (hid : is id = true) (hw : (Lit.int .i64 id).wf = true) (hB : B ≤ 1000000) (hs : num id 0 = 1) :
    Calls Try.prog 9 #[.pointer (some ⟨tb, 0, none⟩), .int .i64 id, .int .i64 to] w fun e w' => ∃ b v, e = .returned (.bool b) ∧ Hid (Tab base w' tb mb ab m is blk (upd num id 0 v) (B + 1)) ∧ Hid (w.grownBy w' (some (blk id 0))) := by
  by_cases ht : to = 2 ∨ to = 3
  · refine (turn_hit base tb mb ab m is blk num B w id h to hid hw hB hs ht).mono ?_
    rintro e w' ⟨rfl, T, g⟩
    exact ⟨_, _, rfl, T, g⟩
  · refine (turn_bad _ id to w (by omega)).mono ?_
    rintro e w' ⟨rfl, g⟩
    have g' := g.out
    exact ⟨_, num id 0, rfl, by rw [upd_self]; exact (h.grown g').mono (by omega), ⟨g'.os, g'.tape, g'.output, g'.size, fun k hk _ => g'.block k hk (by simp)⟩⟩

theorem made_any (base : Nat) (n : Int) (l : 1 ≤ n) (u : n ≤ 4096) (w : World) (hb : base ≤ w.heap.size) : Calls Try.prog 7 #[.int .i64 n] w fun e w' => ∃ ab tb mb, e = .returned (.tuple #[.pointer (some ⟨ab, 0, none⟩), .pointer (some ⟨tb, 0, none⟩)]) ∧
    Hid (ArenaR base w' ab n [] none) ∧ Hid (Tab base w' tb mb ab 0 (fun _ => false) (fun _ _ => 0) (fun _ _ => 0) 0) ∧ Hid (w.grownBy w' none) := by
  go_enter Try.func7, Try.ntmps7
  go_wp2_with fail
  refine (newR_in base n w l u hb).mono ?_
  rintro e u1 ⟨ab, rfl, hab, A1, g1⟩
  go_wp2_with fail
  refine (new_any base ab u1 (Nat.le_trans hb g1.out.size) (fun _ _ => 0) (fun _ _ => 0)).mono ?_
  rintro e u2 ⟨tb, mb, rfl, T2, g2, hl⟩
  go_wp2
  go_ret2
  exact ⟨_, _, _, rfl, A1.out.grown g2.out, T2.out, gb_trans g1.out g2.out⟩

theorem alive_any (w : World) : Calls Try.prog 6 #[] w fun e w' => e = .returned (.bool true) ∧ Hid (Below w.heap.size w w') := by
  go_enter Try.func6, Try.ntmps6
  go_wp2_with fail
  refine (made_any w.heap.size 9 (by omega) (by omega) w (Nat.le_refl _)).mono ?_
  rintro e u1 ⟨ab, tb, mb, rfl, A1, T1, g1⟩
  have B1 := Lib.hid (gb_below g1.out)
  clear g1
  go_wp2_with fail
  refine (begin_at w.heap.size tb mb ab 0 _ _ _ 0 u1 T1.out (by omega) 0 0 1 7 0 9 [] none A1.out 0 rfl (by omega) (by omega) (by omega) rfl (by omega)).mono ?_
  rintro e u2 ⟨r2, is, blk, num, rfl, A2, T2, F2, _, B2⟩
  have B3 := Lib.hid (B1.out.trans B2.out)
  obtain ⟨i0, n0, _, _⟩ := F2.out
  have hi := Lib.hid i0
  have hn := Lib.hid n0
  clear i0 n0 F2 A2 A1 T1 B1 B2
  go_wp2_with fail
  refine (status_hit w.heap.size tb mb ab 1 is blk num 0 u2 0 T2.out hi.out rfl (by omega)).mono ?_
  rintro e u3 ⟨rfl, T3, g3⟩
  have B4 := Lib.hid (T2.out.low1 hi.out (by omega) B3.out g3.out)
  have e3 : num 0 0 = 1 := hn.out
  rw [e3]
  clear T2 g3 B3 e3
  go_wp2_with fail
  refine (turn_hit w.heap.size tb mb ab 1 is blk num _ u3 0 T3.out 3 hi.out rfl (by omega) hn.out (.inr rfl)).mono ?_
  rintro e u4 ⟨rfl, T4, g4⟩
  have B5 := Lib.hid (T3.out.low1 hi.out (by omega) B4.out g4.out)
  have hn4 : Hid (upd num 0 0 3 0 0 = 3) := upd_hit _ _ _ _
  generalize upd num 0 0 3 = num4 at *
  clear T3 g4 B4
  go_wp2_with fail
  refine (turn_gone w.heap.size tb mb ab 1 is blk num4 _ u4 0 T4.out 2 hi.out rfl (by omega) (by rw [hn4.out]; rfl) (.inl rfl)).mono ?_
  rintro e u5 ⟨rfl, T5, g5⟩
  have B6 := Lib.hid (T4.out.low1 hi.out (by omega) B5.out g5.out)
  have T5' := Lib.hid (upd_self num4 0 0 ▸ T5.out)
  clear T4 g5 B5 T5
  go_wp2_with fail
  refine (status_hit w.heap.size tb mb ab 1 is blk num4 _ u5 0 T5'.out hi.out rfl (by omega)).mono ?_
  rintro e u6 ⟨rfl, T6, g6⟩
  have B7 := Lib.hid (T5'.out.low1 hi.out (by omega) B6.out g6.out)
  have e6 : num4 0 0 = 3 := hn4.out
  rw [e6]
  go_wp2
  go_ret
  exact ⟨by rfl, B7.out⟩
end Go.Proofs.Ytpllfichmpappaa.ds
