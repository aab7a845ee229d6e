/- The contracts of package desc that make and tell: New, Begin, Rec, Count. -/
import Derived.Test.YtocjbbfeegmkaaaDesc
import Derived.Deep.RegionHeld3
namespace Go.Proofs.Ytocjbbfeegmkaaa.ds
open Go Go.RowKit Go.Proofs.Ytocjbbfeegmkaaa.base Go.Proofs.Ytocjbbfeegmkaaa.ar Go.Proofs.Ytocjbbfeegmkaaa.wd

theorem new_nil (w : World) : Calls Try.prog 60 #[.pointer none] w fun e w' => e = .returned (.tuple #[.pointer none, .int .i64 6]) ∧ w = w' := by
  go_enter Try.func60, Try.ntmps60
  go_wp2
  go_ret2
  exact ⟨rfl, rfl⟩

theorem new_any (base ab : Nat) (w : World) (hb : base ≤ w.heap.size) (blk : Int → Nat → Nat) (num : Int → Nat → Int) :
    Calls Try.prog 60 #[.pointer (some ⟨ab, 0, none⟩)] w fun e w' => ∃ tb mb, e = .returned (.tuple #[.pointer (some ⟨tb, 0, none⟩), .int .i64 0]) ∧ Hid (Tab base w' tb mb ab 0 (fun _ => false) blk num 0) ∧ Hid (w.grownBy w' none) ∧ Hid (w.heap.size ≤ tb ∧ w.heap.size ≤ mb) := by
  have hmm := @run_makeMap Try.prog
  have hb' := Lib.hid hb
  clear hb
  go_enter Try.func60, Try.ntmps60
  go_wp2
  go_ret2
  refine ⟨w.heap.size + 1, w.heap.size, rfl, ⟨by have := hb'.out; omega, hb'.out, ?_, ?_, by simp, by simp⟩, (by repeat first | exact gb_refl _ _ | refine gb_alloc ?_ _), by omega, Nat.le_refl _⟩
  · have := Blk.made (w.alloc (.map #[] 0)) 97 #[.pointer (some ⟨ab, 0, none⟩), .map (some w.heap.size)]
    simpa using this
  · have := MapF.made w Try.prog 3
    refine MapF.keep ?_ (Below.heap_alloc _ _ _ (by simp))
    simpa using this

theorem begin_nil (th tx at' st pr : Int) (w : World) :
    Calls Try.prog 32 #[.pointer none, .int .i64 th, .int .i64 tx, .int .i64 at', .int .i64 st, .int .i64 pr] w fun e w' => e = .returned (.tuple #[.int .i64 0, .int .i64 6]) ∧ Hid (w.grownBy w' none) := by
  go_enter Try.func32, Try.ntmps32
  go_wp2
  go_ret2
  exact ⟨rfl, (by repeat first | exact gb_refl _ _ | refine gb_alloc ?_ _)⟩

theorem count_any (base : Nat) (tb mb ab m : Nat) (is : Int → Bool) (blk : Int → Nat → Nat) (num : Int → Nat → Int) (B : Int) (w : World) (h : Tab base w tb mb ab m is blk num B) :
    Calls Try.prog 24 #[.pointer (some ⟨tb, 0, none⟩)] w fun e w' => e = .returned (.int .i64 m) ∧ w = w' := by
  have t1 := h.tab.cell 1
  have hl := h.map.len Try.underlying95 3
  clear h
  go_enter Try.func24, Try.ntmps24
  go_wp2
  go_ret
  exact ⟨rfl, rfl⟩

theorem count_nil (w : World) : Calls Try.prog 24 #[.pointer none] w fun e w' => e = .returned (.int .i64 0) ∧ w = w' := by
  go_enter Try.func24, Try.ntmps24
  go_wp2
  go_ret
  exact ⟨rfl, rfl⟩

/-- One descriptor more. -/
def more {α : Type} (f : Int → α) (j : Int) (v : α) : Int → α := fun i => if i = j then v else f i

theorem Tab.add {base : Nat} {u F : World} {tb mb ab m : Nat} {is : Int → Bool} {blk : Int → Nat → Nat} {num : Int → Nat → Int} {B : Int} (h : Tab base u tb mb ab m is blk num B) (j : Int) (hj : is j = false) (f : Nat → Nat) (p : Nat → Int) (hB : 0 ≤ B)
    (hf : ∀ c, c < 3 → base ≤ f c ∧ Word u (f c) (p c) 0) (hd : ∀ c c', c < 3 → c' < 3 → f c = f c' → c = c') (hn : ∀ i c c', is i = true → c < 3 → c' < 3 → blk i c ≠ f c')
    (MF : MapF Try.prog 3 F mb (m + 1) (fun i => if i = j then some (dval f) else if is i then some (dval (blk i)) else none)) (gF : u.grownBy F (some mb)) :
    Tab base F tb mb ab (m + 1) (more is j true) (more blk j f) (more num j p) B := by
  have hmb : ∀ c, c < 3 → f c ≠ mb := fun c hc e => by
    have hw := (hf c hc).2
    unfold Word Two at hw
    rw [e] at hw
    exact h.map.not_cells hw
  refine ⟨h.tb_le, h.mb_le, h.tab.grown gF (by have := h.tb_mb; simpa using this), ?_, fun i c hi hc => ?_, fun i c i' c' hi hi' hc hc' e => ?_⟩
  · have e : (fun i => if i = j then some (dval f) else if is i then some (dval (blk i)) else none) = (fun i => if more is j true i then some (dval (more blk j f i)) else none) := by
      funext i
      unfold more
      by_cases e : i = j <;> simp [e]
    rw [← e]
    exact MF
  · by_cases e : i = j
    · subst e
      refine ⟨by simpa [more] using (hf c hc).1, 0, by omega, hB, ?_⟩
      have := (hf c hc).2.grown gF (by simpa using hmb c hc)
      simpa [more] using this
    · have hi' : is i = true := by simpa [more, e] using hi
      obtain ⟨hb, a, l, u', hw⟩ := h.word i c hi' hc
      refine ⟨by simpa [more, e] using hb, a, l, u', ?_⟩
      have := hw.grown gF (by have := h.mb_ne hi' hc; simpa using this.symm)
      simpa [more, e] using this
  · by_cases e1 : i = j <;> by_cases e2 : i' = j
    · subst e1
      subst e2
      exact ⟨rfl, hd c c' hc hc' (by simpa [more] using e)⟩
    · subst e1
      have hi2 : is i' = true := by simpa [more, e2] using hi'
      exact absurd (by simpa [more, e2] using e.symm) (hn i' c' c hi2 hc' hc)
    · subst e2
      have hi2 : is i = true := by simpa [more, e1] using hi
      exact absurd (by simpa [more, e1] using e) (hn i c c' hi2 hc hc')
    · exact h.apart i c i' c' (by simpa [more, e1] using hi) (by simpa [more, e2] using hi') hc hc' (by simpa [more, e1, e2] using e)

/-- The least of five numbers. -/
theorem min5 (ts : Array TypeId) (t : TypeId) (a b c d e : Int) : ∃ M : Int, (∀ w, (Builtin.min_ ts t #[.int .i64 a, .int .i64 b, .int .i64 c, .int .i64 d, .int .i64 e]).run Try.prog w = .ok (.int .i64 M) w) ∧ (0 ≤ M ↔ 0 ≤ a ∧ 0 ≤ b ∧ 0 ≤ c ∧ 0 ≤ d ∧ 0 ≤ e) := by
  refine ⟨min (min (min (min a b) c) d) e, fun w => ?_, by omega⟩
  have h : ∀ x y : Int, (if y < x then y else x) = min x y := fun x y => by split <;> omega
  simp [Builtin.min_, Builtin.min2, h]

theorem begin_neg (p : Nat) (th tx at' st pr : Int) (w : World) (h0 : ¬ (0 ≤ th ∧ 0 ≤ tx ∧ 0 ≤ at' ∧ 0 ≤ st ∧ 0 ≤ pr)) :
    Calls Try.prog 32 #[.pointer (some ⟨p, 0, none⟩), .int .i64 th, .int .i64 tx, .int .i64 at', .int .i64 st, .int .i64 pr] w fun e w' => e = .returned (.tuple #[.int .i64 0, .int .i64 1]) ∧ Hid (w.grownBy w' none) := by
  obtain ⟨M, hmin, hM⟩ := min5 #[3, 3, 3, 3, 3] 3 th tx at' st pr
  have hM0 : M < 0 := by
    rcases Int.lt_or_le M 0 with h | h
    · exact h
    · exact absurd (hM.1 h) h0
  clear hM h0
  go_enter Try.func32, Try.ntmps32
  go_wp2
  go_ret2
  exact ⟨rfl, (by repeat first | exact gb_refl _ _ | refine gb_alloc ?_ _)⟩

theorem begin_full (base : Nat) (tb mb ab m : Nat) (is : Int → Bool) (blk : Int → Nat → Nat) (num : Int → Nat → Int) (B : Int) (w : World) (h : Tab base w tb mb ab m is blk num B) (th tx at' st pr : Int) (room : Int) (rs : List Rc) (r : Option Nat) (A : ArenaR base w ab room rs r) (hr : (rs.length : Int) = room) (hroom : room ≤ 4096) (h0 : 0 ≤ th ∧ 0 ≤ tx ∧ 0 ≤ at' ∧ 0 ≤ st ∧ 0 ≤ pr) :
    Calls Try.prog 32 #[.pointer (some ⟨tb, 0, none⟩), .int .i64 th, .int .i64 tx, .int .i64 at', .int .i64 st, .int .i64 pr] w fun e w' => e = .returned (.tuple #[.int .i64 0, .int .i64 4]) ∧ Hid (w.grownBy w' none) := by
  have A' := Lib.hid A
  have t0 := h.tab.cell 0
  obtain ⟨M, hmin, hM⟩ := min5 #[3, 3, 3, 3, 3] 3 th tx at' st pr
  have hM0 : 0 ≤ M := hM.2 h0
  have hr' := Lib.hid hr
  clear h A hM h0 hr
  go_enter Try.func32, Try.ntmps32
  go_wp2_with fail
  refine (putR_full base ab ⟨3, 0, 0, 0, 0, th, tx, at', st⟩ room rs r _ A'.out hr'.out hroom).mono ?_
  rintro e u1 ⟨rfl, g1⟩
  go_wp2
  go_ret2
  exact ⟨rfl, g1.out⟩

set_option maxHeartbeats 1000000 in
theorem begin_ok (base : Nat) (tb mb ab m : Nat) (is : Int → Bool) (blk : Int → Nat → Nat) (num : Int → Nat → Int) (B : Int) (w : World) (h : Tab base w tb mb ab m is blk num B) (hB : 0 ≤ B) (th tx at' st pr : Int) (room : Int) (rs : List Rc) (r : Option Nat) (A : ArenaR base w ab room rs r) (hr : (rs.length : Int) < room) (hroom : room ≤ 4096) (hm : m ≤ 4096) (hbs : base ≤ w.heap.size) (hid : is rs.length = false) (h0 : 0 ≤ th ∧ 0 ≤ tx ∧ 0 ≤ at' ∧ 0 ≤ st ∧ 0 ≤ pr) :
    Calls Try.prog 32 #[.pointer (some ⟨tb, 0, none⟩), .int .i64 th, .int .i64 tx, .int .i64 at', .int .i64 st, .int .i64 pr] w fun e w' => ∃ r' f, e = .returned (.tuple #[.int .i64 rs.length, .int .i64 0]) ∧ Hid (ArenaR base w' ab room (rs ++ [⟨3, 0, 0, 0, 0, th, tx, at', st⟩]) r') ∧
      Hid (Tab base w' tb mb ab (m + 1) (more is rs.length true) (more blk rs.length f) (more num rs.length (fun c => if c = 0 then 1 else if c = 1 then pr else 0)) B) ∧ Hid (Only (fun k => k = mb ∨ k = ab ∨ some k = r) w w') ∧ Hid (∀ c, c < 3 → w.heap.size ≤ f c) ∧ Hid (r' = r ∨ ∃ k, r' = some k ∧ w.heap.size ≤ k) := by
  have H := Lib.hid h
  have A' := Lib.hid A
  have t0 := h.tab.cell 0
  have hr' := Lib.hid hr
  have hm' := Lib.hid hm
  have hbs' := Lib.hid hbs
  obtain ⟨M, hmin, hM⟩ := min5 #[3, 3, 3, 3, 3] 3 th tx at' st pr
  have hM0 : 0 ≤ M := hM.2 h0
  clear h A hr hm hbs hM h0
  go_enter Try.func32, Try.ntmps32
  go_wp2_with fail
  refine (putR base ab ⟨3, 0, 0, 0, 0, th, tx, at', st⟩ room rs r _ A'.out hr'.out hroom hbs'.out).mono ?_
  rintro e u1 ⟨r1, rfl, A1, c1⟩
  have T1 := Lib.hid (H.out.chg A'.out c1.out)
  have t1 := T1.out.tab.cell 1
  have tl := T1.out.tab.lt
  have ntm := Lib.hid T1.out.tb_mb
  go_wp2_with fail
  have hid' : (fun j => if is j then some (dval (blk j)) else none) (rs.length : Int) = none := by simp [hid]
  have HD := Lib.hid hid'
  have hlw : Hid ((Lit.int .i64 (rs.length : Int)).wf = true) := WalkArith.wf_i64 (by have := hr'.out; omega)
  have hmx : Hid (m < maxLen) := by have := hm'.out; unfold Hid maxLen; omega
  clear hid'
  go_region_held3 (fun w' => w'.cell? ⟨tb, 1, none⟩ = some (.map (some mb))) (go_keep) (first | (go_at_call 50; have e1 := W1.out; clear e1; refine (of_made _ _).mono ?_; rintro e u4 ⟨b2, rfl, l2, W2, g4⟩; have t4 := g4.out.cell (a := ⟨tb, 1, none⟩) t3 (by simp); have T4 := Lib.hid (T3.out.grown g4.out); obtain ⟨F, hF, MF0, gF0⟩ := T4.out.map.put Try.underlying3 Try.underlying95 hmx.out hlw.out HD.out (.agg #[.pointer (some ⟨b0, 0, none⟩), .pointer (some ⟨b1, 0, none⟩), .pointer (some ⟨b2, 0, none⟩)]); have MF := Lib.hid MF0; have gF := Lib.hid gF0; have tF := gF0.cell (a := ⟨tb, 1, none⟩) t4 (by intro e; simp at e; exact ntm.out e); clear MF0 gF0) | (go_at_call 50; have e1 := W0.out; clear e1; refine (of_made _ _).mono ?_; rintro e u3 ⟨b1, rfl, l1, W1, g3⟩; have t3 := g3.out.cell (a := ⟨tb, 1, none⟩) t2 (by simp); have T3 := Lib.hid (T2.out.grown g3.out)) | (go_at_call 50; refine (of_made _ _).mono ?_; rintro e u2 ⟨b0, rfl, l0, W0, g2⟩; have t2 := g2.out.cell (a := ⟨tb, 1, none⟩) t1 (by simp); have T2 := Lib.hid (T1.out.drew.grown g2.out)))
  go_wp2
  go_ret2
  have d0 : Word u4 b0 1 0 := (W0.out.grown g3.out (by simp)).grown g4.out (by simp)
  have d1 : Word u4 b1 pr 0 := W1.out.grown g4.out (by simp)
  have d2 : Word u4 b2 0 0 := W2.out
  have s1 : w.heap.size ≤ u1.heap.size := c1.out.size
  have s2 : u1.heap.size ≤ u2.heap.size := g2.out.size
  have s3 : u2.heap.size ≤ u3.heap.size := g3.out.size
  have z0 : u1.heap.size ≤ b0 := l0.out
  have z1 : u2.heap.size ≤ b1 := l1.out
  have z2 : u3.heap.size ≤ b2 := l2.out
  have y0 : b0 < u2.heap.size := W0.out.lt
  have y1 : b1 < u3.heap.size := W1.out.lt
  have hbase : base ≤ w.heap.size := hbs'.out
  have G : u1.grownBy u4 none := gb_trans (gb_trans (gb_trans (gb_drew (gb_refl u1 none)) g2.out) g3.out) g4.out
  refine ⟨r1, fun c => if c = 0 then b0 else if c = 1 then b1 else b2, rfl, ?_, ?_, ?_, ?_, c1.out.row⟩
  · have A4 := A1.out.grown G
    have nb : some mb ≠ r1 ∧ ab ≠ mb := by
      have A5 := A4
      obtain ⟨_, _, v, hb, ho, hr1⟩ := A5
      refine ⟨fun e => ?_, fun e => ?_⟩
      · rcases ho.2 with ⟨rfl, _⟩ | ⟨g, cap, cur, rfl, _, hg, _⟩
        · rw [← hr1] at e; simp [Value.ownBlock] at e
        · rw [← hr1] at e
          simp only [Value.ownBlock] at e
          cases e
          exact T4.out.map.not_cells hg
      · unfold Blk at hb
        rw [e] at hb
        exact T4.out.map.not_cells hb
    exact A4.grownRow gF.out (by simpa using nb.2) (by
      cases r1 with
      | none => exact .inl rfl
      | some k => exact .inr fun e => nb.1 e.symm)
  · refine T4.out.add rs.length hid (fun c => if c = 0 then b0 else if c = 1 then b1 else b2) (fun c => if c = 0 then 1 else if c = 1 then pr else 0) hB (fun c hc => ?_) (fun c c' hc hc' => ?_) (fun i c c' hi hc hc' => ?_) MF.out gF.out
    · have : c = 0 ∨ c = 1 ∨ c = 2 := by omega
      rcases this with rfl | rfl | rfl
      · exact ⟨by simp; omega, d0⟩
      · exact ⟨by simp; omega, d1⟩
      · exact ⟨by simp; omega, d2⟩
    · have e0 : c = 0 ∨ c = 1 ∨ c = 2 := by omega
      have e1 : c' = 0 ∨ c' = 1 ∨ c' = 2 := by omega
      rcases e0 with rfl | rfl | rfl <;> rcases e1 with rfl | rfl | rfl <;> simp <;> omega
    · have := T1.out.word_lt hi hc
      have e1 : c' = 0 ∨ c' = 1 ∨ c' = 2 := by omega
      rcases e1 with rfl | rfl | rfl <;> simp <;> omega
  · refine Only.trans (w' := u1) ?_ (Only.trans (Only.none G) (Only.of gF.out (fun k e _ => .inl (by simpa using e.symm))))
    exact ⟨c1.out.os, c1.out.tape, c1.out.output, c1.out.size, fun k hk hn => c1.out.block k hk (fun e => hn (.inr (.inl e))) (fun e => hn (.inr (.inr e)))⟩
  · intro c hc
    have : c = 0 ∨ c = 1 ∨ c = 2 := by omega
    rcases this with rfl | rfl | rfl <;> simp <;> omega

end Go.Proofs.Ytocjbbfeegmkaaa.ds
