/- The contracts of package desc that make and tell: New, Begin, Rec, Count. -/
import Derived.Test.YtpllfichmpappaaDesc
import Derived.Deep.RegionHeld3
namespace Go.Proofs.Ytpllfichmpappaa.ds
open Go Go.RowKit Go.Proofs.Ytpllfichmpappaa.base Go.Proofs.Ytpllfichmpappaa.ar Go.Proofs.Ytpllfichmpappaa.wd

theorem new_nil (w : World) : Calls Try.prog 12 #[.pointer none] w fun e w' => e = .returned (.tuple #[.pointer none, .int .i64 6]) ∧ w = w' := by
  go_enter Try.func12, Try.ntmps12
  go_wp2
  go_ret2
  exact ⟨rfl, rfl⟩

theorem new_any (base ab : Nat) (w : World) (hb : base ≤ w.heap.size) (blk : Int → Nat → Nat) (num : Int → Nat → Int) :
    Calls Try.prog 12 #[.pointer (some ⟨ab, 0, none⟩)] w fun e w' => ∃ tb mb, e = .returned (.tuple #[.pointer (some ⟨tb, 0, none⟩), .int .i64 0]) ∧ Hid (Tab base w' tb mb ab 0 (fun _ => false) blk num 0) ∧ Hid (w.grownBy w' none) ∧ Hid (w.heap.size ≤ tb ∧ w.heap.size ≤ mb) := by
  have hmm := @run_makeMap Try.prog
  have hb' := Lib.hid hb
  clear hb
  go_enter Try.func12, Try.ntmps12
  go_wp2
  go_ret2
  refine ⟨w.heap.size + 1, w.heap.size, rfl, ⟨by have := hb'.out; omega, hb'.out, ?_, ?_, by simp, by simp⟩, (by repeat first | exact gb_refl _ _ | refine gb_alloc ?_ _), by omega, Nat.le_refl _⟩
  · have := Blk.made (w.alloc (.map #[] 0)) 54 #[.pointer (some ⟨ab, 0, none⟩), .map (some w.heap.size)]
    simpa using this
  · have := MapF.made w Try.prog 3
    refine MapF.keep ?_ (Below.heap_alloc _ _ _ (by simp))
    simpa using this

theorem begin_nil (th tx at' st pr : Int) (w : World) :
    Calls Try.prog 8 #[.pointer none, .int .i64 th, .int .i64 tx, .int .i64 at', .int .i64 st, .int .i64 pr] w fun e w' => e = .returned (.tuple #[.int .i64 0, .int .i64 6]) ∧ Hid (w.grownBy w' none) := by
  go_enter Try.func8, Try.ntmps8
  go_wp2
  go_ret2
  exact ⟨rfl, (by repeat first | exact gb_refl _ _ | refine gb_alloc ?_ _)⟩

theorem count_any (base : Nat) (tb mb ab m : Nat) (is : Int → Bool) (blk : Int → Nat → Nat) (num : Int → Nat → Int) (B : Int) (w : World) (h : Tab base w tb mb ab m is blk num B) :
    Calls Try.prog 17 #[.pointer (some ⟨tb, 0, none⟩)] w fun e w' => e = .returned (.int .i64 m) ∧ w = w' := by
  have t1 := h.tab.cell 1
  have hl := h.map.len Try.underlying52 3
  clear h
  go_enter Try.func17, Try.ntmps17
  go_wp2
  go_ret
  exact ⟨rfl, rfl⟩

theorem count_nil (w : World) : Calls Try.prog 17 #[.pointer none] w fun e w' => e = .returned (.int .i64 0) ∧ w = w' := by
  go_enter Try.func17, Try.ntmps17
  go_wp2
  go_ret
  exact ⟨rfl, rfl⟩

/-- One descriptor more. -/
def more {α : Type} (f : Int → α) (j : Int) (v : α) : Int → α := fun i => if i = j then v else f i

theorem Tab.add {base : Nat} {u F : World} {tb mb ab m : Nat} {is : Int → Bool} {blk : Int → Nat → Nat} {num : Int → Nat → Int} {B : Int} (h : Tab base u tb mb ab m is blk num B) (j : Int) (hj : is j = false) (f : Nat → Nat) (p : Nat → Int) (hB : 0 ≤ B)
    (hf : ∀ c, c < 3 → base ≤ f c ∧ Word u (f c) (p c) 0) (hd : ∀ c c', c < 3 → c' < 3 → f c = f c' → c = c') (hn : ∀ i c c', is i = true → c < 3 → c' < 3 → blk i c ≠ f c')
    (MF : MapF Try.prog 3 F mb (m + 1) (fun i => if i = j then some (dval f) else if is i then some (dval (blk i)) else none)) (gF : u.grownBy F (some mb)) :
    Tab base F tb mb ab (m + 1) (more is j true) (more blk j f) (more num j p) B := by
  have hmb : ∀ c, c < 3 → f c ≠ mb := fun c hc e => by
    have hw := (hf c hc).2
    unfold Word Two at hw
    rw [e] at hw
    exact h.map.not_cells hw
  refine ⟨h.tb_le, h.mb_le, h.tab.grown gF (by have := h.tb_mb; simpa using this), ?_, fun i c hi hc => ?_, fun i c i' c' hi hi' hc hc' e => ?_⟩
  · have e : (fun i => if i = j then some (dval f) else if is i then some (dval (blk i)) else none) = (fun i => if more is j true i then some (dval (more blk j f i)) else none) := by
      funext i
      unfold more
      by_cases e : i = j <;> simp [e]
    rw [← e]
    exact MF
  · by_cases e : i = j
    · subst e
      refine ⟨by simpa [more] using (hf c hc).1, 0, by omega, hB, ?_⟩
      have := (hf c hc).2.grown gF (by simpa using hmb c hc)
      simpa [more] using this
    · have hi' : is i = true := by simpa [more, e] using hi
      obtain ⟨hb, a, l, u', hw⟩ := h.word i c hi' hc
      refine ⟨by simpa [more, e] using hb, a, l, u', ?_⟩
      have := hw.grown gF (by have := h.mb_ne hi' hc; simpa using this.symm)
      simpa [more, e] using this
  · by_cases e1 : i = j <;> by_cases e2 : i' = j
    · subst e1
      subst e2
      exact ⟨rfl, hd c c' hc hc' (by simpa [more] using e)⟩
    · subst e1
      have hi2 : is i' = true := by simpa [more, e2] using hi'
      exact absurd (by simpa [more, e2] using e.symm) (hn i' c' c hi2 hc' hc)
    · subst e2
      have hi2 : is i = true := by simpa [more, e1] using hi
      exact absurd (by simpa [more, e1] using e) (hn i c c' hi2 hc hc')
    · exact h.apart i c i' c' (by simpa [more, e1] using hi) (by simpa [more, e2] using hi') hc hc' (by simpa [more, e1, e2] using e)

/-- The least of five numbers. -/
theorem min5 (ts : Array TypeId) (t : TypeId) (a b c d e : Int) : ∃ M : Int, (∀ w, (Builtin.min_ ts t #[.int .i64 a, .int .i64 b, .int .i64 c, .int .i64 d, .int .i64 e]).run Try.prog w = .ok (.int .i64 M) w) ∧ (0 ≤ M ↔ 0 ≤ a ∧ 0 ≤ b ∧ 0 ≤ c ∧ 0 ≤ d ∧ 0 ≤ e) := by
  refine ⟨min (min (min (min a b) c) d) e, fun w => ?_, by omega⟩
  have h : ∀ x y : Int, (if y < x then y else x) = min x y := fun x y => by split <;> omega
  simp [Builtin.min_, Builtin.min2, h]

theorem begin_neg (p : Nat) (th tx at' st pr : Int) (w : World) (h0 : ¬ (0 ≤ th ∧ 0 ≤ tx ∧ 0 ≤ at' ∧ 0 ≤ st ∧ 0 ≤ pr)) :
    Calls Try.prog 8 #[.pointer (some ⟨p, 0, none⟩), .int .i64 th, .int .i64 tx, .int .i64 at', .int .i64 st, .int .i64 pr] w fun e w' => e = .returned (.tuple #[.int .i64 0, .int .i64 1]) ∧ Hid (w.grownBy w' none) := by
  obtain ⟨M, hmin, hM⟩ := min5 #[3, 3, 3, 3, 3] 3 th tx at' st pr
  have hM0 : M < 0 := by
    rcases Int.lt_or_le M 0 with h | h
    · exact h
    · exact absurd (hM.1 h) h0
  clear hM h0
  go_enter Try.func8, Try.ntmps8
  go_wp2
  go_ret2
  exact ⟨rfl, (by repeat first | exact gb_refl _ _ | refine gb_alloc ?_ _)⟩

set_option maxHeartbeats 1000000 in
theorem begin_ok (base : Nat) (tb mb ab m : Nat) (is : Int → Bool) (blk : Int → Nat → Nat) (num : Int → Nat → Int) (B : Int) (w : World) (h : Tab base w tb mb ab m is blk num B) (hB : 0 ≤ B) (th tx at' st pr : Int) (room : Int) (rs : List Rc) (r : Option Nat) (A : ArenaR base w ab room rs r) (hr : (rs.length : Int) < room) (hroom : room ≤ 4096) (hm : m ≤ 4096) (hbs : base ≤ w.heap.size) (hid : is rs.length = false) (h0 : 0 ≤ th ∧ 0 ≤ tx ∧ 0 ≤ at' ∧ 0 ≤ st ∧ 0 ≤ pr) :
    Calls Try.prog 8 #[.pointer (some ⟨tb, 0, none⟩), .int .i64 th, .int .i64 tx, .int .i64 at', .int .i64 st, .int .i64 pr] w fun e w' => ∃ r' f, e = .returned (.tuple #[.int .i64 rs.length, .int .i64 0]) ∧ Hid (ArenaR base w' ab room (rs ++ [⟨3, 0, 0, 0, 0, th, tx, at', st⟩]) r') ∧
      Hid (Tab base w' tb mb ab (m + 1) (more is rs.length true) (more blk rs.length f) (more num rs.length (fun c => if c = 0 then 1 else if c = 1 then pr else 0)) B) ∧ Hid (Only (fun k => k = mb ∨ k = ab ∨ some k = r) w w') ∧ Hid (∀ c, c < 3 → w.heap.size ≤ f c) := by
  have H := Lib.hid h
  have A' := Lib.hid A
  have t0 := h.tab.cell 0
  have hr' := Lib.hid hr
  have hm' := Lib.hid hm
  have hbs' := Lib.hid hbs
  obtain ⟨M, hmin, hM⟩ := min5 #[3, 3, 3, 3, 3] 3 th tx at' st pr
  have hM0 : 0 ≤ M := hM.2 h0
  clear h A hr hm hbs hM h0
  go_enter Try.func8, Try.ntmps8
  go_wp2_with fail
  refine (putR base ab ⟨3, 0, 0, 0, 0, th, tx, at', st⟩ room rs r _ A'.out hr'.out hroom hbs'.out).mono ?_
  rintro e u1 ⟨r1, rfl, A1, c1⟩
  have T1 := Lib.hid (H.out.chg A'.out c1.out)
  have t1 := T1.out.tab.cell 1
  have tl := T1.out.tab.lt
  have ntm := Lib.hid T1.out.tb_mb
  go_wp2_with fail
  have hid' : (fun j => if is j then some (dval (blk j)) else none) (rs.length : Int) = none := by simp [hid]
  have HD := Lib.hid hid'
  have hlw : Hid ((Lit.int .i64 (rs.length : Int)).wf = true) := WalkArith.wf_i64 (by have := hr'.out; omega)
  have hmx : Hid (m < maxLen) := by have := hm'.out; unfold Hid maxLen; omega
  clear hid'
  go_region_held3 (fun w' => w'.cell? ⟨tb, 1, none⟩ = some (.map (some mb))) (go_keep) (first | (go_at_call 20; have e1 := W1.out; clear e1; refine (of_made _ _).mono ?_; rintro e u4 ⟨b2, rfl, l2, W2, g4⟩; have t4 := g4.out.cell (a := ⟨tb, 1, none⟩) t3 (by simp); have T4 := Lib.hid (T3.out.grown g4.out); obtain ⟨F, hF, MF0, gF0⟩ := T4.out.map.put Try.underlying3 Try.underlying52 hmx.out hlw.out HD.out (.agg #[.pointer (some ⟨b0, 0, none⟩), .pointer (some ⟨b1, 0, none⟩), .pointer (some ⟨b2, 0, none⟩)]); have MF := Lib.hid MF0; have gF := Lib.hid gF0; have tF := gF0.cell (a := ⟨tb, 1, none⟩) t4 (by intro e; simp at e; exact ntm.out e); clear MF0 gF0) | (go_at_call 20; have e1 := W0.out; clear e1; refine (of_made _ _).mono ?_; rintro e u3 ⟨b1, rfl, l1, W1, g3⟩; have t3 := g3.out.cell (a := ⟨tb, 1, none⟩) t2 (by simp); have T3 := Lib.hid (T2.out.grown g3.out)) | (go_at_call 20; refine (of_made _ _).mono ?_; rintro e u2 ⟨b0, rfl, l0, W0, g2⟩; have t2 := g2.out.cell (a := ⟨tb, 1, none⟩) t1 (by simp); have T2 := Lib.hid (T1.out.drew.grown g2.out)))
  go_wp2
  go_ret2
  have d0 : Word u4 b0 1 0 := (W0.out.grown g3.out (by simp)).grown g4.out (by simp)
  have d1 : Word u4 b1 pr 0 := W1.out.grown g4.out (by simp)
  have d2 : Word u4 b2 0 0 := W2.out
  have s1 : w.heap.size ≤ u1.heap.size := c1.out.size
  have s2 : u1.heap.size ≤ u2.heap.size := g2.out.size
  have s3 : u2.heap.size ≤ u3.heap.size := g3.out.size
  have z0 : u1.heap.size ≤ b0 := l0.out
  have z1 : u2.heap.size ≤ b1 := l1.out
  have z2 : u3.heap.size ≤ b2 := l2.out
  have y0 : b0 < u2.heap.size := W0.out.lt
  have y1 : b1 < u3.heap.size := W1.out.lt
  have hbase : base ≤ w.heap.size := hbs'.out
  have G : u1.grownBy u4 none := gb_trans (gb_trans (gb_trans (gb_drew (gb_refl u1 none)) g2.out) g3.out) g4.out
  refine ⟨r1, fun c => if c = 0 then b0 else if c = 1 then b1 else b2, rfl, ?_, ?_, ?_, ?_⟩
  · have A4 := A1.out.grown G
    have nb : some mb ≠ r1 ∧ ab ≠ mb := by
      have A5 := A4
      obtain ⟨_, _, v, hb, ho, hr1⟩ := A5
      refine ⟨fun e => ?_, fun e => ?_⟩
      · rcases ho.2 with ⟨rfl, _⟩ | ⟨g, cap, cur, rfl, _, hg, _⟩
        · rw [← hr1] at e; simp [Value.ownBlock] at e
        · rw [← hr1] at e
          simp only [Value.ownBlock] at e
          cases e
          exact T4.out.map.not_cells hg
      · unfold Blk at hb
        rw [e] at hb
        exact T4.out.map.not_cells hb
    exact A4.grownRow gF.out (by simpa using nb.2) (by
      cases r1 with
      | none => exact .inl rfl
      | some k => exact .inr fun e => nb.1 e.symm)
  · refine T4.out.add rs.length hid (fun c => if c = 0 then b0 else if c = 1 then b1 else b2) (fun c => if c = 0 then 1 else if c = 1 then pr else 0) hB (fun c hc => ?_) (fun c c' hc hc' => ?_) (fun i c c' hi hc hc' => ?_) MF.out gF.out
    · have : c = 0 ∨ c = 1 ∨ c = 2 := by omega
      rcases this with rfl | rfl | rfl
      · exact ⟨by simp; omega, d0⟩
      · exact ⟨by simp; omega, d1⟩
      · exact ⟨by simp; omega, d2⟩
    · have e0 : c = 0 ∨ c = 1 ∨ c = 2 := by omega
      have e1 : c' = 0 ∨ c' = 1 ∨ c' = 2 := by omega
      rcases e0 with rfl | rfl | rfl <;> rcases e1 with rfl | rfl | rfl <;> simp <;> omega
    · have := T1.out.word_lt hi hc
      have e1 : c' = 0 ∨ c' = 1 ∨ c' = 2 := by omega
      rcases e1 with rfl | rfl | rfl <;> simp <;> omega
  · refine Only.trans (w' := u1) ?_ (Only.trans (Only.none G) (Only.of gF.out (fun k e _ => .inl (by simpa using e.symm))))
    exact ⟨c1.out.os, c1.out.tape, c1.out.output, c1.out.size, fun k hk hn => c1.out.block k hk (fun e => hn (.inr (.inl e))) (fun e => hn (.inr (.inr e)))⟩
  · intro c hc
    have : c = 0 ∨ c = 1 ∨ c = 2 := by omega
    rcases this with rfl | rfl | rfl <;> simp <;> omega

theorem rec_nil (id : Int) (w : World) :
    Calls Try.prog 13 #[.pointer none, .int .i64 id] w fun e w' => e = .returned (.tuple #[.agg #[.int .i64 0, .int .i64 0, .int .i64 0, .int .i64 0, .int .i64 0, .int .i64 0, .int .i64 0, .int .i64 0, .int .i64 0], .int .i64 6]) ∧ Hid (w.grownBy w' none) := by
  go_enter Try.func13, Try.ntmps13
  go_wp2_with (go_in)
  exact bodyPost_ret (v := .tuple #[.agg #[.int .i64 0, .int .i64 0, .int .i64 0, .int .i64 0, .int .i64 0, .int .i64 0, .int .i64 0, .int .i64 0, .int .i64 0], .int .i64 6]) (by simp [results, Try.results13, go_sem]) rfl ⟨rfl, by repeat first | exact gb_refl _ _ | refine gb_alloc ?_ _ | refine gb_setNew ?_ (by simp) _⟩

theorem rec1 (x0 x1 x2 c1 c2 c3 tb : Nat) (base ab j : Nat) (x : Rc) (room : Int) (rs : List Rc) (r : Option Nat) (w : World) (A : ArenaR base w ab room rs r) (hm : rs.length ≤ 4096) (hx : rs[j]? = some x)
    (h1 : w.cell? ⟨c1, 0, none⟩ = some (.pointer (some ⟨tb, 0, none⟩))) (h2 : w.cell? ⟨tb, 0, none⟩ = some (.pointer (some ⟨ab, 0, none⟩))) (h3 : w.cell? ⟨c2, 0, none⟩ = some (.int .i64 j)) (h4 : Blk 40 w c3 #[.int .i64 0, .int .i64 0, .int .i64 0, .int .i64 0, .int .i64 0, .int .i64 0, .int .i64 0, .int .i64 0, .int .i64 0]) :
    Calls Try.prog 29 #[.agg #[.pointer (some ⟨x0, 0, none⟩), .pointer (some ⟨x1, 0, none⟩), .pointer (some ⟨x2, 0, none⟩)], .pointer (some ⟨c1, 0, none⟩), .pointer (some ⟨c2, 0, none⟩), .pointer (some ⟨c3, 0, none⟩)] w fun e w' => e = .returned (.int .i64 0) ∧ Hid (Blk 40 w' c3 #[.int .i64 x.kind, .int .i64 x.val, .int .i64 x.owner, .int .i64 x.old, .int .i64 x.new, .int .i64 x.thread, .int .i64 x.txn, .int .i64 x.attempt, .int .i64 x.stamp]) ∧ Hid (w.grownBy w' (some c3)) := by
  have A' := Lib.hid A
  have B4 := Lib.hid h4
  have hx' := Lib.hid hx
  have l1 := World.block_lt_of_cell? _ _ h1
  have l2 := World.block_lt_of_cell? _ _ h2
  have l3 := World.block_lt_of_cell? _ _ h3
  have l4 := h4.lt
  clear A h4 hx
  go_enter Try.func29, Try.ntmps29
  go_wp2_with fail
  have k1 : (w.alloc (.cells #[.pointer (some ⟨x0, 0, none⟩), .pointer (some ⟨x1, 0, none⟩), .pointer (some ⟨x2, 0, none⟩)] 59)).cell? ⟨c1, 0, none⟩ = some (.pointer (some ⟨tb, 0, none⟩)) := by simp [go_sem, *]
  have k2 : (w.alloc (.cells #[.pointer (some ⟨x0, 0, none⟩), .pointer (some ⟨x1, 0, none⟩), .pointer (some ⟨x2, 0, none⟩)] 59)).cell? ⟨tb, 0, none⟩ = some (.pointer (some ⟨ab, 0, none⟩)) := by simp [go_sem, *]
  have k3 : (w.alloc (.cells #[.pointer (some ⟨x0, 0, none⟩), .pointer (some ⟨x1, 0, none⟩), .pointer (some ⟨x2, 0, none⟩)] 59)).cell? ⟨c2, 0, none⟩ = some (.int .i64 j) := by simp [go_sem, *]
  have G0 : Hid (w.grownBy (w.alloc (.cells #[.pointer (some ⟨x0, 0, none⟩), .pointer (some ⟨x1, 0, none⟩), .pointer (some ⟨x2, 0, none⟩)] 59)) none) := gb_alloc (gb_refl _ _) _
  generalize (w.alloc (.cells #[.pointer (some ⟨x0, 0, none⟩), .pointer (some ⟨x1, 0, none⟩), .pointer (some ⟨x2, 0, none⟩)] 59)) = v0 at *
  have m1 := World.block_lt_of_cell? _ _ k1
  have m2 := World.block_lt_of_cell? _ _ k2
  have m3 := World.block_lt_of_cell? _ _ k3
  have p1 := World.new_ne v0 _ k1
  have p2 := World.new_ne v0 _ k2
  have p3 := World.new_ne v0 _ k3
  clear h1 h2 h3 l1 l2 l3
  go_region_held3 (fun w' => w'.cell? ⟨c1, 0, none⟩ = some (.pointer (some ⟨tb, 0, none⟩)) ∧ w'.cell? ⟨tb, 0, none⟩ = some (.pointer (some ⟨ab, 0, none⟩)) ∧ w'.cell? ⟨c2, 0, none⟩ = some (.int .i64 j)) (go_keep) (first | (go_at_call 30; refine (atR base ab j x room rs r _ ((A'.out.grown G0.out).drew) hm hx'.out).mono ?_; rintro e u1 ⟨rfl, g1⟩; have q1 := g1.out.cell (a := ⟨c1, 0, none⟩) (v := .pointer (some ⟨tb, 0, none⟩)) k1 (by simp); have q2 := g1.out.cell (a := ⟨tb, 0, none⟩) (v := .pointer (some ⟨ab, 0, none⟩)) k2 (by simp); have q3 := g1.out.cell (a := ⟨c2, 0, none⟩) (v := .int .i64 j) k3 (by simp); have n1 := World.new_ne u1 _ q1; have n2 := World.new_ne u1 _ q2; have n3 := World.new_ne u1 _ q3) | (go_at_call 30; refine (atR base ab j x room rs r _ (((A'.out.grown G0.out).alloc (.cells #[.int .i64 0, .int .i64 0, .int .i64 0, .int .i64 0, .int .i64 0, .int .i64 0, .int .i64 0, .int .i64 0, .int .i64 0] 40)).drew) hm hx'.out).mono ?_; rintro e u1 ⟨rfl, g1⟩; have q1 := g1.out.cell (a := ⟨c1, 0, none⟩) (v := .pointer (some ⟨tb, 0, none⟩)) ((gb_alloc (gb_refl v0 none) (.cells #[.int .i64 0, .int .i64 0, .int .i64 0, .int .i64 0, .int .i64 0, .int .i64 0, .int .i64 0, .int .i64 0, .int .i64 0] 40)).cell k1 (by simp)) (by simp); have q2 := g1.out.cell (a := ⟨tb, 0, none⟩) (v := .pointer (some ⟨ab, 0, none⟩)) ((gb_alloc (gb_refl v0 none) (.cells #[.int .i64 0, .int .i64 0, .int .i64 0, .int .i64 0, .int .i64 0, .int .i64 0, .int .i64 0, .int .i64 0, .int .i64 0] 40)).cell k2 (by simp)) (by simp); have q3 := g1.out.cell (a := ⟨c2, 0, none⟩) (v := .int .i64 j) ((gb_alloc (gb_refl v0 none) (.cells #[.int .i64 0, .int .i64 0, .int .i64 0, .int .i64 0, .int .i64 0, .int .i64 0, .int .i64 0, .int .i64 0, .int .i64 0] 40)).cell k3 (by simp)) (by simp); have ZB : Hid (Blk 40 ((v0.alloc (.cells #[.int .i64 0, .int .i64 0, .int .i64 0, .int .i64 0, .int .i64 0, .int .i64 0, .int .i64 0, .int .i64 0, .int .i64 0] 40)).drew) v0.heap.size #[.int .i64 0, .int .i64 0, .int .i64 0, .int .i64 0, .int .i64 0, .int .i64 0, .int .i64 0, .int .i64 0, .int .i64 0]) := Blk.made _ _ _; obtain ⟨z0, y0⟩ := gb_cellF (p := ⟨v0.heap.size, 0, none⟩) (v := .int .i64 0) g1.out (ZB.out.cell 0) (ZB.out.free 0) (by simp); obtain ⟨z1, y1⟩ := gb_cellF (p := ⟨v0.heap.size, 1, none⟩) (v := .int .i64 0) g1.out (ZB.out.cell 1) (ZB.out.free 1) (by simp); obtain ⟨z2, y2⟩ := gb_cellF (p := ⟨v0.heap.size, 2, none⟩) (v := .int .i64 0) g1.out (ZB.out.cell 2) (ZB.out.free 2) (by simp); obtain ⟨z3, y3⟩ := gb_cellF (p := ⟨v0.heap.size, 3, none⟩) (v := .int .i64 0) g1.out (ZB.out.cell 3) (ZB.out.free 3) (by simp); obtain ⟨z4, y4⟩ := gb_cellF (p := ⟨v0.heap.size, 4, none⟩) (v := .int .i64 0) g1.out (ZB.out.cell 4) (ZB.out.free 4) (by simp); obtain ⟨z5, y5⟩ := gb_cellF (p := ⟨v0.heap.size, 5, none⟩) (v := .int .i64 0) g1.out (ZB.out.cell 5) (ZB.out.free 5) (by simp); obtain ⟨z6, y6⟩ := gb_cellF (p := ⟨v0.heap.size, 6, none⟩) (v := .int .i64 0) g1.out (ZB.out.cell 6) (ZB.out.free 6) (by simp); obtain ⟨z7, y7⟩ := gb_cellF (p := ⟨v0.heap.size, 7, none⟩) (v := .int .i64 0) g1.out (ZB.out.cell 7) (ZB.out.free 7) (by simp); obtain ⟨z8, y8⟩ := gb_cellF (p := ⟨v0.heap.size, 8, none⟩) (v := .int .i64 0) g1.out (ZB.out.cell 8) (ZB.out.free 8) (by simp)))
  · have X2' : Blk 40 (u1.alloc (.cells #[.int .i64 x.kind, .int .i64 x.val, .int .i64 x.owner, .int .i64 x.old, .int .i64 x.new, .int .i64 x.thread, .int .i64 x.txn, .int .i64 x.attempt, .int .i64 x.stamp] 40)) u1.heap.size #[.int .i64 x.kind, .int .i64 x.val, .int .i64 x.owner, .int .i64 x.old, .int .i64 x.new, .int .i64 x.thread, .int .i64 x.txn, .int .i64 x.attempt, .int .i64 x.stamp] := Blk.made _ _ _
    have C2' : Blk 40 (u1.alloc (.cells #[.int .i64 x.kind, .int .i64 x.val, .int .i64 x.owner, .int .i64 x.old, .int .i64 x.new, .int .i64 x.thread, .int .i64 x.txn, .int .i64 x.attempt, .int .i64 x.stamp] 40)) c3 #[.int .i64 0, .int .i64 0, .int .i64 0, .int .i64 0, .int .i64 0, .int .i64 0, .int .i64 0, .int .i64 0, .int .i64 0] := ((((B4.out.grown G0.out (by simp)).drew).grown g1.out (by simp))).alloc _
    have G2' : w.grownBy (u1.alloc (.cells #[.int .i64 x.kind, .int .i64 x.val, .int .i64 x.owner, .int .i64 x.old, .int .i64 x.new, .int .i64 x.thread, .int .i64 x.txn, .int .i64 x.attempt, .int .i64 x.stamp] 40)) none := gb_alloc (gb_trans (gb_drew G0.out) g1.out) _
    have hq : c3 < u1.heap.size := ((((B4.out.grown G0.out (by simp)).drew).grown g1.out (by simp))).lt
    generalize (u1.alloc (.cells #[.int .i64 x.kind, .int .i64 x.val, .int .i64 x.owner, .int .i64 x.old, .int .i64 x.new, .int .i64 x.thread, .int .i64 x.txn, .int .i64 x.attempt, .int .i64 x.stamp] 40)) = u2 at *
    generalize u1.heap.size = q at *
    have ne : q ≠ c3 := by have := C2'.lt; omega
    have X2 := Lib.hid X2'
    have C2 := Lib.hid C2'
    have G2 := Lib.hid G2'
    have xx0 := X2'.cell 0
    have e0 := C2'.cell 0
    have f0 := C2'.free 0
    have xx1 := X2'.cell 1
    have e1 := C2'.cell 1
    have f1 := C2'.free 1
    have xx2 := X2'.cell 2
    have e2 := C2'.cell 2
    have f2 := C2'.free 2
    have x3 := X2'.cell 3
    have e3 := C2'.cell 3
    have f3 := C2'.free 3
    have x4 := X2'.cell 4
    have e4 := C2'.cell 4
    have f4 := C2'.free 4
    have x5 := X2'.cell 5
    have e5 := C2'.cell 5
    have f5 := C2'.free 5
    have x6 := X2'.cell 6
    have e6 := C2'.cell 6
    have f6 := C2'.free 6
    have x7 := X2'.cell 7
    have e7 := C2'.cell 7
    have f7 := C2'.free 7
    have x8 := X2'.cell 8
    have e8 := C2'.cell 8
    have f8 := C2'.free 8
    clear X2' C2' G2'
    go_wp2
    go_ret
    have C9 := ((((((((C2.out.set 0 (.int .i64 x.kind)).set 1 (.int .i64 x.val)).set 2 (.int .i64 x.owner)).set 3 (.int .i64 x.old)).set 4 (.int .i64 x.new)).set 5 (.int .i64 x.thread)).set 6 (.int .i64 x.txn)).set 7 (.int .i64 x.attempt)).set 8 (.int .i64 x.stamp)
    refine ⟨rfl, Lib.hid (by simpa using C9), ?_⟩
    iterate 9 refine gb_setB ?_ _
    have := G2.out
    exact ⟨this.os, this.tape, this.output, this.size, fun k hk _ => this.block k hk (by simp)⟩
  · have X0 := ZB.out.grown g1.out (by simp)
    have X9 := ((((((((X0.set 0 (.int .i64 x.kind)).set 1 (.int .i64 x.val)).set 2 (.int .i64 x.owner)).set 3 (.int .i64 x.old)).set 4 (.int .i64 x.new)).set 5 (.int .i64 x.thread)).set 6 (.int .i64 x.txn)).set 7 (.int .i64 x.attempt)).set 8 (.int .i64 x.stamp)
    have X2' : Blk 40 (((((((((u1.setCell ⟨v0.heap.size, 0, none⟩ (.int .i64 x.kind)).setCell ⟨v0.heap.size, 1, none⟩ (.int .i64 x.val)).setCell ⟨v0.heap.size, 2, none⟩ (.int .i64 x.owner)).setCell ⟨v0.heap.size, 3, none⟩ (.int .i64 x.old)).setCell ⟨v0.heap.size, 4, none⟩ (.int .i64 x.new)).setCell ⟨v0.heap.size, 5, none⟩ (.int .i64 x.thread)).setCell ⟨v0.heap.size, 6, none⟩ (.int .i64 x.txn)).setCell ⟨v0.heap.size, 7, none⟩ (.int .i64 x.attempt)).setCell ⟨v0.heap.size, 8, none⟩ (.int .i64 x.stamp)) v0.heap.size #[.int .i64 x.kind, .int .i64 x.val, .int .i64 x.owner, .int .i64 x.old, .int .i64 x.new, .int .i64 x.thread, .int .i64 x.txn, .int .i64 x.attempt, .int .i64 x.stamp] := by simpa using X9
    have B5 : Blk 40 v0 c3 #[.int .i64 0, .int .i64 0, .int .i64 0, .int .i64 0, .int .i64 0, .int .i64 0, .int .i64 0, .int .i64 0, .int .i64 0] := B4.out.grown G0.out (by simp)
    have hq : c3 < v0.heap.size := B5.lt
    have C2' : Blk 40 (((((((((u1.setCell ⟨v0.heap.size, 0, none⟩ (.int .i64 x.kind)).setCell ⟨v0.heap.size, 1, none⟩ (.int .i64 x.val)).setCell ⟨v0.heap.size, 2, none⟩ (.int .i64 x.owner)).setCell ⟨v0.heap.size, 3, none⟩ (.int .i64 x.old)).setCell ⟨v0.heap.size, 4, none⟩ (.int .i64 x.new)).setCell ⟨v0.heap.size, 5, none⟩ (.int .i64 x.thread)).setCell ⟨v0.heap.size, 6, none⟩ (.int .i64 x.txn)).setCell ⟨v0.heap.size, 7, none⟩ (.int .i64 x.attempt)).setCell ⟨v0.heap.size, 8, none⟩ (.int .i64 x.stamp)) c3 #[.int .i64 0, .int .i64 0, .int .i64 0, .int .i64 0, .int .i64 0, .int .i64 0, .int .i64 0, .int .i64 0, .int .i64 0] := by
      iterate 9 refine Blk.other ?_ (by show c3 ≠ v0.heap.size; omega) _
      exact ((B5.alloc (.cells #[.int .i64 0, .int .i64 0, .int .i64 0, .int .i64 0, .int .i64 0, .int .i64 0, .int .i64 0, .int .i64 0, .int .i64 0] 40)).drew).grown g1.out (by simp)
    have G2' : w.grownBy (((((((((u1.setCell ⟨v0.heap.size, 0, none⟩ (.int .i64 x.kind)).setCell ⟨v0.heap.size, 1, none⟩ (.int .i64 x.val)).setCell ⟨v0.heap.size, 2, none⟩ (.int .i64 x.owner)).setCell ⟨v0.heap.size, 3, none⟩ (.int .i64 x.old)).setCell ⟨v0.heap.size, 4, none⟩ (.int .i64 x.new)).setCell ⟨v0.heap.size, 5, none⟩ (.int .i64 x.thread)).setCell ⟨v0.heap.size, 6, none⟩ (.int .i64 x.txn)).setCell ⟨v0.heap.size, 7, none⟩ (.int .i64 x.attempt)).setCell ⟨v0.heap.size, 8, none⟩ (.int .i64 x.stamp)) none := by
      have hv : w.heap.size ≤ v0.heap.size := G0.out.size
      iterate 9 refine gb_setNew ?_ hv _
      exact gb_trans (gb_drew (gb_alloc G0.out _)) g1.out
    generalize (((((((((u1.setCell ⟨v0.heap.size, 0, none⟩ (.int .i64 x.kind)).setCell ⟨v0.heap.size, 1, none⟩ (.int .i64 x.val)).setCell ⟨v0.heap.size, 2, none⟩ (.int .i64 x.owner)).setCell ⟨v0.heap.size, 3, none⟩ (.int .i64 x.old)).setCell ⟨v0.heap.size, 4, none⟩ (.int .i64 x.new)).setCell ⟨v0.heap.size, 5, none⟩ (.int .i64 x.thread)).setCell ⟨v0.heap.size, 6, none⟩ (.int .i64 x.txn)).setCell ⟨v0.heap.size, 7, none⟩ (.int .i64 x.attempt)).setCell ⟨v0.heap.size, 8, none⟩ (.int .i64 x.stamp)) = u2 at *
    generalize v0.heap.size = q at *
    have ne : q ≠ c3 := by have := C2'.lt; omega
    have X2 := Lib.hid X2'
    have C2 := Lib.hid C2'
    have G2 := Lib.hid G2'
    have xx0 := X2'.cell 0
    have e0 := C2'.cell 0
    have f0 := C2'.free 0
    have xx1 := X2'.cell 1
    have e1 := C2'.cell 1
    have f1 := C2'.free 1
    have xx2 := X2'.cell 2
    have e2 := C2'.cell 2
    have f2 := C2'.free 2
    have x3 := X2'.cell 3
    have e3 := C2'.cell 3
    have f3 := C2'.free 3
    have x4 := X2'.cell 4
    have e4 := C2'.cell 4
    have f4 := C2'.free 4
    have x5 := X2'.cell 5
    have e5 := C2'.cell 5
    have f5 := C2'.free 5
    have x6 := X2'.cell 6
    have e6 := C2'.cell 6
    have f6 := C2'.free 6
    have x7 := X2'.cell 7
    have e7 := C2'.cell 7
    have f7 := C2'.free 7
    have x8 := X2'.cell 8
    have e8 := C2'.cell 8
    have f8 := C2'.free 8
    clear X2' C2' G2'
    go_wp2
    go_ret
    have C9 := ((((((((C2.out.set 0 (.int .i64 x.kind)).set 1 (.int .i64 x.val)).set 2 (.int .i64 x.owner)).set 3 (.int .i64 x.old)).set 4 (.int .i64 x.new)).set 5 (.int .i64 x.thread)).set 6 (.int .i64 x.txn)).set 7 (.int .i64 x.attempt)).set 8 (.int .i64 x.stamp)
    refine ⟨rfl, Lib.hid (by simpa using C9), ?_⟩
    iterate 9 refine gb_setB ?_ _
    have := G2.out
    exact ⟨this.os, this.tape, this.output, this.size, fun k hk _ => this.block k hk (by simp)⟩

theorem rec_hit (base : Nat) (tb mb ab m : Nat) (is : Int → Bool) (blk : Int → Nat → Nat) (num : Int → Nat → Int) (B : Int) (w : World) (id : Int) (h : Tab base w tb mb ab m is blk num B) (j : Nat) (hj : id = j) (x : Rc) (room : Int) (rs : List Rc) (r : Option Nat) (A : ArenaR base w ab room rs r) (hm : rs.length ≤ 4096) (hx : rs[j]? = some x) (hid : is id = true) (hw : (Lit.int .i64 id).wf = true) :
    Calls Try.prog 13 #[.pointer (some ⟨tb, 0, none⟩), .int .i64 id] w fun e w' => e = .returned (.tuple #[.agg #[.int .i64 x.kind, .int .i64 x.val, .int .i64 x.owner, .int .i64 x.old, .int .i64 x.new, .int .i64 x.thread, .int .i64 x.txn, .int .i64 x.attempt, .int .i64 x.stamp], .int .i64 0]) ∧ Hid (w.grownBy w' none) := by
  subst hj
  have M := Lib.hid h.map
  have t1 := h.tab.cell 1
  have tl := h.tab.lt
  have HF : Hid ((fun j => if is j then some (dval (blk j)) else none) (j : Int) = some (dval (blk j))) := by simp [Hid, hid]
  have H := Lib.hid h
  have t0 := h.tab.cell 0
  have tl1 : tb < w.heap.size + 1 := by omega
  have tl2 : tb < w.heap.size + 1 + 1 := by omega
  have tl3 : tb < w.heap.size + 1 + 1 + 1 := by omega
  have A' := Lib.hid A
  have hx' := Lib.hid hx
  clear h A hx
  go_enter Try.func13, Try.ntmps13
  go_wp2_with (first | (at_lookup; refine wpList_hit_mapF _ rfl _ _ 52 rfl 3 59 Try.underlying3 Try.underlying52 _ (zeroD _) mb m _ rfl (M.out.keep ((show World.grownBy w _ none from (by repeat first | exact gb_refl _ _ | refine gb_alloc ?_ _)).block _ M.out.lt (by simp))) _ rfl hw _ HF.out ?_) | (go_at_call 29; refine (rec1 _ _ _ w.heap.size (w.heap.size + 1) (w.heap.size + 1 + 1 + 1) tb base ab j x room rs r _ (A'.out.grown (show World.grownBy w _ none from (by repeat first | exact gb_refl _ _ | refine gb_alloc ?_ _))) hm hx'.out (by simp [go_sem]) (by simp [go_sem, *]) (by simp [go_sem]) (by refine Blk.alloc ?_ _; have := Blk.made (((w.alloc (.cells #[.pointer (some ⟨tb, 0, none⟩)] 25)).alloc (.cells #[.int .i64 j] 3)).alloc (.cells #[.int .i64 0, .int .i64 0, .int .i64 0, .int .i64 0, .int .i64 0, .int .i64 0, .int .i64 0, .int .i64 0, .int .i64 0] 40)) 40 #[.int .i64 0, .int .i64 0, .int .i64 0, .int .i64 0, .int .i64 0, .int .i64 0, .int .i64 0, .int .i64 0, .int .i64 0]; simpa using this)).mono ?_; rintro e u1 ⟨rfl, C1, g1⟩; have x0 := C1.out.cell 0; have x1 := C1.out.cell 1; have x2 := C1.out.cell 2; have x3 := C1.out.cell 3; have x4 := C1.out.cell 4; have x5 := C1.out.cell 5; have x6 := C1.out.cell 6; have x7 := C1.out.cell 7; have x8 := C1.out.cell 8; obtain ⟨z0, y0⟩ := gb_cellF (p := ⟨w.heap.size + 1 + 1, 0, none⟩) (v := .int .i64 0) g1.out (by simp [go_sem]) (by simp [go_sem]) (by simp); obtain ⟨z1, y1⟩ := gb_cellF (p := ⟨w.heap.size + 1 + 1, 1, none⟩) (v := .int .i64 0) g1.out (by simp [go_sem]) (by simp [go_sem]) (by simp); obtain ⟨z2, y2⟩ := gb_cellF (p := ⟨w.heap.size + 1 + 1, 2, none⟩) (v := .int .i64 0) g1.out (by simp [go_sem]) (by simp [go_sem]) (by simp); obtain ⟨z3, y3⟩ := gb_cellF (p := ⟨w.heap.size + 1 + 1, 3, none⟩) (v := .int .i64 0) g1.out (by simp [go_sem]) (by simp [go_sem]) (by simp); obtain ⟨z4, y4⟩ := gb_cellF (p := ⟨w.heap.size + 1 + 1, 4, none⟩) (v := .int .i64 0) g1.out (by simp [go_sem]) (by simp [go_sem]) (by simp); obtain ⟨z5, y5⟩ := gb_cellF (p := ⟨w.heap.size + 1 + 1, 5, none⟩) (v := .int .i64 0) g1.out (by simp [go_sem]) (by simp [go_sem]) (by simp); obtain ⟨z6, y6⟩ := gb_cellF (p := ⟨w.heap.size + 1 + 1, 6, none⟩) (v := .int .i64 0) g1.out (by simp [go_sem]) (by simp [go_sem]) (by simp); obtain ⟨z7, y7⟩ := gb_cellF (p := ⟨w.heap.size + 1 + 1, 7, none⟩) (v := .int .i64 0) g1.out (by simp [go_sem]) (by simp [go_sem]) (by simp); obtain ⟨z8, y8⟩ := gb_cellF (p := ⟨w.heap.size + 1 + 1, 8, none⟩) (v := .int .i64 0) g1.out (by simp [go_sem]) (by simp [go_sem]) (by simp)) | go_in)
  exact bodyPost_ret (v := .tuple #[.agg #[.int .i64 x.kind, .int .i64 x.val, .int .i64 x.owner, .int .i64 x.old, .int .i64 x.new, .int .i64 x.thread, .int .i64 x.txn, .int .i64 x.attempt, .int .i64 x.stamp], .int .i64 0]) (by simp [results, Try.results13, go_sem, *]) rfl ⟨rfl, by
    iterate 9 refine gb_setNew ?_ (by show w.heap.size ≤ w.heap.size + 1 + 1; omega) _
    exact gb_over (by repeat first | exact gb_refl _ _ | refine gb_alloc ?_ _) g1.out (by omega)⟩
end Go.Proofs.Ytpllfichmpappaa.ds
