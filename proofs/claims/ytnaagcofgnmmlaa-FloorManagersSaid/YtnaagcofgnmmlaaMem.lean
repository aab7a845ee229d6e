/- An arena of records and a table of descriptors on it, as one thing that lies in the blocks of F: the contracts of packages arena and desc in these words. -/
import Derived.Test.YtnaagcofgnmmlaaDesc
import Derived.Test.YtnaagcofgnmmlaaDescW
import Derived.Test.YtnaagcofgnmmlaaDescB
namespace Go.Proofs.Ytnaagcofgnmmlaa.mm
open Go Go.RowKit Go.Proofs.Ytnaagcofgnmmlaa.base Go.Proofs.Ytnaagcofgnmmlaa.ar Go.Proofs.Ytnaagcofgnmmlaa.wd Go.Proofs.Ytnaagcofgnmmlaa.ds

/-- Block ab is an arena of rs, block tb a table on it, of m descriptors: 'is' tells their numbers, num their words (status, priority, waiting); all of it lies in the blocks of F. -/
def Mem (base : Nat) (w : World) (tb ab : Nat) (room : Int) (rs : List Rc) (m : Nat) (is : Int → Bool) (num : Int → Nat → Int) (B : Int) (F : Nat → Prop) : Prop :=
  ∃ mb r blk, ArenaR base w ab room rs r ∧ Tab base w tb mb ab m is blk num B ∧ F = fun k => k = tb ∨ k = mb ∨ k = ab ∨ some k = r ∨ Own is blk k

section
variable {base : Nat} {w w' : World} {tb ab m : Nat} {room : Int} {rs : List Rc} {is : Int → Bool} {num : Int → Nat → Int} {B : Int} {F : Nat → Prop}
theorem Mem.foot (h : Mem base w tb ab room rs m is num B F) : ∀ k, F k → base ≤ k ∧ k < w.heap.size := by
  obtain ⟨mb, r, blk, A, T, rfl⟩ := h
  intro k hk
  rcases hk with rfl | rfl | rfl | hk | ⟨j, c, hj, hc, rfl⟩
  · exact ⟨T.tb_le, T.tab.lt⟩
  · exact ⟨T.mb_le, T.map.lt⟩
  · exact ⟨A.base_le, A.lt⟩
  · exact A.row_lt k hk.symm
  · exact ⟨(T.word j c hj hc).1, T.word_lt hj hc⟩
theorem Mem.keep (h : Mem base w tb ab room rs m is num B F) (hk : ∀ k, F k → w'.heap[k]? = w.heap[k]?) : Mem base w' tb ab room rs m is num B F := by
  obtain ⟨mb, r, blk, A, T, rfl⟩ := h
  exact ⟨mb, r, blk, A.keep (hk _ (.inr (.inr (.inl rfl)))) (fun k e => hk k (.inr (.inr (.inr (.inl e.symm))))), T.keep (hk _ (.inl rfl)) (hk _ (.inr (.inl rfl))) (fun j c hj hc => hk _ (.inr (.inr (.inr (.inr ⟨j, c, hj, hc, rfl⟩))))), rfl⟩
theorem Mem.grown (h : Mem base w tb ab room rs m is num B F) (g : w.grownBy w' none) : Mem base w' tb ab room rs m is num B F := h.keep fun k hk => g.block k (h.foot k hk).2 (by simp)
theorem Mem.only {S : Nat → Prop} (h : Mem base w tb ab room rs m is num B F) (g : Only S w w') (hs : Sep F S) : Mem base w' tb ab room rs m is num B F := h.keep fun k hk => g.block k (h.foot k hk).2 (hs k hk)
theorem Mem.base_size (h : Mem base w tb ab room rs m is num B F) : base ≤ w.heap.size := by
  obtain ⟨mb, r, blk, A, T, rfl⟩ := h
  have := T.tb_le
  have := T.tab.lt
  omega
theorem Mem.len (h : Mem base w tb ab room rs m is num B F) : ab < w.heap.size ∧ tb < w.heap.size := by
  obtain ⟨mb, r, blk, A, T, rfl⟩ := h
  exact ⟨A.lt, T.tab.lt⟩
theorem Tab.mono' {mb : Nat} {blk : Int → Nat → Nat} {B' : Int} (h : Tab base w tb mb ab m is blk num B) (hB : B ≤ B') : Tab base w tb mb ab m is blk num B' :=
  ⟨h.tb_le, h.mb_le, h.tab, h.map, fun j c hj hc => by
    obtain ⟨hb, a, l, u, hw⟩ := h.word j c hj hc
    exact ⟨hb, a, l, by omega, hw⟩, h.apart⟩
theorem Mem.mono {B' : Int} (h : Mem base w tb ab room rs m is num B F) (hB : B ≤ B') : Mem base w tb ab room rs m is num B' F := by
  obtain ⟨mb, r, blk, A, T, rfl⟩ := h
  exact ⟨mb, r, blk, A, Tab.mono' T hB, rfl⟩
/-- The arena is neither a word of the table's, nor has it a row that is one. -/
theorem no_word {mb b : Nat} {blk : Int → Nat → Nat} {r : Option Nat} (T : Tab base w tb mb ab m is blk num B) (A : ArenaR base w b room rs r) {j : Int} {c : Nat} (hj : is j = true) (hc : c < 3) : b ≠ blk j c ∧ r ≠ some (blk j c) := by
  obtain ⟨_, a, _, _, hw⟩ := T.word j c hj hc
  refine ⟨fun e => ?_, fun e => ?_⟩
  · obtain ⟨_, _, v, hb, _, _⟩ := A
    unfold Blk at hb
    unfold Word Two at hw
    rw [← e, hb] at hw
    simp at hw
  · exact Fld.row_type A (cs := #[.int .i64 (num j c), .int .i64 a]) hw (by decide) e.symm
/-- A word of one's own was changed. -/
theorem Mem.word {mb : Nat} {r : Option Nat} {blk : Int → Nat → Nat} {num' : Int → Nat → Int} {B' : Int} (A : ArenaR base w ab room rs r) (T : Tab base w tb mb ab m is blk num B) {S : Nat → Prop} (o : Only S w w') (hs : ∀ k, S k → Own is blk k) (T' : Tab base w' tb mb ab m is blk num' B') :
    Mem base w' tb ab room rs m is num' B' (fun k => k = tb ∨ k = mb ∨ k = ab ∨ some k = r ∨ Own is blk k) ∧ Step (fun k => k = tb ∨ k = mb ∨ k = ab ∨ some k = r ∨ Own is blk k) (fun k => k = tb ∨ k = mb ∨ k = ab ∨ some k = r ∨ Own is blk k) w w' := by
  have no : ∀ k, S k → ab ≠ k ∧ r ≠ some k := fun k hk => by
    obtain ⟨j, c, hj, hc, rfl⟩ := hs k hk
    exact no_word T A hj hc
  refine ⟨⟨mb, r, blk, A.keep (o.block ab A.lt fun e => (no _ e).1 rfl) (fun k hk => o.block k (A.row_lt k hk).2 fun e => (no _ e).2 hk), T', rfl⟩, ⟨o.mono fun k _ hk => .inr (.inr (.inr (.inr (hs k hk)))), fun k hk => .inl hk⟩⟩
end

theorem mem_put (base tb ab m : Nat) (room : Int) (rs : List Rc) (is : Int → Bool) (num : Int → Nat → Int) (B : Int) (F : Nat → Prop) (w : World) (h : Mem base w tb ab room rs m is num B F) (x : Rc) (l : (rs.length : Int) < room) (u : room ≤ 4096) :
    Calls Try.prog 25 #[.pointer (some ⟨ab, 0, none⟩), .agg #[.int .i64 x.kind, .int .i64 x.val, .int .i64 x.owner, .int .i64 x.old, .int .i64 x.new, .int .i64 x.thread, .int .i64 x.txn, .int .i64 x.attempt, .int .i64 x.stamp]] w fun e w' =>
      ∃ F', e = .returned (.tuple #[.int .i64 rs.length, .int .i64 0]) ∧ Hid (Mem base w' tb ab room (rs ++ [x]) m is num B F') ∧ Hid (Step F F' w w') := by
  have hbs := h.base_size
  obtain ⟨mb, r, blk, A, T, rfl⟩ := h
  refine (putR base ab x room rs r w A l u hbs).mono ?_
  rintro e w' ⟨r', rfl, A', c⟩
  refine ⟨_, rfl, ⟨mb, r', blk, A'.out, T.chg A c.out, rfl⟩, ⟨⟨c.out.os, c.out.tape, c.out.output, c.out.size, fun k hk hn => c.out.block k hk (fun e => hn (.inr (.inr (.inl e)))) (fun e => hn (.inr (.inr (.inr (.inl e)))))⟩, fun k hk => ?_⟩⟩
  rcases hk with h | h | h | h | h
  · exact .inl (.inl h)
  · exact .inl (.inr (.inl h))
  · exact .inl (.inr (.inr (.inl h)))
  · rcases c.out.row with h1 | ⟨j, h1, hj⟩
    · exact .inl (.inr (.inr (.inr (.inl (by rw [h, h1])))))
    · rw [h1] at h
      cases h
      exact .inr hj
  · exact .inl (.inr (.inr (.inr (.inr h))))

theorem mem_put_full (base tb ab m : Nat) (room : Int) (rs : List Rc) (is : Int → Bool) (num : Int → Nat → Int) (B : Int) (F : Nat → Prop) (w : World) (h : Mem base w tb ab room rs m is num B F) (x : Rc) (l : (rs.length : Int) = room) (u : room ≤ 4096) :
    Calls Try.prog 25 #[.pointer (some ⟨ab, 0, none⟩), .agg #[.int .i64 x.kind, .int .i64 x.val, .int .i64 x.owner, .int .i64 x.old, .int .i64 x.new, .int .i64 x.thread, .int .i64 x.txn, .int .i64 x.attempt, .int .i64 x.stamp]] w fun e w' =>
      e = .returned (.tuple #[.int .i64 0, .int .i64 4]) ∧ Hid (w.grownBy w' none) := by
  obtain ⟨mb, r, blk, A, T, rfl⟩ := h
  exact putR_full base ab x room rs r w A l u

theorem mem_at (base tb ab m : Nat) (room : Int) (rs : List Rc) (is : Int → Bool) (num : Int → Nat → Int) (B : Int) (F : Nat → Prop) (w : World) (h : Mem base w tb ab room rs m is num B F) (j : Nat) (x : Rc) (hm : rs.length ≤ 4096) (hx : rs[j]? = some x) :
    Calls Try.prog 29 #[.pointer (some ⟨ab, 0, none⟩), .int .i64 j] w fun e w' => e = .returned (.tuple #[.agg #[.int .i64 x.kind, .int .i64 x.val, .int .i64 x.owner, .int .i64 x.old, .int .i64 x.new, .int .i64 x.thread, .int .i64 x.txn, .int .i64 x.attempt, .int .i64 x.stamp], .int .i64 0]) ∧ Hid (w.grownBy w' none) := by
  obtain ⟨mb, r, blk, A, T, rfl⟩ := h
  exact atR base ab j x room rs r w A hm hx

theorem mem_at_out (base tb ab m : Nat) (room : Int) (rs : List Rc) (is : Int → Bool) (num : Int → Nat → Int) (B : Int) (F : Nat → Prop) (w : World) (h : Mem base w tb ab room rs m is num B F) (j : Int) (hj : j < 0 ∨ (rs.length : Int) ≤ j) :
    Calls Try.prog 29 #[.pointer (some ⟨ab, 0, none⟩), .int .i64 j] w fun e w' => e = .returned (.tuple #[.agg #[.int .i64 0, .int .i64 0, .int .i64 0, .int .i64 0, .int .i64 0, .int .i64 0, .int .i64 0, .int .i64 0, .int .i64 0], .int .i64 6]) ∧ Hid (w.grownBy w' none) := by
  obtain ⟨mb, r, blk, A, T, rfl⟩ := h
  exact atR_out base ab j room rs r w A hj

theorem mem_left (base tb ab m : Nat) (room : Int) (rs : List Rc) (is : Int → Bool) (num : Int → Nat → Int) (B : Int) (F : Nat → Prop) (w : World) (h : Mem base w tb ab room rs m is num B F) (l : (rs.length : Int) ≤ room) (u : room ≤ 4096) :
    Calls Try.prog 21 #[.pointer (some ⟨ab, 0, none⟩)] w fun e w' => ∃ k, e = .returned (.int .i64 (room - rs.length)) ∧ w.drewN k = w' := by
  obtain ⟨mb, r, blk, A, T, rfl⟩ := h
  exact leftR base ab room rs r w A l u

/-- What Turn answers, and what the status is then. -/
def turns (is : Int → Bool) (num : Int → Nat → Int) (id to : Int) : Bool := is id && num id 0 == 1 && (to == 2 || to == 3)

end Go.Proofs.Ytnaagcofgnmmlaa.mm
