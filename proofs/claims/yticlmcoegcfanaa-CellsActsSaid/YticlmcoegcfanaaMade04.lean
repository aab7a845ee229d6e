/- What the statements of layer 4 begin with: an arena, a table on it, cells; the document's example. -/
import Derived.Test.YticlmcoegcfanaaCells
namespace Go.Proofs.Yticlmcoegcfanaa.ce
open Go Go.RowKit Go.Proofs.Yticlmcoegcfanaa.base Go.Proofs.Yticlmcoegcfanaa.ar Go.Proofs.Yticlmcoegcfanaa.ds Go.Proofs.Yticlmcoegcfanaa.rf Go.Proofs.Yticlmcoegcfanaa.mm Go.Proofs.Yticlmcoegcfanaa.vl

section
variable {base : Nat} {w0 w w' : World} {cb tb ab m : Nat} {room : Int} {rs : List Rc} {hd : List Int} {is : Int → Bool} {num : Int → Nat → Int} {B : Int} {F F' : Nat → Prop}
theorem Cel.low (h : Cel base w cb tb ab room rs hd m is num B F) (s : Step F F' w w') {b : Nat} (k : Below b w0 w) (hb : b ≤ base) : Below b w0 w' :=
  s.low k (by have := h.base_size; omega) (fun i hi => by have := (h.foot i hi).1; omega)
end

/-- A table on an arena without records. -/
theorem mem_new (base ab : Nat) (room : Int) (w : World) (A : ArenaR base w ab room [] none) : Calls Try.prog 32 #[.pointer (some ⟨ab, 0, none⟩)] w fun e w' => ∃ tb F, e = .returned (.tuple #[.pointer (some ⟨tb, 0, none⟩), .int .i64 0]) ∧ Hid (Mem base w' tb ab room [] 0 (fun _ => false) (fun _ _ => 0) 0 F) ∧ Hid (w.grownBy w' none) := by
  refine (new_any base ab w (by have := A.base_le; have := A.lt; omega) (fun _ _ => 0) (fun _ _ => 0)).mono ?_
  rintro e w' ⟨tb, mb, rfl, T, g, _⟩
  exact ⟨tb, _, rfl, ⟨mb, none, _, A.grown g.out, T.out, rfl⟩, g⟩

theorem made_ok (n : Int) (hn : 1 ≤ n ∧ n ≤ 4096) (a : Option Addr) (len cap : Nat) (z : Nat → Int) (w : World) (hz : IsRow .i64 w a len cap z) (h1 : 1 ≤ len) (h8 : len ≤ 8) (h2 : 2 * (len : Int) ≤ n) :
    Calls Try.prog 10 #[.int .i64 n, .slice a len cap] w fun e w' => ∃ ab tb cb F, e = .returned (.tuple #[.pointer (some ⟨ab, 0, none⟩), .pointer (some ⟨tb, 0, none⟩), .pointer (some ⟨cb, 0, none⟩), .int .i64 0]) ∧
      Hid (Cel w.heap.size w' cb tb ab n (firsts z len) (heads len) 0 (fun _ => false) (fun _ _ => 0) 100 F) ∧ Hid (w.grownBy w' none) := by
  have W := Lib.hid hz
  clear hz
  go_enter Try.func10, Try.ntmps10
  go_wp2_with fail
  refine (newR_in w.heap.size n w hn.1 hn.2 (Nat.le_refl _)).mono ?_
  rintro e u1 ⟨ab, rfl, hab, A1, g1⟩
  go_wp2_with fail
  refine (mem_new w.heap.size ab n u1 A1.out).mono ?_
  rintro e u2 ⟨tb, F2, rfl, M2, g2⟩
  have G2 := Lib.hid (gb_trans g1.out g2.out)
  have W2 : Hid (IsRow .i64 u2 a len cap z) := by
    obtain ⟨q1, q2, q3⟩ := W.out
    refine ⟨q1, q2, ?_⟩
    rcases q3 with q3 | ⟨b, off, rfl, hb, hc⟩
    · exact .inl q3
    · exact .inr ⟨b, off, rfl, Nat.lt_of_lt_of_le hb G2.out.size, fun i hi => ⟨G2.out.cell (hc i hi).1 (by simp), (hc i hi).2⟩⟩
  go_wp2_with fail
  refine (cells_new w.heap.size tb ab 0 n (fun _ => false) (fun _ _ => 0) 0 F2 u2 M2.out (by omega) (by omega) a len cap z W2.out (fun b off e hF => by
    have h3 := (M2.out.foot b hF).1
    obtain ⟨_, _, q3⟩ := W.out
    rcases q3 with q3 | ⟨b', off', e', hb, _⟩
    · omega
    · rw [e'] at e
      cases e
      omega) h1 h8 h2 hn.2).mono ?_
  rintro e u3 ⟨cb, F3, rfl, C3, S3⟩
  go_wp2
  refine bodyPost_ret (v := .tuple #[.pointer (some ⟨ab, 0, none⟩), .pointer (some ⟨tb, 0, none⟩), .pointer (some ⟨cb, 0, none⟩), .int .i64 0]) (by simp [results, Try.results10, go_sem]) rfl ⟨ab, tb, cb, F3, rfl, C3, ?_⟩
  have o := S3.out.only
  have g := G2.out
  exact ⟨o.os.trans g.os, o.tape.trans g.tape, o.output.trans g.output, Nat.le_trans g.size o.size, fun k hk _ => (o.block k (Nat.lt_of_lt_of_le hk g.size) (fun e => by have := (M2.out.foot k e).1; omega)).trans (g.block k hk (by simp))⟩

theorem IsRow.lit (w : World) (x : Int) (hx : (Lit.int .i64 x).wf = true) (t : TypeId) : IsRow .i64 (w.alloc (.cells #[.int .i64 x] t)) (some ⟨w.heap.size, 0, none⟩) 1 1 (fun _ => x) := by
  refine ⟨Nat.le_refl _, by unfold maxLen; omega, .inr ⟨w.heap.size, 0, rfl, by simp, fun i hi => ?_⟩⟩
  obtain rfl : i = 0 := by omega
  exact ⟨by simp [go_sem], hx⟩

set_option maxRecDepth 100000 in
set_option maxHeartbeats 1000000 in
theorem alive_any (w : World) : Calls Try.prog 9 #[] w fun e w' => e = .returned (.bool true) ∧ Hid (Below w.heap.size w w') := by
  go_enter Try.func9, Try.ntmps9
  go_wp2_with fail
  refine (made_ok 9 (by omega) _ 1 1 (fun _ => 5) _ (IsRow.lit w 5 (by decide) _) (by omega) (by omega) (by omega)).mono ?_
  rintro e u1 ⟨ab, tb, cb, F1, rfl, C1, g1⟩
  have B1 : Hid (Below w.heap.size w u1) := gb_below (gb_trans (gb_alloc (gb_refl _ _) _) g1.out)
  have hb : Hid (w.heap.size ≤ (w.alloc (.cells #[.int .i64 5] 2)).heap.size) := by unfold Hid; simp
  generalize (w.alloc (.cells #[.int .i64 5] 2)).heap.size = b0 at *
  clear g1
  go_wp2_with fail
  refine (cells_load b0 cb tb ab 0 9 _ _ _ _ _ F1 u1 C1.out (by omega) (by omega) 0 1 rfl).mono ?_
  rintro e u2 ⟨rfl, C2, S2⟩
  have B2 := Lib.hid (C1.out.low S2.out B1.out hb.out)
  clear C1 S2 B1
  go_wp2_with fail
  refine (cells_begin b0 cb tb ab 0 9 _ _ _ _ _ F1 u2 C2.out (by omega) (by omega) (by omega) 0 0 1 0 0 2 rfl (by omega) (by omega) rfl (by omega)).mono ?_
  rintro e u3 ⟨F3, rfl, C3, S3⟩
  have B3 := Lib.hid (C2.out.low S3.out B2.out hb.out)
  clear C2 S3 B2
  go_wp2_with fail
  refine (cells_version b0 cb tb ab 1 9 _ _ _ _ _ F3 u3 C3.out (by omega) (by omega) 7 3 rfl (by omega)).mono ?_
  rintro e u4 ⟨F4, rfl, C4, S4⟩
  have B4 := Lib.hid (C3.out.low S4.out B3.out hb.out)
  clear C3 S4 B3
  go_wp2_with fail
  refine (cells_build b0 cb tb ab 1 9 _ _ _ _ _ F4 u4 C4.out (by omega) (by omega) 2 0 3 (by omega) ⟨_, rfl, rfl⟩ ⟨_, rfl, rfl⟩ 4 rfl (by omega)).mono ?_
  rintro e u5 ⟨F5, rfl, C5, S5⟩
  have B5 := Lib.hid (C4.out.low S5.out B4.out hb.out)
  clear C4 S5 B4
  go_wp2_with fail
  refine (cells_current b0 cb tb ab 1 9 _ _ _ _ _ F5 u5 C5.out (by omega) (by omega) 0 ⟨1, 5, 0, 0, 0, 0, 0, 0, 0⟩ ⟨1, _, rfl, rfl, rfl, by decide, rfl, rfl⟩).mono ?_
  rintro e u6 ⟨rfl, C6, S6⟩
  have B6 := Lib.hid (C5.out.low S6.out B5.out hb.out)
  clear C5 S6 B5
  go_wp2_with fail
  refine (cells_swap b0 cb tb ab 1 9 _ _ _ _ _ F5 u6 C6.out (by omega) (by omega) 0 1 1 4 rfl).mono ?_
  rintro e u7 ⟨rfl, C7, S7⟩
  have B7 := Lib.hid (C6.out.low S7.out B6.out hb.out)
  clear C6 S7 B6
  go_wp2_with fail
  refine (cells_current b0 cb tb ab 1 9 _ _ _ _ _ F5 u7 C7.out (by omega) (by omega) 0 ⟨1, 5, 0, 0, 0, 0, 0, 0, 0⟩ ⟨4, _, rfl, rfl, rfl, by decide, rfl, rfl⟩).mono ?_
  rintro e u8 ⟨rfl, C8, S8⟩
  have B8 := Lib.hid (C7.out.low S8.out B7.out hb.out)
  clear C7 S8 B7
  go_wp2_with fail
  refine (cells_turn b0 cb tb ab 1 9 _ _ _ _ _ F5 u8 C8.out (by omega) (by omega) 2 2 (by decide)).mono ?_
  rintro e u9 ⟨F9, rfl, C9, S9⟩
  have B9 := Lib.hid (C8.out.low S9.out B8.out hb.out)
  clear C8 S9 B8
  go_wp2_with fail
  refine (cells_current b0 cb tb ab 1 9 _ _ _ _ _ F9 u9 C9.out (by omega) (by omega) 0 ⟨1, 7, 0, 0, 0, 0, 0, 0, 0⟩ ⟨4, _, rfl, rfl, rfl, by decide, rfl, rfl⟩).mono ?_
  rintro e u10 ⟨rfl, C10, S10⟩
  have B10 := Lib.hid (C9.out.low S10.out B9.out hb.out)
  go_wp2
  go_ret
  exact ⟨by rfl, B10.out⟩
end Go.Proofs.Yticlmcoegcfanaa.ce
