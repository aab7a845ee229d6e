/- The contracts of package cells, over whatever translation they lie in. -/
import Derived.Test.YtnaagcofgnmmlaaCelE
namespace Go.Proofs.Ytnaagcofgnmmlaa.ce
open Go Go.RowKit Go.Proofs.Ytnaagcofgnmmlaa.base Go.Proofs.Ytnaagcofgnmmlaa.ar Go.Proofs.Ytnaagcofgnmmlaa.wd Go.Proofs.Ytnaagcofgnmmlaa.rf Go.Proofs.Ytnaagcofgnmmlaa.mm Go.Proofs.Ytnaagcofgnmmlaa.vl Go.Proofs.Ytnaagcofgnmmlaa.ds
set_option linter.unusedVariables false

theorem infoP : (Try.prog.info? 97).map (fun i => (i.zero, i.size, i.bytes)) = some (some (.pointer none), 1, 8) := by kernel_rfl

/-- At the head of a round of New. -/
def RelNewC (base : Nat) (w : World) (cb tb ab m : Nat) (room : Int) (is : Int → Bool) (num : Int → Nat → Int) (B : Int) (F : Nat → Prop) (z : Nat → Int) (len : Nat) (i : Value) (wr : World) : Prop :=
  ∃ (k : Nat) (F' : Nat → Prop), k ≤ len ∧ i = .int .i64 k ∧ Cel base wr cb tb ab room (firsts z k) (heads k) m is num B F' ∧ Step F F' w wr

set_option maxRecDepth 100000 in
set_option maxHeartbeats 4000000 in
theorem cells_new (base tb ab m : Nat) (room : Int) (is : Int → Bool) (num : Int → Nat → Int) (B : Int) (F : Nat → Prop) (w : World) (h : Mem base w tb ab room [] m is num B F) (h0 : 0 ≤ B) (hB : B ≤ 900000) (a : Option Addr) (len cap : Nat) (z : Nat → Int) (hz : IsRow .i64 w a len cap z) (hsep : ∀ b off, a = some ⟨b, off, none⟩ → ¬ F b) (h1 : 1 ≤ len) (h8 : len ≤ 8) (h2 : 2 * (len : Int) ≤ room) (hr : room ≤ 4096) :
    Calls Try.prog 17 #[.pointer (some ⟨ab, 0, none⟩), .slice a len cap] w fun e w' => ∃ cb F', e = .returned (.tuple #[.pointer (some ⟨cb, 0, none⟩), .int .i64 0]) ∧ Hid (Cel base w' cb tb ab room (firsts z len) (heads len) m is num (B + 100) F') ∧ Hid (Step F F' w w') := by
  have H := Lib.hid h
  have W := Lib.hid hz
  have HS := Lib.hid hsep
  have hbs := Lib.hid h.base_size
  have e0 : ((len : Int) == 0) = false := by simpa using (by omega : ¬ (len : Int) = 0)
  have e8 : (len : Int) ≤ 8 := by omega
  have e2 : ¬ room < 2 * (len : Int) := by omega
  obtain ⟨i0, hi0, hz00, hz10, hz20⟩ := info_parts infoP
  have hi := Lib.hid hi0
  have hz0 := Lib.hid hz00
  have hz1 := Lib.hid hz10
  have hz2 := Lib.hid hz20
  clear h hz hsep hi0 hz00 hz10 hz20
  go_enter Try.func17, Try.ntmps17
  go_wp2_with fail
  refine (mm.mem_left base tb ab m room [] is num B F w H.out (by simp; omega) hr).mono ?_
  have e00 : room - (([] : List Rc).length : Int) = room := by simp
  rw [e00]
  rintro e u1 ⟨q, rfl, rfl⟩
  have M1 : Mem base ((w.drewN q).alloc (.cells #[.pointer (some ⟨ab, 0, none⟩), .slice none 0 0] 93)) tb ab room [] m is num B F := H.out.grown (gb_alloc (gb_drewN (gb_refl _ _) _) _)
  have C1 : Cel base ((w.drewN q).alloc (.cells #[.pointer (some ⟨ab, 0, none⟩), .slice none 0 0] 93)) w.heap.size tb ab room (firsts z 0) (heads 0) m is num B (fun k => F k ∨ CF w.heap.size none (fun _ => 0) 0 k) := by
    refine ⟨F, none, fun _ => 0, M1, ⟨Fld.made (w.drewN q) 93 97 1 (by simpa using hbs.out) [.pointer (some ⟨ab, 0, none⟩)] [], fun j p hp => ?_, fun j k hj => ?_⟩, fun k hk hf => ?_, by simp [firsts]; omega, rfl⟩
    · simp [heads] at hp
    · simp [heads] at hj
    · rcases hk with hk | hk | ⟨j, hj, _⟩
      · have := (H.out.foot k hf).2; omega
      · cases hk
      · simp [heads] at hj
  have S1 : Step F (fun k => F k ∨ CF w.heap.size none (fun _ => 0) 0 k) w ((w.drewN q).alloc (.cells #[.pointer (some ⟨ab, 0, none⟩), .slice none 0 0] 93)) := by
    refine ⟨Only.none (gb_alloc (gb_drewN (gb_refl _ _) _) _), fun k hk => ?_⟩
    rcases hk with hk | hk | hk | ⟨j, hj, _⟩
    · exact .inl hk
    · right; omega
    · cases hk
    · omega
  go_wp2_with fail
  generalize hu : ((w.drewN q).alloc (.cells #[.pointer (some ⟨ab, 0, none⟩), .slice none 0 0] 93)) = u0 at *
  generalize w.heap.size = cb at *
  generalize (fun k => F k ∨ CF cb none (fun _ => 0) 0 k) = F0 at *
  have HC1 := Lib.hid C1
  have HS1 := Lib.hid S1
  clear C1 S1 M1
  go_loopw [33] (fun i wr => RelNewC base w cb tb ab m room is num B F z len i wr) (fun i _ => (len - intOf i).toNat)
  case atStart => exact ⟨0, F0, by omega, rfl, HC1.out, HS1.out⟩
  case round =>
    obtain ⟨k, F1, hk, rfl, C0, S0⟩ := hrel
    have C := Lib.hid C0
    have S := Lib.hid S0
    have hbw : Hid (base ≤ wr.heap.size) := C0.base_size
    clear C0 S0 HC1 HS1
    by_cases hlt : k < len
    · obtain ⟨_, _, h | ⟨b2, off2, rfl, hb2, hz⟩⟩ := W.out
      · exfalso; omega
      have hnF := HS.out b2 off2 rfl
      have hcell : wr.cell? ⟨b2, off2 + k, none⟩ = some (.int .i64 (z k)) := (World.cell?_of_block (S.out.only.block b2 hb2 hnF)).trans (hz k hlt).1
      have hlt' : (k : Int) < (len : Int) := by omega
      have lb := World.block_lt_of_cell? _ _ hcell
      clear hz hb2 hnF
      go_wp2_with fail
      refine (version_in base cb tb ab m room (firsts z k) (heads k) is num B F1 wr C.out hB hr (z k) (2 * k) (firsts_length z k) (by omega)).mono ?_
      have el : ((2 * k : Nat) : Int) = 2 * (k : Int) := by omega
      rw [el]
      rintro e u1 ⟨F2, rfl, C1, S1⟩
      have S2 := Lib.hid (S.out.trans S1.out)
      clear C S S1 hcell lb
      go_wp2_with fail
      refine (build_in base cb tb ab m room (firsts z k ++ [⟨1, z k, 0, 0, 0, 0, 0, 0, 0⟩]) (heads k) is num B F2 u1 C1.out hB hr (-1) (2 * k) (2 * k) (by omega) ⟨_, by unfold recAt; rw [if_pos (by omega), show (2 * (k : Int)).toNat = 2 * k by omega, List.getElem?_append_right (by rw [firsts_length]; omega), firsts_length, Nat.sub_self]; rfl, rfl⟩ ⟨_, by unfold recAt; rw [if_pos (by omega), show (2 * (k : Int)).toNat = 2 * k by omega, List.getElem?_append_right (by rw [firsts_length]; omega), firsts_length, Nat.sub_self]; rfl, rfl⟩ (2 * k + 1) (by rw [List.length_append, firsts_length]; rfl) (by omega)).mono ?_
      have el2 : ((2 * k + 1 : Nat) : Int) = 2 * (k : Int) + 1 := by omega
      rw [el2, ← firsts_succ]
      rintro e u2 ⟨F3, rfl, C2, S3⟩
      have S4 := Lib.hid (S2.out.trans S3.out)
      obtain ⟨r, wb, K, back⟩ := C2.out.view h0
      have hlen := heads_length k
      have FK := K.fld
      rw [hlen] at FK back
      have HK := Lib.hid FK
      have HB := Lib.hid back
      obtain ⟨ao, kc, b1, ho0, hr0⟩ := FK.open
      have ho := Lib.hid ho0
      have hrr := Lib.hid hr0
      have c1 := b1.cell 1
      have lcb := b1.lt
      have hb2 : Hid (base ≤ u2.heap.size) := C2.out.base_size
      have hk8 : k ≤ 8 := by omega
      clear C1 S2 S3 K back b1 ho0 hr0 FK hlen
      go_wp2_with fail
      go_region_law (first | (refine step_call rfl 24 #[.int .i64 (2 * (k : Int) + 1)] (by simp [Act.eval, go_sem]) (of_made (2 * (k : Int) + 1) u2.drew) ?_; rintro e u3 ⟨wk, rfl, hwk, W3, g3⟩; refine ⟨_, rfl, ?_⟩; have c3 := (g3.out.cell (a := ⟨cb, 1, none⟩) c1 (by simp)); have HK3 := Lib.hid ((HK.out.grown (gb_drew (gb_refl _ _))).grown g3.out); have lcb3 := HK3.out.lt; have ho3 := Lib.hid (ownsRow_keep (w' := u3) ho.out (fun b e => g3.out.block b (ho.out.lt b e).2 (by simp)))) | (refine step_append_at rfl (.tmp 56) (.tmp 59) 91 rfl base 97 i0 (.pointer none) 1 8 Try.underlying91 hi.out hz0.out hz1.out hz2.out rfl (by decide) (.slice ao k kc) k (ptrs wb k) (by simp [Act.eval]) (ho3.out.alloc _) ⟨u3.heap.size, 0, none⟩ 1 1 [.pointer (some ⟨wk, 0, none⟩)] (by simp [Act.eval]) rfl (new_cells u3 _ _) (by intro u hu; simp at hu; subst hu; rfl) (by unfold maxLen; omega) (by omega) (by have := hb2.out; have := g3.out.size; simp at this ⊢; omega) (by decide) ?_; intro g' c' w1 ho1 hg1 hv1; have hg2 := Lib.hid (show World.grownBy _ w1 r from hrr.out ▸ hg1); have ho4 := Lib.hid ho1; have hv2 := Lib.hid hv1; obtain ⟨c5, f5⟩ := HK3.out.mid c3 hg2.out; clear ho1 hg1 hv1))
      all_goals
        have hp := ((HK3.out.alloc (.cells #[.pointer (some ⟨wk, 0, none⟩)] 97))).put ho4.out hg2.out (by rw [← hrr.out]; exact hv2.out)
        have hp2 := hp.2.after (gb_alloc (gb_refl u3 none) _)
        obtain ⟨F4, C4, S5⟩ := HB.out u3 _ wk (2 * (k : Int) + 1) _ (gb_trans (gb_drew (gb_refl _ _)) g3.out) hwk.out W3.out hp.1 hp2
        rw [← heads_succ] at C4
        have C5 := Lib.hid C4
        have S6 := Lib.hid (S4.out.trans S5)
        clear hp hp2 C4 S5
        go_wp2
        go_roundw
        case rel => exact ⟨k + 1, F4, by omega, by go_num, C5.out, S6.out⟩
        case measure => simp [intOf]; omega
    · obtain rfl : k = len := by omega
      go_wp2
      go_ret2
      exact ⟨cb, F1, rfl, C.out.mono (by omega), S.out⟩

theorem cells_new_range (p : Nat) (a : Option Addr) (len cap : Nat) (w : World) (h1 : len < 1 ∨ 8 < len) :
    Calls Try.prog 17 #[.pointer (some ⟨p, 0, none⟩), .slice a len cap] w fun e w' => e = .returned (.tuple #[.pointer none, .int .i64 2]) ∧ Hid (w.grownBy w' none) := by
  by_cases h0 : len = 0
  · have e0 : ((len : Int) == 0) = true := by simp [h0]
    clear h0 h1
    go_enter Try.func17, Try.ntmps17
    go_wp2
    go_ret2
    exact ⟨rfl, gb_refl _ _⟩
  · have e0 : ((len : Int) == 0) = false := by simpa using h0
    have e8 : (8 : Int) < len := by omega
    have e9 : ¬ (len : Int) ≤ 8 := by omega
    clear h0 h1
    go_enter Try.func17, Try.ntmps17
    go_wp2
    go_ret2
    exact ⟨rfl, gb_refl _ _⟩

theorem cells_new_full (base tb ab m : Nat) (room : Int) (is : Int → Bool) (num : Int → Nat → Int) (B : Int) (F : Nat → Prop) (w : World) (h : Mem base w tb ab room [] m is num B F) (a : Option Addr) (len cap : Nat) (h1 : 1 ≤ len) (h8 : len ≤ 8) (h2 : room < 2 * (len : Int)) (hr : 0 ≤ room ∧ room ≤ 4096) :
    Calls Try.prog 17 #[.pointer (some ⟨ab, 0, none⟩), .slice a len cap] w fun e w' => e = .returned (.tuple #[.pointer none, .int .i64 4]) ∧ Hid (w.grownBy w' none) := by
  have H := Lib.hid h
  have e0 : ((len : Int) == 0) = false := by simpa using (by omega : ¬ (len : Int) = 0)
  have e8 : (len : Int) ≤ 8 := by omega
  clear h
  go_enter Try.func17, Try.ntmps17
  go_wp2_with fail
  refine (mm.mem_left base tb ab m room [] is num B F w H.out (by simp; omega) hr.2).mono ?_
  have e00 : room - (([] : List Rc).length : Int) = room := by simp
  rw [e00]
  rintro e u1 ⟨q, rfl, rfl⟩
  go_wp2
  go_ret2
  exact ⟨rfl, gb_drewN (gb_refl _ _) _⟩

theorem cells_new_nil (a : Option Addr) (len cap : Nat) (w : World) : Calls Try.prog 17 #[.pointer none, .slice a len cap] w fun e w' => e = .returned (.tuple #[.pointer none, .int .i64 6]) ∧ Hid (w.grownBy w' none) := by
  go_enter Try.func17, Try.ntmps17
  go_wp2
  go_ret2
  exact ⟨rfl, gb_refl _ _⟩

theorem nil_record (j q : Int) (w : World) : Calls Try.prog 28 #[.pointer none, .int .i64 j, .int .i64 q] w fun e w' => e = .returned (.tuple #[.agg #[.int .i64 0, .int .i64 0, .int .i64 0, .int .i64 0, .int .i64 0, .int .i64 0, .int .i64 0, .int .i64 0, .int .i64 0], .int .i64 6]) ∧ Hid (w.grownBy w' none) := by
  go_enter Try.func28, Try.ntmps28
  go_wp2
  have G9 : w.grownBy ((w.alloc (.cells #[.int .i64 0, .int .i64 0, .int .i64 0, .int .i64 0, .int .i64 0, .int .i64 0, .int .i64 0, .int .i64 0, .int .i64 0] 72))) none := by
    repeat first | exact gb_refl _ _ | refine gb_setNew ?_ (by show w.heap.size ≤ w.heap.size; omega) _ | refine gb_alloc ?_ _
  exact bodyPost_ret (v := .tuple #[.agg #[.int .i64 0, .int .i64 0, .int .i64 0, .int .i64 0, .int .i64 0, .int .i64 0, .int .i64 0, .int .i64 0, .int .i64 0], .int .i64 6]) (by simp [results, Try.results28, go_sem, *]) rfl ⟨rfl, G9⟩

theorem nil_value (j : Int) (w : World) : Calls Try.prog 27 #[.pointer none, .int .i64 j] w fun e w' => e = .returned (.tuple #[.int .i64 0, .int .i64 6]) ∧ Hid (w.grownBy w' none) := by
  go_enter Try.func27, Try.ntmps27
  go_wp2_with fail
  refine (nil_record j 1 _).mono ?_
  rintro e u1 ⟨rfl, g1⟩
  go_wp2
  go_ret2
  exact ⟨rfl, gb_alloc g1.out _⟩

theorem nil_version (j : Int) (w : World) : Calls Try.prog 22 #[.pointer none, .int .i64 j] w fun e w' => e = .returned (.tuple #[.int .i64 0, .int .i64 6]) ∧ Hid (w.grownBy w' none) := by
  go_enter Try.func22, Try.ntmps22
  go_wp2
  go_ret2
  exact ⟨rfl, gb_refl _ _⟩

theorem nil_build (o p q : Int) (w : World) : Calls Try.prog 23 #[.pointer none, .int .i64 o, .int .i64 p, .int .i64 q] w fun e w' => e = .returned (.tuple #[.int .i64 0, .int .i64 6]) ∧ Hid (w.grownBy w' none) := by
  go_enter Try.func23, Try.ntmps23
  go_wp2
  go_ret2
  exact ⟨rfl, gb_refl _ _⟩

end Go.Proofs.Ytnaagcofgnmmlaa.ce
