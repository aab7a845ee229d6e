/- CellsActs: the ways that end ahead of the acts: too many of them, or first values of which no cells can be made. -/
import Derived.Test.YticlmcoegcfanaaActsL
import Derived.Test.YticlmcoegcfanaaActsC
import Derived.Test.YticlmcoegcfanaaOpen
namespace Go.Proofs.Yticlmcoegcfanaa.acts
open Go Go.RowKit Go.ChangeShapes Go.WideShapes Go.ChangeAt Go.Proofs.Yticlmcoegcfanaa.base Go.Proofs.Yticlmcoegcfanaa.ar Go.Proofs.Yticlmcoegcfanaa.ds Go.Proofs.Yticlmcoegcfanaa.rf Go.Proofs.Yticlmcoegcfanaa.mm Go.Proofs.Yticlmcoegcfanaa.vl Go.Proofs.Yticlmcoegcfanaa.ce
set_option linter.unusedVariables false

theorem made_bad (n : Int) (hn : 1 ≤ n ∧ n ≤ 4096) (a : Option Addr) (len cap : Nat) (w : World) (er : Int) (h : ((len < 1 ∨ 8 < len) ∧ er = 2) ∨ ((1 ≤ len ∧ len ≤ 8) ∧ n < 2 * (len : Int) ∧ er = 4)) :
    Calls Try.prog 10 #[.int .i64 n, .slice a len cap] w fun e w' => ∃ ab tb, e = .returned (.tuple #[.pointer (some ⟨ab, 0, none⟩), .pointer (some ⟨tb, 0, none⟩), .pointer none, .int .i64 er]) ∧ Hid (w.grownBy w' none) := by
  have H := Lib.hid h
  clear h
  go_enter Try.func10, Try.ntmps10
  go_wp2_with fail
  refine (newR_in w.heap.size n w hn.1 hn.2 (Nat.le_refl _)).mono ?_
  rintro e u1 ⟨ab, rfl, hab, A1, g1⟩
  go_wp2_with fail
  refine (mem_new w.heap.size ab n u1 A1.out).mono ?_
  rintro e u2 ⟨tb, F2, rfl, M2, g2⟩
  have G2 := Lib.hid (gb_trans g1.out g2.out)
  have hC : Calls Try.prog 28 #[.pointer (some ⟨ab, 0, none⟩), .slice a len cap] u2 fun e w' => e = .returned (.tuple #[.pointer none, .int .i64 er]) ∧ Hid (u2.grownBy w' none) := by
    rcases H.out with ⟨h1, rfl⟩ | ⟨h1, h2, rfl⟩
    · exact cells_new_range ab a len cap u2 h1
    · exact cells_new_full w.heap.size tb ab 0 n (fun _ => false) (fun _ _ => 0) 0 F2 u2 M2.out a len cap h1.1 h1.2 h2 (by omega)
  go_wp2_with fail
  refine hC.mono ?_
  rintro e u3 ⟨rfl, g3⟩
  go_wp2
  exact bodyPost_ret (v := .tuple #[.pointer (some ⟨ab, 0, none⟩), .pointer (some ⟨tb, 0, none⟩), .pointer none, .int .i64 er]) (by simp [results, Try.results10, go_sem]) rfl ⟨ab, tb, rfl, gb_trans G2.out g3.out⟩

set_option maxRecDepth 100000 in
set_option maxHeartbeats 8000000 in
theorem out_acts (a0 : Int) (a1 : Option Addr) (len1 cap1 : Nat) (a2 : Option Addr) (len2 cap2 : Nat) (w : World) (h : 100 < (len2 : Int)) :
    Calls Try.prog 3 #[.int .u8 a0, .slice a1 len1 cap1, .slice a2 len2 cap2] w fun e w' => e = .returned (.bool true) ∧ Below w.heap.size w w' := by
  go_enter Try.func3, Try.ntmps3
  go_wp2_with fail
  refine (alive_any _).mono ?_
  rintro e v1 ⟨rfl, B1⟩
  go_wp2
  go_ret
  exact ⟨rfl, B1.out⟩

set_option maxRecDepth 100000 in
set_option maxHeartbeats 8000000 in
theorem out_first (a0 : Int) (a1 : Option Addr) (len1 cap1 : Nat) (a2 : Option Addr) (len2 cap2 : Nat) (w : World) (h : ¬ 100 < (len2 : Int)) (h2 : 20 < (len1 : Int)) :
    Calls Try.prog 3 #[.int .u8 a0, .slice a1 len1 cap1, .slice a2 len2 cap2] w fun e w' => e = .returned (.bool true) ∧ Below w.heap.size w w' := by
  go_enter Try.func3, Try.ntmps3
  go_wp2_with fail
  refine (alive_any _).mono ?_
  rintro e v1 ⟨rfl, B1⟩
  go_wp2
  go_ret
  exact ⟨rfl, B1.out⟩

set_option maxRecDepth 100000 in
set_option maxHeartbeats 8000000 in
theorem out_none (a0 : Int) (a1 : Option Addr) (len1 cap1 : Nat) (a2 : Option Addr) (len2 cap2 : Nat) (w : World) (w0 : (Lit.int .u8 a0).wf = true) (h : ¬ 100 < (len2 : Int)) (h2 : ¬ 20 < (len1 : Int)) (h3 : (len1 : Int) < 1) :
    Calls Try.prog 3 #[.int .u8 a0, .slice a1 len1 cap1, .slice a2 len2 cap2] w fun e w' => e = .returned (.bool true) ∧ Below w.heap.size w w' := by
  have hcv : IntKind.i64.wrap a0 = a0 := IntWalk.i64_in _ (by have := bounds_u8 w0; omega)
  have htb : 0 ≤ a0.tmod 64 ∧ a0.tmod 64 < 64 := ⟨Int.tmod_nonneg _ (by have := bounds_u8 w0; omega), Int.tmod_lt_of_pos _ (by omega)⟩
  obtain ⟨N, hN⟩ : ∃ N, N = 1 + a0.tmod 64 := ⟨_, rfl⟩
  have hN1 : 1 ≤ N ∧ N ≤ 64 := by omega
  have hnw : wrap64 (1 + a0.tmod 64) = N := by rw [hN]; unfold wrap64; omega
  clear w0 hN htb
  go_enter Try.func3, Try.ntmps3
  go_wp2_with fail
  refine (alive_any _).mono ?_
  rintro e v1 ⟨rfl, B1⟩
  go_wp2_with fail
  refine (made_bad N (by omega) _ len1 cap1 v1 2 (.inl ⟨by omega, rfl⟩)).mono ?_
  rintro e v2 ⟨ab, tb, rfl, g2⟩
  have B2 := Lib.hid (bl_none B1.out g2.out)
  clear B1 g2
  go_wp2_with fail
  refine (nil_objects0 _).mono ?_
  rintro e v3 ⟨rfl, rfl⟩
  go_wp2
  go_ret
  exact ⟨rfl, B2.out⟩

set_option maxRecDepth 100000 in
set_option maxHeartbeats 8000000 in
theorem out_many (a0 : Int) (a1 : Option Addr) (len1 cap1 : Nat) (a2 : Option Addr) (len2 cap2 : Nat) (w : World) (w0 : (Lit.int .u8 a0).wf = true) (h : ¬ 100 < (len2 : Int)) (h2 : ¬ 20 < (len1 : Int)) (h3 : ¬ (len1 : Int) < 1) (h4 : 8 < (len1 : Int)) :
    Calls Try.prog 3 #[.int .u8 a0, .slice a1 len1 cap1, .slice a2 len2 cap2] w fun e w' => e = .returned (.bool true) ∧ Below w.heap.size w w' := by
  have hcv : IntKind.i64.wrap a0 = a0 := IntWalk.i64_in _ (by have := bounds_u8 w0; omega)
  have htb : 0 ≤ a0.tmod 64 ∧ a0.tmod 64 < 64 := ⟨Int.tmod_nonneg _ (by have := bounds_u8 w0; omega), Int.tmod_lt_of_pos _ (by omega)⟩
  obtain ⟨N, hN⟩ : ∃ N, N = 1 + a0.tmod 64 := ⟨_, rfl⟩
  have hN1 : 1 ≤ N ∧ N ≤ 64 := by omega
  have hnw : wrap64 (1 + a0.tmod 64) = N := by rw [hN]; unfold wrap64; omega
  clear w0 hN htb
  go_enter Try.func3, Try.ntmps3
  go_wp2_with fail
  refine (alive_any _).mono ?_
  rintro e v1 ⟨rfl, B1⟩
  go_wp2_with fail
  refine (made_bad N (by omega) _ len1 cap1 v1 2 (.inl ⟨by omega, rfl⟩)).mono ?_
  rintro e v2 ⟨ab, tb, rfl, g2⟩
  have B2 := Lib.hid (bl_none B1.out g2.out)
  clear B1 g2
  go_wp2_with fail
  refine (nil_objects0 _).mono ?_
  rintro e v3 ⟨rfl, rfl⟩
  go_wp2
  go_ret
  exact ⟨rfl, B2.out⟩

set_option maxRecDepth 100000 in
set_option maxHeartbeats 8000000 in
theorem out_full (a0 : Int) (a1 : Option Addr) (len1 cap1 : Nat) (a2 : Option Addr) (len2 cap2 : Nat) (w : World) (w0 : (Lit.int .u8 a0).wf = true) (h : ¬ 100 < (len2 : Int)) (h3 : 1 ≤ (len1 : Int)) (h4 : (len1 : Int) ≤ 8) (h5 : 1 + a0.tmod 64 < 2 * (len1 : Int)) :
    Calls Try.prog 3 #[.int .u8 a0, .slice a1 len1 cap1, .slice a2 len2 cap2] w fun e w' => e = .returned (.bool true) ∧ Below w.heap.size w w' := by
  have hcv : IntKind.i64.wrap a0 = a0 := IntWalk.i64_in _ (by have := bounds_u8 w0; omega)
  have htb : 0 ≤ a0.tmod 64 ∧ a0.tmod 64 < 64 := ⟨Int.tmod_nonneg _ (by have := bounds_u8 w0; omega), Int.tmod_lt_of_pos _ (by omega)⟩
  obtain ⟨N, hN⟩ : ∃ N, N = 1 + a0.tmod 64 := ⟨_, rfl⟩
  have hN1 : 1 ≤ N ∧ N ≤ 64 := by omega
  have hnw : wrap64 (1 + a0.tmod 64) = N := by rw [hN]; unfold wrap64; omega
  rw [← hN] at h5
  have h6 : ¬ 20 < (len1 : Int) := by omega
  clear w0 hN htb
  go_enter Try.func3, Try.ntmps3
  go_wp2_with fail
  refine (alive_any _).mono ?_
  rintro e v1 ⟨rfl, B1⟩
  go_wp2_with fail
  refine (made_bad N (by omega) _ len1 cap1 v1 4 (.inr ⟨⟨by omega, by omega⟩, h5, rfl⟩)).mono ?_
  rintro e v2 ⟨ab, tb, rfl, g2⟩
  have B2 := Lib.hid (bl_none B1.out g2.out)
  clear B1 g2
  go_wp2_with fail
  refine (nil_objects0 _).mono ?_
  rintro e v3 ⟨rfl, rfl⟩
  go_wp2
  go_ret
  exact ⟨rfl, B2.out⟩

end Go.Proofs.Yticlmcoegcfanaa.acts
