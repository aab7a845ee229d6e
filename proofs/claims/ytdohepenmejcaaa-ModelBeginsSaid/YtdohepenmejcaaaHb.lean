/- Package hist's Before; the document's example. -/
import Derived.Test.YtdohepenmejcaaaHc
namespace Go.Proofs.Ytdohepenmejcaaa.hs
open Go Go.RowKit Go.Proofs.Ytdohepenmejcaaa.base Go.Maps
set_option linter.unusedVariables false
set_option maxRecDepth 100000

theorem before_le (e : Evs) : ∀ n, before e n ≤ n
  | 0 => Nat.le_refl _
  | n + 1 => by have := before_le e n; unfold before; split <;> omega

set_option maxHeartbeats 1000000 in
theorem before_any (w : World) (a : Option Addr) (len cap : Nat) (e : Evs) (pl : Int) (hw : (Lit.int .i64 pl).wf = true) (hl : IsEvs w a len e) (hlc : len ≤ cap) (hlen : len ≤ 1000000) :
    Calls Try.prog 24 #[.slice a len cap, .int .i64 pl] w fun r w' => r = .returned (.int .i64 (before e (min len pl.toNat))) ∧ Hid (w.grownBy w' none) := by
  have HL := Lib.hid hl
  obtain ⟨m, hm⟩ : ∃ m, m = min len pl.toNat := ⟨_, rfl⟩
  rw [← hm]
  have hml : m ≤ len := by omega
  have HM := Lib.hid hm
  clear hm
  have hc2 : (len : Int) ≤ (cap : Int) := by omega
  have hl2 : (len : Int) ≤ 1000000 := by omega
  go_enter Try.func24, Try.ntmps24
  go_wp2_with fail
  have hm := HM.out
  have e1 : min (max pl 0) (len : Int) = (m : Int) := by omega
  have e2 : max (m : Int) 0 = (m : Int) := by omega
  simp only [e1, e2, Int.toNat_natCast]
  have hm2 : (m : Int) ≤ 1000000 := by omega
  clear e1 e2 hm hl
  go_loopw [5, 16] (fun nv iv wr => ∃ k : Nat, k ≤ m ∧ iv = .int .i64 k ∧ nv = .int .i64 (before e k) ∧ Hid (w.grownBy wr none)) (fun _ iv _ => (m - intOf iv).toNat)
  case atStart => exact ⟨0, by omega, rfl, rfl, gb_refl _ _⟩
  case round =>
    obtain ⟨k, hk, rfl, rfl, G⟩ := hrel
    have hbk := before_le e k
    by_cases hlt : k < m
    · obtain ⟨b0, off, rfl, hb0, c0, c1, c2, c3, c4, c5, c6, we⟩ := (HL.out.grown G.out).at7 (show k < len by omega)
      have hlt' : (k : Int) < (m : Int) := by omega
      have hk2 : (k : Int) < 1000000 := by omega
      have hb2 : (before e k : Int) < 1000000 := by omega
      have G1 := Lib.hid (gb_alloc G.out (.cells #[.int .i64 ((e k).k), .int .i64 ((e k).th), .int .i64 ((e k).tx), .int .i64 ((e k).at_), .int .i64 ((e k).ob), .int .i64 ((e k).va), .int .i64 ((e k).re)] 58))
      by_cases h5 : (e k).k = 5
      · have f5 : ((e k).k == 5) = true := by simp [h5]
        have HB := Lib.hid (show before e (k + 1) = before e k + 1 by rw [before, if_pos h5])
        clear h5
        go_wp2
        go_roundw
        case rel => exact ⟨k + 1, by omega, by go_num, by rw [HB.out]; go_num, G1⟩
        case measure => simp [intOf]; omega
      · have f5 : ((e k).k == 5) = false := by simp [h5]
        have HB := Lib.hid (show before e (k + 1) = before e k by rw [before, if_neg h5]; rfl)
        clear h5
        go_wp2
        go_roundw
        case rel => exact ⟨k + 1, by omega, by go_num, by rw [HB.out], G1⟩
        case measure => simp [intOf]; omega
    · obtain rfl : k = m := by omega
      go_wp2
      go_ret
      exact ⟨rfl, G.out⟩

theorem one_of {ys : List (Tr × Value)} {t : Tr} (h : (ys.map Prod.fst).Perm [t]) : ∃ v, ys = [(t, v)] := by
  have h1 := h.length_eq
  rw [List.length_map] at h1
  match ys, h1, h with
  | [(t', v)], _, h =>
    have := h.mem_iff (a := t') |>.1 (by simp)
    simp at this
    exact ⟨v, by rw [this]⟩

theorem first_of {w : World} {a : Option Addr} {t : Tr} {v : Value} (h : IsTries w a [(t, v)]) : ∃ g va vc, a = some ⟨g, 0, none⟩ ∧ g < w.heap.size ∧ v = .slice va t.ac.length vc ∧ w.cell? ⟨g, 7, none⟩ = some (.bool t.co) ∧ w.cell? ⟨g, 5, none⟩ = some (.int .i64 t.en) ∧ w.cell? ⟨g, 8, none⟩ = some v := by
  obtain ⟨h1, h2⟩ := h
  obtain ⟨va, vc, hv⟩ := owns_slice (h2 (t, v) (by simp))
  rcases h1 with h1 | ⟨g, rfl, hg, hc⟩
  · cases h1
  · exact ⟨g, va, vc, rfl, hg, hv, by simpa using hc 0 (t, v) rfl 7 _ rfl, by simpa using hc 0 (t, v) rfl 5 _ rfl, by simpa using hc 0 (t, v) rfl 8 _ rfl⟩

def exE : Evs := fun i => match i with
  | 0 => ⟨1, 0, 0, 1, 0, 0, 0⟩
  | 1 => ⟨2, 0, 0, 1, 0, 5, 0⟩
  | _ => ⟨5, 0, 0, 1, 0, 0, 0⟩

theorem exE_right : right exE 3 = true := by decide

theorem exE_tries : tries exE 3 = [⟨0, 0, 1, 0, 0, 2, 0, true, [⟨1, 2, 0, 5, false, false⟩]⟩] := by decide

end Go.Proofs.Ytdohepenmejcaaa.hs
