/- The document's own answers of chapter 17: last, open, own, Right. -/
import Derived.Test.YtdohepenmejcaaaHrC
import Derived.Test.YtdohepenmejcaaaHmR
import Derived.Deep.QuietTactic
import Derived.BigQuiet
namespace Go.Proofs.Ytdohepenmejcaaa.hs
open Go Go.RowKit Go.Proofs.Ytdohepenmejcaaa.base Go.Maps
set_option linter.unusedVariables false
set_option maxRecDepth 100000

/-- Where the events lie. -/
theorem evsAt {w : World} {a : Option Addr} {n : Nat} {e : Evs} (h : IsEvs w a n e) (h0 : 0 < n) : ∃ b off, a = some ⟨b, off, none⟩ ∧ b < w.heap.size ∧ ∀ i, i < n → w.cell? ⟨b, off + i * 7, none⟩ = some (.int .i64 (e i).k) ∧ w.cell? ⟨b, off + i * 7 + 1, none⟩ = some (.int .i64 (e i).th) ∧ w.cell? ⟨b, off + i * 7 + 2, none⟩ = some (.int .i64 (e i).tx) ∧ w.cell? ⟨b, off + i * 7 + 3, none⟩ = some (.int .i64 (e i).at_) ∧ w.cell? ⟨b, off + i * 7 + 4, none⟩ = some (.int .i64 (e i).ob) ∧ w.cell? ⟨b, off + i * 7 + 5, none⟩ = some (.int .i64 (e i).va) ∧ w.cell? ⟨b, off + i * 7 + 6, none⟩ = some (.int .i64 (e i).re) := by
  rcases h with h | ⟨b, off, h1, h2, h3⟩
  · omega
  · refine ⟨b, off, h1, h2, fun i hi => ?_⟩
    have h4 := (h3 i hi).1
    exact ⟨h4 0 (by omega), h4 1 (by omega), h4 2 (by omega), h4 3 (by omega), h4 4 (by omega), h4 5 (by omega), h4 6 (by omega)⟩

theorem evsIn {w : World} {b off : Nat} {n : Nat} {e : Evs} (h : IsEvs w (some ⟨b, off, none⟩) n e) {i : Nat} (hi : i < n) : w.cell? ⟨b, off + i * 7, none⟩ = some (.int .i64 (e i).k) ∧ w.cell? ⟨b, off + i * 7 + 1, none⟩ = some (.int .i64 (e i).th) ∧ w.cell? ⟨b, off + i * 7 + 2, none⟩ = some (.int .i64 (e i).tx) ∧ w.cell? ⟨b, off + i * 7 + 3, none⟩ = some (.int .i64 (e i).at_) ∧ w.cell? ⟨b, off + i * 7 + 4, none⟩ = some (.int .i64 (e i).ob) ∧ w.cell? ⟨b, off + i * 7 + 5, none⟩ = some (.int .i64 (e i).va) ∧ w.cell? ⟨b, off + i * 7 + 6, none⟩ = some (.int .i64 (e i).re) := by
  obtain ⟨b2, off2, h1, _, h2⟩ := evsAt h (show 0 < n by omega)
  cases h1
  exact h2 i hi

set_option maxHeartbeats 1000000 in
theorem last_any (w : World) (a : Option Addr) (len cap : Nat) (e : Evs) (pl : Nat) (th : Int) (hl : IsEvs w a len e) (hp : pl ≤ len) (hlen : len ≤ 1000000) :
    Calls Try.prog 39 #[.slice a len cap, .int .i64 pl, .int .i64 th] w fun r w' => r = .returned (.int .i64 (lastI e pl th)) ∧ Hid (w.grownBy w' none) := by
  have HL := Lib.hid hl
  clear hl
  have hp1 : (pl : Int) ≤ 1000000 := by omega
  go_enter Try.func39, Try.ntmps39
  go_wp2_with fail
  go_loopw [7] (fun iv wr => ∃ i : Int, -1 ≤ i ∧ i < pl ∧ iv = .int .i64 i ∧ Hid (lastI e pl th = lastI e (i + 1).toNat th) ∧ Hid (w.grownBy wr none)) (fun iv _ => (intOf iv + 1).toNat)
  case atStart => exact ⟨(pl : Int) - 1, by omega, by omega, by go_num, by show _ = _; (try (congr 1; omega)), gb_refl _ _⟩
  case round =>
    obtain ⟨i, hi1, hi2, rfl, H, G⟩ := hrel
    by_cases h0 : 0 ≤ i
    · obtain ⟨j, rfl⟩ : ∃ j : Nat, i = j := ⟨i.toNat, by omega⟩
      have hj : j < len := by omega
      obtain ⟨b, off, rfl, hb, c0, c1, c2, c3, c4, c5, c6, we⟩ := (HL.out.grown G.out).at7 hj
      have HJ := Lib.hid (show ((j : Int) + 1).toNat = j + 1 by omega)
      have hj2 : (j : Int) < 1000000 := by omega
      have hj3 : (j : Int) < (len : Int) := by omega
      by_cases h1 : (e j).k = 1
      · have f1 : ((e j).k == 1) = true := by simp [h1]
        by_cases ht : (e j).th = th
        · have ft : ((e j).th == th) = true := by simp [ht]
          have HE := Lib.hid (show lastI e (j + 1) th = (j : Int) by rw [lastI, if_pos ⟨h1, ht⟩])
          clear h1 ht
          go_wp2
          go_ret
          exact ⟨by rw [H.out, HJ.out, HE.out]; rfl, G.out⟩
        · have ft : ((e j).th == th) = false := by simp [ht]
          have HE := Lib.hid (show lastI e (j + 1) th = lastI e j th by rw [lastI, if_neg (fun h => ht h.2)])
          clear h1 ht
          go_wp2
          go_roundw
          case rel => exact ⟨(j : Int) - 1, by omega, by omega, by go_num, by show _ = _; rw [H.out, HJ.out, HE.out]; (try (congr 1; omega)), G⟩
          case measure => simp [intOf] <;> omega
      · have f1 : ((e j).k == 1) = false := by simp [h1]
        have HE := Lib.hid (show lastI e (j + 1) th = lastI e j th by rw [lastI, if_neg (fun h => h1 h.1)])
        clear h1
        go_wp2
        go_roundw
        case rel => exact ⟨(j : Int) - 1, by omega, by omega, by go_num, by show _ = _; rw [H.out, HJ.out, HE.out]; (try (congr 1; omega)), G⟩
        case measure => simp [intOf] <;> omega
    · obtain rfl : i = -1 := by omega
      go_wp2
      go_ret
      exact ⟨by rw [H.out]; rfl, G.out⟩

theorem openB_no (e : Evs) (b k : Nat) (h : openB e b k = false) : ∀ j, openB e b (k + j) = false
  | 0 => h
  | j + 1 => by rw [← Nat.add_assoc, openB, openB_no e b k h j]; rfl
/-- Goes the try that began at a place on, ahead of another one? -/
def opB (e : Evs) (bg : Int) (pl : Nat) : Bool := decide (0 ≤ bg) && openB e bg.toNat pl

set_option maxHeartbeats 1000000 in
theorem open_any (w : World) (a : Option Addr) (len cap : Nat) (e : Evs) (bg : Int) (pl : Nat) (hl : IsEvs w a len e) (hb1 : -1 ≤ bg) (hb2 : bg < pl) (hp : pl ≤ len) (hlen : len ≤ 1000000) :
    Calls Try.prog 40 #[.slice a len cap, .int .i64 bg, .int .i64 pl] w fun r w' => r = .returned (.bool (opB e bg pl)) ∧ Hid (w.grownBy w' none) := by
  have HL := Lib.hid hl
  clear hl
  have hp1 : (pl : Int) ≤ 1000000 := by omega
  by_cases h0 : 0 ≤ bg
  · obtain ⟨b, rfl⟩ : ∃ b : Nat, bg = b := ⟨bg.toNat, by omega⟩
    have hbl : b < len := by omega
    have HS := Lib.hid (openB_self e b (b + 1) (Nat.le_refl _))
    have HO := Lib.hid (show opB e b pl = openB e b pl by unfold opB; simp)
    generalize opB e b pl = res at HO ⊢
    go_enter Try.func40, Try.ntmps40
    go_wp2_with fail
    go_loopw [7] (fun iv wr => ∃ k : Nat, b + 1 ≤ k ∧ k ≤ pl ∧ iv = .int .i64 k ∧ Hid (openB e b k = true) ∧ Hid (w.grownBy wr none)) (fun iv _ => (pl - intOf iv).toNat)
    case atStart => exact ⟨b + 1, by omega, by omega, by go_num, HS, gb_refl _ _⟩
    case round =>
      obtain ⟨k, hk1, hk2, rfl, H, G⟩ := hrel
      have hk3 : (k : Int) ≤ 1000000 := by omega
      by_cases hlt : k < pl
      · have hlt' : (k : Int) < (pl : Int) := by omega
        obtain ⟨eb, off, rfl, heb, fe0⟩ := evsAt (HL.out.grown G.out) (show 0 < len by omega)
        obtain ⟨c0, c1, _⟩ := fe0 k (by omega)
        obtain ⟨_, d1, _⟩ := fe0 b hbl
        have hkl : (k : Int) < (len : Int) := by omega
        have hbl' : (b : Int) < (len : Int) := by omega
        have hbb : (b : Int) < 1000000 := by omega
        clear fe0
        have HE := Lib.hid (show openB e b (k + 1) = !(decide ((e k).th = (e b).th) && (decide ((e k).k = 5) || decide ((e k).k = 6))) by rw [openB, H.out]; simp [show b < k from hk1])
        by_cases ht : (e k).th = (e b).th
        · have ft : ((e k).th == (e b).th) = true := by simp [ht]
          by_cases h5 : (e k).k = 5
          · have f5 : ((e k).k == 5) = true := by simp [h5]
            have HF := Lib.hid (show openB e b pl = false by have := openB_no e b (k + 1) (by rw [HE.out]; simp [ht, h5]) (pl - (k + 1)); rwa [show k + 1 + (pl - (k + 1)) = pl by omega] at this)
            clear ht h5
            go_wp2_with fail
            go_big_quiet (fail)
            go_wp2
            go_ret
            exact ⟨by rw [HO.out, HF.out]; rfl, gb_drewN G.out _⟩
          · have f5 : ((e k).k == 5) = false := by simp [h5]
            by_cases h6 : (e k).k = 6
            · have f6 : ((e k).k == 6) = true := by simp [h6]
              have HF := Lib.hid (show openB e b pl = false by have := openB_no e b (k + 1) (by rw [HE.out]; simp [ht, h6]) (pl - (k + 1)); rwa [show k + 1 + (pl - (k + 1)) = pl by omega] at this)
              clear ht h5 h6
              go_wp2_with fail
              go_big_quiet (fail)
              go_wp2
              go_ret
              exact ⟨by rw [HO.out, HF.out]; rfl, gb_drewN G.out _⟩
            · have f6 : ((e k).k == 6) = false := by simp [h6]
              have HF := Lib.hid (show openB e b (k + 1) = true by rw [HE.out]; simp [h5, h6])
              clear ht h5 h6
              go_wp2_with fail
              go_big_quiet (fail)
              go_wp2
              go_roundw
              case rel => exact ⟨k + 1, by omega, by omega, by go_num, HF, gb_drewN G.out _⟩
              case measure => simp [intOf] <;> omega
        · have ft : ((e k).th == (e b).th) = false := by simp [ht]
          have HF := Lib.hid (show openB e b (k + 1) = true by rw [HE.out]; simp [ht])
          clear ht
          go_wp2_with fail
          go_big_quiet (fail)
          go_wp2
          go_roundw
          case rel => exact ⟨k + 1, by omega, by omega, by go_num, HF, gb_drewN G.out _⟩
          case measure => simp [intOf] <;> omega
      · obtain rfl : k = pl := by omega
        go_wp2
        go_ret
        exact ⟨by rw [HO.out, H.out]; rfl, G.out⟩
  · obtain rfl : bg = -1 := by omega
    go_enter Try.func40, Try.ntmps40
    go_wp2
    go_ret
    exact ⟨by unfold opB; rfl, gb_refl _ _⟩

set_option maxHeartbeats 1000000 in
theorem own_any (x y : Ev) (w : World) : Calls Try.prog 41 #[.agg #[.int .i64 x.k, .int .i64 x.th, .int .i64 x.tx, .int .i64 x.at_, .int .i64 x.ob, .int .i64 x.va, .int .i64 x.re], .agg #[.int .i64 y.k, .int .i64 y.th, .int .i64 y.tx, .int .i64 y.at_, .int .i64 y.ob, .int .i64 y.va, .int .i64 y.re]] w fun r w' => r = .returned (.bool (ownE x y)) ∧ Hid (w.grownBy w' none) := by
  obtain ⟨o, ho⟩ : ∃ o, o = ownE x y := ⟨_, rfl⟩
  have HO := Lib.hid ho
  rw [← ho]
  clear ho
  unfold ownE at HO
  by_cases h1 : x.th = y.th
  · have f1 : (x.th == y.th) = true := by simp [h1]
    by_cases h2 : x.tx = y.tx
    · have f2 : (x.tx == y.tx) = true := by simp [h2]
      by_cases h3 : x.at_ = y.at_
      · have f3 : (x.at_ == y.at_) = true := by simp [h3]
        have HF := Lib.hid (show o = true by rw [HO.out]; simp [h1, h2, h3])
        clear h1 h2 h3 HO
        go_enter Try.func41, Try.ntmps41
        go_wp2
        go_ret
        exact ⟨by rw [HF.out]; rfl, (by repeat (first | exact gb_refl _ _ | refine gb_drewN ?_ _ | refine gb_drew ?_ | refine gb_alloc ?_ _))⟩
      · have f3 : (x.at_ == y.at_) = false := by simp [h3]
        have HF := Lib.hid (show o = false by rw [HO.out]; simp [h3])
        clear h1 h2 h3 HO
        go_enter Try.func41, Try.ntmps41
        go_wp2
        go_ret
        exact ⟨by rw [HF.out]; rfl, (by repeat (first | exact gb_refl _ _ | refine gb_drewN ?_ _ | refine gb_drew ?_ | refine gb_alloc ?_ _))⟩
    · have f2 : (x.tx == y.tx) = false := by simp [h2]
      have HF := Lib.hid (show o = false by rw [HO.out]; simp [h2])
      clear h1 h2 HO
      go_enter Try.func41, Try.ntmps41
      go_wp2
      go_ret
      exact ⟨by rw [HF.out]; rfl, (by repeat (first | exact gb_refl _ _ | refine gb_drewN ?_ _ | refine gb_drew ?_ | refine gb_alloc ?_ _))⟩
  · have f1 : (x.th == y.th) = false := by simp [h1]
    have HF := Lib.hid (show o = false by rw [HO.out]; simp [h1])
    clear h1 HO
    go_enter Try.func41, Try.ntmps41
    go_wp2
    go_ret
    exact ⟨by rw [HF.out]; rfl, (by repeat (first | exact gb_refl _ _ | refine gb_drewN ?_ _ | refine gb_drew ?_ | refine gb_alloc ?_ _))⟩
end Go.Proofs.Ytdohepenmejcaaa.hs
