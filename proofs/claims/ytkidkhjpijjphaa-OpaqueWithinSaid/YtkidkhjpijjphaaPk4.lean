/- Texts of one's own, one behind the other: WkR, HpP, Tn, TnA, TnB, TnC, TnD, TnE, TnF, WkG, Di, Da, OpD, OpE, OpF. -/
import Derived.Test.YtkidkhjpijjphaaProg
import Derived.Test.YtkidkhjpijjphaaPk3
import Derived.Laws.BitsAll
import Derived.Laws.BitsAllLaws
import Derived.IntWalk
import Derived.Laws.CopyRow
import Derived.Laws.MakeOwn
import Derived.Deep.RegionHeld3
import Derived.Deep.QuietTactic
import Derived.Laws.ShiftsVarLaws
import Derived.Deep.RegionLaw
import Derived.WalkSmall
import Derived.BigQuiet
/- slices.Repeat of a row of one number, as package opaque calls it; slices.Index. -/
namespace Go.Proofs.Ytkidkhjpijjphaa.oq
open Go Go.RowKit Go.Proofs.Ytkidkhjpijjphaa.base Go.Proofs.Ytkidkhjpijjphaa.hs Go.Proofs.Ytkidkhjpijjphaa.lg Go.Proofs.Ytkidkhjpijjphaa.md Go.Maps
set_option linter.unusedVariables false
set_option maxRecDepth 100000
set_option linter.unusedSimpArgs false

set_option maxHeartbeats 1000000 in
theorem mul64_one (T : Nat) (hT : T ≤ 1000) (w : World) : Calls Try.prog 86 #[.int .u64 1, .int .u64 T] w fun r w' => r = .returned (.tuple #[.int .u64 0, .int .u64 T]) ∧ w' = w := by
  have h6 : (T : Int) ≤ 1000 := by omega
  have b1 : bits .and .u64 1 4294967295 = 1 := by decide
  have b0 : bits .and .u64 0 4294967295 = 0 := by decide
  have bT : bits .and .u64 (T : Int) 4294967295 = T := by
    have := u64_and_nat T 4294967295 (by omega) (by decide)
    rw [show (4294967295 : Nat) = 2 ^ 32 - 1 from rfl, Nat.and_two_pow_sub_one_eq_mod, Nat.mod_eq_of_lt (by omega)] at this
    exact this
  have wT : IntKind.u64.wrap (T : Int) = T := IntWalk.u64_in _ (by omega)
  have w0 : IntKind.u64.wrap 0 = 0 := by decide
  have dT : (T : Int) / 4294967296 = 0 := by omega
  have d0 : (0 : Int) / 4294967296 = 0 := by omega
  go_enter Try.func86, Try.ntmps86
  go_wp2
  go_ret2
  exact ⟨rfl, rfl⟩

set_option maxHeartbeats 1000000 in
theorem mul_one (T : Nat) (hT : T ≤ 1000) (w : World) : Calls Try.prog 69 #[.int .u64 1, .int .u64 T] w fun r w' => r = .returned (.tuple #[.int .u64 0, .int .u64 T]) ∧ w' = w := by
  have wT : IntKind.u64.wrap (T : Int) = T := IntWalk.u64_in _ (by omega)
  go_enter Try.func69, Try.ntmps69
  go_wp2_with (first | (go_at_call 86; refine (mul64_one T hT w).mono ?_; rintro r u ⟨rfl, rfl⟩) | go_in)
  go_ret2
  exact ⟨rfl, rfl⟩

/-- n times -1, and noughts up to T. -/
def repC (n T : Nat) : List Value := List.replicate n (.int .i64 (-1)) ++ List.replicate (T - n) (.int .i64 0)
theorem repC_len {n T : Nat} (h : n ≤ T) : (repC n T).length = T := by simp [repC]; omega
theorem infoIntR : (Try.prog.info? 3).map (fun i => (i.zero, i.size, i.bytes)) = some (some (.int .i64 0), 1, 8) := by kernel_rfl

theorem repC_none (T : Nat) : (⟨repC 0 T⟩ : Array Value) = madeCells #[.int .i64 0] T := by
  apply Array.ext
  · simp [repC, madeCells]
  · intro i h1 h2
    simp [repC, madeCells] at h1 h2 ⊢
    rw [Nat.mod_one]
    rfl
theorem repC_step {n m T : Nat} (h : n + m ≤ T) : (repC n T).take n ++ List.replicate m (.int .i64 (-1)) ++ (repC n T).drop (n + m) = repC (n + m) T := by
  have h1 : (repC n T).take n = List.replicate n (.int .i64 (-1)) := by simp [repC]
  have h2 : (repC n T).drop (n + m) = List.replicate (T - (n + m)) (.int .i64 0) := by
    unfold repC
    rw [List.drop_append, List.drop_eq_nil_of_le (by simp), List.nil_append, List.length_replicate, List.drop_replicate]
    congr 1
    omega
  rw [h1, h2, List.replicate_append_replicate]
  rfl
/-- A copy of what is there already, behind it. -/
theorem copy_step (w : World) (g n T : Nat) (hb : Blk 3 w g ⟨repC n T⟩) (hn : n ≤ T) (a : Addr) (sLen sCap dLen dCap m ty : Nat) (hm : m = Nat.min sLen dLen) (hf : n + m ≤ T) (hs : ∀ j, j < m → w.cell? (a.add j) = some (.int .i64 (-1))) :
    ∃ u, (Builtin.copy_ #[25, 25] ty #[.slice (some ⟨g, n, none⟩) dLen dCap, .slice (some a) sLen sCap]).run Try.prog w = .ok (.int .i64 m) u ∧ Blk 3 u g ⟨repC (n + m) T⟩ ∧ w.grownBy u (some g) := by
  have h := run_copy_row (P := Try.prog) w 25 25 ty 3 g n dLen dCap a sLen sCap ⟨repC n T⟩ 3 (List.replicate m (.int .i64 (-1))) Try.underlying25 (by kernel_rfl) hb (by rw [List.length_replicate, hm]) (fun j v hj => by
    rw [List.getElem?_replicate] at hj
    split at hj
    · next h => cases hj; exact hs j h
    · cases hj) (by simp [repC_len hn]; omega) (fun v hv => by rw [(List.mem_replicate.1 hv).2]; rfl)
  rw [List.length_replicate] at h
  have e : ((⟨repC n T⟩ : Array Value).toList.take n ++ List.replicate m (.int .i64 (-1)) ++ (⟨repC n T⟩ : Array Value).toList.drop (n + m)) = repC (n + m) T := repC_step hf
  rw [e] at h
  refine ⟨_, h, ?_, ?_⟩
  · exact setRow_heap w g _ _ _ _ hb
  · exact ⟨rfl, rfl, rfl, by simp, fun k hk hne => setRow_other w g k _ (fun e => hne (by rw [e]))⟩

set_option maxHeartbeats 2000000 in
theorem repeat_any (T : Nat) (hT : T ≤ 1000) (w : World) (xb : Nat) (hx : w.cell? ⟨xb, 0, none⟩ = some (.int .i64 (-1))) :
    Calls Try.prog 57 #[.slice (some ⟨xb, 0, none⟩) 1 1, .int .i64 T] w fun r w' => ∃ g, r = .returned (.slice (some ⟨g, 0, none⟩) T T) ∧ Hid (w.heap.size ≤ g) ∧ Hid (Blk 3 w' g ⟨List.replicate T (.int .i64 (-1))⟩) ∧ Hid (w.grownBy w' none) := by
  obtain ⟨i0, hi, hz0, hz1, hz2⟩ := info_parts infoIntR
  have wT : IntKind.u64.wrap (T : Int) = T := IntWalk.u64_in _ (by omega)
  have iT : IntKind.i64.wrap (T : Int) = T := IntWalk.i64_in _ (by omega)
  have h6 : (T : Int) ≤ 1000 := by omega
  have hmake : (Instr.makeSlice 25 (.int .i64 T) (.int .i64 T)).run Try.prog w = .ok (.slice (some ⟨w.heap.size, 0, none⟩) T T) (w.alloc (.cells (madeCells #[.int .i64 0] T) 3)) := by
    have := run_make (P := Try.prog) w 25 3 i0 _ Try.underlying25 hi hz0 .i64 .i64 (T : Int) (T : Int) (by omega) (Int.le_refl _) (by rw [hz2]; omega) (by omega)
    rw [hz1] at this
    rw [show (Value.int .i64 0).cells = #[.int .i64 0] from rfl] at this
    simpa using this
  clear hi hz0 hz1 hz2
  go_enter Try.func57, Try.ntmps57
  obtain ⟨u1, hc1, hb1, hg1⟩ := copy_step (w.alloc (.cells (madeCells #[.int .i64 0] T) 3)) w.heap.size 0 T (by rw [repC_none]; exact Blk.made w _ _) (Nat.zero_le _) ⟨xb, 0, none⟩ 1 1 T T (Nat.min 1 T) 3 rfl (by rw [Nat.zero_add]; exact Nat.min_le_right 1 T) (fun j hj => by
    have h1 : Nat.min 1 T ≤ 1 := Nat.min_le_left 1 T
    obtain rfl : j = 0 := by omega
    exact (World.grownBy_alloc w _ none).cell hx (by simp))
  have hgu : w.grownBy u1 none := gb_over (World.grownBy_alloc w _ none) hg1 (Nat.le_refl _)
  rw [Nat.zero_add] at hb1
  have HB1 := Lib.hid hb1
  have HG1 := Lib.hid hgu
  obtain ⟨m1, hm1⟩ : ∃ m1, m1 = Nat.min 1 T := ⟨_, rfl⟩
  rw [← hm1] at hc1 HB1
  have hm1T : m1 ≤ T := by rw [hm1]; exact Nat.min_le_right 1 T
  have hm10 : m1 = 0 → T = 0 := fun h => by
    by_cases hT0 : T = 0
    · exact hT0
    · have : Nat.min 1 T = 1 := Nat.min_eq_left (by omega)
      omega
  clear hb1 hg1 hgu hm1
  go_wp2_with (first | (go_at_call 69; refine (mul_one T hT w).mono ?_; rintro r u ⟨rfl, rfl⟩) | go_in)
  generalize hgg : u.heap.size = g at *
  have HGG := Lib.hid hgg
  clear hgg hc1 hmake
  go_loopw [8] (fun nv wr => ∃ n : Nat, n ≤ T ∧ (n = 0 → T = 0) ∧ nv = .int .i64 n ∧ Hid (Blk 3 wr g ⟨repC n T⟩) ∧ Hid (u.grownBy wr none)) (fun nv _ => (T - intOf nv).toNat)
  case atStart => exact ⟨m1, hm1T, hm10, rfl, HB1, HG1⟩
  case round =>
    clear HB1 HG1
    obtain ⟨n, hn, hn0, rfl, HB, HG⟩ := hrel
    by_cases hlt : n < T
    · have hlt' : (n : Int) < (T : Int) := by omega
      have hn1 : (n : Int) ≤ 1000 := by omega
      obtain ⟨u2, hc2, hb2, hg2⟩ := copy_step wr.drew g n T (HB.out.keep (w' := wr.drew) rfl) hn ⟨g, 0, none⟩ n T (T - n) (T - n) (Nat.min n (T - n)) 3 rfl (Nat.le_trans (Nat.add_le_add_left (Nat.min_le_right n (T - n)) n) (by omega)) (fun j hj => by
        have h1 : Nat.min n (T - n) ≤ n := Nat.min_le_left n (T - n)
        have hjn : j < n := Nat.lt_of_lt_of_le hj h1
        have h2 := (HB.out.keep (w' := wr.drew) rfl).cell j
        have h3 : (⟨g, 0, none⟩ : Addr).add j = ⟨g, j, none⟩ := by rw [Addr.add_lit, Nat.zero_add]
        rw [h3, h2]
        rw [show (⟨repC n T⟩ : Array Value)[j]? = (repC n T)[j]? by simp]
        unfold repC
        rw [List.getElem?_append_left (by simpa using hjn), List.getElem?_replicate, if_pos hjn])
      have HB2 := Lib.hid hb2
      have HG2 := Lib.hid (gb_over (gb_drew HG.out) hg2 (by rw [HGG.out]; exact Nat.le_refl _))
      obtain ⟨m2, hm2⟩ : ∃ m2, m2 = Nat.min n (T - n) := ⟨_, rfl⟩
      rw [← hm2] at hc2 HB2
      have hm2r : m2 ≤ T - n := by rw [hm2]; exact Nat.min_le_right n (T - n)
      have hm2p : 0 < m2 := by
        rw [hm2]
        have : 0 < n := by
          rcases Nat.eq_zero_or_pos n with h | h
          · have := hn0 h; omega
          · exact h
        exact Nat.lt_min.2 ⟨this, by omega⟩
      have hm26 : (m2 : Int) ≤ 1000 := by omega
      have gl := HB.out.lt
      clear hb2 hg2 hm2
      go_wp2_with fail
      go_region
      go_roundw
      case rel =>
        refine ⟨_, _, _, _, _, _, _, _, _, _, _, _, _, _, ?_, rfl⟩
        exact ⟨n + m2, by omega, by omega, by go_num, HB2, HG2⟩
      case measure => simp [intOf]; omega
    · obtain rfl : n = T := by omega
      go_wp2
      go_ret
      refine ⟨g, rfl, HGG.out ▸ Nat.le_refl _, ?_, HG⟩
      have h := HB.out
      have e : repC n n = List.replicate n (.int .i64 (-1)) := by simp [repC]
      rw [e] at h
      exact h

/-- The first place of -1. -/
def FirstNo (n : Nat) (f : Nat → Int) (q : Int) : Prop := (q = -1 ∧ ∀ j, j < n → f j ≠ -1) ∨ ∃ k : Nat, q = (k : Int) ∧ k < n ∧ f k = -1 ∧ ∀ j, j < k → f j ≠ -1
set_option maxHeartbeats 1000000 in
theorem index_any (a : Option Addr) (n c : Nat) (f : Nat → Int) (w : World) (hz : IsNums .i64 w a n f) (hn : n ≤ 1000000) :
    Calls Try.prog 44 #[.slice a n c, .int .i64 (-1)] w fun r w' => ∃ q, r = .returned (.int .i64 q) ∧ Hid (FirstNo n f q) ∧ Hid (w.grownBy w' none) := by
  have HZ := Lib.hid hz
  clear hz
  go_enter Try.func44, Try.ntmps44
  go_wp2_with fail
  go_loopw [8] (fun iv wr => ∃ k : Nat, k ≤ n ∧ iv = .int .i64 k ∧ Hid (∀ j, j < k → f j ≠ -1) ∧ Hid (w.grownBy wr none)) (fun iv _ => (n - intOf iv).toNat)
  case atStart => exact ⟨0, by omega, rfl, fun j hj => by omega, gb_refl _ _⟩
  case round =>
    obtain ⟨k, hk, rfl, HJ, G⟩ := hrel
    by_cases hlt : k < n
    · have hlt' : (k : Int) < (n : Int) := by omega
      have hk6 : (k : Int) < 1000000 := by omega
      obtain ⟨zb, zo, rfl, hzb, cz⟩ := (HZ.out.grown G.out).at1 hlt
      by_cases hf : f k = -1
      · rw [hf] at cz
        have HF := Lib.hid hf
        clear hf
        go_wp2
        go_ret
        exact ⟨k, rfl, .inr ⟨k, rfl, hlt, HF.out, HJ.out⟩, G⟩
      · have hf' : ((-1 : Int) == f k) = false := by simp; exact fun h => hf h.symm
        have HF := Lib.hid hf
        clear hf
        generalize hfk : f k = fk at *
        have HFK := Lib.hid hfk
        clear hfk
        go_wp2
        go_roundw
        case rel => exact ⟨k + 1, by omega, by go_num, fun j hj => by
          by_cases e : j = k
          · subst e; rw [HFK.out]; exact HF.out
          · exact HJ.out j (by omega), G⟩
        case measure => simp [intOf]; omega
    · obtain rfl : k = n := by omega
      go_wp2
      go_ret
      exact ⟨-1, rfl, .inl ⟨rfl, HJ.out⟩, G⟩
end Go.Proofs.Ytkidkhjpijjphaa.oq

/- A heap of turns, in plain numbers: what goes up, what goes down, what comes out. Of no program, and of no memory. -/
namespace Go.Proofs.Ytkidkhjpijjphaa.base
open Go
set_option linter.unusedVariables false
set_option linter.unusedSimpArgs false

/-- A try in the heap: its place, where it is seen, whether it committed. -/
structure It where
  no : Nat
  p : Int
  c : Bool
deriving Inhabited, DecidableEq

def It.rk (a : It) : Int := 2 * a.p + (if a.c = true then 1 else 0)
def It.le (a b : It) : Prop := a.rk < b.rk ∨ (a.rk = b.rk ∧ a.no ≤ b.no)
def It.less (a b : It) : Bool := decide (a.rk < b.rk) || (decide (a.rk = b.rk) && decide (a.no < b.no))
theorem It.le_of_less {a b : It} (h : a.less b = true) : a.le b := by
  unfold It.less at h
  simp at h
  unfold It.le
  omega
theorem It.le_of_not {a b : It} (h : a.less b = false) : b.le a := by
  unfold It.less at h
  simp at h
  unfold It.le
  omega
theorem It.le_trans {a b c : It} (h : a.le b) (g : b.le c) : a.le c := by
  unfold It.le at *
  omega
theorem It.le_refl (a : It) : a.le a := by
  unfold It.le
  omega

def itAt (L : List It) (k : Nat) : It := L.getD k ⟨0, 0, false⟩
theorem itAt_get {L : List It} {k : Nat} {a : It} (h : L[k]? = some a) : itAt L k = a := by simp [itAt, List.getD, h]
theorem get_itAt {L : List It} {k : Nat} (h : k < L.length) : L[k]? = some (itAt L k) := by simp [itAt, List.getD, h]
theorem itAt_mem {L : List It} {k : Nat} (h : k < L.length) : itAt L k ∈ L := List.mem_of_getElem? (get_itAt h)

/-- Two change places. -/
def swp (L : List It) (i j : Nat) : List It := (L.set i (itAt L j)).set j (itAt L i)
theorem swp_len (L : List It) (i j : Nat) : (swp L i j).length = L.length := by simp [swp]
theorem swp_at {L : List It} {i j : Nat} (hi : i < L.length) (hj : j < L.length) (k : Nat) : itAt (swp L i j) k = if k = j then itAt L i else if k = i then itAt L j else itAt L k := by
  have h : ∀ (l : List It) (a : Nat) (x : It) (k : Nat), a < l.length → itAt (l.set a x) k = if k = a then x else itAt l k := by
    intro l a x k ha
    unfold itAt
    rw [List.getD_eq_getElem?_getD, List.getD_eq_getElem?_getD]
    by_cases e : k = a
    · subst e
      rw [List.getElem?_set_self ha, if_pos rfl]
      rfl
    · rw [List.getElem?_set_ne (Ne.symm e), if_neg e]
  unfold swp
  rw [h _ _ _ _ (by simpa using hj), h _ _ _ _ hi]
theorem swp_perm {L : List It} {i j : Nat} (hi : i < L.length) (hj : j < L.length) : (swp L i j).Perm L := by
  have h := List.set_set_perm hi hj
  unfold swp
  rwa [itAt_get (List.getElem?_eq_getElem hi), itAt_get (List.getElem?_eq_getElem hj)]

/-- The first n are a heap. -/
def HeapN (L : List It) (n : Nat) : Prop := ∀ k, 0 < k → k < n → (itAt L ((k - 1) / 2)).le (itAt L k)
theorem heap_min {L : List It} {n : Nat} (h : HeapN L n) : ∀ k, k < n → (itAt L 0).le (itAt L k) := by
  intro k
  induction k using Nat.strongRecOn with
  | ind k ih =>
    intro hk
    by_cases h0 : k = 0
    · subst h0; exact It.le_refl _
    · exact It.le_trans (ih ((k - 1) / 2) (by omega) (by omega)) (h k (by omega) hk)
theorem HeapN.nil (L : List It) : HeapN L 0 := fun k _ h => by omega

/-- All but j are; and what lies below j isn't less than what lies above it. -/
def UpN (L : List It) (n j : Nat) : Prop :=
  (∀ k, 0 < k → k < n → k ≠ j → (itAt L ((k - 1) / 2)).le (itAt L k)) ∧ ∀ k, 0 < k → k < n → (k - 1) / 2 = j → 0 < j → (itAt L ((j - 1) / 2)).le (itAt L k)
theorem UpN.push {L : List It} (h : HeapN L L.length) (x : It) : UpN (L ++ [x]) (L.length + 1) L.length := by
  have e : ∀ k, k < L.length → itAt (L ++ [x]) k = itAt L k := fun k hk => by
    unfold itAt
    rw [List.getD_eq_getElem?_getD, List.getD_eq_getElem?_getD, List.getElem?_append_left hk]
  refine ⟨fun k h0 hk hne => ?_, fun k h0 hk he hj => by omega⟩
  rw [e k (by omega), e _ (by omega)]
  exact h k h0 (by omega)
theorem UpN.zero {L : List It} {n : Nat} (h : UpN L n 0) : HeapN L n := fun k h0 hk => h.1 k h0 hk (by omega)
theorem UpN.stop {L : List It} {n j : Nat} (h : UpN L n j) (hl : (itAt L j).less (itAt L ((j - 1) / 2)) = false) : HeapN L n := fun k h0 hk => by
  by_cases e : k = j
  · subst e; exact It.le_of_not hl
  · exact h.1 k h0 hk e
theorem UpN.step {L : List It} {n j : Nat} (h : UpN L n j) (hn : n = L.length) (h0 : 0 < j) (hj : j < n) (hl : (itAt L j).less (itAt L ((j - 1) / 2)) = true) : UpN (swp L ((j - 1) / 2) j) n ((j - 1) / 2) := by
  have hq : (j - 1) / 2 < j := by omega
  have hs := fun k => swp_at (L := L) (i := (j - 1) / 2) (j := j) (by omega) (by omega) k
  have hle := It.le_of_less hl
  refine ⟨fun k k0 kn hne => ?_, fun k k0 kn he hq0 => ?_⟩
  · rw [hs, hs]
    by_cases e1 : k = j
    · subst e1
      rw [if_pos rfl, if_neg (by omega), if_pos rfl]
      exact hle
    · rw [if_neg e1, if_neg hne]
      by_cases e2 : (k - 1) / 2 = j
      · rw [if_pos e2]
        exact h.2 k k0 kn e2 h0
      · rw [if_neg e2]
        by_cases e3 : (k - 1) / 2 = (j - 1) / 2
        · rw [if_pos e3]
          have := h.1 k k0 kn e1
          rw [e3] at this
          exact It.le_trans hle this
        · rw [if_neg e3]
          exact h.1 k k0 kn e1
  · rw [hs, hs]
    have hqq : ((j - 1) / 2 - 1) / 2 < (j - 1) / 2 := by omega
    rw [if_neg (by omega), if_neg (by omega)]
    have hup := h.1 ((j - 1) / 2) hq0 (by omega) (by omega)
    by_cases e1 : k = j
    · subst e1
      rw [if_pos rfl]
      exact hup
    · rw [if_neg e1, if_neg (by omega)]
      have := h.1 k k0 kn e1
      rw [he] at this
      exact It.le_trans hup this

/-- All but what lies below i are. -/
def DownN (L : List It) (n i : Nat) : Prop :=
  (∀ k, 0 < k → k < n → (k - 1) / 2 ≠ i → (itAt L ((k - 1) / 2)).le (itAt L k)) ∧ ∀ k, 0 < k → k < n → (k - 1) / 2 = i → 0 < i → (itAt L ((i - 1) / 2)).le (itAt L k)
theorem DownN.pop {L : List It} {n : Nat} (h : HeapN L (n + 1)) (hl : L.length = n + 1) : DownN (swp L 0 n) n 0 := by
  have hs := fun k => swp_at (L := L) (i := 0) (j := n) (by omega) (by omega) k
  refine ⟨fun k k0 kn hne => ?_, fun k k0 kn he h0 => by omega⟩
  rw [hs, hs, if_neg (by omega), if_neg (by omega), if_neg (by omega), if_neg (by omega)]
  exact h k k0 (by omega)
theorem DownN.leaf {L : List It} {n i : Nat} (h : DownN L n i) (hl : n ≤ 2 * i + 1) : HeapN L n := fun k k0 kn => h.1 k k0 kn (by omega)
/-- The lesser one of those that lie below i. -/
def Lesser (L : List It) (n i j : Nat) : Prop := (j = 2 * i + 1 ∨ j = 2 * i + 2) ∧ j < n ∧ ∀ k, 0 < k → k < n → (k - 1) / 2 = i → (itAt L j).le (itAt L k)
theorem Lesser.left {L : List It} {n i : Nat} (h1 : 2 * i + 1 < n) (h2 : n ≤ 2 * i + 2 ∨ (itAt L (2 * i + 2)).less (itAt L (2 * i + 1)) = false) : Lesser L n i (2 * i + 1) :=
  ⟨.inl rfl, h1, fun k k0 kn he => by
    by_cases e : k = 2 * i + 1
    · subst e; exact It.le_refl _
    · obtain rfl : k = 2 * i + 2 := by omega
      rcases h2 with h2 | h2
      · omega
      · exact It.le_of_not h2⟩
theorem Lesser.right {L : List It} {n i : Nat} (h1 : 2 * i + 2 < n) (h2 : (itAt L (2 * i + 2)).less (itAt L (2 * i + 1)) = true) : Lesser L n i (2 * i + 2) :=
  ⟨.inr rfl, h1, fun k k0 kn he => by
    by_cases e : k = 2 * i + 2
    · subst e; exact It.le_refl _
    · obtain rfl : k = 2 * i + 1 := by omega
      exact It.le_of_less h2⟩
theorem DownN.stop {L : List It} {n i j : Nat} (h : DownN L n i) (hj : Lesser L n i j) (hl : (itAt L j).less (itAt L i) = false) : HeapN L n := fun k k0 kn => by
  by_cases e : (k - 1) / 2 = i
  · rw [e]
    exact It.le_trans (It.le_of_not hl) (hj.2.2 k k0 kn e)
  · exact h.1 k k0 kn e
theorem DownN.step {L : List It} {n i j : Nat} (h : DownN L n i) (hn : n ≤ L.length) (hj : Lesser L n i j) (hl : (itAt L j).less (itAt L i) = true) : DownN (swp L i j) n j := by
  obtain ⟨h1, h2, h3⟩ := hj
  have hs := fun k => swp_at (L := L) (i := i) (j := j) (by omega) (by omega) k
  have hle := It.le_of_less hl
  have hpj : (j - 1) / 2 = i := by omega
  refine ⟨fun k k0 kn hne => ?_, fun k k0 kn he j0 => ?_⟩
  · rw [hs, hs, if_neg hne]
    by_cases e1 : k = j
    · subst e1
      rw [if_pos hpj, if_pos rfl]
      exact hle
    · rw [if_neg e1]
      by_cases e2 : (k - 1) / 2 = i
      · rw [if_pos e2, if_neg (by omega)]
        exact h3 k k0 kn e2
      · rw [if_neg e2]
        by_cases e3 : k = i
        · subst e3
          rw [if_pos rfl]
          exact h.2 j (by omega) h2 hpj k0
        · rw [if_neg e3]
          exact h.1 k k0 kn e2
  · rw [hs, hs, hpj, if_neg (show ¬ i = j by omega), if_pos rfl, if_neg (show ¬ k = j by omega), if_neg (show ¬ k = i by omega)]
    have := h.1 k k0 kn (by omega)
    rwa [he] at this
theorem swp_last {L : List It} {n i j : Nat} (hi : i < L.length) (hj : j < L.length) (h1 : i < n) (h2 : j < n) : itAt (swp L i j) n = itAt L n := by
  rw [swp_at hi hj, if_neg (by omega), if_neg (by omega)]

/-- The first one and the rest, of a heap out of which the least one was taken. -/
theorem heap_out {L L2 : List It} {n : Nat} (h : HeapN L (n + 1)) (hl : L.length = n + 1) (hp : L2.Perm (swp L 0 n)) (hlast : itAt L2 n = itAt (swp L 0 n) n) (hh : HeapN L2 n) :
    L2[n]? = some (itAt L 0) ∧ HeapN (L2.take n) (L2.take n).length ∧ (L2.take n).length = n ∧ (itAt L 0 :: L2.take n).Perm L ∧ ∀ y ∈ L2.take n, (itAt L 0).le y := by
  have hl2 : L2.length = n + 1 := by rw [hp.length_eq, swp_len, hl]
  have hx : itAt (swp L 0 n) n = itAt L 0 := by rw [swp_at (by omega) (by omega), if_pos rfl]
  have h1 : L2[n]? = some (itAt L 0) := by rw [get_itAt (by omega), hlast, hx]
  have h2 : (L2.take n).length = n := by simp; omega
  have h3 : L2 = L2.take n ++ [itAt L 0] := by
    have := List.take_append_drop n L2
    rw [← this]
    congr 1
    · simp
    · rw [List.drop_eq_getElem_cons (by omega), List.drop_eq_nil_of_le (by omega)]
      congr 1
      rw [List.getElem?_eq_getElem (by omega)] at h1
      injection h1
  have h4 : (itAt L 0 :: L2.take n).Perm L := by
    refine (List.perm_append_singleton (itAt L 0) (L2.take n)).symm.trans ?_
    rw [← h3]
    exact hp.trans (swp_perm (by omega) (by omega))
  have ht : ∀ k, k < n → itAt (L2.take n) k = itAt L2 k := fun k hk => by
    unfold itAt
    rw [List.getD_eq_getElem?_getD, List.getD_eq_getElem?_getD, List.getElem?_take_of_lt hk]
  refine ⟨h1, fun k k0 kn => ?_, h2, h4, fun y hy => ?_⟩
  · rw [h2] at kn
    rw [ht k kn, ht _ (by omega)]
    exact hh k k0 kn
  · have hy2 : y ∈ L := h4.mem_iff.1 (List.mem_cons_of_mem _ hy)
    obtain ⟨k, hk⟩ := List.getElem?_of_mem hy2
    have hk2 := (List.getElem?_eq_some_iff.1 hk).1
    have := heap_min h k (by omega)
    rwa [itAt_get hk] at this

/-- All tries that are seen, as they are pushed. -/
def itsOf (ts : List Tr) (f : Nat → Int) : List It := (List.range ts.length).map fun k => ⟨k, f k, (ts.getD k default).co⟩
/-- What says in which order they come. -/
def Ordered (ts : List Tr) (f : Nat → Int) (xs : List It) : Prop := xs.Perm (itsOf ts f) ∧ xs.Pairwise It.le
theorem Ordered.one {ts : List Tr} {f : Nat → Int} {xs ys : List It} (h : Ordered ts f xs) (g : Ordered ts f ys) : xs = ys := by
  refine List.Perm.eq_of_pairwise (le := It.le) ?_ h.2 g.2 (h.1.trans g.1.symm)
  intro a b ha hb h1 h2
  have ha' := h.1.mem_iff.1 ha
  have hb' := g.1.mem_iff.1 hb
  unfold itsOf at ha' hb'
  obtain ⟨i, _, rfl⟩ := List.mem_map.1 ha'
  obtain ⟨j, _, rfl⟩ := List.mem_map.1 hb'
  have : i = j := by
    unfold It.le at h1 h2
    dsimp only at h1 h2
    omega
  subst this
  rfl
/-- The first k of them. -/
def itsN (ts : List Tr) (f : Nat → Int) (k : Nat) : List It := (List.range k).map fun k => ⟨k, f k, (ts.getD k default).co⟩
theorem itsN_succ (ts : List Tr) (f : Nat → Int) {k : Nat} {t : Tr} (ht : ts[k]? = some t) : itsN ts f (k + 1) = itsN ts f k ++ [⟨k, f k, t.co⟩] := by
  unfold itsN
  rw [List.range_succ, List.map_append]
  congr 1
  simp [List.getD, ht]
theorem itsN_len (ts : List Tr) (f : Nat → Int) (k : Nat) : (itsN ts f k).length = k := by simp [itsN]
end Go.Proofs.Ytkidkhjpijjphaa.base

/- The heap's turns (package opaque): their ranks and places; where the heap lies; Len, Less. -/
namespace Go.Proofs.Ytkidkhjpijjphaa.oq
open Go Go.RowKit Go.Proofs.Ytkidkhjpijjphaa.base Go.Proofs.Ytkidkhjpijjphaa.hs Go.Maps
set_option linter.unusedVariables false
set_option maxRecDepth 100000
set_option linter.unusedSimpArgs false

/-- A turn, as a value. -/
def itV (a : It) : Value := if a.c = true then .iface 120 (.agg #[.int .i64 a.no, .int .i64 a.p]) else .iface 118 (.agg #[.int .i64 a.no, .int .i64 a.p])
theorem itV_one (a : It) : (itV a).oneCell' = true := by
  unfold itV
  split <;> rfl
theorem itV_iface (a : It) : ∃ T u, itV a = .iface T u := by
  unfold itV
  split <;> exact ⟨_, _, rfl⟩
/-- Its numbers are small. -/
def It.ok (a : It) : Prop := a.no ≤ 1000000 ∧ 0 ≤ a.p ∧ a.p ≤ 1000000

theorem place_any (no : Nat) (p : Int) (w : World) :
    Calls Try.prog 116 #[.agg #[.int .i64 no, .int .i64 p]] w fun r w' => r = .returned (.int .i64 no) ∧ Hid (w.grownBy w' none) := by
  go_enter Try.func116, Try.ntmps116
  go_wp2
  go_ret
  exact ⟨rfl, World.grownBy_alloc _ _ _⟩

theorem rank_plain (no : Nat) (p : Int) (w : World) (h : 0 ≤ p ∧ p ≤ 1000000) :
    Calls Try.prog 117 #[.agg #[.int .i64 no, .int .i64 p]] w fun r w' => r = .returned (.int .i64 (2 * p)) ∧ Hid (w.grownBy w' none) := by
  obtain ⟨h1, h2⟩ := h
  go_enter Try.func117, Try.ntmps117
  go_wp2
  go_ret
  exact ⟨by go_num, World.grownBy_alloc _ _ _⟩

theorem rank_done (no : Nat) (p : Int) (w : World) (h : 0 ≤ p ∧ p ≤ 1000000) :
    Calls Try.prog 118 #[.agg #[.int .i64 no, .int .i64 p]] w fun r w' => r = .returned (.int .i64 (2 * p + 1)) ∧ Hid (w.grownBy w' none) := by
  obtain ⟨h1, h2⟩ := h
  go_enter Try.func118, Try.ntmps118
  go_wp2_with (first | (go_at_call 117; refine (rank_plain no p _ ⟨h1, h2⟩).mono ?_; rintro r u ⟨rfl, g⟩) | go_in)
  go_ret
  exact ⟨by go_num, gb_trans (World.grownBy_alloc _ _ _) g.out⟩

theorem turnOf_any (t : Tr) (v : Value) (no : Nat) (p : Int) (w : World) :
    Calls Try.prog 46 #[.agg ⟨trC t v⟩, .int .i64 no, .int .i64 p] w fun r w' => r = .returned (itV ⟨no, p, t.co⟩) ∧ Hid (w.grownBy w' none) := by
  obtain ⟨xth, xtx, xat, xst, xb, xen, xre, xco, ac⟩ := t
  show Calls Try.prog 46 #[.agg #[.int .i64 xth, .int .i64 xtx, .int .i64 xat, .int .i64 xst, .int .i64 xb, .int .i64 xen, .int .i64 xre, .bool xco, v], .int .i64 no, .int .i64 p] w fun r w' => r = .returned (itV ⟨no, p, xco⟩) ∧ _
  cases xco with
  | true =>
    go_enter Try.func46, Try.ntmps46
    go_wp2
    go_ret
    exact ⟨rfl, World.grownBy_alloc _ _ _⟩
  | false =>
    go_enter Try.func46, Try.ntmps46
    go_wp2
    go_ret
    exact ⟨rfl, World.grownBy_alloc _ _ _⟩
end Go.Proofs.Ytkidkhjpijjphaa.oq

/- The heap's turns (package opaque): Len, Less. -/
namespace Go.Proofs.Ytkidkhjpijjphaa.oq
open Go Go.RowKit Go.Proofs.Ytkidkhjpijjphaa.base Go.Proofs.Ytkidkhjpijjphaa.hs Go.Maps
set_option linter.unusedVariables false
set_option maxRecDepth 100000
set_option linter.unusedSimpArgs false

theorem len_any (a : Option Addr) (n c : Nat) (w : World) : Calls Try.prog 47 #[.slice a n c] w fun r w' => r = .returned (.int .i64 n) ∧ w' = w := by
  go_enter Try.func47, Try.ntmps47
  go_wp2
  go_ret
  exact ⟨rfl, rfl⟩

set_option maxHeartbeats 4000000 in
theorem less_pp (g n c i j no no' : Nat) (p p' : Int) (w : World) (hi : i < n) (hj : j < n) (h0 : 0 ≤ p ∧ p ≤ 1000000) (h1 : 0 ≤ p' ∧ p' ≤ 1000000) (ci : w.cell? ⟨g, i, none⟩ = some (.iface 118 (.agg #[.int .i64 no, .int .i64 p]))) (cj : w.cell? ⟨g, j, none⟩ = some (.iface 118 (.agg #[.int .i64 no', .int .i64 p']))) :
    Calls Try.prog 112 #[.slice (some ⟨g, 0, none⟩) n c, .int .i64 i, .int .i64 j] w fun r w' => r = .returned (.bool (decide (2 * p < 2 * p') || (decide (2 * p = 2 * p') && decide (no < no')))) ∧ Hid (w.grownBy w' none) := by
  have gl := World.block_lt_of_cell? _ _ ci
  have hi' : (i : Int) < (n : Int) := by omega
  have hj' : (j : Int) < (n : Int) := by omega
  by_cases he : (2 * p : Int) = 2 * p'
  · have f0 : ((2 * p : Int) == 2 * p') = true := by simp [he]
    have hk : ¬ (2 * p : Int) < 2 * p' := by omega
    have HA : Hid ((decide ((2 * p : Int) < 2 * p') || (decide ((2 * p : Int) = 2 * p') && decide (no < no'))) = decide ((no : Int) < (no' : Int))) := Lib.hid (by simp [he])
    rw [HA.out]
    clear he HA
    go_enter Try.func112, Try.ntmps112
    go_wp2_with fail
    have K0 : Hid (w.grownBy w.drew none) := Lib.hid (gb_drew (gb_refl w none))
    go_region_held3 (fun w' => Hid (w.grownBy w' none) ∧ w'.cell? ⟨g, i, none⟩ = some (.iface 118 (.agg #[.int .i64 no, .int .i64 p])) ∧ w'.cell? ⟨g, j, none⟩ = some (.iface 118 (.agg #[.int .i64 no', .int .i64 p']))) (go_keep) (first | (go_at_call 117; refine (rank_plain _ _ _ (by first | exact h0 | exact h1)).mono ?_; rintro r u5 ⟨rfl, g5⟩; have K5 : Hid (w.grownBy u5 none) := Lib.hid (gb_trans (by refine Hid.out ?_; assumption) g5.out); have x5 := K5.out.cell ci (by simp); have y5 := K5.out.cell cj (by simp)) | (go_at_call 118; refine (rank_done _ _ _ (by first | exact h0 | exact h1)).mono ?_; rintro r u5 ⟨rfl, g5⟩; have K5 : Hid (w.grownBy u5 none) := Lib.hid (gb_trans (by refine Hid.out ?_; assumption) g5.out); have x5 := K5.out.cell ci (by simp); have y5 := K5.out.cell cj (by simp)) | (go_at_call 116; refine (place_any _ _ _).mono ?_; rintro r u5 ⟨rfl, g5⟩; have K5 : Hid (w.grownBy u5 none) := Lib.hid (gb_trans (by refine Hid.out ?_; assumption) g5.out); have x5 := K5.out.cell ci (by simp); have y5 := K5.out.cell cj (by simp)))
    go_wp2_with fail
    have K7 : Hid (w.grownBy u5.drew none) := Lib.hid (gb_drew K5.out)
    go_region_held3 (fun w' => Hid (w.grownBy w' none) ∧ w'.cell? ⟨g, i, none⟩ = some (.iface 118 (.agg #[.int .i64 no, .int .i64 p])) ∧ w'.cell? ⟨g, j, none⟩ = some (.iface 118 (.agg #[.int .i64 no', .int .i64 p']))) (go_keep) (first | (go_at_call 117; refine (rank_plain _ _ _ (by first | exact h0 | exact h1)).mono ?_; rintro r u5 ⟨rfl, g5⟩; have K5 : Hid (w.grownBy u5 none) := Lib.hid (gb_trans (by refine Hid.out ?_; assumption) g5.out); have x5 := K5.out.cell ci (by simp); have y5 := K5.out.cell cj (by simp)) | (go_at_call 118; refine (rank_done _ _ _ (by first | exact h0 | exact h1)).mono ?_; rintro r u5 ⟨rfl, g5⟩; have K5 : Hid (w.grownBy u5 none) := Lib.hid (gb_trans (by refine Hid.out ?_; assumption) g5.out); have x5 := K5.out.cell ci (by simp); have y5 := K5.out.cell cj (by simp)) | (go_at_call 116; refine (place_any _ _ _).mono ?_; rintro r u5 ⟨rfl, g5⟩; have K5 : Hid (w.grownBy u5 none) := Lib.hid (gb_trans (by refine Hid.out ?_; assumption) g5.out); have x5 := K5.out.cell ci (by simp); have y5 := K5.out.cell cj (by simp)))
    all_goals
      go_wp2
      go_ret
      exact ⟨congrArg (fun b => Ending.returned (Value.bool b)) (decide_eq_decide.2 (by omega)), (by first | exact K5 | assumption)⟩
  · have f0 : ((2 * p : Int) == 2 * p') = false := by simp [he]
    have HA : Hid ((decide ((2 * p : Int) < 2 * p') || (decide ((2 * p : Int) = 2 * p') && decide (no < no'))) = decide ((2 * p : Int) < 2 * p')) := Lib.hid (by simp [he])
    rw [HA.out]
    clear HA
    go_enter Try.func112, Try.ntmps112
    go_wp2_with fail
    have K0 : Hid (w.grownBy w.drew none) := Lib.hid (gb_drew (gb_refl w none))
    go_region_held3 (fun w' => Hid (w.grownBy w' none) ∧ w'.cell? ⟨g, i, none⟩ = some (.iface 118 (.agg #[.int .i64 no, .int .i64 p])) ∧ w'.cell? ⟨g, j, none⟩ = some (.iface 118 (.agg #[.int .i64 no', .int .i64 p']))) (go_keep) (first | (go_at_call 117; refine (rank_plain _ _ _ (by first | exact h0 | exact h1)).mono ?_; rintro r u5 ⟨rfl, g5⟩; have K5 : Hid (w.grownBy u5 none) := Lib.hid (gb_trans (by refine Hid.out ?_; assumption) g5.out); have x5 := K5.out.cell ci (by simp); have y5 := K5.out.cell cj (by simp)) | (go_at_call 118; refine (rank_done _ _ _ (by first | exact h0 | exact h1)).mono ?_; rintro r u5 ⟨rfl, g5⟩; have K5 : Hid (w.grownBy u5 none) := Lib.hid (gb_trans (by refine Hid.out ?_; assumption) g5.out); have x5 := K5.out.cell ci (by simp); have y5 := K5.out.cell cj (by simp)) | (go_at_call 116; refine (place_any _ _ _).mono ?_; rintro r u5 ⟨rfl, g5⟩; have K5 : Hid (w.grownBy u5 none) := Lib.hid (gb_trans (by refine Hid.out ?_; assumption) g5.out); have x5 := K5.out.cell ci (by simp); have y5 := K5.out.cell cj (by simp)))
    go_wp2
    go_ret
    exact ⟨congrArg (fun b => Ending.returned (Value.bool b)) (decide_eq_decide.2 (by omega)), K5⟩

set_option maxHeartbeats 4000000 in
theorem less_pd (g n c i j no no' : Nat) (p p' : Int) (w : World) (hi : i < n) (hj : j < n) (h0 : 0 ≤ p ∧ p ≤ 1000000) (h1 : 0 ≤ p' ∧ p' ≤ 1000000) (ci : w.cell? ⟨g, i, none⟩ = some (.iface 118 (.agg #[.int .i64 no, .int .i64 p]))) (cj : w.cell? ⟨g, j, none⟩ = some (.iface 120 (.agg #[.int .i64 no', .int .i64 p']))) :
    Calls Try.prog 112 #[.slice (some ⟨g, 0, none⟩) n c, .int .i64 i, .int .i64 j] w fun r w' => r = .returned (.bool (decide (2 * p < 2 * p' + 1) || (decide (2 * p = 2 * p' + 1) && decide (no < no')))) ∧ Hid (w.grownBy w' none) := by
  have gl := World.block_lt_of_cell? _ _ ci
  have hi' : (i : Int) < (n : Int) := by omega
  have hj' : (j : Int) < (n : Int) := by omega
  by_cases he : (2 * p : Int) = 2 * p' + 1
  · exact absurd he (by omega)
  · have f0 : ((2 * p : Int) == 2 * p' + 1) = false := by simp [he]
    have HA : Hid ((decide ((2 * p : Int) < 2 * p' + 1) || (decide ((2 * p : Int) = 2 * p' + 1) && decide (no < no'))) = decide ((2 * p : Int) < 2 * p' + 1)) := Lib.hid (by simp [he])
    rw [HA.out]
    clear HA
    go_enter Try.func112, Try.ntmps112
    go_wp2_with fail
    have K0 : Hid (w.grownBy w.drew none) := Lib.hid (gb_drew (gb_refl w none))
    go_region_held3 (fun w' => Hid (w.grownBy w' none) ∧ w'.cell? ⟨g, i, none⟩ = some (.iface 118 (.agg #[.int .i64 no, .int .i64 p])) ∧ w'.cell? ⟨g, j, none⟩ = some (.iface 120 (.agg #[.int .i64 no', .int .i64 p']))) (go_keep) (first | (go_at_call 117; refine (rank_plain _ _ _ (by first | exact h0 | exact h1)).mono ?_; rintro r u5 ⟨rfl, g5⟩; have K5 : Hid (w.grownBy u5 none) := Lib.hid (gb_trans (by refine Hid.out ?_; assumption) g5.out); have x5 := K5.out.cell ci (by simp); have y5 := K5.out.cell cj (by simp)) | (go_at_call 118; refine (rank_done _ _ _ (by first | exact h0 | exact h1)).mono ?_; rintro r u5 ⟨rfl, g5⟩; have K5 : Hid (w.grownBy u5 none) := Lib.hid (gb_trans (by refine Hid.out ?_; assumption) g5.out); have x5 := K5.out.cell ci (by simp); have y5 := K5.out.cell cj (by simp)) | (go_at_call 116; refine (place_any _ _ _).mono ?_; rintro r u5 ⟨rfl, g5⟩; have K5 : Hid (w.grownBy u5 none) := Lib.hid (gb_trans (by refine Hid.out ?_; assumption) g5.out); have x5 := K5.out.cell ci (by simp); have y5 := K5.out.cell cj (by simp)))
    go_wp2
    go_ret
    exact ⟨congrArg (fun b => Ending.returned (Value.bool b)) (decide_eq_decide.2 (by omega)), K5⟩

set_option maxHeartbeats 4000000 in
theorem less_dp (g n c i j no no' : Nat) (p p' : Int) (w : World) (hi : i < n) (hj : j < n) (h0 : 0 ≤ p ∧ p ≤ 1000000) (h1 : 0 ≤ p' ∧ p' ≤ 1000000) (ci : w.cell? ⟨g, i, none⟩ = some (.iface 120 (.agg #[.int .i64 no, .int .i64 p]))) (cj : w.cell? ⟨g, j, none⟩ = some (.iface 118 (.agg #[.int .i64 no', .int .i64 p']))) :
    Calls Try.prog 112 #[.slice (some ⟨g, 0, none⟩) n c, .int .i64 i, .int .i64 j] w fun r w' => r = .returned (.bool (decide (2 * p + 1 < 2 * p') || (decide (2 * p + 1 = 2 * p') && decide (no < no')))) ∧ Hid (w.grownBy w' none) := by
  have gl := World.block_lt_of_cell? _ _ ci
  have hi' : (i : Int) < (n : Int) := by omega
  have hj' : (j : Int) < (n : Int) := by omega
  by_cases he : (2 * p + 1 : Int) = 2 * p'
  · exact absurd he (by omega)
  · have f0 : ((2 * p + 1 : Int) == 2 * p') = false := by simp [he]
    have HA : Hid ((decide ((2 * p + 1 : Int) < 2 * p') || (decide ((2 * p + 1 : Int) = 2 * p') && decide (no < no'))) = decide ((2 * p + 1 : Int) < 2 * p')) := Lib.hid (by simp [he])
    rw [HA.out]
    clear HA
    go_enter Try.func112, Try.ntmps112
    go_wp2_with fail
    have K0 : Hid (w.grownBy w.drew none) := Lib.hid (gb_drew (gb_refl w none))
    go_region_held3 (fun w' => Hid (w.grownBy w' none) ∧ w'.cell? ⟨g, i, none⟩ = some (.iface 120 (.agg #[.int .i64 no, .int .i64 p])) ∧ w'.cell? ⟨g, j, none⟩ = some (.iface 118 (.agg #[.int .i64 no', .int .i64 p']))) (go_keep) (first | (go_at_call 117; refine (rank_plain _ _ _ (by first | exact h0 | exact h1)).mono ?_; rintro r u5 ⟨rfl, g5⟩; have K5 : Hid (w.grownBy u5 none) := Lib.hid (gb_trans (by refine Hid.out ?_; assumption) g5.out); have x5 := K5.out.cell ci (by simp); have y5 := K5.out.cell cj (by simp)) | (go_at_call 118; refine (rank_done _ _ _ (by first | exact h0 | exact h1)).mono ?_; rintro r u5 ⟨rfl, g5⟩; have K5 : Hid (w.grownBy u5 none) := Lib.hid (gb_trans (by refine Hid.out ?_; assumption) g5.out); have x5 := K5.out.cell ci (by simp); have y5 := K5.out.cell cj (by simp)) | (go_at_call 116; refine (place_any _ _ _).mono ?_; rintro r u5 ⟨rfl, g5⟩; have K5 : Hid (w.grownBy u5 none) := Lib.hid (gb_trans (by refine Hid.out ?_; assumption) g5.out); have x5 := K5.out.cell ci (by simp); have y5 := K5.out.cell cj (by simp)))
    go_wp2
    go_ret
    exact ⟨congrArg (fun b => Ending.returned (Value.bool b)) (decide_eq_decide.2 (by omega)), K5⟩

set_option maxHeartbeats 4000000 in
theorem less_dd (g n c i j no no' : Nat) (p p' : Int) (w : World) (hi : i < n) (hj : j < n) (h0 : 0 ≤ p ∧ p ≤ 1000000) (h1 : 0 ≤ p' ∧ p' ≤ 1000000) (ci : w.cell? ⟨g, i, none⟩ = some (.iface 120 (.agg #[.int .i64 no, .int .i64 p]))) (cj : w.cell? ⟨g, j, none⟩ = some (.iface 120 (.agg #[.int .i64 no', .int .i64 p']))) :
    Calls Try.prog 112 #[.slice (some ⟨g, 0, none⟩) n c, .int .i64 i, .int .i64 j] w fun r w' => r = .returned (.bool (decide (2 * p + 1 < 2 * p' + 1) || (decide (2 * p + 1 = 2 * p' + 1) && decide (no < no')))) ∧ Hid (w.grownBy w' none) := by
  have gl := World.block_lt_of_cell? _ _ ci
  have hi' : (i : Int) < (n : Int) := by omega
  have hj' : (j : Int) < (n : Int) := by omega
  by_cases he : (2 * p + 1 : Int) = 2 * p' + 1
  · have f0 : ((2 * p + 1 : Int) == 2 * p' + 1) = true := by simp [he]
    have hk : ¬ (2 * p + 1 : Int) < 2 * p' + 1 := by omega
    have HA : Hid ((decide ((2 * p + 1 : Int) < 2 * p' + 1) || (decide ((2 * p + 1 : Int) = 2 * p' + 1) && decide (no < no'))) = decide ((no : Int) < (no' : Int))) := Lib.hid (by simp [he])
    rw [HA.out]
    clear he HA
    go_enter Try.func112, Try.ntmps112
    go_wp2_with fail
    have K0 : Hid (w.grownBy w.drew none) := Lib.hid (gb_drew (gb_refl w none))
    go_region_held3 (fun w' => Hid (w.grownBy w' none) ∧ w'.cell? ⟨g, i, none⟩ = some (.iface 120 (.agg #[.int .i64 no, .int .i64 p])) ∧ w'.cell? ⟨g, j, none⟩ = some (.iface 120 (.agg #[.int .i64 no', .int .i64 p']))) (go_keep) (first | (go_at_call 117; refine (rank_plain _ _ _ (by first | exact h0 | exact h1)).mono ?_; rintro r u5 ⟨rfl, g5⟩; have K5 : Hid (w.grownBy u5 none) := Lib.hid (gb_trans (by refine Hid.out ?_; assumption) g5.out); have x5 := K5.out.cell ci (by simp); have y5 := K5.out.cell cj (by simp)) | (go_at_call 118; refine (rank_done _ _ _ (by first | exact h0 | exact h1)).mono ?_; rintro r u5 ⟨rfl, g5⟩; have K5 : Hid (w.grownBy u5 none) := Lib.hid (gb_trans (by refine Hid.out ?_; assumption) g5.out); have x5 := K5.out.cell ci (by simp); have y5 := K5.out.cell cj (by simp)) | (go_at_call 116; refine (place_any _ _ _).mono ?_; rintro r u5 ⟨rfl, g5⟩; have K5 : Hid (w.grownBy u5 none) := Lib.hid (gb_trans (by refine Hid.out ?_; assumption) g5.out); have x5 := K5.out.cell ci (by simp); have y5 := K5.out.cell cj (by simp)))
    go_wp2_with fail
    have K7 : Hid (w.grownBy u5.drew none) := Lib.hid (gb_drew K5.out)
    go_region_held3 (fun w' => Hid (w.grownBy w' none) ∧ w'.cell? ⟨g, i, none⟩ = some (.iface 120 (.agg #[.int .i64 no, .int .i64 p])) ∧ w'.cell? ⟨g, j, none⟩ = some (.iface 120 (.agg #[.int .i64 no', .int .i64 p']))) (go_keep) (first | (go_at_call 117; refine (rank_plain _ _ _ (by first | exact h0 | exact h1)).mono ?_; rintro r u5 ⟨rfl, g5⟩; have K5 : Hid (w.grownBy u5 none) := Lib.hid (gb_trans (by refine Hid.out ?_; assumption) g5.out); have x5 := K5.out.cell ci (by simp); have y5 := K5.out.cell cj (by simp)) | (go_at_call 118; refine (rank_done _ _ _ (by first | exact h0 | exact h1)).mono ?_; rintro r u5 ⟨rfl, g5⟩; have K5 : Hid (w.grownBy u5 none) := Lib.hid (gb_trans (by refine Hid.out ?_; assumption) g5.out); have x5 := K5.out.cell ci (by simp); have y5 := K5.out.cell cj (by simp)) | (go_at_call 116; refine (place_any _ _ _).mono ?_; rintro r u5 ⟨rfl, g5⟩; have K5 : Hid (w.grownBy u5 none) := Lib.hid (gb_trans (by refine Hid.out ?_; assumption) g5.out); have x5 := K5.out.cell ci (by simp); have y5 := K5.out.cell cj (by simp)))
    all_goals
      go_wp2
      go_ret
      exact ⟨congrArg (fun b => Ending.returned (Value.bool b)) (decide_eq_decide.2 (by omega)), (by first | exact K5 | assumption)⟩
  · have f0 : ((2 * p + 1 : Int) == 2 * p' + 1) = false := by simp [he]
    have HA : Hid ((decide ((2 * p + 1 : Int) < 2 * p' + 1) || (decide ((2 * p + 1 : Int) = 2 * p' + 1) && decide (no < no'))) = decide ((2 * p + 1 : Int) < 2 * p' + 1)) := Lib.hid (by simp [he])
    rw [HA.out]
    clear HA
    go_enter Try.func112, Try.ntmps112
    go_wp2_with fail
    have K0 : Hid (w.grownBy w.drew none) := Lib.hid (gb_drew (gb_refl w none))
    go_region_held3 (fun w' => Hid (w.grownBy w' none) ∧ w'.cell? ⟨g, i, none⟩ = some (.iface 120 (.agg #[.int .i64 no, .int .i64 p])) ∧ w'.cell? ⟨g, j, none⟩ = some (.iface 120 (.agg #[.int .i64 no', .int .i64 p']))) (go_keep) (first | (go_at_call 117; refine (rank_plain _ _ _ (by first | exact h0 | exact h1)).mono ?_; rintro r u5 ⟨rfl, g5⟩; have K5 : Hid (w.grownBy u5 none) := Lib.hid (gb_trans (by refine Hid.out ?_; assumption) g5.out); have x5 := K5.out.cell ci (by simp); have y5 := K5.out.cell cj (by simp)) | (go_at_call 118; refine (rank_done _ _ _ (by first | exact h0 | exact h1)).mono ?_; rintro r u5 ⟨rfl, g5⟩; have K5 : Hid (w.grownBy u5 none) := Lib.hid (gb_trans (by refine Hid.out ?_; assumption) g5.out); have x5 := K5.out.cell ci (by simp); have y5 := K5.out.cell cj (by simp)) | (go_at_call 116; refine (place_any _ _ _).mono ?_; rintro r u5 ⟨rfl, g5⟩; have K5 : Hid (w.grownBy u5 none) := Lib.hid (gb_trans (by refine Hid.out ?_; assumption) g5.out); have x5 := K5.out.cell ci (by simp); have y5 := K5.out.cell cj (by simp)))
    go_wp2
    go_ret
    exact ⟨congrArg (fun b => Ending.returned (Value.bool b)) (decide_eq_decide.2 (by omega)), K5⟩

/-- Who goes first. -/
theorem less_any (g n c i j : Nat) (x y : It) (w : World) (hi : i < n) (hj : j < n) (hx : It.ok x) (hy : It.ok y) (ci : w.cell? ⟨g, i, none⟩ = some (itV x)) (cj : w.cell? ⟨g, j, none⟩ = some (itV y)) :
    Calls Try.prog 112 #[.slice (some ⟨g, 0, none⟩) n c, .int .i64 i, .int .i64 j] w fun r w' => r = .returned (.bool (x.less y)) ∧ Hid (w.grownBy w' none) := by
  obtain ⟨no, p, k⟩ := x
  obtain ⟨no', p', k'⟩ := y
  have hx2 : 0 ≤ p ∧ p ≤ 1000000 := hx.2
  have hy2 : 0 ≤ p' ∧ p' ≤ 1000000 := hy.2
  cases k <;> cases k' <;> simp only [itV, Bool.false_eq_true, if_true, if_false] at ci cj <;> simp only [It.less, It.rk, Bool.false_eq_true, if_true, if_false, Int.add_zero]
  · exact less_pp g n c i j no no' p p' w hi hj hx2 hy2 ci cj
  · exact less_pd g n c i j no no' p p' w hi hj hx2 hy2 ci cj
  · exact less_dp g n c i j no no' p p' w hi hj hx2 hy2 ci cj
  · exact less_dd g n c i j no no' p p' w hi hj hx2 hy2 ci cj
end Go.Proofs.Ytkidkhjpijjphaa.oq

/- The heap's turns (package opaque): where the heap lies; Swap, Push, Pop. -/
namespace Go.Proofs.Ytkidkhjpijjphaa.oq
open Go Go.RowKit Go.Proofs.Ytkidkhjpijjphaa.base Go.Proofs.Ytkidkhjpijjphaa.hs Go.Proofs.Ytkidkhjpijjphaa.lg Go.Maps
set_option linter.unusedVariables false
set_option maxRecDepth 100000
set_option linter.unusedSimpArgs false

/-- Block hb is the heap; its list is v, whose turns are those of L. -/
structure HpM (w : World) (B hb : Nat) (v : Value) (L : List It) : Prop where
  blk : Blk 89 w hb #[v]
  row : w.ownsRow B 92 1 v L.length (L.map itV)
  ne : v.ownBlock ≠ some hb
  lo : B ≤ hb
  ok : ∀ x ∈ L, It.ok x
/-- What the heap alone may write. -/
def HpS (hb : Nat) (v : Value) : Nat → Prop := fun k => k = hb ∨ v.ownBlock = some k

section
variable {w w' : World} {B hb : Nat} {v : Value} {L : List It}
theorem HpM.keep (h : HpM w B hb v L) (hk : ∀ k, HpS hb v k → w'.heap[k]? = w.heap[k]?) : HpM w' B hb v L :=
  ⟨h.blk.keep (hk _ (.inl rfl)), ownsRow_keep h.row (fun k e => hk k (.inr e)), h.ne, h.lo, h.ok⟩
theorem HpM.lts (h : HpM w B hb v L) : ∀ k, HpS hb v k → k < w.heap.size := by
  rintro k (rfl | e)
  · exact h.blk.lt
  · exact (h.row.lt k e).2
theorem HpM.grown (h : HpM w B hb v L) (g : w.grownBy w' none) : HpM w' B hb v L := h.keep fun k hk => g.block k (h.lts k hk) (by simp)
theorem HpM.drew (h : HpM w B hb v L) : HpM w.drew B hb v L := h.keep fun _ _ => rfl
theorem HpM.cell (h : HpM w B hb v L) {i : Nat} {x : It} (hx : L[i]? = some x) : ∃ g c, v = .slice (some ⟨g, 0, none⟩) L.length c ∧ g < w.heap.size ∧ w.cell? ⟨g, i, none⟩ = some (itV x) ∧ w.frozen? ⟨g, i, none⟩ = false := by
  have hi := (List.getElem?_eq_some_iff.1 hx).1
  rcases h.row.2 with ⟨_, h1⟩ | ⟨g, cap, cur, rfl, _, hg, _⟩
  · simp at h1
    rw [h1] at hi
    simp at hi
  · refine ⟨g, cap, rfl, lt_of_block hg, ?_, by simp [World.frozen?, hg]⟩
    have := h.row.cellAt i (by simpa using hi)
    rw [List.getElem?_map, hx] at this
    exact this
/-- A turn is put into its cell. -/
theorem HpM.set (h : HpM w B hb v L) {i : Nat} {x : It} (hi : i < L.length) (hx : It.ok x) {g : Nat} (hg : v.ownBlock = some g) : HpM (w.setCell ⟨g, i, none⟩ (itV x)) B hb v (L.set i x) := by
  have hne : g ≠ hb := fun e => h.ne (e ▸ hg)
  refine ⟨h.blk.keep (Below.heap_setCell _ _ _ _ (Ne.symm hne)), ?_, h.ne, h.lo, fun y hy => ?_⟩
  · have := ownsRow_set h.row hg hi (itV x)
    rw [List.length_set, List.map_set]
    exact this
  · rcases List.mem_or_eq_of_mem_set hy with h1 | rfl
    · exact h.ok y h1
    · exact hx
end

set_option maxHeartbeats 4000000 in
theorem swap_any (B hb g n c i j : Nat) (L : List It) (w : World) (h : HpM w B hb (.slice (some ⟨g, 0, none⟩) n c) L) (hn : n = L.length) (hi : i < L.length) (hj : j < L.length) :
    Calls Try.prog 115 #[.slice (some ⟨g, 0, none⟩) n c, .int .i64 i, .int .i64 j] w fun r w' => r = .returned (.tuple #[]) ∧ Hid (HpM w' B hb (.slice (some ⟨g, 0, none⟩) n c) (swp L i j)) ∧ Hid (w.grownBy w' (some g)) := by
  obtain ⟨gi, ci0, e1, gl, ci, fi⟩ := h.cell (get_itAt hi)
  obtain ⟨gj, cj0, e2, _, cj, fj⟩ := h.cell (get_itAt hj)
  cases e1
  cases e2
  have H := Lib.hid h
  have hi' : (i : Int) < (L.length : Int) := by omega
  have hj' : (j : Int) < (L.length : Int) := by omega
  clear h
  obtain ⟨Ti, ui, ei⟩ := itV_iface (itAt L i)
  obtain ⟨Tj, uj, ej⟩ := itV_iface (itAt L j)
  rw [ei] at ci
  rw [ej] at cj
  have EI := Lib.hid ei
  have EJ := Lib.hid ej
  clear ei ej
  by_cases hij : i = j
  · subst hij
    have e3 := EI.out.symm.trans EJ.out
    injection e3 with e3 e4
    subst e3 e4
    have HF : Hid (HpM ((w.setCell ⟨g, i, none⟩ (.iface Ti ui)).setCell ⟨g, i, none⟩ (.iface Ti ui)) B hb (.slice (some ⟨g, 0, none⟩) L.length c) (swp L i i)) := Lib.hid (by
      have h1 := H.out.set (x := itAt L i) hi (H.out.ok _ (itAt_mem hi)) rfl
      have h2 := h1.set (i := i) (x := itAt L i) (by simpa using hi) (H.out.ok _ (itAt_mem hi)) rfl
      rw [EI.out] at h2
      exact h2)
    have c2 : (w.setCell ⟨g, i, none⟩ (.iface Ti ui)).cell? ⟨g, i, none⟩ = some (.iface Ti ui) := World.cell?_setCell_same _ _ _ ci
    go_enter Try.func115, Try.ntmps115
    go_wp2_with fail
    go_region
    go_wp2
    (first | go_end0 | refine bodyPost_ret (results_none rfl _ _ _) rfl ?_)
    exact ⟨rfl, HF.out.drew, gb_drew (gb_setB (gb_setB (gb_refl w (some g)) _) _)⟩
  · have HF : Hid (HpM ((w.setCell ⟨g, i, none⟩ (.iface Tj uj)).setCell ⟨g, j, none⟩ (.iface Ti ui)) B hb (.slice (some ⟨g, 0, none⟩) L.length c) (swp L i j)) := Lib.hid (by
      have h1 := H.out.set (x := itAt L j) hi (H.out.ok _ (itAt_mem hj)) rfl
      have h2 := h1.set (i := j) (x := itAt L i) (by simpa using hj) (H.out.ok _ (itAt_mem hi)) rfl
      rw [EI.out, EJ.out] at h2
      exact h2)
    have hne : (⟨g, i, none⟩ : Addr) ≠ ⟨g, j, none⟩ := fun e => hij (by injection e)
    have c2 : (w.setCell ⟨g, i, none⟩ (.iface Tj uj)).cell? ⟨g, j, none⟩ = some (.iface Tj uj) := (World.cell?_setCell_other _ _ _ _ hne).trans cj
    have c3 : (w.setCell ⟨g, j, none⟩ (.iface Ti ui)).cell? ⟨g, i, none⟩ = some (.iface Ti ui) := (World.cell?_setCell_other _ _ _ _ hne.symm).trans ci
    go_enter Try.func115, Try.ntmps115
    go_wp2_with fail
    go_region
    go_wp2
    (first | go_end0 | refine bodyPost_ret (results_none rfl _ _ _) rfl ?_)
    exact ⟨rfl, HF.out.drew, gb_drew (gb_setB (gb_setB (gb_refl w (some g)) _) _)⟩

theorem infoTurn : (Try.prog.info? 92).map (fun i => (i.zero, i.size, i.bytes)) = some (some .nilIface, 1, 16) := by kernel_rfl

set_option maxHeartbeats 4000000 in
theorem push_any (B hb : Nat) (v : Value) (L : List It) (x : It) (w : World) (h : HpM w B hb v L) (hx : It.ok x) (hL : L.length < 1000000) :
    Calls Try.prog 114 #[.pointer (some ⟨hb, 0, none⟩), itV x] w fun r w' => r = .returned (.tuple #[]) ∧ ∃ v', Hid (HpM w' B hb v' (L ++ [x])) ∧ Hid (Only (HpS hb v) w w') ∧ Hid (v'.ownBlock = v.ownBlock ∨ ∃ k, v'.ownBlock = some k ∧ w.heap.size ≤ k) := by
  obtain ⟨i0, hi0, hz00, hz10, hz20⟩ := info_parts infoTurn
  have hi := Lib.hid hi0
  have hz0 := Lib.hid hz00
  have hz1 := Lib.hid hz10
  have hz2 := Lib.hid hz20
  obtain ⟨a, c, rfl⟩ := owns_slice h.row
  have H := Lib.hid h
  have c0 : w.cell? ⟨hb, 0, none⟩ = some (.slice a L.length c) := h.blk.cell 0
  have f0 := h.blk.free 0
  have bl := h.blk.lt
  clear hi0 hz00 hz10 hz20 h
  obtain ⟨no, p, k⟩ := x
  cases k with
  | true =>
    show Calls Try.prog 114 #[.pointer (some ⟨hb, 0, none⟩), .iface 120 (.agg #[.int .i64 no, .int .i64 p])] w _
    have hta : ∀ w, (Instr.typeAssert (.iface 120 (.agg #[.int .i64 no, .int .i64 p])) 20 92 true).run Try.prog w = .ok (.tuple #[.iface 120 (.agg #[.int .i64 no, .int .i64 p]), .bool true]) w := fun _ => by kernel_rfl
    go_enter Try.func114, Try.ntmps114
    go_wp2_with (at_builtin; refine wpList_append_at _ rfl (.tmp 15) (.tmp 17) 89 rfl B 92 i0 .nilIface 1 16 Try.underlying89 hi.out hz0.out hz1.out hz2.out rfl (by decide) (.slice a L.length c) L.length (L.map itV) rfl (H.out.row.alloc _) ⟨w.heap.size, 0, none⟩ 1 1 [.iface 120 (.agg #[.int .i64 no, .int .i64 p])] rfl rfl (new_cells _ _ _) (by intro u hu; simp at hu; subst hu; rfl) (by unfold maxLen; omega) (by omega) (by have := H.out.lo; have := H.out.blk.lt; simp; omega) (by decide) ?_; intro g' c' w1 ho1 hg1 hv1; have B1 := Lib.hid ((H.out.blk.alloc _).grown hg1 (fun e => H.out.ne e.symm)); have d0 := B1.out.cell 0; have d1 := B1.out.free 0; have HO := Lib.hid ho1; have HG := Lib.hid hg1; have HV := Lib.hid hv1; clear ho1 hg1 hv1)
    (first | go_end0 | refine bodyPost_ret (results_none rfl _ _ _) rfl ?_)
    have hne : g' ≠ hb := by
      rcases HV.out with e | e
      · intro e2; exact H.out.ne (e2 ▸ e.symm)
      · have := H.out.blk.lt; simp at e; omega
    refine ⟨rfl, .slice (some ⟨g', 0, none⟩) (L.length + 1) c', ⟨B1.out.set 0 _, ?_, fun e => hne (by cases e; rfl), H.out.lo, fun y hy => ?_⟩, ?_, ?_⟩
    · have := ownsRow_keep (w' := w1.setCell ⟨hb, 0, none⟩ (.slice (some ⟨g', 0, none⟩) (L.length + 1) c')) HO.out (fun k e => Below.heap_setCell _ _ _ _ (by cases e; exact hne))
      rw [List.length_append, List.map_append]
      exact this
    · rcases List.mem_append.1 hy with hy | hy
      · exact H.out.ok y hy
      · have : y = ⟨no, p, true⟩ := by simpa using hy
        rw [this]; exact hx
    · exact ((Only.none (World.grownBy_alloc w _ none)).trans (Only.of HG.out (fun k e _ => .inr e))).trans (Only.of (gb_setB (gb_refl w1 _) (.slice (some ⟨g', 0, none⟩) (L.length + 1) c')) (fun k e _ => .inl (by cases e; rfl)))
    · rcases HV.out with e | e
      · exact .inl e
      · simp at e
        exact .inr ⟨g', rfl, by omega⟩
  | false =>
    show Calls Try.prog 114 #[.pointer (some ⟨hb, 0, none⟩), .iface 118 (.agg #[.int .i64 no, .int .i64 p])] w _
    have hta : ∀ w, (Instr.typeAssert (.iface 118 (.agg #[.int .i64 no, .int .i64 p])) 20 92 true).run Try.prog w = .ok (.tuple #[.iface 118 (.agg #[.int .i64 no, .int .i64 p]), .bool true]) w := fun _ => by kernel_rfl
    go_enter Try.func114, Try.ntmps114
    go_wp2_with (at_builtin; refine wpList_append_at _ rfl (.tmp 15) (.tmp 17) 89 rfl B 92 i0 .nilIface 1 16 Try.underlying89 hi.out hz0.out hz1.out hz2.out rfl (by decide) (.slice a L.length c) L.length (L.map itV) rfl (H.out.row.alloc _) ⟨w.heap.size, 0, none⟩ 1 1 [.iface 118 (.agg #[.int .i64 no, .int .i64 p])] rfl rfl (new_cells _ _ _) (by intro u hu; simp at hu; subst hu; rfl) (by unfold maxLen; omega) (by omega) (by have := H.out.lo; have := H.out.blk.lt; simp; omega) (by decide) ?_; intro g' c' w1 ho1 hg1 hv1; have B1 := Lib.hid ((H.out.blk.alloc _).grown hg1 (fun e => H.out.ne e.symm)); have d0 := B1.out.cell 0; have d1 := B1.out.free 0; have HO := Lib.hid ho1; have HG := Lib.hid hg1; have HV := Lib.hid hv1; clear ho1 hg1 hv1)
    (first | go_end0 | refine bodyPost_ret (results_none rfl _ _ _) rfl ?_)
    have hne : g' ≠ hb := by
      rcases HV.out with e | e
      · intro e2; exact H.out.ne (e2 ▸ e.symm)
      · have := H.out.blk.lt; simp at e; omega
    refine ⟨rfl, .slice (some ⟨g', 0, none⟩) (L.length + 1) c', ⟨B1.out.set 0 _, ?_, fun e => hne (by cases e; rfl), H.out.lo, fun y hy => ?_⟩, ?_, ?_⟩
    · have := ownsRow_keep (w' := w1.setCell ⟨hb, 0, none⟩ (.slice (some ⟨g', 0, none⟩) (L.length + 1) c')) HO.out (fun k e => Below.heap_setCell _ _ _ _ (by cases e; exact hne))
      rw [List.length_append, List.map_append]
      exact this
    · rcases List.mem_append.1 hy with hy | hy
      · exact H.out.ok y hy
      · have : y = ⟨no, p, false⟩ := by simpa using hy
        rw [this]; exact hx
    · exact ((Only.none (World.grownBy_alloc w _ none)).trans (Only.of HG.out (fun k e _ => .inr e))).trans (Only.of (gb_setB (gb_refl w1 _) (.slice (some ⟨g', 0, none⟩) (L.length + 1) c')) (fun k e _ => .inl (by cases e; rfl)))
    · rcases HV.out with e | e
      · exact .inl e
      · simp at e
        exact .inr ⟨g', rfl, by omega⟩

set_option maxHeartbeats 4000000 in
theorem pop_any (B hb : Nat) (v : Value) (L : List It) (x : It) (m : Nat) (w : World) (h : HpM w B hb v L) (hm : L.length = m + 1) (hx : L[m]? = some x) (hL : L.length ≤ 1000000) :
    Calls Try.prog 113 #[.pointer (some ⟨hb, 0, none⟩)] w fun r w' => r = .returned (itV x) ∧ ∃ v', Hid (HpM w' B hb v' (L.take m)) ∧ Hid (Only (HpS hb v) w w') ∧ Hid (v'.ownBlock = v.ownBlock) := by
  obtain ⟨g, c, rfl, gl, cg, fg⟩ := h.cell hx
  obtain ⟨T, u, e⟩ := itV_iface x
  rw [e] at cg ⊢
  have H := Lib.hid h
  have c0 : w.cell? ⟨hb, 0, none⟩ = some (.slice (some ⟨g, 0, none⟩) L.length c) := h.blk.cell 0
  have f0 := h.blk.free 0
  have bl := h.blk.lt
  have hc := row_cap h.row
  clear h e
  have hm1 : (L.length : Int) = (m : Int) + 1 := by omega
  have hm2 : (m : Int) < 1000000 := by omega
  generalize hN : L.length = N at *
  subst hm
  go_enter Try.func113, Try.ntmps113
  go_wp2
  go_ret
  have hlen : (L.take m).length = m := by simp; omega
  have hLe : L.map itV = (L.take m).map itV ++ [itV x] := by
    have h1 : L = L.take m ++ [x] := by
      conv => lhs; rw [← List.take_append_drop m L]
      congr 1
      rw [List.drop_eq_getElem_cons (by omega), List.drop_eq_nil_of_le (by omega)]
      congr 1
      rw [List.getElem?_eq_getElem (by omega)] at hx
      injection hx
    conv => lhs; rw [h1]
    simp
  have hrow := H.out.row
  rw [hN, hLe] at hrow
  have hrow2 := ownsRow_pop (by simp; omega) hrow
  refine ⟨rfl, .slice (some ⟨g, 0, none⟩) m c, ⟨H.out.blk.set 0 _, ?_, fun e => H.out.ne (by cases e; rfl), H.out.lo, fun y hy => H.out.ok y (List.mem_of_mem_take hy)⟩, Only.of (gb_setB (gb_refl w _) (.slice (some ⟨g, 0, none⟩) m c)) (fun k e _ => .inl (by cases e; rfl)), rfl⟩
  rw [hlen]
  exact ownsRow_keep hrow2 (fun k e => Below.heap_setCell _ _ _ _ (by cases e; intro e2; exact H.out.ne (congrArg some e2)))
end Go.Proofs.Ytkidkhjpijjphaa.oq

/- container/heap over the turns (package opaque): up, down, Push, Pop. -/
namespace Go.Proofs.Ytkidkhjpijjphaa.oq
open Go Go.RowKit Go.Proofs.Ytkidkhjpijjphaa.base Go.Proofs.Ytkidkhjpijjphaa.hs Go.Proofs.Ytkidkhjpijjphaa.lg Go.Maps
set_option linter.unusedVariables false
set_option maxRecDepth 100000
set_option linter.unusedSimpArgs false

theorem load_run (P : Program) (w : World) (a : Addr) (u : Value) (f : FuncId) (h : w.cell? a = some u) : ((load a >>= fun x => pure (f, x)) : Sem (FuncId × Value)).run P w = .ok (f, u) w := by
  simp [h, go_sem]
theorem meth_less (b : Nat) (w : World) (u : Value) (h : w.cell? ⟨b, 0, none⟩ = some u) : (method 289 87 (.pointer (some ⟨b, 0, none⟩)) "Less").run Try.prog w = .ok (112, u) w :=
  (show (method 289 87 (.pointer (some ⟨b, 0, none⟩)) "Less").run Try.prog w = ((load ⟨b, 0, none⟩ >>= fun x => pure (112, x)) : Sem (FuncId × Value)).run Try.prog w by kernel_rfl).trans (load_run _ _ _ _ _ h)
theorem meth_swap (b : Nat) (w : World) (u : Value) (h : w.cell? ⟨b, 0, none⟩ = some u) : (method 289 87 (.pointer (some ⟨b, 0, none⟩)) "Swap").run Try.prog w = .ok (115, u) w :=
  (show (method 289 87 (.pointer (some ⟨b, 0, none⟩)) "Swap").run Try.prog w = ((load ⟨b, 0, none⟩ >>= fun x => pure (115, x)) : Sem (FuncId × Value)).run Try.prog w by kernel_rfl).trans (load_run _ _ _ _ _ h)
theorem meth_len (b : Nat) (w : World) (u : Value) (h : w.cell? ⟨b, 0, none⟩ = some u) : (method 289 87 (.pointer (some ⟨b, 0, none⟩)) "Len").run Try.prog w = .ok (47, u) w :=
  (show (method 289 87 (.pointer (some ⟨b, 0, none⟩)) "Len").run Try.prog w = ((load ⟨b, 0, none⟩ >>= fun x => pure (47, x)) : Sem (FuncId × Value)).run Try.prog w by kernel_rfl).trans (load_run _ _ _ _ _ h)

set_option maxHeartbeats 400000 in
theorem up_any (B hb j n : Nat) (v : Value) (L : List It) (w : World) (h : HpM w B hb v L) (hn : n = L.length) (hj : j < n) (hL : n ≤ 1000000) (hu : UpN L n j) :
    Calls Try.prog 60 #[.iface 87 (.pointer (some ⟨hb, 0, none⟩)), .int .i64 j] w fun r w' => r = .returned (.tuple #[]) ∧ ∃ L', Hid (HpM w' B hb v L') ∧ Hid (Only (HpS hb v) w w') ∧ Hid (L'.Perm L) ∧ Hid (HeapN L' n) := by
  have HN := Lib.hid hn
  clear hn
  go_enter Try.func60, Try.ntmps60
  go_wp2_with fail
  go_loopw [1] (fun jv wr => ∃ (k : Nat) (M : List It), k < n ∧ jv = .int .i64 k ∧ Hid (HpM wr B hb v M) ∧ Hid (M.Perm L) ∧ Hid (UpN M n k) ∧ Hid (Only (HpS hb v) w wr)) (fun jv _ => (intOf jv).toNat)
  case atStart => exact ⟨j, L, hj, rfl, h, List.Perm.refl _, hu, Only.none (gb_refl w none)⟩
  case round =>
    obtain ⟨k, M, hk, rfl, H, HP, HU, HO⟩ := hrel
    have hML : M.length = n := by rw [HP.out.length_eq, HN.out]
    by_cases hk0 : k = 0
    · subst hk0
      go_wp2
      (first | go_end0 | refine bodyPost_ret (results_none rfl _ _ _) rfl ?_)
      exact ⟨rfl, M, H, HO, HP, HU.out.zero⟩
    · obtain ⟨q, hq⟩ : ∃ q, q = (k - 1) / 2 := ⟨_, rfl⟩
      have hq1 : ((k : Int) - 1) / 2 = (q : Int) := by omega
      have hqk : q < k := by omega
      have fq : ((q : Int) == (k : Int)) = false := by simp; omega
      obtain ⟨g, c, hv, gl, ck, _⟩ := H.out.cell (get_itAt (show k < M.length by omega))
      obtain ⟨_, _, e9, _, cq, _⟩ := H.out.cell (get_itAt (show q < M.length by omega))
      rw [hv] at e9
      cases e9
      rw [hML] at hv
      subst hv
      have HQ := Lib.hid hq
      have bl := H.out.blk.lt
      have hm1 := meth_less hb wr _ (H.out.blk.cell 0)
      have LS := Lib.hid (less_any g n c k q (itAt M k) (itAt M q) wr hk (by omega) (H.out.ok _ (itAt_mem (by omega))) (H.out.ok _ (itAt_mem (by omega))) ck cq)
      clear ck cq hq
      cases hl : (itAt M k).less (itAt M q) with
      | true =>
        rw [hl] at LS
        have HL := Lib.hid hl
        clear hl
        have hst := HU.out.step hML.symm (by omega) hk (by rw [← HQ.out]; exact HL.out)
        rw [← HQ.out] at hst
        have HST := Lib.hid hst
        clear hst
        go_wp2_with (first
          | (go_at_call 112; refine LS.out.mono ?_; rintro r u1 ⟨rfl, g1⟩; have H1 := Lib.hid (H.out.grown g1.out); have hm2 := meth_swap hb u1 _ (H1.out.blk.cell 0); clear hm1)
          | (go_at_call 115; refine (swap_any B hb g n c q k M u1 H1.out hML.symm (by omega) (by omega)).mono ?_; rintro r u2 ⟨rfl, H2, g2⟩; clear hm2)
          | go_in)
        go_roundw
        case rel => exact ⟨q, swp M q k, by omega, rfl, H2, (swp_perm (by omega) (by omega)).trans HP.out, HST, HO.out.trans ((Only.none g1.out).trans (Only.of g2.out (fun i e _ => .inr e)))⟩
        case measure => simp [intOf]; omega
      | false =>
        rw [hl] at LS
        have HL := Lib.hid hl
        clear hl
        go_wp2_with (first
          | (go_at_call 112; refine LS.out.mono ?_; rintro r u1 ⟨rfl, g1⟩; have H1 := Lib.hid (H.out.grown g1.out); clear hm1)
          | go_in)
        (first | go_end0 | refine bodyPost_ret (results_none rfl _ _ _) rfl ?_)
        exact ⟨rfl, M, H1, HO.out.trans (Only.none g1.out), HP, HU.out.stop (by rw [← HQ.out]; exact HL.out)⟩
end Go.Proofs.Ytkidkhjpijjphaa.oq

/- container/heap over the turns (package opaque): down, Push, Pop. -/
namespace Go.Proofs.Ytkidkhjpijjphaa.oq
open Go Go.RowKit Go.Proofs.Ytkidkhjpijjphaa.base Go.Proofs.Ytkidkhjpijjphaa.hs Go.Proofs.Ytkidkhjpijjphaa.lg Go.Maps
set_option linter.unusedVariables false
set_option maxRecDepth 100000
set_option linter.unusedSimpArgs false

theorem HpM.less {w u : World} {B hb : Nat} {v : Value} {L : List It} (h : HpM w B hb v L) (g : w.grownBy u none) {i j : Nat} (hi : i < L.length) (hj : j < L.length) :
    Calls Try.prog 112 #[v, .int .i64 i, .int .i64 j] u fun r w' => r = .returned (.bool ((itAt L i).less (itAt L j))) ∧ Hid (u.grownBy w' none) := by
  have H := h.grown g
  obtain ⟨b, c, hv, _, ci, _⟩ := H.cell (get_itAt hi)
  obtain ⟨_, _, e9, _, cj, _⟩ := H.cell (get_itAt hj)
  rw [hv] at e9
  cases e9
  subst hv
  exact less_any b L.length c i j (itAt L i) (itAt L j) u hi hj (h.ok _ (itAt_mem hi)) (h.ok _ (itAt_mem hj)) ci cj
theorem HpM.swp {w : World} {B hb : Nat} {v : Value} {L : List It} (h : HpM w B hb v L) {i j : Nat} (hi : i < L.length) (hj : j < L.length) :
    Calls Try.prog 115 #[v, .int .i64 i, .int .i64 j] w fun r w' => r = .returned (.tuple #[]) ∧ Hid (HpM w' B hb v (base.swp L i j)) ∧ Hid (Only (HpS hb v) w w') := by
  obtain ⟨b, c, hv, _, ci, _⟩ := h.cell (get_itAt hi)
  subst hv
  exact (swap_any B hb b L.length c i j L w h rfl hi hj).mono fun _ _ h => ⟨h.1, h.2.1, Only.of h.2.2.out (fun i e _ => .inr e)⟩

set_option maxHeartbeats 1000000 in
theorem down_any (B hb n : Nat) (v : Value) (L : List It) (w : World) (h : HpM w B hb v L) (hn : L.length = n + 1) (hL : n ≤ 1000000) (hd : DownN L n 0) :
    Calls Try.prog 61 #[.iface 87 (.pointer (some ⟨hb, 0, none⟩)), .int .i64 0, .int .i64 n] w fun r w' => (∃ u, r = .returned u) ∧ ∃ L', Hid (HpM w' B hb v L') ∧ Hid (Only (HpS hb v) w w') ∧ Hid (L'.Perm L) ∧ Hid (HeapN L' n) ∧ Hid (itAt L' n = itAt L n) := by
  have HN := Lib.hid hn
  clear hn
  go_enter Try.func61, Try.ntmps61
  go_wp2_with fail
  go_loopw [7] (fun jv wr => ∃ (k : Nat) (M : List It), (k < n ∨ k = 0) ∧ jv = .int .i64 k ∧ Hid (HpM wr B hb v M) ∧ Hid (M.Perm L) ∧ Hid (DownN M n k) ∧ Hid (Only (HpS hb v) w wr) ∧ Hid (itAt M n = itAt L n)) (fun jv _ => (n - intOf jv).toNat)
  case atStart => exact ⟨0, L, .inr rfl, rfl, h, List.Perm.refl _, hd, Only.none (gb_refl w none), rfl⟩
  case round =>
    clear h hd
    obtain ⟨k, M, hk, rfl, H, HP, HD, HO, HL⟩ := hrel
    have hML : M.length = n + 1 := by rw [HP.out.length_eq, HN.out]
    have hk6 : (k : Int) ≤ 1000000 := by omega
    have hn6 : (n : Int) ≤ 1000000 := by omega
    obtain ⟨j1, hj1⟩ : ∃ j1, j1 = 2 * k + 1 := ⟨_, rfl⟩
    obtain ⟨j2, hj2⟩ : ∃ j2, j2 = 2 * k + 2 := ⟨_, rfl⟩
    have q1 : 2 * (k : Int) + 1 = (j1 : Int) := by omega
    have q2 : (j1 : Int) + 1 = (j2 : Int) := by omega
    have HJ1 := Lib.hid hj1
    have HJ2 := Lib.hid hj2
    have hj16 : (j1 : Int) ≤ 3000000 := by omega
    have hj0 : ¬ (j1 : Int) < 0 := by omega
    clear hj1 hj2
    have bl := H.out.blk.lt
    by_cases hlf : n ≤ j1
    · have hlf' : (n : Int) ≤ (j1 : Int) := by omega
      have HF := Lib.hid (HD.out.leaf (by have := HJ1.out; omega))
      go_wp2
      go_ret
      exact ⟨⟨_, rfl⟩, M, H, HO, HP, HF, HL⟩
    have hlf' : ¬ (n : Int) ≤ (j1 : Int) := by omega
    have hm1 := meth_less hb wr v (H.out.blk.cell 0)
    by_cases hrt : n ≤ j2
    · have hrt' : ¬ (j2 : Int) < (n : Int) := by omega
      have LE := Lib.hid (Lesser.left (L := M) (n := n) (i := k) (by have := HJ1.out; omega) (.inl (by have := HJ2.out; omega)))
      rw [← HJ1.out] at LE
      cases hq : (itAt M j1).less (itAt M k) with
      | true =>
        have Q := Lib.hid hq
        have ST := Lib.hid (HD.out.step (by omega) LE.out hq)
        clear hq
        go_wp2_with (first | (go_at_call 112; replace hm1 := hm1; refine (H.out.less (gb_refl wr none) (i := j1) (j := k) (by omega) (by omega)).mono ?_; rw [Q.out]; rintro r u2 ⟨rfl, g2⟩; have G2 := Lib.hid g2.out; have H2 := Lib.hid (H.out.grown G2.out); have hm4 := meth_swap hb u2 v (H2.out.blk.cell 0); clear hm1) | (go_at_call 115; refine (H2.out.swp (i := k) (j := j1) (by omega) (by omega)).mono ?_; rintro r u3 ⟨rfl, H3, O3⟩; clear hm4) | go_in)
        go_roundw; (case rel => exact ⟨j1, base.swp M k j1, .inl (by omega), rfl, H3, (swp_perm (by omega) (by omega)).trans HP.out, ST, (HO.out.trans (Only.none G2.out)).trans O3.out, (swp_last (by omega) (by omega) (by omega) (by omega)).trans HL.out⟩); (case measure => simp [intOf]; have := HJ1.out; have := HJ2.out; omega)
      | false =>
        have Q := Lib.hid hq
        have HF := Lib.hid (HD.out.stop LE.out hq)
        clear hq
        go_wp2_with (first | (go_at_call 112; replace hm1 := hm1; refine (H.out.less (gb_refl wr none) (i := j1) (j := k) (by omega) (by omega)).mono ?_; rw [Q.out]; rintro r u2 ⟨rfl, g2⟩; have G2 := Lib.hid g2.out; have H2 := Lib.hid (H.out.grown G2.out); have hm4 := meth_swap hb u2 v (H2.out.blk.cell 0); clear hm1) | go_in)
        (go_ret; exact ⟨⟨_, rfl⟩, M, H2, HO.out.trans (Only.none G2.out), HP, HF, HL⟩)
    have hrt' : (j2 : Int) < (n : Int) := by omega
    cases hq0 : (itAt M j2).less (itAt M j1) with
    | true =>
      have Q0 := Lib.hid hq0
      have LE := Lib.hid (Lesser.right (L := M) (n := n) (i := k) (by have := HJ2.out; omega) (by rw [← HJ2.out, ← HJ1.out]; exact hq0))
      rw [← HJ2.out] at LE
      clear hq0
      cases hq : (itAt M j2).less (itAt M k) with
      | true =>
        have Q := Lib.hid hq
        have ST := Lib.hid (HD.out.step (by omega) LE.out hq)
        clear hq
        go_wp2_with (first | (go_at_call 112; replace hm1 := hm1; refine (H.out.less (gb_refl wr none) (i := j2) (j := j1) (by omega) (by omega)).mono ?_; rw [Q0.out]; rintro r u1 ⟨rfl, g1⟩; have G1 := Lib.hid g1.out; have hm2 := meth_less hb u1 v ((H.out.grown g1.out).blk.cell 0); clear hm1) | (go_at_call 112; replace hm2 := hm2; refine (H.out.less G1.out (i := j2) (j := k) (by omega) (by omega)).mono ?_; rw [Q.out]; rintro r u2 ⟨rfl, g2⟩; have G2 := Lib.hid (gb_trans G1.out g2.out); have H2 := Lib.hid (H.out.grown G2.out); have hm4 := meth_swap hb u2 v (H2.out.blk.cell 0); clear hm2) | (go_at_call 115; refine (H2.out.swp (i := k) (j := j2) (by omega) (by omega)).mono ?_; rintro r u3 ⟨rfl, H3, O3⟩; clear hm4) | go_in)
        go_roundw; (case rel => exact ⟨j2, base.swp M k j2, .inl (by omega), rfl, H3, (swp_perm (by omega) (by omega)).trans HP.out, ST, (HO.out.trans (Only.none G2.out)).trans O3.out, (swp_last (by omega) (by omega) (by omega) (by omega)).trans HL.out⟩); (case measure => simp [intOf]; have := HJ1.out; have := HJ2.out; omega)
      | false =>
        have Q := Lib.hid hq
        have HF := Lib.hid (HD.out.stop LE.out hq)
        clear hq
        go_wp2_with (first | (go_at_call 112; replace hm1 := hm1; refine (H.out.less (gb_refl wr none) (i := j2) (j := j1) (by omega) (by omega)).mono ?_; rw [Q0.out]; rintro r u1 ⟨rfl, g1⟩; have G1 := Lib.hid g1.out; have hm2 := meth_less hb u1 v ((H.out.grown g1.out).blk.cell 0); clear hm1) | (go_at_call 112; replace hm2 := hm2; refine (H.out.less G1.out (i := j2) (j := k) (by omega) (by omega)).mono ?_; rw [Q.out]; rintro r u2 ⟨rfl, g2⟩; have G2 := Lib.hid (gb_trans G1.out g2.out); have H2 := Lib.hid (H.out.grown G2.out); have hm4 := meth_swap hb u2 v (H2.out.blk.cell 0); clear hm2) | go_in)
        (go_ret; exact ⟨⟨_, rfl⟩, M, H2, HO.out.trans (Only.none G2.out), HP, HF, HL⟩)
    | false =>
      have Q0 := Lib.hid hq0
      have LE := Lib.hid (Lesser.left (L := M) (n := n) (i := k) (by have := HJ1.out; omega) (.inr (by rw [← HJ2.out, ← HJ1.out]; exact hq0)))
      rw [← HJ1.out] at LE
      clear hq0
      cases hq : (itAt M j1).less (itAt M k) with
      | true =>
        have Q := Lib.hid hq
        have ST := Lib.hid (HD.out.step (by omega) LE.out hq)
        clear hq
        go_wp2_with (first | (go_at_call 112; replace hm1 := hm1; refine (H.out.less (gb_refl wr none) (i := j2) (j := j1) (by omega) (by omega)).mono ?_; rw [Q0.out]; rintro r u1 ⟨rfl, g1⟩; have G1 := Lib.hid g1.out; have hm2 := meth_less hb u1 v ((H.out.grown g1.out).blk.cell 0); clear hm1) | (go_at_call 112; replace hm2 := hm2; refine (H.out.less G1.out (i := j1) (j := k) (by omega) (by omega)).mono ?_; rw [Q.out]; rintro r u2 ⟨rfl, g2⟩; have G2 := Lib.hid (gb_trans G1.out g2.out); have H2 := Lib.hid (H.out.grown G2.out); have hm4 := meth_swap hb u2 v (H2.out.blk.cell 0); clear hm2) | (go_at_call 115; refine (H2.out.swp (i := k) (j := j1) (by omega) (by omega)).mono ?_; rintro r u3 ⟨rfl, H3, O3⟩; clear hm4) | go_in)
        go_roundw; (case rel => exact ⟨j1, base.swp M k j1, .inl (by omega), rfl, H3, (swp_perm (by omega) (by omega)).trans HP.out, ST, (HO.out.trans (Only.none G2.out)).trans O3.out, (swp_last (by omega) (by omega) (by omega) (by omega)).trans HL.out⟩); (case measure => simp [intOf]; have := HJ1.out; have := HJ2.out; omega)
      | false =>
        have Q := Lib.hid hq
        have HF := Lib.hid (HD.out.stop LE.out hq)
        clear hq
        go_wp2_with (first | (go_at_call 112; replace hm1 := hm1; refine (H.out.less (gb_refl wr none) (i := j2) (j := j1) (by omega) (by omega)).mono ?_; rw [Q0.out]; rintro r u1 ⟨rfl, g1⟩; have G1 := Lib.hid g1.out; have hm2 := meth_less hb u1 v ((H.out.grown g1.out).blk.cell 0); clear hm1) | (go_at_call 112; replace hm2 := hm2; refine (H.out.less G1.out (i := j1) (j := k) (by omega) (by omega)).mono ?_; rw [Q.out]; rintro r u2 ⟨rfl, g2⟩; have G2 := Lib.hid (gb_trans G1.out g2.out); have H2 := Lib.hid (H.out.grown G2.out); have hm4 := meth_swap hb u2 v (H2.out.blk.cell 0); clear hm2) | go_in)
        (go_ret; exact ⟨⟨_, rfl⟩, M, H2, HO.out.trans (Only.none G2.out), HP, HF, HL⟩)
end Go.Proofs.Ytkidkhjpijjphaa.oq

/- container/heap over the turns (package opaque): Push, Pop. -/
namespace Go.Proofs.Ytkidkhjpijjphaa.oq
open Go Go.RowKit Go.Proofs.Ytkidkhjpijjphaa.base Go.Proofs.Ytkidkhjpijjphaa.hs Go.Proofs.Ytkidkhjpijjphaa.lg Go.Maps
set_option linter.unusedVariables false
set_option maxRecDepth 100000
set_option linter.unusedSimpArgs false

set_option maxHeartbeats 1000000 in
theorem hpush_any (B hb : Nat) (v : Value) (L : List It) (x : It) (w : World) (h : HpM w B hb v L) (hh : HeapN L L.length) (hx : It.ok x) (hL : L.length < 1000000) :
    Calls Try.prog 45 #[.iface 87 (.pointer (some ⟨hb, 0, none⟩)), itV x] w fun r w' => r = .returned (.tuple #[]) ∧ ∃ v' L', Hid (HpM w' B hb v' L') ∧ Hid (Step (HpS hb v) (HpS hb v') w w') ∧ Hid (L'.Perm (L ++ [x])) ∧ Hid (HeapN L' L'.length) := by
  obtain ⟨T, u, e⟩ := itV_iface x
  have PU := Lib.hid (push_any B hb v L x w h hx hL)
  have UP := Lib.hid (UpN.push hh x)
  rw [e] at PU ⊢
  have hL' : ((L.length : Int) + 1) ≤ 1000000 := by omega
  clear h hh e
  generalize hN : L.length = N at *
  have HN := Lib.hid hN
  clear hN
  go_enter Try.func45, Try.ntmps45
  go_wp2_with (first
    | (go_at_call 114; refine PU.out.mono ?_; rintro r u1 ⟨rfl, v1, H1, O1, E1⟩; have hm1 := meth_len hb u1 v1 (H1.out.blk.cell 0); have bl := H1.out.blk.lt; obtain ⟨a1, c1, hv1⟩ := owns_slice H1.out.row; rw [List.length_append, List.length_singleton, HN.out] at hv1; rw [hv1] at hm1)
    | (go_at_call 47; refine (len_any a1 (N + 1) c1 u1).mono ?_; rintro r u2 ⟨rfl, rfl⟩; rw [← hv1] at *; clear hv1 hm1)
    | (go_at_call 60; refine (up_any B hb N (N + 1) v1 (L ++ [x]) _ H1.out (by rw [List.length_append, HN.out]; rfl) (by omega) (by omega) UP.out).mono ?_; rintro r u3 ⟨rfl, L3, H3, O3, P3, HP3⟩)
    | go_in)
  (first | go_end0 | refine bodyPost_ret (results_none rfl _ _ _) rfl ?_)
  refine ⟨rfl, v1, L3, H3, Step.trans ⟨O1.out, ?_⟩ ⟨O3.out, fun k h => .inl h⟩, P3, ?_⟩
  · rintro k (rfl | hk)
    · exact .inl (.inl rfl)
    · rcases E1.out with h1 | ⟨i, h1, h2⟩
      · exact .inl (.inr (h1 ▸ hk))
      · rw [hk] at h1
        cases h1
        exact .inr h2
  · have := P3.out.length_eq
    rw [List.length_append, HN.out] at this
    show HeapN L3 L3.length
    rw [this]
    exact HP3.out

set_option maxHeartbeats 1000000 in
theorem hpop_any (B hb : Nat) (v : Value) (L : List It) (m : Nat) (w : World) (h : HpM w B hb v L) (hh : HeapN L L.length) (hm : L.length = m + 1) (hL : m < 1000000) :
    Calls Try.prog 48 #[.iface 87 (.pointer (some ⟨hb, 0, none⟩))] w fun r w' => r = .returned (itV (itAt L 0)) ∧ ∃ v' L', Hid (HpM w' B hb v' L') ∧ Hid (Step (HpS hb v) (HpS hb v') w w') ∧ Hid (HeapN L' L'.length) ∧ Hid (L'.length = m) ∧ Hid ((itAt L 0 :: L').Perm L) ∧ Hid (∀ y ∈ L', (itAt L 0).le y) := by
  have H := Lib.hid h
  have HM := Lib.hid hm
  rw [hm] at hh
  have HH := Lib.hid hh
  have SW := Lib.hid (h.swp (i := 0) (j := m) (by omega) (by omega))
  have DN := Lib.hid (DownN.pop hh hm)
  have bl := h.blk.lt
  have hm1 := meth_len hb w v (h.blk.cell 0)
  have hm2 := meth_swap hb w v (h.blk.cell 0)
  have hL' : (m : Int) + 1 ≤ 1000000 := by omega
  obtain ⟨a1, c1, hv1⟩ := owns_slice h.row
  rw [hm] at hv1
  clear h hh hm
  subst hv1
  go_enter Try.func48, Try.ntmps48
  go_wp2_with (first
    | (go_at_call 47; refine (len_any a1 (m + 1) c1 w).mono ?_; rintro r u2 ⟨rfl, rfl⟩; clear hm1)
    | (go_at_call 115; refine SW.out.mono ?_; rintro r u1 ⟨rfl, H1, O1⟩; clear hm2; have bl1 := H1.out.blk.lt)
    | (go_at_call 61; refine (down_any B hb m _ (base.swp L 0 m) u1 H1.out (by rw [swp_len, HM.out]) (by omega) DN.out).mono ?_; rintro r u3 ⟨⟨q, rfl⟩, L3, H3, O3, P3, HP3, E3⟩; obtain ⟨k1, k2, k3, k4, k5⟩ := heap_out HH.out HM.out P3.out E3.out HP3.out; have K1 := Lib.hid k1; have K2 := Lib.hid k2; have K3 := Lib.hid k3; have K4 := Lib.hid k4; have K5 := Lib.hid k5; clear k1 k2 k3 k4 k5; have bl3 := H3.out.blk.lt)
    | (go_at_call 113; refine (pop_any B hb _ L3 _ m u3 H3.out (by rw [P3.out.length_eq, swp_len, HM.out]) K1.out (by rw [P3.out.length_eq, swp_len, HM.out]; omega)).mono ?_; rintro r u4 ⟨rfl, v4, H4, O4, E4⟩)
    | go_in)
  go_ret
  refine ⟨rfl, v4, L3.take m, H4, Step.trans ⟨(O1.out.trans O3.out).trans O4.out, fun k h => .inl h⟩ ⟨Only.refl _ _, ?_⟩, K2, K3, K4, K5⟩
  rintro k (rfl | hk)
  · exact .inl (.inl rfl)
  · exact .inl (.inr (by rw [← E4.out]; exact hk))
end Go.Proofs.Ytkidkhjpijjphaa.oq

/- Package opaque's ordered: the tries in the order in which they have their turns. -/
namespace Go.Proofs.Ytkidkhjpijjphaa.oq
open Go Go.RowKit Go.Proofs.Ytkidkhjpijjphaa.base Go.Proofs.Ytkidkhjpijjphaa.hs Go.Proofs.Ytkidkhjpijjphaa.lg Go.Maps
set_option linter.unusedVariables false
set_option maxRecDepth 100000
set_option linter.unusedSimpArgs false

def noV (x : It) : Value := .int .i64 x.no
theorem infoInt : (Try.prog.info? 3).map (fun i => (i.zero, i.size, i.bytes)) = some (some (.int .i64 0), 1, 8) := by kernel_rfl
theorem ta_done (no : Nat) (p : Int) (w : World) : (Instr.typeAssert (.iface 120 (.agg #[.int .i64 no, .int .i64 p])) 20 92 true).run Try.prog w = .ok (.tuple #[.iface 120 (.agg #[.int .i64 no, .int .i64 p]), .bool true]) w := by kernel_rfl
theorem ta_plain (no : Nat) (p : Int) (w : World) : (Instr.typeAssert (.iface 118 (.agg #[.int .i64 no, .int .i64 p])) 20 92 true).run Try.prog w = .ok (.tuple #[.iface 118 (.agg #[.int .i64 no, .int .i64 p]), .bool true]) w := by kernel_rfl

/-- A row of another type has no block of the heap's. -/
theorem HpM.other {w : World} {B hb : Nat} {v : Value} {L : List It} (h : HpM w B hb v L) {B2 : Nat} {e : TypeId} {sz n : Nat} {u : Value} {xs : List Value} (hr : w.ownsRow B2 e sz u n xs) (h1 : e ≠ 89) (h2 : e ≠ 92) : ∀ k, u.ownBlock = some k → ¬ HpS hb v k := by
  rintro k hk (rfl | hv)
  · obtain ⟨cs, hc⟩ := ownsRow_type hr hk
    have := h.blk
    unfold Blk at this
    rw [hc] at this
    injection this with this
    injection this with _ h3
    exact h1 h3
  · obtain ⟨cs, hc⟩ := ownsRow_type hr hk
    obtain ⟨ds, hd⟩ := ownsRow_type h.row hv
    rw [hc] at hd
    injection hd with hd
    injection hd with _ h3
    exact h2 h3

/-- What stands while turns are taken out. -/
structure OrdI (w : World) (hb : Nat) (ts : List Tr) (f : Nat → Int) (ov v : Value) (xs L : List It) (wr : World) : Prop where
  row : wr.ownsRow w.heap.size 3 1 ov xs.length (xs.map noV)
  hp : HpM wr w.heap.size hb v L
  heap : HeapN L L.length
  perm : (xs ++ L).Perm (itsOf ts f)
  pw : xs.Pairwise It.le
  lo : ∀ x ∈ xs, ∀ y ∈ L, x.le y
  gr : w.grownBy wr none

theorem gb_of_bl {w w' : World} (h : Below w.heap.size w w') : w.grownBy w' none := ⟨h.os, h.tape, h.output, h.size, fun k hk _ => h.block k hk⟩
def lenOf : Value → Nat
  | .slice _ n _ => n
  | _ => 0

/-- One more is taken out, and put behind those that were. -/
theorem OrdI.next {w wr u2 u3 w1 : World} {hb : Nat} {ts : List Tr} {f : Nat → Int} {ov v v2 : Value} {xs L L2 : List It} {q : It} {g' c' : Nat} (D : OrdI w hb ts f ov v xs L wr) (HLO : ∀ x ∈ xs, x.le q) (S2 : Step (HpS hb v) (HpS hb v2) wr u2) (P2 : (q :: L2).Perm L) (HH2 : HeapN L2 L2.length) (LO2 : ∀ y ∈ L2, q.le y) (g3 : u2.grownBy u3 none) (H3 : HpM u3 w.heap.size hb v2 L2)
    (OR : u3.ownsRow w.heap.size 3 1 ov xs.length (xs.map noV)) (HO : w1.ownsRow w.heap.size 3 1 (.slice (some ⟨g', 0, none⟩) (xs.length + 1) c') (xs.length + 1) (xs.map noV ++ [.int .i64 q.no])) (HG : (u3.alloc (.cells #[.int .i64 q.no] 3)).grownBy w1 ov.ownBlock) :
    OrdI w hb ts f (.slice (some ⟨g', 0, none⟩) (xs.length + 1) c') v2 (xs ++ [q]) L2 w1 := by
  refine ⟨by rw [List.length_append, List.map_append]; exact HO, (H3.keep fun k hk => ?_), HH2, ?_, ?_, ?_, ?_⟩
  · have hk3 := H3.lts k hk
    refine (HG.block k (by simp; omega) (fun e => ?_)).trans (Below.heap_alloc _ _ _ hk3)
    exact H3.other OR (by decide) (by decide) k e.symm hk
  · rw [List.append_assoc]
    exact (P2.append_left xs).trans D.perm
  · refine List.pairwise_append.2 ⟨D.pw, by simp, fun x hx y hy => ?_⟩
    have : y = q := by simpa using hy
    rw [this]
    exact HLO x hx
  · intro x hx y hy
    rcases List.mem_append.1 hx with hx | hx
    · exact D.lo x hx y (P2.mem_iff.1 (List.mem_cons_of_mem _ hy))
    · have : x = q := by simpa using hx
      rw [this]
      exact LO2 y hy
  · have B1 := S2.only.below (gb_below D.gr) D.gr.size (fun i hi => by
      rcases hi with rfl | hi
      · exact D.hp.lo
      · exact (D.hp.row.lt i hi).1)
    have B2 := bl_none (bl_none B1 g3) (World.grownBy_alloc u3 (.cells #[.int .i64 q.no] 3) none)
    exact gb_of_bl (B2.grown HG B2.size (fun i e => (D.row.lt i e).1))

set_option maxHeartbeats 1000000 in
theorem ordered_any (w : World) (ta : Option Addr) (tc : Nat) (ys : List (Tr × Value)) (sa : Option Addr) (sc : Nat) (f : Nat → Int) (hT : TsAt w ta ys) (hs : IsNums .i64 w sa ys.length f) (hf : ∀ i, i < ys.length → 0 ≤ f i ∧ f i ≤ 1000000) (hn : ys.length ≤ 100000) :
    Calls Try.prog 28 #[.slice ta ys.length tc, .slice sa ys.length sc] w fun r w' => ∃ ov xs, r = .returned ov ∧ Hid (Ordered (ys.map Prod.fst) f xs) ∧ Hid (w'.ownsRow w.heap.size 3 1 ov xs.length (xs.map noV)) ∧ Hid (w.grownBy w' none) := by
  obtain ⟨i0, hi0, hz00, hz10, hz20⟩ := info_parts infoInt
  have hi := Lib.hid hi0
  have hz0 := Lib.hid hz00
  have hz1 := Lib.hid hz10
  have hz2 := Lib.hid hz20
  have HT := Lib.hid hT
  have HS := Lib.hid hs
  have HF := Lib.hid hf
  obtain ⟨ts, hts⟩ : ∃ ts, ts = ys.map Prod.fst := ⟨_, rfl⟩
  have HTS := Lib.hid hts
  rw [← hts]
  have htl : ts.length = ys.length := by rw [hts, List.length_map]
  have HTL := Lib.hid htl
  clear hT hs hf hi0 hz00 hz10 hz20 hts htl
  have G0 := Lib.hid (show World.grownBy w ((w.alloc (.cells #[] 92)).alloc (.cells #[.slice (some ⟨w.heap.size, 0, none⟩) 0 0] 89)) none from (by repeat (first | exact gb_refl _ _ | refine gb_drewN ?_ _ | refine gb_drew ?_ | refine gb_alloc ?_ _)))
  have I0 : Hid (HpM ((w.alloc (.cells #[] 92)).alloc (.cells #[.slice (some ⟨w.heap.size, 0, none⟩) 0 0] 89)) w.heap.size (w.heap.size + 1) (.slice (some ⟨w.heap.size, 0, none⟩) 0 0) []) := Lib.hid (by
    refine ⟨?_, ⟨rfl, .inr ⟨w.heap.size, 0, #[], rfl, Nat.le_refl _, ?_, Nat.le_refl _, Nat.zero_le _, rfl, rfl⟩⟩, by simp [Value.ownBlock], by omega, by simp⟩
    · have := Blk.made (w.alloc (.cells #[] 92)) 89 #[.slice (some ⟨w.heap.size, 0, none⟩) 0 0]
      rwa [World.size_alloc] at this
    · exact (Below.heap_alloc _ _ _ (by simp)).trans (World.alloc_heap_new w _))
  have HH0 : Hid (HeapN ([] : List It) ([] : List It).length) := Lib.hid (HeapN.nil _)
  go_enter Try.func28, Try.ntmps28
  go_wp2_with fail
  generalize (w.alloc _).alloc _ = u0 at *
  generalize hhb : w.heap.size + 1 = hb at *
  have HHB := Lib.hid hhb
  clear hhb
  go_loopw [15] (fun iv wr => ∃ (k : Nat) (v : Value) (L : List It), k ≤ ys.length ∧ iv = .int .i64 k ∧ Hid (HpM wr w.heap.size hb v L) ∧ Hid (HeapN L L.length) ∧ Hid (L.Perm (itsN ts f k)) ∧ Hid (w.grownBy wr none)) (fun iv _ => (ys.length - intOf iv).toNat)
  case atStart => exact ⟨0, _, _, by omega, rfl, I0, HH0, List.Perm.refl _, G0⟩
  case round =>
    clear I0 G0 HH0
    obtain ⟨k, v, L, hk, rfl, H, HH, HP, G⟩ := hrel
    have hLl := HP.out.length_eq
    rw [itsN_len] at hLl
    by_cases hlt : k < ys.length
    · have hlt' : (k : Int) < (ys.length : Int) := by omega
      have hk6 : (k : Int) < 1000000 := by omega
      have hget := List.getElem?_eq_getElem hlt
      have hgt : ts[k]? = some ys[k].1 := by rw [HTS.out, List.getElem?_map, hget]; rfl
      have hit := Lib.hid (itsN_succ ts f hgt)
      obtain ⟨hf0, hf1⟩ := HF.out k hlt
      obtain ⟨b, off, va, vc, rfl, hbl, hv, hl, c0, c1, c2, c3, c4, c5, c6, c7, c8⟩ := (HT.out.grown G.out).at hget
      obtain ⟨sb, so, rfl, hsb, cs⟩ := (HS.out.grown G.out).at1 hlt
      generalize ys[k] = y at *
      obtain ⟨t, yv⟩ := y
      dsimp only at hv hl hgt hit c0 c1 c2 c3 c4 c5 c6 c7 c8
      subst hv
      generalize f k = p at *
      have PU := fun u (g : Hid (wr.grownBy u none)) => hpush_any w.heap.size hb v L ⟨k, p, t.co⟩ u (H.out.grown g.out) HH.out ⟨show k ≤ 1000000 by omega, hf0, hf1⟩ (by omega)
      have HPU := Lib.hid PU
      clear PU hget hgt hl
      go_wp2_with (first
        | (go_at_call 46; refine (turnOf_any t (.slice va t.ac.length vc) k p _).mono ?_; rintro r u1 ⟨rfl, g1⟩)
        | (go_at_call 45; refine (HPU.out _ g1).mono ?_; rintro r u2 ⟨rfl, v2, L2, H2, S2, P2, HH2⟩)
        | go_in)
      go_roundw
      case rel => exact ⟨k + 1, v2, L2, by omega, by go_num, H2, HH2, P2.out.trans (by rw [hit.out]; exact HP.out.append_right _), gb_of_bl (S2.out.only.below (gb_below (gb_trans G.out g1.out)) (gb_trans G.out g1.out).size (fun i hi => by
        rcases hi with rfl | hi
        · exact H.out.lo
        · exact (H.out.row.lt i hi).1))⟩
      case measure => simp [intOf]; omega
    · obtain rfl : k = ys.length := by omega
      have HP2 : Hid (L.Perm (itsOf ts f)) := Lib.hid (by
        have := HP.out
        rw [← HTL.out] at this
        exact this)
      go_wp2_with fail
      have D0 : Hid (OrdI w hb ts f (.slice none 0 0) v [] L wr) := Lib.hid ⟨World.ownsRow_nil _ _ _ _, H.out, HH.out, HP2.out, List.Pairwise.nil, by simp, G.out⟩
      clear H HH HP HP2 G hlt hLl
      go_loopw [8] (fun ov wr => ∃ (v : Value) (xs L : List It), Hid (OrdI w hb ts f ov v xs L wr)) (fun ov _ => (ys.length - lenOf ov))
      case atStart => exact ⟨v, [], L, D0⟩
      case round =>
        clear D0
        obtain ⟨v, xs, L, D⟩ := hrel
        have hlen := D.out.perm.length_eq
        rw [List.length_append, show (itsOf ts f).length = ys.length by rw [← HTL.out]; simp [itsOf]] at hlen
        have c0 : wr.cell? ⟨hb, 0, none⟩ = some v := D.out.hp.blk.cell 0
        have bl := D.out.hp.blk.lt
        obtain ⟨oa, oc, rfl⟩ := owns_slice D.out.row
        obtain ⟨va, vc, hv⟩ := owns_slice D.out.hp.row
        subst hv
        cases hLc : L with
        | nil =>
          subst hLc
          go_wp2_with (first | (go_at_call 47; refine (len_any va 0 vc wr).mono ?_; rintro r u1 ⟨rfl, rfl⟩) | go_in)
          go_ret
          exact ⟨_, xs, rfl, ⟨by have := D.out.perm; rwa [List.append_nil] at this, D.out.pw⟩, D.out.row, D.out.gr⟩
        | cons y0 L0 =>
          obtain ⟨m, hm⟩ : ∃ m, m = L0.length := ⟨_, rfl⟩
          have hLm : L.length = m + 1 := by rw [hLc, hm]; rfl
          clear hLc hm y0 L0
          have hm6 : (m : Int) < 1000000 := by omega
          have hm0 : (0 : Int) < (m : Int) + 1 := by omega
          have hx6 : (xs.length : Int) < 1000000 := by omega
          have hys : xs.length < ys.length := by omega
          obtain ⟨q0, hq0⟩ : ∃ q, q = itAt L 0 := ⟨_, rfl⟩
          have POP := Lib.hid (hpop_any w.heap.size hb _ L m wr D.out.hp D.out.heap hLm (by omega))
          rw [← hq0] at POP
          have hk0 : It.ok q0 := by rw [hq0]; exact D.out.hp.ok _ (itAt_mem (by omega))
          have hlo : ∀ x ∈ xs, x.le q0 := fun x hx => D.out.lo x hx q0 (by rw [hq0]; exact itAt_mem (by omega))
          have HLO := Lib.hid hlo
          have HLM := Lib.hid hLm
          clear hq0 hlo hk0 hlen
          have c1 : wr.cell? ⟨hb, 0, none⟩ = some (.slice va (m + 1) vc) := by rw [c0, hLm]
          clear c0
          clear hLm
          obtain ⟨no, p, k⟩ := q0
          cases k with
          | true =>
            (have ta1 := fun w => ta_done no p w); (rw [show itV ⟨no, p, true⟩ = .iface 120 (.agg #[.int .i64 no, .int .i64 p]) from rfl] at POP); go_wp2_with (first | (go_at_call 47; refine (len_any va (m + 1) vc wr).mono ?_; rintro r u1 ⟨rfl, rfl⟩; clear c1) | (go_at_call 48; refine POP.out.mono ?_; rintro r u2 ⟨rfl, v2, L2, H2, S2, HH2, M2, P2, LO2⟩) | (go_at_call 116; refine (place_any no p u2).mono ?_; rintro r u3 ⟨rfl, g3⟩; have OR := Lib.hid (ownsRow_keep (w' := u3) D.out.row (fun k e => (g3.out.block k (Nat.lt_of_lt_of_le (D.out.row.lt k e).2 S2.out.only.size) (by simp)).trans (S2.out.only.block k (D.out.row.lt k e).2 (D.out.hp.other D.out.row (by decide) (by decide) k e)))); have H3 := Lib.hid (H2.out.grown g3.out)) | (at_builtin; refine wpList_append_at _ rfl (.tmp 44) (.tmp 47) 25 rfl w.heap.size 3 i0 (.int .i64 0) 1 8 Try.underlying25 hi.out hz0.out hz1.out hz2.out rfl (by decide) (.slice oa xs.length oc) xs.length (xs.map noV) rfl (OR.out.alloc _) ⟨u3.heap.size, 0, none⟩ 1 1 [.int .i64 no] rfl rfl (new_cells _ _ _) (by intro u hu; simp at hu; subst hu; rfl) (by unfold maxLen; omega) (by omega) (by have h1 := D.out.gr.size; have h2 := S2.out.only.size; have h3 := g3.out.size; simp; omega) (by decide) ?_; intro g' c' w1 ho1 hg1 hv1; have HO := Lib.hid ho1; have HG := Lib.hid hg1; clear ho1 hg1 hv1) | go_in)
            go_roundw; (case rel => exact ⟨v2, xs ++ [⟨no, p, true⟩], L2, D.out.next HLO.out S2.out P2.out HH2.out LO2.out g3.out H3.out OR.out HO.out HG.out⟩); (case measure => simp [lenOf]; omega)
          | false =>
            (have ta1 := fun w => ta_plain no p w); (rw [show itV ⟨no, p, false⟩ = .iface 118 (.agg #[.int .i64 no, .int .i64 p]) from rfl] at POP); go_wp2_with (first | (go_at_call 47; refine (len_any va (m + 1) vc wr).mono ?_; rintro r u1 ⟨rfl, rfl⟩; clear c1) | (go_at_call 48; refine POP.out.mono ?_; rintro r u2 ⟨rfl, v2, L2, H2, S2, HH2, M2, P2, LO2⟩) | (go_at_call 116; refine (place_any no p u2).mono ?_; rintro r u3 ⟨rfl, g3⟩; have OR := Lib.hid (ownsRow_keep (w' := u3) D.out.row (fun k e => (g3.out.block k (Nat.lt_of_lt_of_le (D.out.row.lt k e).2 S2.out.only.size) (by simp)).trans (S2.out.only.block k (D.out.row.lt k e).2 (D.out.hp.other D.out.row (by decide) (by decide) k e)))); have H3 := Lib.hid (H2.out.grown g3.out)) | (at_builtin; refine wpList_append_at _ rfl (.tmp 44) (.tmp 47) 25 rfl w.heap.size 3 i0 (.int .i64 0) 1 8 Try.underlying25 hi.out hz0.out hz1.out hz2.out rfl (by decide) (.slice oa xs.length oc) xs.length (xs.map noV) rfl (OR.out.alloc _) ⟨u3.heap.size, 0, none⟩ 1 1 [.int .i64 no] rfl rfl (new_cells _ _ _) (by intro u hu; simp at hu; subst hu; rfl) (by unfold maxLen; omega) (by omega) (by have h1 := D.out.gr.size; have h2 := S2.out.only.size; have h3 := g3.out.size; simp; omega) (by decide) ?_; intro g' c' w1 ho1 hg1 hv1; have HO := Lib.hid ho1; have HG := Lib.hid hg1; clear ho1 hg1 hv1) | go_in)
            go_roundw; (case rel => exact ⟨v2, xs ++ [⟨no, p, false⟩], L2, D.out.next HLO.out S2.out P2.out HH2.out LO2.out g3.out H3.out OR.out HO.out HG.out⟩); (case measure => simp [lenOf]; omega)
end Go.Proofs.Ytkidkhjpijjphaa.oq

/- Package opaque's own find, Check, Seen, Order. -/
namespace Go.Proofs.Ytkidkhjpijjphaa.oq
open Go Go.RowKit Go.Proofs.Ytkidkhjpijjphaa.base Go.Proofs.Ytkidkhjpijjphaa.hs Go.Proofs.Ytkidkhjpijjphaa.lg Go.Proofs.Ytkidkhjpijjphaa.md Go.Maps
set_option linter.unusedVariables false
set_option maxRecDepth 100000
set_option linter.unusedSimpArgs false

set_option maxHeartbeats 2000000 in
theorem start_any (a : Option Addr) (n c : Nat) (z : Nat → Int) (ta : Option Addr) (T tc : Nat) (w : World) (hz : IsNums .i64 w a n z) (hn : n ≤ 1000000) (hT : T ≤ 1000) :
    Calls Try.prog 42 #[.slice a n c, .slice ta T tc] w fun r w' => ∃ b F', r = .returned (.pointer (some ⟨b, 0, none⟩)) ∧ Hid (WkM w' F' b (.slice ta T tc) n z (0 : Nat) ⟨List.replicate T (-1), fun _ => []⟩ 0) ∧ Hid (∀ k, F' k → w.heap.size ≤ k ∧ k < w'.heap.size) ∧ Hid (w.grownBy w' none) := by
  have HZ := Lib.hid hz
  have hmm := @run_makeMap Try.prog
  have hx0 : (w.alloc (.cells #[.int .i64 (-1)] 3)).cell? ⟨w.heap.size, 0, none⟩ = some (.int .i64 (-1)) := (Blk.made w 3 #[.int .i64 (-1)]).cell 0
  have REP := Lib.hid (repeat_any T hT (w.alloc (.cells #[.int .i64 (-1)] 3)) w.heap.size hx0)
  have GA := Lib.hid (World.grownBy_alloc w (.cells #[.int .i64 (-1)] 3) none)
  clear hz hx0
  go_enter Try.func42, Try.ntmps42
  go_wp2_with (first
    | (go_at_call 57; refine REP.out.mono ?_; rintro r u1 ⟨g, rfl, g0, hb, g1⟩; have SRC := Lib.hid (HZ.out.grown (gb_trans GA.out g1.out)).src)
    | (at_builtin; refine append64 _ rfl (.const (.slice none 0 0)) (.tmp 12) rfl u1.heap.size _ 0 [] rfl (World.ownsRow_nil _ _ _ _) a n c (base.vals z n) rfl (by simp [base.vals]) SRC.out (one_nums _ _ _) (by omega) (by simp) ?_; intro b' c' u2 ho hg hv; have HO := Lib.hid ho; have HG := Lib.hid hg; clear ho hg hv)
    | go_in)
  go_ret
  have HO' := HO.out
  have HG' : u1.grownBy u2 none := HG.out
  simp only [Nat.zero_add, List.nil_append] at HO'
  have G01 := gb_trans GA.out g1.out
  have G02 : w.grownBy u2 none := gb_trans G01 HG'
  have hsz1 := G01.size
  have hsz2 := HG'.size
  have gb2 : Blk 3 u2 g ⟨List.replicate T (.int .i64 (-1))⟩ := hb.out.grown HG' (by simp)
  have hgl : g < u1.heap.size := hb.out.lt
  have G3 : u2.grownBy ((u2.alloc (.map #[] 0)).alloc (.cells #[.slice ta T tc, .slice (some ⟨g, 0, none⟩) T T, .slice b' n c', .int .i64 0, .map (some u2.heap.size)] 66)) none := (by repeat (first | exact gb_refl _ _ | refine gb_drewN ?_ _ | refine gb_drew ?_ | refine gb_alloc ?_ _))
  have g0' := g0.out
  simp only [World.size_alloc] at g0'
  refine ⟨u2.heap.size + 1, WkF (u2.heap.size + 1) (.slice (some ⟨g, 0, none⟩) T T) (.slice b' n c') u2.heap.size (fun _ => none), rfl, ⟨_, _, _, _, ⟨?_, ?_, ?_, ?_, fun _ _ => rfl, fun x u h => (by cases h), fun x y u v k h => (by cases h), fun x u k h => (by cases h)⟩, fun _ h => h⟩, ?_, gb_trans G02 G3⟩
  · have := Blk.made (u2.alloc (.map #[] 0)) 66 #[.slice ta T tc, .slice (some ⟨g, 0, none⟩) T T, .slice b' n c', .int .i64 0, .map (some u2.heap.size)]
    rwa [World.size_alloc] at this
  · refine ⟨by simp, .inr ⟨g, T, ⟨List.replicate T (.int .i64 (-1))⟩, by simp, Nat.zero_le _, gb2.grown G3 (by simp), by simp, by unfold maxLen; omega, by simp, ?_⟩⟩
    simp [intV]
  · have h1 := ownsRow_keep HO' (fun k e => G3.block k (HO'.lt k e).2 (by simp))
    refine ⟨h1.1, h1.2.imp id ?_⟩
    rintro ⟨q, cap, cur, e1, _, rest⟩
    exact ⟨q, cap, cur, e1, Nat.zero_le _, rest⟩
  · exact (MapG.made u2 Try.prog 144 two).grown (r := none) (World.grownBy_alloc (u2.alloc (.map #[] 0)) _ none) (by simp)
  · rintro k (rfl | e | e | rfl | ⟨x, u, e, _⟩)
    · exact ⟨by omega, by simp⟩
    · cases e
      show w.heap.size ≤ g ∧ g < _
      exact ⟨by omega, by simp; omega⟩
    · have := HO'.lt k e
      exact ⟨by omega, by simp; omega⟩
    · exact ⟨by omega, by simp; omega⟩
    · cases e

theorem evs_wf {w : World} {a : Option Addr} {len : Nat} {e : Evs} (h : IsEvs w a len e) : ∀ i, i < len → Ev.Wf (e i) := fun i hi => by
  obtain ⟨_, _, _, _, _, _, _, _, _, _, _, hw⟩ := h.at7 hi
  exact hw
theorem acs_wf {e : Evs} {len : Nat} (hw : ∀ i, i < len → Ev.Wf (e i)) : ∀ t ∈ tries e len, t.ac.length ≤ len ∧ ∀ a ∈ t.ac, AccWf a := fun t ht => by
  obtain ⟨b, _, _, rfl⟩ := (tries_mem e len t).1 ht
  refine ⟨hs.trAt_ac e b len, fun a ha => ?_⟩
  obtain ⟨p, _, _, h3, h4, h5, h6, _⟩ := (acs_ok e b len).1 a ha
  have := hw p h3
  exact ⟨h4 ▸ this.k, h5 ▸ this.ob, h6 ▸ this.va⟩

theorem seen_nums {w : World} {sa : Option Addr} {n sc : Nat} {l : List Int} (h : w.ownsRow 0 3 1 (.slice sa n sc) n (l.map intV)) (hl : l.length = n) : IsNums .i64 w sa n (fun i => l.getD i 0) := by
  refine IsNums.of_own (base := 0) (e := 3) (cap := sc) ?_
  have e : (List.range n).map (fun i => Value.int .i64 (l.getD i 0)) = l.map intV := by
    apply List.ext_getElem
    · simp [hl]
    · intro i h1 h2
      simp at h1 h2
      simp [intV, h2]
  rw [e]
  exact h
/-- Where each try is seen. -/
def Sees (e : Evs) (n len : Nat) (S : Nat → Nat → Int) (f : Nat → Int) : Prop := ∀ no t, (tries e len)[no]? = some t → SeenAt e n len len S t (f no)

set_option maxHeartbeats 2000000 in
theorem find_wrong (a1 : Option Addr) (n c1 : Nat) (a2 : Option Addr) (len cap : Nat) (e : Evs) (w : World) (hl : IsEvs w a2 len e) (hr : right e len = false) (hlen : len ≤ 1000) :
    Calls Try.prog 27 #[.slice a1 n c1, .slice a2 len cap] w fun r w' => r = .returned (.tuple #[.pointer none, .int .i64 0, .int .i64 3]) ∧ Hid (w.grownBy w' none) := by
  have RT := Lib.hid (right_any a2 len cap e w hl (by omega))
  rw [hr] at RT
  clear hl hr
  go_enter Try.func27, Try.ntmps27
  go_wp2_with (first | (go_at_call 41; refine RT.out.mono ?_; rintro r u1 ⟨rfl, g1⟩) | go_in)
  go_ret3
  exact ⟨rfl, g1⟩

set_option maxHeartbeats 4000000 in
theorem find_right (a1 : Option Addr) (n c1 : Nat) (z : Nat → Int) (a2 : Option Addr) (len cap : Nat) (e : Evs) (w : World) (hz : IsNums .i64 w a1 n z) (hzw : ∀ i, i < n → (Lit.int .i64 (z i)).wf = true) (hl : IsEvs w a2 len e) (hr : right e len = true) (hlen : len ≤ 1000) (hn : n ≤ 1000000) :
    Calls Try.prog 27 #[.slice a1 n c1, .slice a2 len cap] w fun r w' => ∃ f, Hid (Sees e n len (fun k => stAt z (cacs e len) k) f) ∧ Hid (w.grownBy w' none) ∧ ((∃ k : Nat, r = .returned (.tuple #[.pointer none, .int .i64 k, .int .i64 7]) ∧ Hid (k < (tries e len).length ∧ f k = -1 ∧ ∀ j, j < k → f j ≠ -1)) ∨
      (Hid (∀ j, j < (tries e len).length → f j ≠ -1) ∧ ∃ b ta tc ys sa sc, r = .returned (.tuple #[.pointer (some ⟨b, 0, none⟩), .int .i64 (-1), .int .i64 0]) ∧ Hid (ys.map Prod.fst = tries e len) ∧ Hid (TsAt w' ta ys) ∧ Hid (IsNums .i64 w' sa ys.length f) ∧ Hid (w'.cell? ⟨b, 0, none⟩ = some (.slice ta ys.length tc)) ∧ Hid (w'.cell? ⟨b, 1, none⟩ = some (.slice sa ys.length sc)))) := by
  have RT := Lib.hid (right_any a2 len cap e w hl (by omega))
  rw [hr] at RT
  have HZ := Lib.hid hz
  have HL := Lib.hid hl
  have HR := Lib.hid hr
  have HZW := Lib.hid hzw
  have HEW := Lib.hid (evs_wf hl)
  have HLEN := Lib.hid hlen
  have HN := Lib.hid hn
  clear hz hl hr hzw hlen hn
  go_enter Try.func27, Try.ntmps27
  go_wp2_with (first
    | (go_at_call 41; refine RT.out.mono ?_; rintro r u1 ⟨rfl, g1⟩)
    | (go_at_call 15; refine (tries_right u1 a2 len cap e (HL.out.grown g1.out) HR.out (by have := HLEN.out; omega)).mono ?_; rintro r u2 ⟨ta, tc, ys, rfl, it, tp, tw, g2⟩; have TY := Lib.hid (sorted_tries e tp.out tw.out); have TA := Lib.hid (TsAt.of_isTries it.out); have G2 := Lib.hid (gb_trans g1.out g2.out); have TL := Lib.hid (show ys.length = (tries e len).length by rw [← TY.out, List.length_map]); have TN := Lib.hid (tries_n e len); clear it tp tw g1 g2)
    | (go_at_call 42; refine (start_any a1 n c1 z ta ys.length tc u2 (HZ.out.grown G2.out) HN.out (by have := TL.out; have := TN.out; have := HLEN.out; omega)).mono ?_; rintro r u3 ⟨b, F, rfl, wk, fb, g3⟩; have OK0 : Hid (WkOk (ys.map Prod.fst) n 0 ⟨List.replicate ys.length (-1), fun _ => []⟩ 0) := Lib.hid ⟨by simp, by rw [List.length_map]; have := TL.out; have := TN.out; have := HLEN.out; omega, HN.out, by omega, fun x => Nat.le_refl _, by omega, fun t ht => by have h := acs_wf HEW.out t (TY.out ▸ ht); exact ⟨Nat.le_trans h.1 HLEN.out, h.2⟩⟩; have INV0 := Lib.hid (WkInv.start e n len (fun k => stAt z (cacs e len) k) HR.out); have THR := Lib.hid (through_any u2 u3 F b ta tc ys n z ⟨List.replicate ys.length (-1), fun _ => []⟩ a2 len cap e TA.out TY.out (HL.out.grown G2.out) g3.out (fun k hk => (fb.out k hk).1) wk.out (fun k hk => (fb.out k hk).2) OK0.out HR.out HLEN.out HZW.out (by rw [TL.out]; exact INV0.out)))
    | (go_at_call 43; refine THR.out.mono ?_; rintro r u4 ⟨rfl, F4, s4, N4, wk4, inv4, st4⟩; have G4 := Lib.hid (gb_only g3.out st4.out.only (fun k hk => (fb.out k hk).1)); obtain ⟨sv, vv, mb, rd, h4, _⟩ := wk4.out; obtain ⟨sa, sc, hsv⟩ := owns_slice h4.seen; have hsl : s4.seen.length = ys.length := (inv4.out.slen.trans TL.out.symm); rw [hsl] at hsv; have k1 : u4.cell? ⟨b, 1, none⟩ = some (.slice sa ys.length sc) := (by rw [← hsv]; exact h4.blk.cell 1); have bl4 := h4.blk.lt; have NS : Hid (IsNums .i64 u4 sa ys.length (fun i => s4.seen.getD i 0)) := Lib.hid (seen_nums (by rw [← hsv, ← hsl]; exact h4.seen) hsl); have BK := Lib.hid h4.blk; clear h4)
    | (go_at_call 44; refine (index_any sa ys.length sc (fun i => s4.seen.getD i 0) u4 NS.out (by have := TL.out; have := TN.out; have := HLEN.out; omega)).mono ?_)
    | go_in)
  rintro r u5 ⟨q, rfl, fn, g5⟩
  have SE : Hid (Sees e n len (fun k => stAt z (cacs e len) k) (fun i => s4.seen.getD i 0)) := Lib.hid (fun no t ht => by
    obtain ⟨q, hq, hs⟩ := inv4.out.at_ no t ht
    have : s4.seen.getD no 0 = q := by simp [List.getD, hq]
    show SeenAt e n len len _ t (s4.seen.getD no 0)
    rw [this]
    exact hs)
  have GE := Lib.hid (gb_trans (gb_trans G2.out G4.out) g5.out)
  rcases fn.out with ⟨rfl, hall⟩ | ⟨k, rfl, hk, hfk, hmin⟩
  · have HALL := Lib.hid hall
    clear hall
    go_wp2
    go_ret3
    exact ⟨_, SE, GE, .inr ⟨fun j hj => HALL.out j (by rw [TL.out]; exact hj), b, ta, tc, ys, sa, sc, rfl, TY, TA.out.grown (gb_trans G4.out g5.out), NS.out.grown g5.out, g5.out.cell (BK.out.cell 0) (by simp), g5.out.cell k1 (by simp)⟩⟩
  · have HK := Lib.hid (show k < (tries e len).length ∧ s4.seen.getD k 0 = -1 ∧ ∀ j, j < k → s4.seen.getD j 0 ≠ -1 from ⟨by rw [← TL.out]; exact hk, hfk, hmin⟩)
    clear hk hfk hmin
    have hk0 : (0 : Int) ≤ (k : Int) := by omega
    go_wp2
    go_ret3
    exact ⟨_, SE, GE, .inl ⟨k, rfl, HK⟩⟩

set_option maxHeartbeats 1000000 in
theorem check_right (a1 : Option Addr) (n c1 : Nat) (z : Nat → Int) (a2 : Option Addr) (len cap : Nat) (e : Evs) (w : World) (hz : IsNums .i64 w a1 n z) (hzw : ∀ i, i < n → (Lit.int .i64 (z i)).wf = true) (hl : IsEvs w a2 len e) (hr : right e len = true) (hlen : len ≤ 1000) (hn : n ≤ 1000000) :
    Calls Try.prog 10 #[.slice a1 n c1, .slice a2 len cap] w fun r w' => ∃ f, Hid (Sees e n len (fun k => stAt z (cacs e len) k) f) ∧ Hid (w.grownBy w' none) ∧ ((∃ k : Nat, r = .returned (.tuple #[.int .i64 k, .int .i64 7]) ∧ Hid (k < (tries e len).length ∧ f k = -1 ∧ ∀ j, j < k → f j ≠ -1)) ∨ (Hid (∀ j, j < (tries e len).length → f j ≠ -1) ∧ r = .returned (.tuple #[.int .i64 (-1), .int .i64 0]))) := by
  have HZ := Lib.hid hz; have HZW := Lib.hid hzw; have HL := Lib.hid hl; have HR := Lib.hid hr; have HLEN := Lib.hid hlen; have HN := Lib.hid hn; clear hz hzw hl hr hlen hn
  go_enter Try.func10, Try.ntmps10
  go_wp2_with fail
  refine (find_right a1 n c1 z a2 len cap e w HZ.out HZW.out HL.out HR.out HLEN.out HN.out).mono ?_
  rintro r u ⟨f, h1, h2, ⟨k, rfl, h3⟩ | ⟨h3, b, ta, tc, ys, sa, sc, rfl, _⟩⟩
  · go_wp2
    go_ret2
    exact ⟨f, h1, h2, .inl ⟨k, rfl, h3⟩⟩
  · go_wp2
    go_ret2
    exact ⟨f, h1, h2, .inr ⟨h3, rfl⟩⟩

set_option maxHeartbeats 1000000 in
theorem check_wrong (a1 : Option Addr) (n c1 : Nat) (a2 : Option Addr) (len cap : Nat) (e : Evs) (w : World) (hl : IsEvs w a2 len e) (hr : right e len = false) (hlen : len ≤ 1000) :
    Calls Try.prog 10 #[.slice a1 n c1, .slice a2 len cap] w fun r w' => r = .returned (.tuple #[.int .i64 0, .int .i64 3]) ∧ Hid (w.grownBy w' none) := by
  have H := Lib.hid (find_wrong a1 n c1 a2 len cap e w hl hr hlen)
  clear hl hr
  go_enter Try.func10, Try.ntmps10
  go_wp2_with (first | (go_at_call 27; refine H.out.mono ?_; rintro r u ⟨rfl, g⟩) | go_in)
  go_ret2
  exact ⟨rfl, g⟩

set_option maxHeartbeats 1000000 in
theorem seen_right (a1 : Option Addr) (n c1 : Nat) (z : Nat → Int) (a2 : Option Addr) (len cap : Nat) (e : Evs) (w : World) (hz : IsNums .i64 w a1 n z) (hzw : ∀ i, i < n → (Lit.int .i64 (z i)).wf = true) (hl : IsEvs w a2 len e) (hr : right e len = true) (hlen : len ≤ 1000) (hn : n ≤ 1000000) :
    Calls Try.prog 11 #[.slice a1 n c1, .slice a2 len cap] w fun r w' => ∃ f, Hid (Sees e n len (fun k => stAt z (cacs e len) k) f) ∧ Hid (w.grownBy w' none) ∧ ((∃ k : Nat, r = .returned (.tuple #[.slice none 0 0, .int .i64 7]) ∧ Hid (k < (tries e len).length ∧ f k = -1 ∧ ∀ j, j < k → f j ≠ -1)) ∨ (Hid (∀ j, j < (tries e len).length → f j ≠ -1) ∧ ∃ sa sc, r = .returned (.tuple #[.slice sa (tries e len).length sc, .int .i64 0]) ∧ Hid (IsNums .i64 w' sa (tries e len).length f))) := by
  have HZ := Lib.hid hz; have HZW := Lib.hid hzw; have HL := Lib.hid hl; have HR := Lib.hid hr; have HLEN := Lib.hid hlen; have HN := Lib.hid hn; clear hz hzw hl hr hlen hn
  go_enter Try.func11, Try.ntmps11
  go_wp2_with fail
  refine (find_right a1 n c1 z a2 len cap e w HZ.out HZW.out HL.out HR.out HLEN.out HN.out).mono ?_
  rintro r u ⟨f, h1, h2, ⟨k, rfl, h3⟩ | ⟨h3, b, ta, tc, ys, sa, sc, rfl, hy, ht, hs, k0, k1⟩⟩
  · go_wp2
    go_ret2
    exact ⟨f, h1, h2, .inl ⟨k, rfl, h3⟩⟩
  · have hyl : ys.length = (tries e len).length := by rw [← hy.out, List.length_map]
    rw [hyl] at hs k1
    have c1' := k1.out
    have bl := World.block_lt_of_cell? _ _ c1'
    clear k0 k1
    go_wp2
    go_ret2
    exact ⟨f, h1, h2, .inr ⟨h3, sa, sc, rfl, hs⟩⟩

set_option maxHeartbeats 1000000 in
theorem seen_wrong (a1 : Option Addr) (n c1 : Nat) (a2 : Option Addr) (len cap : Nat) (e : Evs) (w : World) (hl : IsEvs w a2 len e) (hr : right e len = false) (hlen : len ≤ 1000) :
    Calls Try.prog 11 #[.slice a1 n c1, .slice a2 len cap] w fun r w' => r = .returned (.tuple #[.slice none 0 0, .int .i64 3]) ∧ Hid (w.grownBy w' none) := by
  have H := Lib.hid (find_wrong a1 n c1 a2 len cap e w hl hr hlen)
  clear hl hr
  go_enter Try.func11, Try.ntmps11
  go_wp2_with (first | (go_at_call 27; refine H.out.mono ?_; rintro r u ⟨rfl, g⟩) | go_in)
  go_ret2
  exact ⟨rfl, g⟩

theorem isp_le {f : Nat → Bool} {lo hi : Nat} {q : Int} (h : IsP f lo hi q) : q ≤ (hi : Int) := by
  rcases h with ⟨rfl, _⟩ | ⟨p, rfl, _, h, _⟩ <;> omega
theorem sees_le {e : Evs} {n len : Nat} {S : Nat → Nat → Int} {f : Nat → Int} (h : Sees e n len S f) (hr : right e len = true) {no : Nat} (hno : no < (tries e len).length) : f no ≤ (len : Int) := by
  have hs := h no _ (List.getElem?_eq_getElem hno)
  unfold SeenAt at hs
  split at hs
  · rw [hs]
    split
    · next hc =>
      have h1 := before_bound e (tries e len)[no].en.toNat
      omega
    · omega
  · split at hs
    · have h1 := isp_le hs
      have h2 := before_bound e (min len (endOf len (tries e len)[no]))
      have h3 : min len (endOf len (tries e len)[no]) ≤ len := Nat.min_le_left _ _
      omega
    · omega
theorem sees_ge {e : Evs} {n len : Nat} {S : Nat → Nat → Int} {f : Nat → Int} (h : Sees e n len S f) {no : Nat} (hno : no < (tries e len).length) : -1 ≤ f no := by
  have hs := h no _ (List.getElem?_eq_getElem hno)
  unfold SeenAt at hs
  split at hs
  · rw [hs]
    split <;> omega
  · split at hs
    · rcases hs with ⟨h, _⟩ | ⟨p, h, _⟩ <;> omega
    · omega

set_option maxHeartbeats 1000000 in
theorem order_right (a1 : Option Addr) (n c1 : Nat) (z : Nat → Int) (a2 : Option Addr) (len cap : Nat) (e : Evs) (w : World) (hz : IsNums .i64 w a1 n z) (hzw : ∀ i, i < n → (Lit.int .i64 (z i)).wf = true) (hl : IsEvs w a2 len e) (hr : right e len = true) (hlen : len ≤ 1000) (hn : n ≤ 1000000) :
    Calls Try.prog 12 #[.slice a1 n c1, .slice a2 len cap] w fun r w' => ∃ f, Hid (Sees e n len (fun k => stAt z (cacs e len) k) f) ∧ Hid (w.grownBy w' none) ∧ ((∃ k : Nat, r = .returned (.tuple #[.slice none 0 0, .int .i64 7]) ∧ Hid (k < (tries e len).length ∧ f k = -1 ∧ ∀ j, j < k → f j ≠ -1)) ∨ (Hid (∀ j, j < (tries e len).length → f j ≠ -1) ∧ ∃ ov xs, r = .returned (.tuple #[ov, .int .i64 0]) ∧ Hid (Ordered (tries e len) f xs) ∧ Hid (w'.ownsRow 0 3 1 ov xs.length (xs.map noV)))) := by
  have HZ := Lib.hid hz; have HZW := Lib.hid hzw; have HL := Lib.hid hl; have HR := Lib.hid hr; have HLEN := Lib.hid hlen; have HN := Lib.hid hn; clear hz hzw hl hr hlen hn
  have TN := Lib.hid (tries_n e len)
  go_enter Try.func12, Try.ntmps12
  go_wp2_with fail
  refine (find_right a1 n c1 z a2 len cap e w HZ.out HZW.out HL.out HR.out HLEN.out HN.out).mono ?_
  rintro r u ⟨f, h1, h2, ⟨k, rfl, h3⟩ | ⟨h3, b, ta, tc, ys, sa, sc, rfl, hy, ht, hs, k0, k1⟩⟩
  · go_wp2
    go_ret2
    exact ⟨f, h1, h2, .inl ⟨k, rfl, h3⟩⟩
  · have hyl : ys.length = (tries e len).length := by rw [← hy.out, List.length_map]
    have hf : ∀ i, i < ys.length → 0 ≤ f i ∧ f i ≤ 1000000 := fun i hi => by
      have a := sees_ge h1.out (show i < (tries e len).length by omega)
      have b := sees_le h1.out HR.out (show i < (tries e len).length by omega)
      have c := h3.out i (by omega)
      have d := HLEN.out
      omega
    have ORD := Lib.hid (fun u' (g : Hid (u.grownBy u' none)) => ordered_any u' ta tc ys sa sc f (ht.out.grown g.out) (hs.out.grown g.out) hf (by have := TN.out; have := HLEN.out; omega))
    have c0' := k0.out
    have c1' := k1.out
    have bl := World.block_lt_of_cell? _ _ c1'
    clear k0 k1 hf hyl
    go_wp2_with fail
    have K0 : Hid (u.grownBy u.drew none) := Lib.hid (gb_drew (gb_refl u none))
    go_region_held3 (fun w' => Hid (u.grownBy w' none) ∧ w'.cell? ⟨b, 0, none⟩ = some (.slice ta ys.length tc) ∧ w'.cell? ⟨b, 1, none⟩ = some (.slice sa ys.length sc)) (go_keep) (first
      | (go_at_call 28; refine (ORD.out _ (by assumption)).mono ?_; rintro r u5 ⟨ov, xs, rfl, ho, hr5, g5⟩; have K5 : Hid (u.grownBy u5 none) := Lib.hid (gb_trans (by refine Hid.out ?_; assumption) g5.out); have x5 := K5.out.cell c0' (by simp); have y5 := K5.out.cell c1' (by simp)))
    go_wp2
    go_ret2
    refine ⟨f, h1, gb_trans h2.out K5.out, .inr ⟨h3, ov, xs, rfl, ?_, ?_⟩⟩
    · have := ho.out
      rw [hy.out] at this
      exact this
    · refine ⟨hr5.out.1, hr5.out.2.imp id ?_⟩
      rintro ⟨q, cap, cur, e1, _, rest⟩
      exact ⟨q, cap, cur, e1, Nat.zero_le _, rest⟩

set_option maxHeartbeats 1000000 in
theorem order_wrong (a1 : Option Addr) (n c1 : Nat) (a2 : Option Addr) (len cap : Nat) (e : Evs) (w : World) (hl : IsEvs w a2 len e) (hr : right e len = false) (hlen : len ≤ 1000) :
    Calls Try.prog 12 #[.slice a1 n c1, .slice a2 len cap] w fun r w' => r = .returned (.tuple #[.slice none 0 0, .int .i64 3]) ∧ Hid (w.grownBy w' none) := by
  have H := Lib.hid (find_wrong a1 n c1 a2 len cap e w hl hr hlen)
  clear hl hr
  go_enter Try.func12, Try.ntmps12
  go_wp2_with (first | (go_at_call 27; refine H.out.mono ?_; rintro r u ⟨rfl, g⟩) | go_in)
  go_ret2
  exact ⟨rfl, g⟩
end Go.Proofs.Ytkidkhjpijjphaa.oq

/- The document's own comparison of numbers: quarrelref01.Ints. -/
namespace Go.Proofs.Ytkidkhjpijjphaa.oq
open Go Go.RowKit Go.Proofs.Ytkidkhjpijjphaa.base Go.Proofs.Ytkidkhjpijjphaa.lg Go.Proofs.Ytkidkhjpijjphaa.md
set_option linter.unusedVariables false
set_option linter.unusedSimpArgs false

set_option maxHeartbeats 1000000 in
theorem ints_any (a b : Option Addr) (n m ca cb : Nat) (f g : Nat → Int) (w : World) (ha : IsNums .i64 w a n f) (hb : IsNums .i64 w b m g) (hm : n ≤ 100000) :
    Calls Try.prog 13 #[.slice a n ca, .slice b m cb] w fun e w' => e = .returned (.bool (decide (n = m) && eqTo f g n)) ∧ Hid (w.grownBy w' none) := by
  have HA := Lib.hid ha
  have HB := Lib.hid hb
  clear ha hb
  by_cases hnm : n = m
  · subst hnm
    rw [show (decide (n = n) && eqTo f g n) = eqTo f g n by simp]
    go_enter Try.func13, Try.ntmps13
    go_wp2_with fail
    go_loopw [5] (fun i wr => ∃ k : Nat, k ≤ n ∧ i = .int .i64 k ∧ Hid (eqTo f g k = true) ∧ Hid (w.grownBy wr none)) (fun i _ => (n - intOf i).toNat)
    case atStart => exact ⟨0, by omega, rfl, rfl, gb_refl _ _⟩
    case round =>
      obtain ⟨k, hk, rfl, HE, G⟩ := hrel
      by_cases hlt : k < n
      · obtain ⟨b1, o1, rfl, hb1, d1⟩ := (HA.out.grown G.out).at1 hlt
        obtain ⟨b2, o2, rfl, hb2, d2⟩ := (HB.out.grown G.out).at1 hlt
        have hlt' : (k : Int) < (n : Int) := by omega
        by_cases hfg : f k = g k
        · have HE1 := Lib.hid (show eqTo f g (k + 1) = true by rw [eqTo, HE.out, hfg]; simp)
          rw [← hfg] at d2
          clear hfg
          generalize f k = x at *
          go_wp2_with fail
          go_quiet (fail)
          go_wp2
          go_roundw
          case rel => exact ⟨k + 1, by omega, by go_num, HE1, by first | exact gb_drewN G.out _ | exact gb_drew (gb_drewN G.out _)⟩
          case measure => simp [intOf]; omega
        · have HE1 := Lib.hid (eqTo_bad hlt hfg)
          have hne : (f k != g k) = true := by simp [hfg]
          clear hfg
          generalize f k = x at *
          generalize g k = y at *
          go_wp2_with fail
          go_quiet (fail)
          go_wp2
          go_ret
          exact ⟨by rw [HE1.out]; rfl, by first | exact gb_drewN G.out _ | exact gb_drew (gb_drewN G.out _)⟩
      · obtain rfl : k = n := by omega
        go_wp2
        go_ret
        exact ⟨by rw [HE.out]; rfl, G⟩
  · have hne : ((n : Int) != (m : Int)) = true := by simp; omega
    rw [show (decide (n = m) && eqTo f g n) = false by simp [hnm]]
    clear hnm
    go_enter Try.func13, Try.ntmps13
    go_wp2
    go_ret
    exact ⟨rfl, gb_refl _ _⟩

theorem ints_yes (a b : Option Addr) (n ca cb : Nat) (f : Nat → Int) (w : World) (ha : IsNums .i64 w a n f) (hb : IsNums .i64 w b n f) (hm : n ≤ 100000) :
    Calls Try.prog 13 #[.slice a n ca, .slice b n cb] w fun e w' => e = .returned (.bool true) ∧ Hid (w.grownBy w' none) := by
  have h := ints_any a b n n ca cb f f w ha hb hm
  rwa [show (decide (n = n) && eqTo f f n) = true by simp [eqTo_self]] at h
end Go.Proofs.Ytkidkhjpijjphaa.oq

/- The document's example of chapter 19. -/
namespace Go.Proofs.Ytkidkhjpijjphaa.oq
open Go Go.RowKit Go.Proofs.Ytkidkhjpijjphaa.base Go.Proofs.Ytkidkhjpijjphaa.hs Go.Proofs.Ytkidkhjpijjphaa.lg Go.Proofs.Ytkidkhjpijjphaa.md Go.Maps
set_option linter.unusedVariables false
set_option maxRecDepth 100000
set_option linter.unusedSimpArgs false

def exO : Evs := fun i => match i with
  | 0 => ⟨1, 0, 0, 1, 0, 0, 0⟩
  | 1 => ⟨2, 0, 0, 1, 0, 5, 0⟩
  | 2 => ⟨1, 1, 0, 1, 0, 0, 0⟩
  | 3 => ⟨3, 1, 0, 1, 0, 7, 0⟩
  | 4 => ⟨5, 1, 0, 1, 0, 0, 0⟩
  | _ => ⟨6, 0, 0, 1, 0, 0, 1⟩
theorem exO_right : right exO 6 = true := by decide
theorem exO_at {w : World} {b : Nat} (B : Blk 51 w b #[.int .i64 1, .int .i64 0, .int .i64 0, .int .i64 1, .int .i64 0, .int .i64 0, .int .i64 0, .int .i64 2, .int .i64 0, .int .i64 0, .int .i64 1, .int .i64 0, .int .i64 5, .int .i64 0, .int .i64 1, .int .i64 1, .int .i64 0, .int .i64 1, .int .i64 0, .int .i64 0, .int .i64 0, .int .i64 3, .int .i64 1, .int .i64 0, .int .i64 1, .int .i64 0, .int .i64 7, .int .i64 0, .int .i64 5, .int .i64 1, .int .i64 0, .int .i64 1, .int .i64 0, .int .i64 0, .int .i64 0, .int .i64 6, .int .i64 0, .int .i64 0, .int .i64 1, .int .i64 0, .int .i64 0, .int .i64 1]) : IsEvs w (some ⟨b, 0, none⟩) 6 exO := by
  refine .inr ⟨b, 0, rfl, B.lt, fun i hi => ⟨fun j hj => ?_, ?_⟩⟩
  · rw [B.cell]
    match i, hi, j, hj with
    | 0, _, 0, _ => rfl
    | 0, _, 1, _ => rfl
    | 0, _, 2, _ => rfl
    | 0, _, 3, _ => rfl
    | 0, _, 4, _ => rfl
    | 0, _, 5, _ => rfl
    | 0, _, 6, _ => rfl
    | 1, _, 0, _ => rfl
    | 1, _, 1, _ => rfl
    | 1, _, 2, _ => rfl
    | 1, _, 3, _ => rfl
    | 1, _, 4, _ => rfl
    | 1, _, 5, _ => rfl
    | 1, _, 6, _ => rfl
    | 2, _, 0, _ => rfl
    | 2, _, 1, _ => rfl
    | 2, _, 2, _ => rfl
    | 2, _, 3, _ => rfl
    | 2, _, 4, _ => rfl
    | 2, _, 5, _ => rfl
    | 2, _, 6, _ => rfl
    | 3, _, 0, _ => rfl
    | 3, _, 1, _ => rfl
    | 3, _, 2, _ => rfl
    | 3, _, 3, _ => rfl
    | 3, _, 4, _ => rfl
    | 3, _, 5, _ => rfl
    | 3, _, 6, _ => rfl
    | 4, _, 0, _ => rfl
    | 4, _, 1, _ => rfl
    | 4, _, 2, _ => rfl
    | 4, _, 3, _ => rfl
    | 4, _, 4, _ => rfl
    | 4, _, 5, _ => rfl
    | 4, _, 6, _ => rfl
    | 5, _, 0, _ => rfl
    | 5, _, 1, _ => rfl
    | 5, _, 2, _ => rfl
    | 5, _, 3, _ => rfl
    | 5, _, 4, _ => rfl
    | 5, _, 5, _ => rfl
    | 5, _, 6, _ => rfl
  · match i, hi with
    | 0, _ => exact ⟨by decide, by decide, by decide, by decide, by decide, by decide, by decide⟩
    | 1, _ => exact ⟨by decide, by decide, by decide, by decide, by decide, by decide, by decide⟩
    | 2, _ => exact ⟨by decide, by decide, by decide, by decide, by decide, by decide, by decide⟩
    | 3, _ => exact ⟨by decide, by decide, by decide, by decide, by decide, by decide, by decide⟩
    | 4, _ => exact ⟨by decide, by decide, by decide, by decide, by decide, by decide, by decide⟩
    | 5, _ => exact ⟨by decide, by decide, by decide, by decide, by decide, by decide, by decide⟩
theorem one_at {w : World} {b : Nat} {x : Int} (B : Blk 2 w b #[.int .i64 x]) : IsNums .i64 w (some ⟨b, 0, none⟩) 1 (fun _ => x) := by
  refine .inr ⟨b, 0, rfl, B.lt, fun i hi => ?_⟩
  obtain rfl : i = 0 := by omega
  exact B.cell 0
theorem two_at {w : World} {b : Nat} {x y : Int} (B : Blk 3 w b #[.int .i64 x, .int .i64 y]) : IsNums .i64 w (some ⟨b, 0, none⟩) 2 (fun i => if i = 0 then x else y) := by
  refine .inr ⟨b, 0, rfl, B.lt, fun i hi => ?_⟩
  match i, hi with
  | 0, _ => exact B.cell 0
  | 1, _ => exact B.cell 1
theorem exO_tries : tries exO 6 = [⟨0, 0, 1, 0, 0, 5, 1, false, [⟨1, 2, 0, 5, false, false⟩]⟩, ⟨1, 0, 1, 0, 2, 4, 0, true, [⟨3, 3, 0, 7, false, false⟩]⟩] := by decide
theorem exO_sees {f : Nat → Int} (h : Sees exO 1 6 (fun k => stAt (fun _ => 5) (cacs exO 6) k) f) : f 0 = 0 ∧ f 1 = 0 := by
  constructor
  · have h0 := h 0 _ (by rw [exO_tries]; rfl)
    have h1 : SeenAt exO 1 6 6 (fun k => stAt (fun _ => 5) (cacs exO 6) k) ⟨0, 0, 1, 0, 0, 5, 1, false, [⟨1, 2, 0, 5, false, false⟩]⟩ 0 := by
      unfold SeenAt
      rw [if_neg (by decide), if_pos (by decide)]
      exact .inr ⟨0, rfl, by decide, by decide, by rfl, fun k h1 h2 => by omega⟩
    unfold SeenAt at h0 h1
    rw [if_neg (by decide), if_pos (by decide)] at h0 h1
    exact h0.one h1
  · have h0 := h 1 _ (by rw [exO_tries]; rfl)
    unfold SeenAt at h0
    rw [if_pos (by rfl), if_pos ⟨by decide, by rfl⟩] at h0
    rw [h0]
    rfl

set_option maxHeartbeats 2000000 in
theorem alive_any (w : World) : Calls Try.prog 8 #[] w fun r w' => r = .returned (.bool true) ∧ Hid (w.grownBy w' none) := by
  have BX := Lib.hid (Blk.made w 51 #[.int .i64 1, .int .i64 0, .int .i64 0, .int .i64 1, .int .i64 0, .int .i64 0, .int .i64 0, .int .i64 2, .int .i64 0, .int .i64 0, .int .i64 1, .int .i64 0, .int .i64 5, .int .i64 0, .int .i64 1, .int .i64 1, .int .i64 0, .int .i64 1, .int .i64 0, .int .i64 0, .int .i64 0, .int .i64 3, .int .i64 1, .int .i64 0, .int .i64 1, .int .i64 0, .int .i64 7, .int .i64 0, .int .i64 5, .int .i64 1, .int .i64 0, .int .i64 1, .int .i64 0, .int .i64 0, .int .i64 0, .int .i64 6, .int .i64 0, .int .i64 0, .int .i64 1, .int .i64 0, .int .i64 0, .int .i64 1])
  have GA := Lib.hid (World.grownBy_alloc w (.cells #[.int .i64 1, .int .i64 0, .int .i64 0, .int .i64 1, .int .i64 0, .int .i64 0, .int .i64 0, .int .i64 2, .int .i64 0, .int .i64 0, .int .i64 1, .int .i64 0, .int .i64 5, .int .i64 0, .int .i64 1, .int .i64 1, .int .i64 0, .int .i64 1, .int .i64 0, .int .i64 0, .int .i64 0, .int .i64 3, .int .i64 1, .int .i64 0, .int .i64 1, .int .i64 0, .int .i64 7, .int .i64 0, .int .i64 5, .int .i64 1, .int .i64 0, .int .i64 1, .int .i64 0, .int .i64 0, .int .i64 0, .int .i64 6, .int .i64 0, .int .i64 0, .int .i64 1, .int .i64 0, .int .i64 0, .int .i64 1] 51) none)
  have BY := Lib.hid (Blk.made (w.alloc (.cells #[.int .i64 1, .int .i64 0, .int .i64 0, .int .i64 1, .int .i64 0, .int .i64 0, .int .i64 0, .int .i64 2, .int .i64 0, .int .i64 0, .int .i64 1, .int .i64 0, .int .i64 5, .int .i64 0, .int .i64 1, .int .i64 1, .int .i64 0, .int .i64 1, .int .i64 0, .int .i64 0, .int .i64 0, .int .i64 3, .int .i64 1, .int .i64 0, .int .i64 1, .int .i64 0, .int .i64 7, .int .i64 0, .int .i64 5, .int .i64 1, .int .i64 0, .int .i64 1, .int .i64 0, .int .i64 0, .int .i64 0, .int .i64 6, .int .i64 0, .int .i64 0, .int .i64 1, .int .i64 0, .int .i64 0, .int .i64 1] 51)) 2 #[.int .i64 5])
  have BX2 := Lib.hid (BX.out.alloc (.cells #[.int .i64 5] 2))
  have GB := Lib.hid (gb_alloc GA.out (.cells #[.int .i64 5] 2))
  have HS := Lib.hid (seen_right (some ⟨w.heap.size + 1, 0, none⟩) 1 1 (fun _ => 5) (some ⟨w.heap.size, 0, none⟩) 6 6 exO _ (by have h := one_at BY.out; rwa [World.size_alloc] at h) (fun _ _ => by decide) (exO_at BX2.out) exO_right (by omega) (by omega))
  clear BX BY GA
  go_enter Try.func8, Try.ntmps8
  go_wp2_with fail
  refine HS.out.mono ?_
  rintro r u1 ⟨f, hf, g1, ⟨k, rfl, hk⟩ | ⟨hall, sa, sc, rfl, hs⟩⟩
  · exfalso
    have h1 := exO_sees hf.out
    have h2 := hk.out
    rw [exO_tries] at h2
    obtain ⟨a, b, _⟩ := h2
    match k, a, b with
    | 0, _, b => rw [h1.1] at b; cases b
    | 1, _, b => rw [h1.2] at b; cases b
  have NS := Lib.hid (show IsNums .i64 u1 sa 2 f from hs.out)
  have HF := Lib.hid (exO_sees hf.out)
  have G1 := Lib.hid (gb_trans GB.out g1.out)
  have EV1 := Lib.hid ((exO_at BX2.out).grown g1.out)
  rw [show (tries exO 6).length = 2 by rw [exO_tries]; rfl]
  clear hs hf hall g1 BX2 GB HS
  have BY := Lib.hid (Blk.made u1 2 #[.int .i64 5])
  have GC := Lib.hid (World.grownBy_alloc u1 (.cells #[.int .i64 5] 2) none)
  have HO := Lib.hid (order_right (some ⟨u1.heap.size, 0, none⟩) 1 1 (fun _ => 5) (some ⟨w.heap.size, 0, none⟩) 6 6 exO _ (one_at BY.out) (fun _ _ => by decide) (EV1.out.grown GC.out) exO_right (by omega) (by omega))
  go_wp2_with fail
  refine HO.out.mono ?_
  rintro r u2 ⟨f2, hf2, g2, ⟨k, rfl, hk⟩ | ⟨hall, ov, xs, rfl, ho, hrow⟩⟩
  · exfalso
    have h1 := exO_sees hf2.out
    have h2 := hk.out
    rw [exO_tries] at h2
    obtain ⟨a, b, _⟩ := h2
    match k, a, b with
    | 0, _, b => rw [h1.1] at b; cases b
    | 1, _, b => rw [h1.2] at b; cases b
  have hxs : xs = [(⟨0, 0, false⟩ : It), (⟨1, 0, true⟩ : It)] := by
    have h1 := exO_sees hf2.out
    refine ho.out.one ⟨?_, ?_⟩
    · rw [exO_tries]
      show List.Perm _ [(⟨0, f2 0, false⟩ : It), (⟨1, f2 1, true⟩ : It)]
      rw [h1.1, h1.2]
    · refine List.Pairwise.cons (fun y hy => ?_) (List.Pairwise.cons (fun y hy => by simp at hy) List.Pairwise.nil)
      have : y = ⟨1, 0, true⟩ := by simpa using hy
      rw [this]
      unfold It.le It.rk
      simp
  subst hxs
  obtain ⟨oa, oc, hov⟩ := owns_slice hrow.out
  subst hov
  have NO := Lib.hid (show IsNums .i64 u2 oa 2 (fun i => if i = 0 then 0 else 1) from by
    have h := seen_nums (l := [0, 1]) (n := 2) (sa := oa) (sc := oc) (w := u2) hrow.out rfl
    exact h.congr (fun i hi => by match i, hi with | 0, _ => rfl | 1, _ => rfl))
  have NS2 := Lib.hid ((NS.out.grown (gb_trans GC.out g2.out)).congr (f' := fun i => if i = 0 then (0 : Int) else 0) (fun i hi => by match i, hi with | 0, _ => exact HF.out.1 | 1, _ => exact HF.out.2))
  have G2 := Lib.hid (gb_trans (gb_trans G1.out GC.out) g2.out)
  clear ho hrow hf2 hall g2 NS HF G1 EV1 BY GC HO
  have B3 := Lib.hid (Blk.made u2 3 #[.int .i64 0, .int .i64 0])
  have G3 := Lib.hid (World.grownBy_alloc u2 (.cells #[.int .i64 0, .int .i64 0] 3) none)
  go_wp2_with fail
  refine (ints_yes _ _ 2 _ _ _ _ (NS2.out.grown G3.out) (two_at B3.out) (by omega)).mono ?_
  rintro r u3 ⟨rfl, g3⟩
  have N3 := Lib.hid (NO.out.grown (gb_trans G3.out g3.out))
  have B4 := Lib.hid (Blk.made u3 3 #[.int .i64 0, .int .i64 1])
  have G4 := Lib.hid (World.grownBy_alloc u3 (.cells #[.int .i64 0, .int .i64 1] 3) none)
  have GE := Lib.hid (gb_trans (gb_trans G2.out G3.out) g3.out)
  clear B3 NS2 NO g3 G3 G2
  go_wp2_with fail
  refine (ints_yes _ _ 2 _ _ _ _ (N3.out.grown G4.out) (two_at B4.out) (by omega)).mono ?_
  rintro r u4 ⟨rfl, g4⟩
  go_wp2
  go_ret
  exact ⟨rfl, gb_trans (gb_trans GE.out G4.out) g4.out⟩
end Go.Proofs.Ytkidkhjpijjphaa.oq

/- Where tries are seen: what follows, in plain numbers. -/
namespace Go.Proofs.Ytkidkhjpijjphaa.oq
open Go Go.RowKit Go.Proofs.Ytkidkhjpijjphaa.base Go.Proofs.Ytkidkhjpijjphaa.hs Go.Proofs.Ytkidkhjpijjphaa.md
set_option linter.unusedVariables false
set_option linter.unusedSimpArgs false

theorem row_wf {k : IntKind} {w : World} {a : Option Addr} {n cap : Nat} {f : Nat → Int} (h : IsRow k w a n cap f) : ∀ i, i < n → (Lit.int k (f i)).wf = true := fun i hi => by
  obtain ⟨_, _, h | ⟨b, off, rfl, hb, h⟩⟩ := h
  · omega
  · exact (h i hi).2
theorem SeenAt.one {e : Evs} {n len i : Nat} {S : Nat → Nat → Int} {t : Tr} {p q : Int} (h : SeenAt e n len i S t p) (g : SeenAt e n len i S t q) : p = q := by
  unfold SeenAt at h g
  split at h
  · next hc =>
    rw [if_pos hc] at g
    rw [h, g]
  · next hc =>
    rw [if_neg hc] at g
    split at h
    · next hb =>
      rw [if_pos hb] at g
      exact h.one g
    · next hb =>
      rw [if_neg hb] at g
      rw [h, g]
theorem Sees.one {e : Evs} {n len : Nat} {S : Nat → Nat → Int} {f g : Nat → Int} (h : Sees e n len S f) (k : Sees e n len S g) : ∀ no, no < (tries e len).length → f no = g no := fun no hno =>
  SeenAt.one (h no _ (List.getElem?_eq_getElem hno)) (k no _ (List.getElem?_eq_getElem hno))
/-- One answer, not both. -/
theorem Sees.both {e : Evs} {n len k : Nat} {S : Nat → Nat → Int} {f g : Nat → Int} (h : Sees e n len S f) (l : Sees e n len S g) (ha : ∀ j, j < (tries e len).length → f j ≠ -1) (hb : k < (tries e len).length ∧ g k = -1 ∧ ∀ j, j < k → g j ≠ -1) : False :=
  ha k hb.1 ((h.one l k hb.1).trans hb.2.1)
theorem Sees.first {e : Evs} {n len j k : Nat} {S : Nat → Nat → Int} {f g : Nat → Int} (h : Sees e n len S f) (l : Sees e n len S g) (ha : j < (tries e len).length ∧ f j = -1 ∧ ∀ i, i < j → f i ≠ -1) (hb : k < (tries e len).length ∧ g k = -1 ∧ ∀ j, j < k → g j ≠ -1) : j = k := by
  rcases Nat.lt_trichotomy j k with c | c | c
  · exact absurd ((h.one l j ha.1).symm.trans ha.2.1) (hb.2.2 j c)
  · exact c
  · exact absurd ((h.one l k hb.1).trans hb.2.1) (ha.2.2 k c)
theorem IsP.congr {f g : Nat → Bool} {lo hi : Nat} {q : Int} (h : IsP f lo hi q) (hfg : ∀ k, k ≤ hi → g k = f k) : IsP g lo hi q := by
  rcases h with ⟨rfl, h⟩ | ⟨p, rfl, h1, h2, h3, h4⟩
  · exact .inl ⟨rfl, fun k a b => (hfg k b).trans (h k a b)⟩
  · exact .inr ⟨p, rfl, h1, h2, (hfg p h2).trans h3, fun k a b => (hfg k (by omega)).trans (h4 k a b)⟩

/-- A beginning's states are the trace's. -/
theorem states_pre {e : Evs} {m len : Nat} (hr : right e len = true) (hm : m ≤ len) (z : Nat → Int) : ∀ k, k ≤ before e m → stAt z (cacs e m) k = stAt z (cacs e len) k := fun k hk => by
  obtain ⟨R, hR⟩ := cacs_pre e hr hm
  rw [hR, stAt_append]
  rw [cacs_before e (right_le e hr m hm)]
  exact hk
theorem tries_first {e : Evs} {m len no : Nat} (hm : m ≤ len) (hno : no < (tries e m).length) : ∃ b, (tries e m)[no]? = some (trAt e b m) ∧ (tries e len)[no]? = some (trAt e b len) ∧ b < m := by
  obtain ⟨r, hr⟩ := begins_pre e m (len - m)
  rw [show m + (len - m) = len by omega] at hr
  have hno' : no < (begins e m).length := by unfold tries at hno; rwa [List.length_map] at hno
  have hb := List.getElem?_eq_getElem hno'
  refine ⟨(begins e m)[no], ?_, ?_, ((begins_mem e m _).1 (List.getElem_mem hno')).1⟩
  · unfold tries
    rw [List.getElem?_map, hb]
    rfl
  · unfold tries
    rw [List.getElem?_map, hr, List.getElem?_append_left hno', hb]
    rfl
/-- What ended in a beginning is seen there where it is seen in all of it. -/
theorem sees_pre {e : Evs} {n m len : Nat} {z : Nat → Int} (hr : right e len = true) (hm : m ≤ len) {f g : Nat → Int} (h : Sees e n len (fun k => stAt z (cacs e len) k) f) (l : Sees e n m (fun k => stAt z (cacs e m) k) g) {no : Nat} {t : Tr} (ht : (tries e m)[no]? = some t) (hen : 0 ≤ t.en) : g no = f no := by
  obtain ⟨b, h1, h2, hb⟩ := tries_first hm (List.getElem?_eq_some_iff.1 ht).1
  rw [ht] at h1
  cases h1
  have he := trAt_end e b hen hm
  have hs := h no _ h2
  have hl := l no _ ht
  rw [he] at hs
  have hend := tries_end (right_le e hr m hm) ht
  have hb2 : (trAt e b m).b = (b : Int) := (trAt_fix e b m).2.2.2.2
  unfold SeenAt at hs hl
  rcases hend with ⟨h3, _⟩ | ⟨q, h3, h4, h5, h6, h7⟩
  · omega
  by_cases hc : (trAt e b m).co = true
  · rw [if_pos hc, h3, Int.toNat_natCast] at hs hl
    have h8 : before e q ≤ before e m := before_mono e (by omega)
    rw [hl, hs]
    have a1 : ((q : Int) < (m : Int)) = True := by simp; omega
    have a2 : ((q : Int) < (len : Int)) = True := by simp; omega
    simp only [states_pre hr hm z _ h8, a1, a2]
  · rw [if_neg hc, if_pos (by omega)] at hs hl
    have e1 : min len (endOf len (trAt e b m)) = q := by unfold endOf; rw [if_neg (by omega), h3]; omega
    have e2 : min m (endOf m (trAt e b m)) = q := by unfold endOf; rw [if_neg (by omega), h3]; omega
    rw [e1] at hs
    rw [e2] at hl
    have h8 : before e q ≤ before e m := before_mono e (by omega)
    exact IsP.one hl (IsP.congr hs fun k hk => by
      dsimp only
      rw [states_pre hr hm z k (by omega)])

/-- A try that is seen is seen between its beginning and its end. -/
theorem seen_within {e : Evs} {n len : Nat} {S : Nat → Nat → Int} {f : Nat → Int} (hr : right e len = true) (h : Sees e n len S f) {no : Nat} {t : Tr} (ht : (tries e len)[no]? = some t) (hf : f no ≠ -1) : (before e t.b.toNat : Int) ≤ f no ∧ f no ≤ (before e (endOf len t) : Int) ∧ (t.co = true → f no = (before e (endOf len t) : Int)) ∧ endOf len t ≤ len ∧ 0 ≤ t.b ∧ t.b < (len : Int) := by
  have hs := h no t ht
  obtain ⟨b, _, _, hb, hbl, _⟩ := tries_get ht
  unfold SeenAt at hs
  by_cases hc : t.co = true
  · rw [if_pos hc] at hs
    rcases tries_end hr ht with ⟨_, h3⟩ | ⟨q, h3, h4, h5, _⟩
    · rw [h3] at hc; cases hc
    have he : endOf len t = q := by unfold endOf; rw [if_neg (by omega), h3]; rfl
    split at hs
    · rw [h3, Int.toNat_natCast] at hs
      rw [he]
      have := before_mono e (show t.b.toNat ≤ q by omega)
      exact ⟨by omega, by omega, fun _ => hs, by omega, by omega, by omega⟩
    · exact absurd hs hf
  · rw [if_neg hc, if_pos (by omega)] at hs
    have he : min len (endOf len t) = endOf len t := by
      unfold endOf
      split
      · exact Nat.min_self _
      · rcases tries_end hr ht with ⟨h3, _⟩ | ⟨q, h3, h4, h5, _⟩ <;> omega
    rw [he] at hs
    have hl : endOf len t ≤ len := by rw [← he]; exact Nat.min_le_left _ _
    rcases hs with ⟨h1, _⟩ | ⟨p, h1, h2, h3, _⟩
    · exact absurd h1 hf
    · exact ⟨by omega, by omega, fun h => absurd h hc, hl, by omega, by omega⟩
end Go.Proofs.Ytkidkhjpijjphaa.oq

/- The order of tries: what follows, in plain numbers. -/
namespace Go.Proofs.Ytkidkhjpijjphaa.base
open Go
set_option linter.unusedVariables false
set_option linter.unusedSimpArgs false

section
variable {ts : List Tr} {f : Nat → Int} {xs : List It}
theorem Ordered.len (h : Ordered ts f xs) : xs.length = ts.length := by
  rw [h.1.length_eq]
  simp [itsOf]
theorem Ordered.mem (h : Ordered ts f xs) {a : It} (ha : a ∈ xs) : a.no < ts.length ∧ a.p = f a.no ∧ ∃ t, ts[a.no]? = some t ∧ a.c = t.co := by
  have h1 := h.1.mem_iff.1 ha
  unfold itsOf at h1
  obtain ⟨k, hk, rfl⟩ := List.mem_map.1 h1
  have hk' := List.mem_range.1 hk
  exact ⟨hk', rfl, ts[k], List.getElem?_eq_getElem hk', by simp [List.getD, hk']⟩
theorem Ordered.get (h : Ordered ts f xs) {i : Nat} {a : It} (ha : xs[i]? = some a) : a.no < ts.length ∧ a.p = f a.no ∧ ∃ t, ts[a.no]? = some t ∧ a.c = t.co := h.mem (List.mem_of_getElem? ha)
theorem Ordered.nos (h : Ordered ts f xs) : (xs.map It.no).Perm (List.range ts.length) := by
  have h1 := h.1.map It.no
  have h2 : (itsOf ts f).map It.no = List.range ts.length := by
    unfold itsOf
    rw [List.map_map]
    exact List.map_id _
  rwa [h2] at h1
theorem Ordered.no_one (h : Ordered ts f xs) {i j : Nat} {a b : It} (ha : xs[i]? = some a) (hb : xs[j]? = some b) (e : a.no = b.no) : i = j := by
  have hn : (xs.map It.no).Nodup := h.nos.nodup_iff.2 List.nodup_range
  obtain ⟨hi, hi2⟩ := List.getElem?_eq_some_iff.1 ha
  obtain ⟨hj, hj2⟩ := List.getElem?_eq_some_iff.1 hb
  have hp := List.pairwise_iff_getElem.1 hn
  rcases Nat.lt_trichotomy i j with l | l | l
  · have := hp i j (by simpa using hi) (by simpa using hj) l
    simp only [List.getElem_map] at this
    rw [hi2, hj2] at this
    exact absurd e this
  · exact l
  · have := hp j i (by simpa using hj) (by simpa using hi) l
    simp only [List.getElem_map] at this
    rw [hi2, hj2] at this
    exact absurd e.symm this
theorem Ordered.all (h : Ordered ts f xs) {no : Nat} (hno : no < ts.length) : ∃ (i : Nat) (a : It), xs[i]? = some a ∧ a.no = no := by
  have h1 : no ∈ xs.map It.no := h.nos.mem_iff.2 (List.mem_range.2 hno)
  obtain ⟨a, ha, rfl⟩ := List.mem_map.1 h1
  obtain ⟨i, hi⟩ := List.getElem?_of_mem ha
  exact ⟨i, a, hi, rfl⟩
theorem Ordered.le (h : Ordered ts f xs) {i j : Nat} {a b : It} (hij : i < j) (ha : xs[i]? = some a) (hb : xs[j]? = some b) : a.le b := by
  obtain ⟨hi, hi2⟩ := List.getElem?_eq_some_iff.1 ha
  obtain ⟨hj, hj2⟩ := List.getElem?_eq_some_iff.1 hb
  have := List.pairwise_iff_getElem.1 h.2 i j hi hj hij
  rwa [hi2, hj2] at this
end
end Go.Proofs.Ytkidkhjpijjphaa.base
namespace Go.Proofs.Ytkidkhjpijjphaa.oq
open Go Go.RowKit Go.Proofs.Ytkidkhjpijjphaa.base Go.Proofs.Ytkidkhjpijjphaa.hs Go.Proofs.Ytkidkhjpijjphaa.md

/-- Those that committed stand in the order of their commits. -/
theorem commits_order {e : Evs} {n len : Nat} {S : Nat → Nat → Int} {f : Nat → Int} {xs : List It} (hr : right e len = true) (h : Sees e n len S f) (hall : ∀ j, j < (tries e len).length → f j ≠ -1) (ho : Ordered (tries e len) f xs) {i j : Nat} {a b : It} {ta tb : Tr} (hij : i < j) (ha : xs[i]? = some a) (hb : xs[j]? = some b) (hta : (tries e len)[a.no]? = some ta) (htb : (tries e len)[b.no]? = some tb) (hca : ta.co = true) (hcb : tb.co = true) : ta.en < tb.en := by
  obtain ⟨a1, a2, t, a3, a4⟩ := ho.get ha
  rw [hta] at a3
  cases a3
  obtain ⟨b1, b2, t, b3, b4⟩ := ho.get hb
  rw [htb] at b3
  cases b3
  have hle := ho.le hij ha hb
  have wa := (seen_within hr h hta (hall _ a1)).2.2.1 hca
  have wb := (seen_within hr h htb (hall _ b1)).2.2.1 hcb
  rcases tries_end hr hta with ⟨_, c⟩ | ⟨p, p1, p2, p3, p4, p5⟩
  · rw [c] at hca; cases hca
  rcases tries_end hr htb with ⟨_, c⟩ | ⟨q, q1, q2, q3, q4, q5⟩
  · rw [c] at hcb; cases hcb
  have ea : endOf len ta = p := by unfold endOf; rw [if_neg (by omega), p1]; rfl
  have eb : endOf len tb = q := by unfold endOf; rw [if_neg (by omega), q1]; rfl
  rw [ea] at wa
  rw [eb] at wb
  rcases Nat.lt_trichotomy p q with l | l | l
  · omega
  · exfalso
    have := en_one e hr (List.mem_of_getElem? hta) (List.mem_of_getElem? htb) (by omega) (by omega)
    subst this
    have h2 := tries_b_one hta htb rfl
    have h3 := ho.no_one ha hb h2
    omega
  · exfalso
    have h5 : before e (q + 1) = before e q + 1 := by rw [before, if_pos (q5.1 hcb)]
    have h6 := before_mono e (show q + 1 ≤ p by omega)
    unfold It.le It.rk at hle
    rw [a4, b4, hca, hcb, a2, b2] at hle
    simp only [if_true] at hle
    omega
end Go.Proofs.Ytkidkhjpijjphaa.oq

/- The tries done one by one in their order, in plain numbers. -/
namespace Go.Proofs.Ytkidkhjpijjphaa.oq
open Go Go.RowKit Go.Proofs.Ytkidkhjpijjphaa.base Go.Proofs.Ytkidkhjpijjphaa.hs Go.Proofs.Ytkidkhjpijjphaa.md
set_option linter.unusedVariables false
set_option linter.unusedSimpArgs false

/-- Each count of commits but the last one is that ahead of one of them. -/
theorem before_at (e : Evs) : ∀ (n c : Nat), c < before e n → ∃ q, q < n ∧ (e q).k = 5 ∧ before e q = c
  | 0, c, h => by simp [before] at h
  | n + 1, c, h => by
    by_cases h1 : c < before e n
    · obtain ⟨q, h2, h3⟩ := before_at e n c h1
      exact ⟨q, by omega, h3⟩
    · rw [before] at h
      split at h
      · next h5 => exact ⟨n, by omega, h5, by omega⟩
      · omega

section
variable {e : Evs} {n len : Nat} {z : Nat → Int} {f : Nat → Int} {xs : List It}
/-- Where one that committed is seen: its place among those that did; and what it makes of the state. -/
theorem commit_seen (hr : right e len = true) (h : Sees e n len (fun k => stAt z (cacs e len) k) f) (hall : ∀ j, j < (tries e len).length → f j ≠ -1) {no : Nat} {t : Tr} (ht : (tries e len)[no]? = some t) (hc : t.co = true) : ∃ q : Nat, q < len ∧ (e q).k = 5 ∧ f no = (before e q : Int) ∧ t.en = (q : Int) ∧ stAt z (cacs e len) (before e q + 1) = app (stAt z (cacs e len) (before e q)) t.ac := by
  rcases tries_end hr ht with ⟨_, c⟩ | ⟨q, q1, q2, q3, q4, q5⟩
  · rw [c] at hc; cases hc
  have ha := hall no (List.getElem?_eq_some_iff.1 ht).1
  have hs := h no t ht
  unfold SeenAt at hs
  rw [if_pos hc, q1, Int.toNat_natCast] at hs
  split at hs
  · obtain ⟨b, _, _, h3, _, h5, h6⟩ := commit_at e hr q3 (q5.1 hc)
    have : trAt e b len = t := en_one e hr (List.mem_of_getElem? h3) (List.mem_of_getElem? ht) (by omega) (by omega)
    rw [this] at h6
    exact ⟨q, q3, q5.1 hc, hs, q1, stAt_step z h6⟩
  · exact absurd hs ha
theorem seen_fits (hr : right e len = true) (h : Sees e n len (fun k => stAt z (cacs e len) k) f) (hall : ∀ j, j < (tries e len).length → f j ≠ -1) {no c : Nat} {t : Tr} (ht : (tries e len)[no]? = some t) (hf : f no = (c : Int)) : fits n (stAt z (cacs e len) c) t.ac = true := by
  have hs := h no t ht
  unfold SeenAt at hs
  split at hs
  · split at hs
    · next h1 =>
      rw [hf] at hs
      have : c = before e t.en.toNat := by omega
      rw [this]
      exact h1.2
    · rw [hf] at hs; omega
  · split at hs
    · rcases hs with ⟨h1, _⟩ | ⟨p, h1, _, _, h4, _⟩
      · rw [hf] at h1; omega
      · rw [hf] at h1
        have : c = p := by omega
        rw [this]
        exact h4
    · rw [hf] at hs; omega

/-- Behind the first i of the order: c of them committed. -/
structure DoneI (xs : List It) (i c : Nat) : Prop where
  lt : ∀ (j : Nat) (a : It), j < i → xs[j]? = some a → a.c = true → a.p < (c : Int)
  ex : c = 0 ∨ ∃ (j : Nat) (a : It), j < i ∧ xs[j]? = some a ∧ a.c = true ∧ a.p = (c : Int) - 1
theorem DoneI.start (xs : List It) : DoneI xs 0 0 := ⟨fun j a hj => by omega, .inl rfl⟩
/-- One that committed for each count. -/
theorem commit_for (hr : right e len = true) (h : Sees e n len (fun k => stAt z (cacs e len) k) f) (hall : ∀ j, j < (tries e len).length → f j ≠ -1) (ho : Ordered (tries e len) f xs) {c : Nat} (hc : c < before e len) : ∃ (j : Nat) (a : It), xs[j]? = some a ∧ a.c = true ∧ a.p = (c : Int) := by
  obtain ⟨q, h1, h2, h3⟩ := before_at e len c hc
  obtain ⟨b, _, _, h4, h5, h6, _⟩ := commit_at e hr h1 h2
  obtain ⟨i, a, h7, h8⟩ := ho.all (List.getElem?_eq_some_iff.1 h4).1
  obtain ⟨_, a2, t, a3, a4⟩ := ho.get h7
  rw [h8, h4] at a3
  cases a3
  obtain ⟨q', _, _, q3, q4, _⟩ := commit_seen hr h hall h4 h5
  have : q' = q := by omega
  subst this
  exact ⟨i, a, h7, a4.trans h5, by rw [a2, h8, q3, h3]⟩
/-- The next one is seen just there. -/
theorem DoneI.at_ {i c : Nat} (d : DoneI xs i c) (hr : right e len = true) (h : Sees e n len (fun k => stAt z (cacs e len) k) f) (hall : ∀ j, j < (tries e len).length → f j ≠ -1) (ho : Ordered (tries e len) f xs) (hcl : c ≤ before e len) {a : It} (ha : xs[i]? = some a) : a.p = (c : Int) := by
  obtain ⟨a1, a2, t, a3, a4⟩ := ho.get ha
  have hw := seen_within hr h a3 (hall _ a1)
  have hge : (c : Int) ≤ a.p := by
    rcases d.ex with h0 | ⟨j, b, hj, hb, hbc, hbp⟩
    · have := hw.1
      rw [a2]
      omega
    · have hle := ho.le hj hb ha
      unfold It.le It.rk at hle
      rw [hbc, hbp] at hle
      cases hc : a.c with
      | false =>
        rw [hc] at hle
        simp at hle
        omega
      | true =>
        rw [hc] at hle
        simp only [if_true] at hle
        have hne : a.p ≠ (c : Int) - 1 := fun e1 => by
          obtain ⟨b1, b2, t', b3, b4⟩ := ho.get hb
          obtain ⟨q, q1, q2, q3, q4, _⟩ := commit_seen hr h hall a3 (a4 ▸ hc)
          obtain ⟨q', r1, r2, r3, r4, _⟩ := commit_seen hr h hall b3 (b4 ▸ hbc)
          have hcc := commits_order hr h hall ho hj hb ha b3 a3 (b4 ▸ hbc) (a4 ▸ hc)
          have h5 : before e (q' + 1) = before e q' + 1 := by rw [before, if_pos r2]
          have h6 := before_mono e (show q' + 1 ≤ q by omega)
          omega
        omega
  have hle : a.p ≤ (c : Int) := by
    by_cases hlt : c < before e len
    · obtain ⟨j, b, hb, hbc, hbp⟩ := commit_for hr h hall ho hlt
      by_cases hji : j < i
      · have := d.lt j b hji hb hbc
        omega
      · by_cases hj : j = i
        · subst hj
          rw [ha] at hb
          cases hb
          omega
        · have hle := ho.le (show i < j by omega) ha hb
          unfold It.le It.rk at hle
          rw [hbc, hbp] at hle
          simp only [if_true] at hle
          split at hle <;> omega
    · have h1 := hw.2.1
      have h2 := before_mono e hw.2.2.2.1
      rw [a2]
      omega
  omega
theorem DoneI.next {i c : Nat} (d : DoneI xs i c) {a : It} (ha : xs[i]? = some a) (hp : a.p = (c : Int)) : DoneI xs (i + 1) (if a.c = true then c + 1 else c) := by
  cases hc : a.c with
  | true =>
    rw [if_pos rfl]
    refine ⟨fun j b hj hb hbc => ?_, .inr ⟨i, a, by omega, ha, hc, by omega⟩⟩
    by_cases e1 : j = i
    · subst e1
      rw [ha] at hb
      cases hb
      omega
    · have := d.lt j b (by omega) hb hbc
      omega
  | false =>
    rw [if_neg (by simp)]
    refine ⟨fun j b hj hb hbc => ?_, d.ex.imp id fun ⟨j, b, hj, h⟩ => ⟨j, b, by omega, h⟩⟩
    by_cases e1 : j = i
    · subst e1
      rw [ha] at hb
      cases hb
      rw [hc] at hbc
      cases hbc
    · exact d.lt j b (by omega) hb hbc
/-- All are done: all that committed. -/
theorem DoneI.done {c : Nat} (d : DoneI xs xs.length c) (hr : right e len = true) (h : Sees e n len (fun k => stAt z (cacs e len) k) f) (hall : ∀ j, j < (tries e len).length → f j ≠ -1) (ho : Ordered (tries e len) f xs) (hcl : c ≤ before e len) : c = before e len := by
  by_cases hlt : c < before e len
  · obtain ⟨j, b, hb, hbc, hbp⟩ := commit_for hr h hall ho hlt
    have := d.lt j b (List.getElem?_eq_some_iff.1 hb).1 hb hbc
    omega
  · omega

/-- The order respects the time. -/
theorem order_time (hr : right e len = true) (h : Sees e n len (fun k => stAt z (cacs e len) k) f) (hall : ∀ j, j < (tries e len).length → f j ≠ -1) (ho : Ordered (tries e len) f xs) {i j : Nat} {a b : It} {ta tb : Tr} (ha : xs[i]? = some a) (hb : xs[j]? = some b) (hta : (tries e len)[a.no]? = some ta) (htb : (tries e len)[b.no]? = some tb) (h0 : 0 ≤ ta.en) (hlt : ta.en < tb.b) : i < j := by
  obtain ⟨a1, a2, t, a3, a4⟩ := ho.get ha
  rw [hta] at a3
  cases a3
  obtain ⟨b1, b2, t, b3, b4⟩ := ho.get hb
  rw [htb] at b3
  cases b3
  have wa := seen_within hr h hta (hall _ a1)
  have wb := seen_within hr h htb (hall _ b1)
  rcases tries_end hr hta with ⟨c, _⟩ | ⟨p, p1, p2, p3, p4, p5⟩
  · omega
  have ea : endOf len ta = p := by unfold endOf; rw [if_neg (by omega), p1]; rfl
  rw [ea] at wa
  have hm := before_mono e (show p ≤ tb.b.toNat by omega)
  have hno : a.no < b.no := by
    have hs := List.pairwise_iff_getElem.1 (tries_sorted e len)
    obtain ⟨x1, x2⟩ := List.getElem?_eq_some_iff.1 hta
    obtain ⟨y1, y2⟩ := List.getElem?_eq_some_iff.1 htb
    rcases Nat.lt_trichotomy a.no b.no with l | l | l
    · exact l
    · exfalso
      have : ta = tb := by rw [← x2, ← y2]; simp only [l]
      subst this
      omega
    · have := hs b.no a.no y1 x1 l
      rw [x2, y2] at this
      omega
  have hle : a.rk < b.rk ∨ a.rk = b.rk := by
    unfold It.rk
    rw [a4, b4, a2, b2]
    cases hc : ta.co with
    | true =>
      have h1 := wa.2.2.1 hc
      have h5 : before e (p + 1) = before e p + 1 := by rw [before, if_pos (p5.1 hc)]
      have h6 := before_mono e (show p + 1 ≤ tb.b.toNat by omega)
      simp only [if_true]
      split <;> omega
    | false =>
      simp only [Bool.false_eq_true, if_false]
      split <;> omega
  rcases Nat.lt_trichotomy i j with l | l | l
  · exact l
  · exfalso
    subst l
    rw [ha] at hb
    cases hb
    omega
  · exfalso
    have := ho.le l hb ha
    unfold It.le at this
    omega
end
end Go.Proofs.Ytkidkhjpijjphaa.oq
