/- The states of a trace, one by one: model's function that is ranged over. -/
import Derived.RangeFuncNested
import Derived.RangeFuncCalls
import Derived.RangeFuncLeaves
import Derived.Shelf.Abstract
import Derived.Shelf.RegionOpen
import Derived.OwnWalkIn
import Derived.TacticsInMore
import Derived.LoopNIn
import Derived.LoopIn
import Derived.RegionIn
import Derived.Test.YtdohepenmejcaaaMa
import Derived.Test.YtdohepenmejcaaaHc
import Derived.Test.YtdohepenmejcaaaHmR
namespace Go.Proofs.Ytdohepenmejcaaa.md
open Go Go.RowKit Go.Proofs.Ytdohepenmejcaaa.base Go.Proofs.Ytdohepenmejcaaa.hs Go.Proofs.Ytdohepenmejcaaa.lg Go.Maps
set_option linter.unusedVariables false
set_option maxRecDepth 100000
attribute [local go_sem] Oper.semAt_some

/-- The accesses of the tries that committed, in the order of their ends; of a trace that isn't right none. -/
def cacs (e : Evs) (len : Nat) : List (List Acc) := if right e len = true then (commsD e len).map Tr.ac else []

theorem tries_n' (e : Evs) (n : Nat) : (tries e n).length ≤ n := by
  unfold tries begins
  rw [List.length_map]
  refine Nat.le_trans (List.length_filter_le _ _) ?_
  rw [List.length_range]
  exact Nat.le_refl _

theorem commits_any (w : World) (a : Option Addr) (len cap : Nat) (e : Evs) (hl : IsEvs w a len e) (hlen : len ≤ 10000) :
    Calls Try.prog 32 #[.slice a len cap] w fun r w' => ∃ a' c ys, r = .returned (.slice a' ys.length c) ∧ Hid (IsTries w' a' ys) ∧ Hid (ys.map (fun x => x.1.ac) = cacs e len) ∧ Hid (w.grownBy w' none) ∧ Hid (NewT w.heap.size a' ys) ∧ Hid (ys.length ≤ len) ∧ Hid (∀ x ∈ ys, x.1.ac.length ≤ len) ∧ Hid (right e len = true → ys.map Prod.fst = commsD e len) := by
  cases hr : right e len with
  | true =>
    refine (commits_new w a len cap e hl hr hlen).mono ?_
    rintro r w' ⟨a', c, ys, rfl, h1, h2, h3, h4, h5⟩
    have E := sorted_one Tr.en (h2.out.trans (commsD_perm e hr).symm) (commsD_sorted e hr) (h3.out.imp fun h => by omega)
    have hm : ∀ x ∈ ys, x.1 ∈ tries e len := fun x hx => (List.mem_filter.1 (h2.out.mem_iff.1 (List.mem_map_of_mem hx))).1
    refine ⟨a', c, ys, rfl, h1, ?_, h4, h5, ?_, fun x hx => ?_, fun _ => E⟩
    · show _ = _
      unfold cacs
      rw [if_pos hr, ← E, List.map_map]
      rfl
    · show _ ≤ _
      have h9 := h2.out.length_eq
      rw [List.length_map] at h9
      have h8 := List.length_filter_le (fun t : Tr => t.co) (tries e len)
      have h7 := tries_n' e len
      omega
    · have h8 := hm x hx
      unfold tries at h8
      obtain ⟨b, _, hb⟩ := List.mem_map.1 h8
      rw [← hb]
      exact trAt_ac e b len
  | false =>
    refine (commits_wrong w a len cap e hl hr hlen).mono ?_
    rintro r w' ⟨rfl, h4⟩
    refine ⟨none, 0, [], rfl, ⟨.inl rfl, by simp⟩, ?_, h4, ⟨fun b off h => (by cases h), by simp⟩, Nat.zero_le _, (by intro x hx; simp at hx), fun h => (by cases h)⟩
    show _ = _
    unfold cacs
    rw [if_neg (by rw [hr]; simp)]
    rfl

theorem tries_keep {w w' : World} {a : Option Addr} {ys : List (Tr × Value)} (h : IsTries w a ys) (ht : ys ≠ [] → ∀ b, a = some ⟨b, 0, none⟩ → w'.heap[b]? = w.heap[b]?) (ha : ∀ x ∈ ys, ∀ k, x.2.ownBlock = some k → w'.heap[k]? = w.heap[k]?) (hs : w.heap.size ≤ w'.heap.size) : IsTries w' a ys := by
  refine ⟨?_, fun x hx => ownsRow_keep (h.2 x hx) (ha x hx)⟩
  by_cases hne : ys = []
  · exact .inl hne
  · rcases h.1 with h1 | ⟨g, h1, h2, h3⟩
    · exact .inl h1
    · exact .inr ⟨g, h1, by omega, fun i x hx j u hu => (World.cell?_of_block (ht hne g h1)).trans (h3 i x hx j u hu)⟩
/-- A try in its cells. -/
theorem try9 {w : World} {a : Option Addr} {ys : List (Tr × Value)} (h : IsTries w a ys) {i : Nat} {x : Tr × Value} (hx : ys[i]? = some x) : ∃ g va vc, a = some ⟨g, 0, none⟩ ∧ g < w.heap.size ∧ x.2 = .slice va x.1.ac.length vc ∧
    w.cell? ⟨g, i * 9, none⟩ = some (.int .i64 x.1.th) ∧ w.cell? ⟨g, i * 9 + 1, none⟩ = some (.int .i64 x.1.tx) ∧ w.cell? ⟨g, i * 9 + 2, none⟩ = some (.int .i64 x.1.at_) ∧ w.cell? ⟨g, i * 9 + 3, none⟩ = some (.int .i64 x.1.st) ∧ w.cell? ⟨g, i * 9 + 4, none⟩ = some (.int .i64 x.1.b) ∧ w.cell? ⟨g, i * 9 + 5, none⟩ = some (.int .i64 x.1.en) ∧ w.cell? ⟨g, i * 9 + 6, none⟩ = some (.int .i64 x.1.re) ∧ w.cell? ⟨g, i * 9 + 7, none⟩ = some (.bool x.1.co) ∧ w.cell? ⟨g, i * 9 + 8, none⟩ = some (.slice va x.1.ac.length vc) := by
  obtain ⟨h1, h2⟩ := h
  obtain ⟨va, vc, hv⟩ := owns_slice (h2 x (List.mem_of_getElem? hx))
  rcases h1 with rfl | ⟨g, rfl, hg, hc⟩
  · simp at hx
  · exact ⟨g, va, vc, rfl, hg, hv, hc i x hx 0 _ rfl, hc i x hx 1 _ rfl, hc i x hx 2 _ rfl, hc i x hx 3 _ rfl, hc i x hx 4 _ rfl, hc i x hx 5 _ rfl, hc i x hx 6 _ rfl, hc i x hx 7 _ rfl, by rw [← hv]; exact hc i x hx 8 _ rfl⟩

def FirmV (J : List Value → World → (Nat → Prop) → Prop) : Prop := ∀ pre W W' Fc, J pre W Fc → (∀ k, Fc k → W'.heap[k]? = W.heap[k]?) → J pre W' Fc

/-- Wherever J has seen so many states, all in one list, it takes one more, and gives word. -/
def TakesV (m l n : Nat) (st : Nat → Nat → Int) (J : List Value → World → (Nat → Prop) → Prop) : Prop :=
  ∀ (pre : List Value) (a : Option Addr) (c : Nat) (W : World) (Fc : Nat → Prop), J pre W Fc → (∀ x ∈ pre, x = .slice a n c) → W.ownsRow 0 2 1 (.slice a n c) n (vals (st pre.length) n) → (∀ k, (Value.slice a n c).ownBlock = some k → ¬ Fc k) → (∀ k, Fc k → k < W.heap.size) → pre.length < 100000 →
    YieldAt Fence.wide m Try.prog l #[.slice a n c] W fun e W' => e = .returned (.bool true) ∧ ∃ Fc', J (pre ++ [.slice a n c]) W' Fc' ∧ (∀ k, Fc' k → Fc k ∨ (W.heap.size ≤ k ∧ k < W'.heap.size)) ∧ Only Fc W W'

/-- At the head of a round. -/
structure RelS (w0 : World) (n c : Nat) (a ta : Option Addr) (z : Nat → Int) (cs : List (List Acc)) (ys : List (Tr × Value)) (J : List Value → World → (Nat → Prop) → Prop) (k : Nat) (wr : World) (xs : List Value) (Fc : Nat → Prop) : Prop where
  j : J xs wr Fc
  len : xs.length = k + 1
  all : ∀ x ∈ xs, x = .slice a n c
  row : wr.ownsRow 0 2 1 (.slice a n c) n (vals (stAt z cs k) n)
  tr : IsTries wr ta ys
  fr : ∀ i, (Value.slice a n c).ownBlock = some i → ¬ Fc i ∧ w0.heap.size ≤ i
  ft : ys ≠ [] → ∀ b, ta = some ⟨b, 0, none⟩ → ¬ Fc b
  rt : ys ≠ [] → ∀ b, ta = some ⟨b, 0, none⟩ → (Value.slice a n c).ownBlock ≠ some b
  fa : ∀ x ∈ ys, ∀ i, x.2.ownBlock = some i → ¬ Fc i
  fc : ∀ i, Fc i → w0.heap.size ≤ i ∧ i < wr.heap.size
  bel : Below w0.heap.size w0 wr

section
variable {w0 wr u u' : World} {n c k : Nat} {a ta : Option Addr} {z : Nat → Int} {cs : List (List Acc)} {ys : List (Tr × Value)} {J : List Value → World → (Nat → Prop) → Prop} {xs : List Value} {Fc Fc' : Nat → Prop}
theorem tries_lt (h : IsTries wr ta ys) (hne : ys ≠ []) {b : Nat} (hb : ta = some ⟨b, 0, none⟩) : b < wr.heap.size := by
  rcases h.1 with h1 | ⟨g, h1, h2, _⟩
  · exact absurd h1 hne
  · rw [hb] at h1
    cases h1
    exact h2
theorem RelS.grown (h : RelS w0 n c a ta z cs ys J k wr xs Fc) (firm : FirmV J) (g : wr.grownBy u none) : RelS w0 n c a ta z cs ys J k u xs Fc :=
  ⟨firm _ _ _ _ h.j (fun i hi => g.block i (h.fc i hi).2 (by simp)), h.len, h.all, ownsRow_keep h.row (fun i e => g.block i (h.row.lt i e).2 (by simp)), h.tr.grown g, h.fr, h.ft, h.rt, h.fa, fun i hi => ⟨(h.fc i hi).1, Nat.lt_of_lt_of_le (h.fc i hi).2 g.size⟩, bl_none h.bel g⟩
/-- The list of values was changed, and J has taken it. -/
theorem RelS.next (h : RelS w0 n c a ta z cs ys J k wr xs Fc) (firm : FirmV J) (g : wr.grownBy u (Value.slice a n c).ownBlock) (hr : u.ownsRow 0 2 1 (.slice a n c) n (vals (stAt z cs (k + 1)) n)) (hJ : J (xs ++ [.slice a n c]) u' Fc') (hF : ∀ i, Fc' i → Fc i ∨ (u.heap.size ≤ i ∧ i < u'.heap.size)) (hO : Only Fc u u') :
    RelS w0 n c a ta z cs ys J (k + 1) u' (xs ++ [.slice a n c]) Fc' := by
  have hne : ∀ i, i < wr.heap.size → (Value.slice a n c).ownBlock ≠ some i → ¬ Fc i → u'.heap[i]? = wr.heap[i]? := fun i h1 h2 h3 => (hO.block i (Nat.lt_of_lt_of_le h1 g.size) h3).trans (g.block i h1 (fun e => h2 e.symm))
  have hdif : ∀ x ∈ ys, ∀ i, x.2.ownBlock = some i → (Value.slice a n c).ownBlock ≠ some i := fun x hx i e e2 => by
    obtain ⟨ds, hd⟩ := ownsRow_type (h.tr.2 x hx) e
    obtain ⟨es, he⟩ := ownsRow_type h.row e2
    rw [hd] at he
    injection he with he
    injection he with _ he
    exact absurd he (by decide)
  refine ⟨hJ, by rw [List.length_append, h.len]; rfl, fun x hx => ?_, ownsRow_keep hr (fun i e => hO.block i (hr.lt i e).2 (h.fr i e).1), tries_keep h.tr (fun hn b hb => hne b (tries_lt h.tr hn hb) (h.rt hn b hb) (h.ft hn b hb)) (fun x hx i e => hne i ((h.tr.2 x hx).lt i e).2 (hdif x hx i e) (h.fa x hx i e)) (Nat.le_trans g.size hO.size), fun i e => ⟨fun hf => ?_, (h.fr i e).2⟩, fun hn b hb hf => ?_, h.rt, fun x hx i e hf => ?_, fun i hi => ?_, ?_⟩
  · rcases List.mem_append.1 hx with hx | hx
    · exact h.all x hx
    · simpa using hx
  · rcases hF i hf with h1 | h1
    · exact (h.fr i e).1 h1
    · have := (hr.lt i e).2; omega
  · rcases hF b hf with h1 | h1
    · exact h.ft hn b hb h1
    · have := tries_lt h.tr hn hb; have := g.size; omega
  · rcases hF i hf with h1 | h1
    · exact h.fa x hx i e h1
    · have := ((h.tr.2 x hx).lt i e).2; have := g.size; omega
  · rcases hF i hi with h1 | h1
    · exact ⟨(h.fc i h1).1, Nat.lt_of_lt_of_le (h.fc i h1).2 (Nat.le_trans g.size hO.size)⟩
    · exact ⟨Nat.le_trans h.bel.size (Nat.le_trans g.size h1.1), h1.2⟩
  · exact hO.below (h.bel.grown g h.bel.size (fun i hi => (h.fr i hi).2)) (Nat.le_trans h.bel.size g.size) (fun i hi => (h.fc i hi).1)
end

theorem row_ne {w : World} {b1 b2 : Nat} {E1 E2 : TypeId} {s1 s2 n1 n2 : Nat} {v1 v2 : Value} {x1 x2 : List Value} (h1 : w.ownsRow b1 E1 s1 v1 n1 x1) (h2 : w.ownsRow b2 E2 s2 v2 n2 x2) (hne : E1 ≠ E2) : ∀ k, v1.ownBlock = some k → v2.ownBlock ≠ some k := fun k e e2 => by
  obtain ⟨cs, hc⟩ := ownsRow_type h1 e
  obtain ⟨ds, hd⟩ := ownsRow_type h2 e2
  rw [hc] at hd
  injection hd with hd
  injection hd with _ hd
  exact hne hd

set_option maxHeartbeats 4000000 in
theorem states_in (m : Nat) (hm : 1 ≤ m) (l : Nat) (a1 : Option Addr) (n c1 : Nat) (z : Nat → Int) (a2 : Option Addr) (len cap : Nat) (e : Evs) (bf bl : Nat) (J : List Value → World → (Nat → Prop) → Prop) (firm : FirmV J)
    (hY : TakesV (m - 1) l n (stAt z (cacs e len)) J) (w0 W : World) (hZ : IsNums .i64 w0 a1 n z) (hL : IsEvs w0 a2 len e) (hn : n ≤ 1000000) (hlen : len ≤ 10000) (hbf : Blk 22 W bf #[.slice a1 n c1]) (hbl : Blk 23 W bl #[.slice a2 len cap])
    (Fc0 : Nat → Prop) (h0 : J [] W Fc0) (hfl : ¬ Fc0 bl) (hF0 : ∀ k, Fc0 k → w0.heap.size ≤ k ∧ k < W.heap.size) (hB : Below w0.heap.size w0 W) :
    CallsIn Fence.wide m Try.prog 43 #[.func (.yield l) #[] #[], .pointer (some ⟨bf, 0, none⟩), .pointer (some ⟨bl, 0, none⟩)] W fun r W' => r = .returned (.tuple #[]) ∧ ∃ xs Fc a c, J xs W' Fc ∧ xs.length = (cacs e len).length + 1 ∧ (∀ x ∈ xs, x = .slice a n c) ∧ W'.ownsRow 0 2 1 (.slice a n c) n (vals (stAt z (cacs e len) (cacs e len).length) n) ∧ (∀ i, (Value.slice a n c).ownBlock = some i → ¬ Fc i ∧ w0.heap.size ≤ i) ∧ (∀ k, Fc k → w0.heap.size ≤ k ∧ k < W'.heap.size) ∧ Below w0.heap.size w0 W' := by
  have HZ := Lib.hid hZ
  have HL := Lib.hid hL
  have HBL := Lib.hid hbl
  have FIRM := Lib.hid firm
  have HY := Lib.hid hY
  have HJ := Lib.hid h0
  have HFL := Lib.hid hfl
  have HF0 := Lib.hid hF0
  have HB := Lib.hid hB
  have b1 : W.cell? ⟨bf, 0, none⟩ = some (.slice a1 n c1) := hbf.cell 0
  have lt1 := hbf.lt
  have lt2 := hbl.lt
  clear hZ hL hbf hbl firm hY h0 hfl hF0 hB
  refine callsIn_of_wp Try.func43 rfl trivial ?_ rfl
  simp only [Try.ntmps43, List.size_toArray, List.length_cons, List.length_nil, Nat.reduceAdd, Nat.reduceSub, Array.replicate_succ, Array.replicate_zero, List.push_toArray, List.append_toArray, List.nil_append, List.cons_append]
  gi_wp2_with (first | (refine ⟨trivial, ?_⟩; gi_at_call 28; refine (callsIn_wide.2 (copied_any a1 n c1 z _ ((HZ.out.below HB.out)) hn)).mono ?_; rintro r u1 ⟨a, c, rfl, hr, g1⟩; have HR := Lib.hid hr; have G1 := Lib.hid g1.out; clear hr g1; obtain ⟨fn, tmps, assign, body, hy, hRd⟩ := HY.out [] a c u1 Fc0 (FIRM.out _ _ _ _ HJ.out (fun k hk => G1.out.block k (HF0.out k hk).2 (by simp))) (by simp) (ownsRow_drop HR.out (Nat.zero_le _)) (fun k e hf => by have h1 := (HR.out.lt k e).1; have h2 := (HF0.out k hf).2; omega) (fun k hk => Nat.lt_of_lt_of_le (HF0.out k hk).2 G1.out.size) (by simp); have hy' : (Instr.yield l #[.slice a n c]).run Try.prog u1 = .ok (.round l fn tmps assign body) u1 := hy; have RD := Lib.hid hRd; clear hy hRd) | gi_in)
  refine RD.out.mono ?_
  rintro e3 u2 ⟨rfl, Fc1, hJ, hF, hO⟩
  have HJ1 := Lib.hid hJ
  have HF1 := Lib.hid hF
  have HO1 := Lib.hid hO
  clear hJ hF hO RD
  have hs1 : W.heap.size ≤ u1.heap.size := G1.out.size
  have hs2 : u1.heap.size ≤ u2.heap.size := HO1.out.size
  have BL2 := Lib.hid (HBL.out.keep ((HO1.out.block bl (by omega) HFL.out).trans (G1.out.block bl lt2 (by simp))))
  have l2 : u2.cell? ⟨bl, 0, none⟩ = some (.slice a2 len cap) := BL2.out.cell 0
  have HB2 : Hid (Below w0.heap.size w0 u2) := Lib.hid (HO1.out.below (bl_none HB.out G1.out) (Nat.le_trans HB.out.size hs1) (fun i hi => (HF0.out i hi).1))
  gi_wp2_with (first | (refine ⟨trivial, ?_⟩; gi_at_call 32; refine (callsIn_wide.2 (commits_any u2 a2 len cap e (HL.out.below HB2.out (Nat.le_refl _)) hlen)).mono ?_; rintro r u3 ⟨ta, tc, ys, rfl, h1, h2, h3, h4, h5, h6, _⟩) | gi_in)
  have hyl : ys.length ≤ 10000 := by have := h5.out; omega
  have HCL := Lib.hid (show (cacs e len).length = ys.length by rw [← h2.out, List.length_map])
  have R0 : RelS w0 n c a ta z (cacs e len) ys J 0 u3 [.slice a n c] Fc1 := by
    have hfc : ∀ i, Fc1 i → w0.heap.size ≤ i ∧ i < u2.heap.size := fun i hi => by
      rcases HF1.out i hi with h | h
      · have := HF0.out i h; omega
      · have := HB.out.size; omega
    refine ⟨FIRM.out _ _ _ _ HJ1.out (fun k hk => h3.out.block k (hfc k hk).2 (by simp)), rfl, by simp, ownsRow_keep (ownsRow_drop HR.out (Nat.zero_le _)) (fun k e => ?_), h1.out, fun i e => ⟨fun hf => ?_, ?_⟩, fun hne b hb hf => ?_, fun hne b hb e => ?_, fun x hx i e hf => ?_, fun i hi => ⟨(hfc i hi).1, Nat.lt_of_lt_of_le (hfc i hi).2 h3.out.size⟩, bl_none HB2.out h3.out⟩
    · have h8 := HR.out.lt k e
      exact (h3.out.block k (by omega) (by simp)).trans (HO1.out.block k h8.2 (fun hf => by have := HF0.out k hf; omega))
    · have h8 := HR.out.lt i e
      rcases HF1.out i hf with h | h
      · have := HF0.out i h; omega
      · omega
    · have h8 := HR.out.lt i e
      have := HB.out.size
      omega
    · have h8 := h4.out.1 b 0 hb
      have := hfc b hf
      omega
    · have h8 := h4.out.1 b 0 hb
      have h9 := HR.out.lt b e
      omega
    · have h8 := h4.out.2 x hx i e
      have := hfc i hf
      omega
  have HR0 := Lib.hid R0
  have HAC := Lib.hid h6.out
  have HMAP := Lib.hid h2.out
  clear R0 HJ1 HF1 HO1 BL2 HB2 h1 h2 h3 h4 h6 HR G1 HBL HF0 HB HJ HFL b1 l2
  gi_loopw [16] (fun iv wr => ∃ (k : Nat) (xs : List Value) (Fc : Nat → Prop), k ≤ ys.length ∧ iv = .int .i64 k ∧ Hid (RelS w0 n c a ta z (cacs e len) ys J k wr xs Fc)) (fun iv _ => (ys.length - intOf iv).toNat)
  case atStart => exact ⟨0, _, _, by omega, rfl, HR0⟩
  case round =>
    obtain ⟨k, xs, Fc, hk, rfl, RR⟩ := hrel
    clear HR0
    by_cases hlt : k < ys.length
    · have hlt' : (k : Int) < (ys.length : Int) := by omega
      have hk6 : (k : Int) < 1000000 := by omega
      have hget := List.getElem?_eq_getElem hlt
      have hmem : ys[k] ∈ ys := List.getElem_mem hlt
      obtain ⟨g, va, vc, rfl, hg, hv, d0, d1, d2, d3, d4, d5, d6, d7, d8⟩ := try9 RR.out.tr hget
      have hcs : (cacs e len)[k]? = some ys[k].1.ac := by rw [← HMAP.out, List.getElem?_map, hget]; rfl
      have hrow := RR.out.tr.2 ys[k] hmem
      have hal := HAC.out ys[k] hmem
      have ST := Lib.hid (stAt_step z hcs)
      rw [hv] at hrow
      generalize ys[k].1 = t at *
      have HROW := Lib.hid hrow
      clear hget hmem hcs hv hrow
      have RR1 := Lib.hid (RR.out.grown FIRM.out (World.grownBy_alloc wr (.cells #[.int .i64 t.th, .int .i64 t.tx, .int .i64 t.at_, .int .i64 t.st, .int .i64 t.b, .int .i64 t.en, .int .i64 t.re, .bool t.co, .slice va t.ac.length vc] 33) none))
      have TB := Lib.hid (Blk.made wr 33 #[.int .i64 t.th, .int .i64 t.tx, .int .i64 t.at_, .int .i64 t.st, .int .i64 t.b, .int .i64 t.en, .int .i64 t.re, .bool t.co, .slice va t.ac.length vc])
      have HROW1 := Lib.hid (HROW.out.alloc (.cells #[.int .i64 t.th, .int .i64 t.tx, .int .i64 t.at_, .int .i64 t.st, .int .i64 t.b, .int .i64 t.en, .int .i64 t.re, .bool t.co, .slice va t.ac.length vc] 33))
      have HAP := Lib.hid (show t.ac ≠ [] → ∀ b off gg, va = some ⟨b, off, none⟩ → a = some ⟨gg, 0, none⟩ → b ≠ gg from fun _ b off gg e1 e2 e3 => row_ne HROW1.out RR1.out.row (by decide) b (by rw [e1]; rfl) (by rw [e2, e3]; rfl))
      clear RR HROW
      gi_wp2_with (first | (refine ⟨trivial, ?_⟩; gi_at_call 29; refine (callsIn_wide.2 (change_any 0 a n c (stAt z (cacs e len) k) t va vc _ RR1.out.row (IsL.of_own HROW1.out accC_len rfl) HAP.out hn (by omega))).mono ?_; rintro r u2 ⟨rfl, hr2, g2⟩; have HR2 := Lib.hid (show u2.ownsRow 0 2 1 (.slice a n c) n (vals (stAt z (cacs e len) (k + 1)) n) by rw [ST.out]; exact hr2.out); obtain ⟨fn, tmps, assign, body, hy, hRd⟩ := HY.out xs a c u2 Fc (FIRM.out _ _ _ _ RR1.out.j (fun k hk => g2.out.block k (RR1.out.fc k hk).2 (fun e => (RR1.out.fr k e.symm).1 hk))) RR1.out.all (by rw [RR1.out.len]; exact HR2.out) (fun k e => (RR1.out.fr k e).1) (fun k hk => Nat.lt_of_lt_of_le (RR1.out.fc k hk).2 g2.out.size) (by have := RR1.out.len; omega); have hy' : (Instr.yield l #[.slice a n c]).run Try.prog u2 = .ok (.round l fn tmps assign body) u2 := hy; have RD := Lib.hid hRd; have G2 := Lib.hid g2.out; clear hy hRd hr2 g2) | gi_in)
      refine RD.out.mono ?_
      rintro e3 u3 ⟨rfl, Fc', hJ, hF, hO⟩
      have QQ := Lib.hid (RR1.out.next FIRM.out G2.out HR2.out hJ hF hO)
      clear hJ hF hO RD RR1 G2 HR2
      gi_wp2
      go_roundw
      case rel => exact ⟨k + 1, _, _, by omega, by go_num, QQ⟩
      case measure => simp [intOf]; omega
    · obtain rfl : k = ys.length := by omega
      gi_wp2
      go_end0
      exact ⟨rfl, xs, Fc, a, c, RR.out.j, by rw [HCL.out]; exact RR.out.len, RR.out.all, by rw [HCL.out]; exact RR.out.row, RR.out.fr, RR.out.fc, RR.out.bel⟩
end Go.Proofs.Ytdohepenmejcaaa.md
