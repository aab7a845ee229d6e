/- Texts of one's own, one behind the other: Hi, Rf, HrM, HrB, HrC, Ht, Hs, HtW, Hc, Hb, Mm, App, Lang, LangB, Crs, Ma, Mi, Rr, Ms, Ml, Mv, Hp, Hq, Op. -/
import Derived.Test.YtkidkhjpijjphaaProg
import Derived.Test.YtkidkhjpijjphaaPk1
import Derived.RangeFuncNested
import Derived.RangeFuncCalls
import Derived.RangeFuncLeaves
import Derived.Shelf.Abstract
import Derived.Shelf.RegionOpen
import Derived.OwnWalkIn
import Derived.TacticsInMore
import Derived.LoopNIn
import Derived.LoopIn
import Derived.RegionIn
import Derived.Maps.RangeWalk
import Derived.WalkKit
import Derived.Maps.OwnIn
import Derived.IntWalk
import Derived.Maps.AppendAt
import Derived.Shelf.SlSortCmp.WholeK
import Derived.Shelf.SlSortCmp.NoneTotal
import Derived.Shelf.SlicesG.Cmp
import Derived.Shelf.AbstractIn
import Derived.Deep.RegionLaw
import Derived.BigQuiet
import Derived.Deep.QuietTactic
import Derived.Deep.CutRange
import Derived.Deep.DeepCutAuto
import Derived.Laws.StructEq
import Derived.Laws.Tables
import Derived.Deep.OwnRows
import Derived.OrdersIn
/- The tries of a trace, one behind the other: hist's function that is ranged over. -/
namespace Go.Proofs.Ytkidkhjpijjphaa.hs
open Go Go.RowKit Go.Proofs.Ytkidkhjpijjphaa.base Go.Maps
set_option linter.unusedVariables false
set_option maxRecDepth 100000
attribute [local go_sem] Oper.semAt_some

/-- Wherever J has seen the tries of pre, it takes one more, whose accesses lie apart, and gives word. -/
def Takes (m l : Nat) (J : List (Tr × Value) → World → (Nat → Prop) → Prop) : Prop :=
  ∀ (pre : List (Tr × Value)) (t : Tr) (v : Value) (W : World) (Fc G : Nat → Prop), J pre W Fc → W.ownsRow 0 48 6 v t.ac.length (rows accC t.ac) → (∀ k, v.ownBlock = some k → G k) → (∀ k, Fc k → ¬ G k) → (∀ k, G k → k < W.heap.size) → (∀ k, Fc k → k < W.heap.size) → t.ac.length ≤ 100000 → pre.length < 100000 →
    YieldAt Fence.wide m Try.prog l #[.agg ⟨trC t v⟩] W fun e W' => e = .returned (.bool true) ∧ ∃ Fc', J (pre ++ [(t, v)]) W' Fc' ∧ (∀ k, Fc' k → Fc k ∨ G k ∨ (W.heap.size ≤ k ∧ k < W'.heap.size)) ∧ Only Fc W W'

theorem ended_len (e : Evs) : ∀ n, (ended e n).length ≤ n
  | 0 => by simp [ended]
  | n + 1 => by
    have := ended_len e n
    unfold ended
    cases opn e n (e n).th with
    | none => simp; omega
    | some b => dsimp only; split <;> simp <;> omega
theorem trAt_ac (e : Evs) (b : Nat) : ∀ n, (trAt e b n).ac.length ≤ n
  | 0 => by simp [trAt, init]
  | n + 1 => by
    have := trAt_ac e b n
    unfold trAt
    split
    · unfold base.stepT
      repeat' split
      all_goals simp [relAll] <;> omega
    · omega
theorem zeroP (w : World) : (zeroValue 124).run Try.prog w = .ok (.pointer none) w := by kernel_rfl

set_option maxHeartbeats 4000000 in
theorem tries_in (n : Nat) (hn : 1 ≤ n) (l : Nat) (a : Option Addr) (len cap : Nat) (e : Evs) (J : List (Tr × Value) → World → (Nat → Prop) → Prop) (firm : Firm2 J)
    (hY : Takes (n - 1) l J) (w0 W : World) (hL : IsEvs w0 a len e) (hr : right e len = true) (hlen : len ≤ 10000) (Fc0 : Nat → Prop) (h0 : J [] W Fc0) (hF0 : ∀ k, Fc0 k → w0.heap.size ≤ k ∧ k < W.heap.size) (hB : Below w0.heap.size w0 W) :
    CallsIn Fence.wide n Try.prog 49 #[.slice a len cap, .func (.yield l) #[] #[]] W fun r W' => r = .returned (.tuple #[]) ∧ ∃ xs Fc rest, J xs W' Fc ∧ (∀ k, Fc k → w0.heap.size ≤ k ∧ k < W'.heap.size) ∧ Below w0.heap.size w0 W' ∧
      rest.Nodup ∧ (∀ b, b ∈ rest ↔ ∃ th, opn e len th = some b) ∧ xs.map Prod.fst = (ended e len ++ rest).map (fun b => trAt e b len) := by
  have hmm := @run_makeMap Try.prog
  refine callsIn_of_wp Try.func49 rfl trivial ?_ rfl
  simp only [Try.ntmps49, List.size_toArray, List.length_cons, List.length_nil, Nat.reduceAdd, Nat.reduceSub, Array.replicate_succ, Array.replicate_zero, List.push_toArray, List.append_toArray, List.nil_append, List.cons_append]
  gi_wp2
  have R0 : Rel1 w0 W.heap.size len e J 0 (W.alloc (.map #[] 0)) (fun _ => none) (fun _ _ => False) Fc0 [] := by
    refine ⟨⟨(MapG.made W Try.prog 3 (Value.int .i64)).congr (fun _ _ _ => rfl), by simp, by simp, by simp, hB.size⟩, fun th => rfl, firm _ _ _ _ h0 (fun k hk => Below.heap_alloc W _ k (hF0 k hk).2), rfl, fun k hk h => ?_, fun k hk => ⟨(hF0 k hk).1, by have := (hF0 k hk).2; simp; omega⟩, bl_none hB (World.grownBy_alloc W _ none)⟩
    rcases h with h | ⟨_, h, _⟩
    · have := (hF0 k hk).2
      omega
    · exact h rfl
  have HR0 := Lib.hid R0
  have HL := Lib.hid hL
  have HRT := Lib.hid hr
  have HLEN := Lib.hid hlen
  have FIRM := Lib.hid firm
  have HY := Lib.hid hY
  have HBS := Lib.hid (show w0.heap.size ≤ W.heap.size from hB.size)
  clear R0 hL hr h0 hF0 hB firm hY
  gi_loopw [14] (fun iv wr => ∃ (i : Nat) (G : Int → Option (Nat × Tr)) (Fo : Int → Nat → Prop) (Fc : Nat → Prop) (xs : List (Tr × Value)), i ≤ len ∧ iv = .int .i64 i ∧ Hid (Rel1 w0 W.heap.size len e J i wr G Fo Fc xs)) (fun iv _ => (len - intOf iv).toNat)
  case atStart => exact ⟨0, _, _, _, _, by omega, rfl, HR0⟩
  case round =>
    obtain ⟨i, G, Fo, Fc, xs, hi, rfl, HR⟩ := hrel
    by_cases hlt : i < len
    · have hlt' : (i : Int) < (len : Int) := by omega
      have hin : (i : Int) < 10000 := by have := HLEN.out; omega
      obtain ⟨b0, off, rfl, hb0, c0, c1, c2, c3, c4, c5, c6, we⟩ := (HL.out.below HR.out.2.2.2.2.2.2 (Nat.le_refl _)).at7 hlt
      have WE := Lib.hid we
      have hmay := right_may e HRT.out hlt
      have hxl : xs.length ≤ i := by
        have := congrArg List.length HR.out.2.2.2.1
        rw [List.length_map, List.length_map] at this
        rw [this]
        exact ended_len e i
      cases ho : opn e i (e i).th with
      | none =>
        have HG := Lib.hid (G_no HR.out ho)
        unfold may at hmay
        rw [ho] at hmay
        by_cases h1 : (e i).k = 1
        · have HR1 := Lib.hid (HR.out.grown FIRM.out (World.grownBy_alloc wr (.cells #[.int .i64 1, .int .i64 ((e i).th), .int .i64 ((e i).tx), .int .i64 ((e i).at_), .int .i64 ((e i).ob), .int .i64 ((e i).va), .int .i64 ((e i).re)] 51) none))
          have EB := Lib.hid (Blk.made wr 51 #[.int .i64 1, .int .i64 ((e i).th), .int .i64 ((e i).tx), .int .i64 ((e i).at_), .int .i64 ((e i).ob), .int .i64 ((e i).va), .int .i64 ((e i).re)])
          rw [h1] at c0
          have H1 := Lib.hid h1
          have HO := Lib.hid ho
          clear hmay h1 ho we HR
          have RO1 := Lib.hid HR1.out.1
          gi_wp2_with (first | (gi_at_lookup; refine wpListIn_look_mapG rfl _ _ 123 rfl 3 124 kInt Try.underlying123 _ (zeroP _) (Value.int .i64) W.heap.size i (fun th => (G th).map ptrV) rfl RO1.out.map (e i).th _ rfl (keyInt WE.out.th) (.pointer none) false (by rw [HG.out]; rfl) (by rw [HG.out]; rfl) ?_) | gi_in)
          generalize wr.alloc _ = v1 at *
          have e1 : v1.cell? ⟨wr.heap.size, 1, none⟩ = some (.int .i64 (e i).th) := EB.out.cell 1
          have e0 : v1.cell? ⟨wr.heap.size, 0, none⟩ = some (.int .i64 1) := EB.out.cell 0
          have e2 : v1.cell? ⟨wr.heap.size, 2, none⟩ = some (.int .i64 (e i).tx) := EB.out.cell 2
          have e3 : v1.cell? ⟨wr.heap.size, 3, none⟩ = some (.int .i64 (e i).at_) := EB.out.cell 3
          have e4 : v1.cell? ⟨wr.heap.size, 4, none⟩ = some (.int .i64 (e i).ob) := EB.out.cell 4
          have e5 : v1.cell? ⟨wr.heap.size, 5, none⟩ = some (.int .i64 (e i).va) := EB.out.cell 5
          have e6 : v1.cell? ⟨wr.heap.size, 6, none⟩ = some (.int .i64 (e i).re) := EB.out.cell 6
          gi_region_with (refine ⟨trivial, ?_⟩; gi_at_call 62; refine (callsIn_wide.2 (begun_any i ⟨1, (e i).th, (e i).tx, (e i).at_, (e i).ob, (e i).va, (e i).re⟩ _)).mono ?_; rintro r u1 ⟨bn, rfl, g1, gg1⟩; have E1 := EB.out.drew.grown gg1.out (by simp); have x1 : u1.cell? ⟨wr.heap.size, 1, none⟩ = some (.int .i64 (e i).th) := E1.cell 1; obtain ⟨u2, hU, hm2, hg2⟩ := ((show MapG Try.prog 3 (Value.int .i64) v1.drew W.heap.size i (fun th => (G th).map ptrV) from RO1.out.map).grown gg1.out (by simp)).set kInt vint_inj Try.underlying123 (by unfold maxLen; omega) (keyInt WE.out.th) (.pointer (some ⟨bn, 0, none⟩)); have HM2 := Lib.hid hm2; have HG2 := Lib.hid hg2; clear hm2 hg2 E1)
          all_goals
            gi_wp2
            go_roundw
            case rel =>
              obtain ⟨G', Fo', q⟩ := rel1_put HR1.out FIRM.out HO.out H1.out (ev := ⟨1, (e i).th, (e i).tx, (e i).at_, (e i).ob, (e i).va, (e i).re⟩) rfl (gb_trans (gb_drew (gb_refl v1 none)) gg1.out) g1.out HM2.out HG2.out
              exact ⟨i + 1, G', Fo', Fc, xs, by omega, by go_num, q⟩
            case measure => simp [intOf]; omega
        · have hk7 : (e i).k = 7 := by
            simp only [Bool.or_eq_true, Bool.and_eq_true, beq_iff_eq] at hmay
            omega
          have HR1 := Lib.hid (HR.out.grown FIRM.out (World.grownBy_alloc wr (.cells #[.int .i64 7, .int .i64 ((e i).th), .int .i64 ((e i).tx), .int .i64 ((e i).at_), .int .i64 ((e i).ob), .int .i64 ((e i).va), .int .i64 ((e i).re)] 51) none))
          rw [hk7] at c0
          have H1 := Lib.hid h1
          have HO := Lib.hid ho
          clear hmay h1 ho we HR hk7
          have RO1 := Lib.hid HR1.out.1
          gi_wp2_with (first | (gi_at_lookup; refine wpListIn_look_mapG rfl _ _ 123 rfl 3 124 kInt Try.underlying123 _ (zeroP _) (Value.int .i64) W.heap.size i (fun th => (G th).map ptrV) rfl RO1.out.map (e i).th _ rfl (keyInt WE.out.th) (.pointer none) false (by rw [HG.out]; rfl) (by rw [HG.out]; rfl) ?_) | gi_in)
          refine ⟨trivial, ?_⟩
          gi_wp2
          go_roundw
          case rel => exact ⟨i + 1, G, Fo, Fc, xs, by omega, by go_num, rel1_skip HR1.out HO.out H1.out⟩
          case measure => simp [intOf]; omega
      | some b =>
        obtain ⟨bk, hG⟩ := G_of HR.out ho
        have HG := Lib.hid hG
        obtain ⟨_, hk2, hk6⟩ := may_own e hmay ho
        have hob := opn_spec e i _ b ho
        have HR1 := Lib.hid (HR.out.grown FIRM.out (World.grownBy_alloc wr (.cells #[.int .i64 ((e i).k), .int .i64 ((e i).th), .int .i64 ((e i).tx), .int .i64 ((e i).at_), .int .i64 ((e i).ob), .int .i64 ((e i).va), .int .i64 ((e i).re)] 51) none))
        have EB := Lib.hid (Blk.made wr 51 #[.int .i64 ((e i).k), .int .i64 ((e i).th), .int .i64 ((e i).tx), .int .i64 ((e i).at_), .int .i64 ((e i).ob), .int .i64 ((e i).va), .int .i64 ((e i).re)])
        have f1 : ((e i).k == 1) = false := by simp; omega
        have HK := Lib.hid (show 2 ≤ (e i).k ∧ (e i).k ≤ 6 from ⟨hk2, hk6⟩)
        have HOB := Lib.hid hob
        have HO := Lib.hid ho
        have RO1 := Lib.hid HR1.out.1
        have ELT : Hid (∀ k, Fo (e i).th k → k < wr.heap.size) := Lib.hid (fun k hk => (HR.out.1.lt _ k (by rw [hG]; simp) hk).2.1)
        have ACL := Lib.hid (trAt_ac e b i)
        have HXL := Lib.hid hxl
        clear hmay ho we hG hk2 hk6 hob hxl
        by_cases h56 : (e i).k = 5 ∨ (e i).k = 6
        · have HD := Lib.hid (show decide ((e i).k = 5 ∨ (e i).k = 6) = true by simpa using h56)
          have H56 := Lib.hid h56
          clear h56
          gi_wp2_with (first | (gi_at_lookup; refine wpListIn_look_mapG rfl _ _ 123 rfl 3 124 kInt Try.underlying123 _ (zeroP _) (Value.int .i64) W.heap.size i (fun th => (G th).map ptrV) rfl RO1.out.map (e i).th _ rfl (keyInt WE.out.th) (.pointer (some ⟨bk, 0, none⟩)) true (by rw [HG.out]; rfl) (by rw [HG.out]; rfl) ?_) | (refine ⟨trivial, ?_⟩; gi_at_call 63; refine (callsIn_wide.2 (does_any _ (Fo (e i).th) bk (trAt e b i) i i (e i) WE.out HK.out (fun k hk => by have := ELT.out k hk; simp; omega) (RO1.out.gng _ _ _ HG.out) HOB.out.2.2.2 (by have := ACL.out; omega) (by omega))).mono ?_; rw [HD.out]; rintro r u1 ⟨rfl, g1, o1⟩; have x1 : u1.cell? ⟨wr.heap.size, 1, none⟩ = some (.int .i64 (e i).th) := ((EB.out.keep (o1.out.block wr.heap.size (by simp) (fun hF => Nat.lt_irrefl _ (ELT.out _ hF)))).cell 1); have MU := Lib.hid (RO1.out.map.keep (o1.out.block W.heap.size RO1.out.map.lt (fun hF => (RO1.out.lt _ _ (by rw [HG.out]; simp) hF).2.2 rfl)))) | (gi_at_delete; refine wpListIn_del_mapG rfl _ _ 123 3 rfl 124 kInt (Value.int .i64) vint_inj Try.underlying123 W.heap.size i (fun th => (G th).map ptrV) rfl MU.out (e i).th _ rfl (keyInt WE.out.th) ?_; intro u2 m2 g2; obtain ⟨G', Fo', MID, hFo, GN⟩ := rel1_mid HR1.out FIRM.out HO.out HG.out H56.out g1.out o1.out (m2.more (Nat.le_succ _)) g2; obtain ⟨v, wm, rm, rd, GP⟩ := GN; obtain ⟨va, vc, rfl⟩ := owns_slice GP.row; have d0 : u2.cell? ⟨bk, 0, none⟩ = some (.int .i64 (trAt e b (i + 1)).th) := GP.blk.cell 0; have d1 : u2.cell? ⟨bk, 1, none⟩ = some (.int .i64 (trAt e b (i + 1)).tx) := GP.blk.cell 1; have d2 : u2.cell? ⟨bk, 2, none⟩ = some (.int .i64 (trAt e b (i + 1)).at_) := GP.blk.cell 2; have d3 : u2.cell? ⟨bk, 3, none⟩ = some (.int .i64 (trAt e b (i + 1)).st) := GP.blk.cell 3; have d4 : u2.cell? ⟨bk, 4, none⟩ = some (.int .i64 (trAt e b (i + 1)).b) := GP.blk.cell 4; have d5 : u2.cell? ⟨bk, 5, none⟩ = some (.int .i64 (trAt e b (i + 1)).en) := GP.blk.cell 5; have d6 : u2.cell? ⟨bk, 6, none⟩ = some (.int .i64 (trAt e b (i + 1)).re) := GP.blk.cell 6; have d7 : u2.cell? ⟨bk, 7, none⟩ = some (.bool (trAt e b (i + 1)).co) := GP.blk.cell 7; have d8 : u2.cell? ⟨bk, 8, none⟩ = some (.slice va (trAt e b (i + 1)).ac.length vc) := GP.blk.cell 8; obtain ⟨fn, tmps, assign, body, hy, hRd⟩ := HY.out xs (trAt e b (i + 1)) (.slice va (trAt e b (i + 1)).ac.length vc) u2 Fc (Fo' (e i).th) MID.2.2.1 GP.row (fun k hk => by rw [hFo]; exact GP.fv k hk) (fun k hc hg => (MID.2.2.2.2.2.2.2.2 k hg).1 hc) (fun k hk => (MID.2.2.2.2.2.2.2.2 k hk).2.2.1) (fun k hk => (MID.2.2.2.2.2.1 k hk).2) (by have := trAt_ac e b (i + 1); omega) (by have := HXL.out; omega); have hy' : (Instr.yield l #[.agg #[.int .i64 (trAt e b (i + 1)).th, .int .i64 (trAt e b (i + 1)).tx, .int .i64 (trAt e b (i + 1)).at_, .int .i64 (trAt e b (i + 1)).st, .int .i64 (trAt e b (i + 1)).b, .int .i64 (trAt e b (i + 1)).en, .int .i64 (trAt e b (i + 1)).re, .bool (trAt e b (i + 1)).co, .slice va (trAt e b (i + 1)).ac.length vc]]).run Try.prog u2 = .ok (.round l fn tmps assign body) u2 := hy; have MD := Lib.hid MID; have RD := Lib.hid hRd; clear hy MID hRd GP m2 g2 hFo) | gi_in)
          refine RD.out.mono ?_
          rintro e3 u3 ⟨rfl, Fc', hJ, hF, hO⟩
          have QQ := Lib.hid (mid_rel1 MD.out HO.out H56.out hlt hJ hF hO)
          clear hJ hF hO MD RD
          gi_wp2
          go_roundw
          case rel => exact ⟨i + 1, G', Fo', Fc', _, by omega, by go_num, QQ⟩
          case measure => simp [intOf]; omega
        · have HD := Lib.hid (show decide ((e i).k = 5 ∨ (e i).k = 6) = false by simpa using h56)
          have H56 := Lib.hid h56
          clear h56
          gi_wp2_with (first | (gi_at_lookup; refine wpListIn_look_mapG rfl _ _ 123 rfl 3 124 kInt Try.underlying123 _ (zeroP _) (Value.int .i64) W.heap.size i (fun th => (G th).map ptrV) rfl RO1.out.map (e i).th _ rfl (keyInt WE.out.th) (.pointer (some ⟨bk, 0, none⟩)) true (by rw [HG.out]; rfl) (by rw [HG.out]; rfl) ?_) | (refine ⟨trivial, ?_⟩; gi_at_call 63; refine (callsIn_wide.2 (does_any _ (Fo (e i).th) bk (trAt e b i) i i (e i) WE.out HK.out (fun k hk => by have := ELT.out k hk; simp; omega) (RO1.out.gng _ _ _ HG.out) HOB.out.2.2.2 (by have := ACL.out; omega) (by omega))).mono ?_; rw [HD.out]; rintro r u1 ⟨rfl, g1, o1⟩) | gi_in)
          go_roundw
          case rel =>
            obtain ⟨G', Fo', q⟩ := rel1_does HR1.out FIRM.out HO.out HG.out (by have := HK.out; omega) H56.out g1.out o1.out
            exact ⟨i + 1, G', Fo', Fc, xs, by omega, by go_num, q⟩
          case measure => simp [intOf]; omega
    · obtain rfl : i = len := by omega
      obtain ⟨D, hown, hD⟩ := HR.out.1.map
      have hD' : Says D G := hD
      have HWF := Lib.hid (show ∀ th b, opn e i th = some b → (Lit.int .i64 th).wf = true from fun th b h => by
        have := opn_spec e _ _ _ h
        obtain ⟨_, _, _, _, _, _, _, _, _, _, _, we⟩ := HL.out.at7 this.1
        rw [← this.2.2.1]
        exact we.th)
      have HD := Lib.hid hD'
      have HOWN := Lib.hid hown
      have hxl : xs.length ≤ i := by
        have := congrArg List.length HR.out.2.2.2.1
        rw [List.length_map, List.length_map] at this
        rw [this]
        exact ended_len e i
      clear hD hD' hown hxl
      gi_wp2_with (first | (gi_at_range; refine wpListIn_range_own _ rfl _ 123 rfl 3 124 kInt Try.underlying123 heldR W.heap.size i D rfl HOWN.out ?_; intro wq hrg0 hg0 hs0; have R2 := Lib.hid (rel2_start HR.out FIRM.out HWF.out HD.out hrg0 hg0 hs0); clear hrg0 hg0 hs0) | gi_in)
      go_frame
      generalize wr.heap.size = ro at R2 ⊢
      gi_loopw [10] (fun _ wq => ∃ (left : Lit → Bool) (cnt : Nat) (ys : List (Tr × Value)) (Fd : Nat → Prop) (rest : List Nat), Hid (Rel2 w0 W.heap.size ro i e J D G Fo wq left cnt ys Fd rest)) (fun _ wq => wq.rangeLeft W.heap.size ro)
      case atStart => exact ⟨_, _, _, _, _, R2⟩
      case round =>
        obtain ⟨left, cnt, ys, Fd, rest, RR⟩ := hrel
        gi_wp2_with (first | (gi_at_next; refine wpListIn_next_G rfl _ rfl W.heap.size ro i D G HD.out left RR.out.2.1 cnt rfl RR.out.1 ?_ ?_) | gi_in)
        · intro hl0
          gi_wp2
          go_end0
          obtain ⟨q1, q2, q3⟩ := rel2_done RR.out hl0
          exact ⟨rfl, ys, Fd, rest, RR.out.2.2.2.1, RR.out.2.2.2.2.2.2.2.2.1, RR.out.2.2.2.2.2.2.2.2.2.1, q1, q2, q3⟩
        · intro x bk t u2 cnt2 hGx hlx hrg2 hlt2 hg2 hs2 hen
          obtain ⟨qJ, qG, qA, qB, p, qo, qt⟩ := rel2_came RR.out FIRM.out hg2 hGx hlx
          obtain ⟨v, wm, rm, rd, GP⟩ := qG
          obtain ⟨va, vc, rfl⟩ := owns_slice GP.row
          have d0 : u2.cell? ⟨bk, 0, none⟩ = some (.int .i64 t.th) := GP.blk.cell 0; have d1 : u2.cell? ⟨bk, 1, none⟩ = some (.int .i64 t.tx) := GP.blk.cell 1; have d2 : u2.cell? ⟨bk, 2, none⟩ = some (.int .i64 t.at_) := GP.blk.cell 2; have d3 : u2.cell? ⟨bk, 3, none⟩ = some (.int .i64 t.st) := GP.blk.cell 3; have d4 : u2.cell? ⟨bk, 4, none⟩ = some (.int .i64 t.b) := GP.blk.cell 4; have d5 : u2.cell? ⟨bk, 5, none⟩ = some (.int .i64 t.en) := GP.blk.cell 5; have d6 : u2.cell? ⟨bk, 6, none⟩ = some (.int .i64 t.re) := GP.blk.cell 6; have d7 : u2.cell? ⟨bk, 7, none⟩ = some (.bool t.co) := GP.blk.cell 7; have d8 : u2.cell? ⟨bk, 8, none⟩ = some (.slice va t.ac.length vc) := GP.blk.cell 8
          obtain ⟨fn, tmps, assign, body, hy, hRd⟩ := HY.out ys t (.slice va t.ac.length vc) u2 Fd (Fo x) qJ GP.row GP.fv qA qB (fun k hk => by have := (RR.out.2.2.2.2.2.2.2.2.1 k hk).2; omega) (by rw [qt]; have := trAt_ac e p i; omega) (by
            have h1 := congrArg List.length RR.out.2.2.2.2.1
            rw [List.length_map, List.length_map, List.length_append] at h1
            have h2 := ended_len e i
            have h3 : rest.Perm ((List.range i).filter (fun b => decide (b ∈ rest))) := (List.perm_ext_iff_of_nodup RR.out.2.2.2.2.2.1 (List.nodup_range.filter _)).2 fun b => by
              simp only [List.mem_filter, List.mem_range, decide_eq_true_eq]
              refine ⟨fun h => ⟨?_, h⟩, fun h => h.2⟩
              obtain ⟨th, ho, _⟩ := (RR.out.2.2.2.2.2.2.1 b).1 h
              exact (opn_spec e _ _ _ ho).1
            have h4 := h3.length_eq
            have h5 := List.length_filter_le (fun b => decide (b ∈ rest)) (List.range i)
            rw [List.length_range] at h5
            omega)
          have hy' : (Instr.yield l #[.agg #[.int .i64 t.th, .int .i64 t.tx, .int .i64 t.at_, .int .i64 t.st, .int .i64 t.b, .int .i64 t.en, .int .i64 t.re, .bool t.co, .slice va t.ac.length vc]]).run Try.prog u2 = .ok (.round l fn tmps assign body) u2 := hy
          have RD := Lib.hid hRd
          have XX := Lib.hid (show ∀ v Fc' u3, J (ys ++ [(t, v)]) u3 Fc' → (∀ k, Fc' k → Fd k ∨ Fo x k ∨ (u2.heap.size ≤ k ∧ k < u3.heap.size)) → Only Fd u2 u3 → Rel2 w0 W.heap.size ro i e J D G Fo u3 (fun z => left z && !z.sameKey (.int .i64 x)) cnt2 (ys ++ [(t, v)]) Fc' (rest ++ [p]) from fun v Fc' u3 h1 h2 h3 => rel2_step RR.out FIRM.out hrg2 hg2 hGx hlx qo qt h1 h2 h3)
          have LT := Lib.hid hlt2
          clear hy hRd GP qJ qA qB qo qt hrg2 hg2 hs2 hlt2
          gi_wp2
          refine RD.out.mono ?_
          rintro e3 u3 ⟨rfl, Fc', hJ, hF, hO⟩
          have QQ := Lib.hid (XX.out _ _ _ hJ hF hO)
          clear hJ hF hO XX RD
          gi_wp2
          go_roundw
          case rel => exact ⟨_, _, _, _, _, QQ⟩
          case measure =>
            rw [QQ.out.1.left_eq, RR.out.1.left_eq]
            exact LT.out
end Go.Proofs.Ytkidkhjpijjphaa.hs

/- A range over a function whose value has arguments bound (a method's value): the statement, and a round, by what the loop's record says. Of no program. -/
namespace Go.Proofs.Ytkidkhjpijjphaa.base
open Go Go.RowKit

section
variable {F : Fence} {n : Nat} {P : Program}

/-- The record of the loop, ready, and the block for its rounds' deferred calls. -/
def LoopAt (l D : Nat) (rec : Loop) (W : World) : Prop := W.heap[l]? = some (.loop rec) ∧ W.heap[D]? = some (.deferred (some []))

theorem LoopAt.keep {l D : Nat} {rec : Loop} {W W' : World} (h : LoopAt l D rec W) (h1 : W'.heap[l]? = W.heap[l]?) (h2 : W'.heap[D]? = W.heap[D]?) : LoopAt l D rec W' := ⟨h1.trans h.1, h2.trans h.2⟩

theorem only_put (w : World) (l : Nat) (o : Obj) : Only (fun k => k = l) w (w.putObj l o) := ⟨rfl, rfl, rfl, by simp, fun k _ h => World.putObj_heap_other h⟩

/-- One round that goes on. -/
theorem yield_take {m l D fn : Nat} {tmps : Array Value} {ps : Array Tmp} {assign body : Code} {rec : Loop} {args : Array Value} {W : World} {R : Ending → World → Prop} (hrec : rec = { state := .ready, pending := none, fn, tmps, params := ps, assign, body, defers := D }) (hl : W.heap[l]? = some (.loop rec)) (hps : args.size = ps.size) (hfn : F.fn fn)
    (h : assign.wpIn (F.inRound l) m P (Exit.then (fun a₁ w₁ => w₁.heap[l]? = some (.loop rec) ∧ body.wpIn (F.inRound l) m P (fun ex _ W3 => ex = .normal ∧ W3.heap[l]? = some (.loop { rec with state := .busy }) ∧ R (.returned (.bool true)) (W3.putObj l (.loop rec))) a₁ (w₁.putObj l (.loop { rec with state := .busy }))) (fun _ _ _ => False))
      { tmps := (ps.zip args).foldl (fun t (p, v) => t.setIfInBounds p v) tmps, defers := [] } W) :
    YieldAt F m P l args W R := by
  subst hrec
  refine ⟨fn, _, assign, body, run_yield hl hps, roundIn_of_wpIn hfn (wpIn_mono h ?_)⟩
  intro e a w hq
  cases e with
  | normal =>
    obtain ⟨h1, h2⟩ := hq
    refine ⟨_, run_beginRound h1 rfl, wpIn_mono h2 ?_⟩
    rintro e3 a3 W3 ⟨rfl, h4, h5⟩
    exact ⟨_, _, run_endRound (P := P) none h4, h5⟩
  | ret => exact hq
  | exit id => exact hq
  | goto t => exact hq
  | panic c => exact hq
  | outgrown => exact hq

/-- The statement. -/
theorem wpIn_range_take {g : Operand} {ps : Array Tmp} {assign body : Code} {Q : Exit → Act → World → Prop} {a : Act} {w : World} (hro : F.round = none) (h1 : 1 ≤ n) {gf : Nat} {bnd lb : Array Value} (hg : a.eval g = .func (.func gf) bnd lb) (hFg : F.fn gf) (eg : ∀ args w, (callFunc gf args).run P w = .ok (.enter gf args) w)
    (H : ∀ fn, F.fn fn → ∀ rec : Loop, rec = { state := .ready, pending := none, fn, tmps := a.tmps, params := ps, assign, body, defers := w.heap.size } →
      CallsIn F (n - 1) P gf (bnd ++ #[.func (.yield (w.heap.size + 1)) #[] #[]] ++ lb) ((w.alloc (.deferred (some []))).alloc (.loop rec)) fun e W2 =>
        (∃ v, e = .returned v) ∧ LoopAt (w.heap.size + 1) w.heap.size rec W2 ∧ ∀ o', Q .normal { a with defers := { target := .collected w.heap.size, args := #[] } :: a.defers } (W2.putObj (w.heap.size + 1) o')) :
    (Code.rangeFunc g ps assign body).wpIn F n P Q a w := by
  refine wpIn_rangeFunc ?_
  intro fn hfn
  rw [hro]
  obtain ⟨rec, hrec⟩ : ∃ rec : Loop, rec = { state := .ready, pending := none, fn, tmps := a.tmps, params := ps, assign, body, defers := w.heap.size } := ⟨_, rfl⟩
  have HC := H fn hfn rec hrec
  refine ⟨w.heap.size + 1, [{ target := .collected w.heap.size, args := #[] }], (w.alloc (.deferred (some []))).alloc (.loop rec), { target := .fn (.func gf) lb, args := bnd ++ #[.func (.yield (w.heap.size + 1)) #[] #[]] }, (w.alloc (.deferred (some []))).alloc (.loop rec), gf,
    bnd ++ #[.func (.yield (w.heap.size + 1)) #[] #[]] ++ lb, (w.alloc (.deferred (some []))).alloc (.loop rec), ?_, ?_, ?_, ?_, fun _ => h1, ?_⟩
  · rw [hrec]; exact run_enterLoop_outer _ _ _ _ _
  · simp only [resolve, hg]
    simp [go_sem]
  · intro f' hf'; simp [Target.leads] at hf'; subst hf'; exact hFg
  · simp [invoke, go_sem, eg]
  · refine HC.mono ?_
    rintro e W2 ⟨⟨v, rfl⟩, hL, hQ⟩
    have hE := run_endLoop (P := P) hL.1 (by rw [hrec]; simp)
    have hp : rec.pending = none := by rw [hrec]
    rw [hp] at hE
    exact ⟨none, _, hE, hQ _⟩

/-- append, inside a fence. -/
theorem wpListIn_append_at (w : World) {ops : Array Oper} {rest : List Oper} {o : Oper} {a : Act} {Q : Exit → Act → World → Prop} {nF : Nat}
    (hgd : o.guard = none) (s x : Operand) (t : TypeId) (hop : o.op = Op.call { callee := Callee.builtin Builtin.append, args := #[s, x], argTypes := #[t, t] })
    (base : Nat) (e : TypeId) (i : TypeInfo) (z : Value) (size bytes : Nat) (h1 : P.underlying t = some (.slice e)) (h2 : P.info? e = some i) (h3 : i.zero = some z) (h4 : i.size = size) (h5 : i.bytes = bytes) (h6 : z.cells.size = size) (h7 : 0 < size)
    (v : Value) (n : Nat) (xs : List Value) (hs : a.eval s = v) (hown : w.ownsRow base e size v n xs)
    (ad : Addr) (m c : Nat) (news : List Value) (hx : a.eval x = .slice (some ad) m c) (hl : news.length = m * size) (hnews : ∀ j u, news[j]? = some u → w.cell? (ad.add j) = some u) (h1c : ∀ u ∈ news, u.oneCell' = true)
    (h63 : n + m ≤ maxLen) (hbytes : (n + m) * bytes ≤ 140737488355328) (hbase : base ≤ w.heap.size) (hm : 0 < m)
    (hK : ∀ g cap w', w'.ownsRow base e size (.slice (some ⟨g, 0, none⟩) (n + m) cap) (n + m) (xs ++ news) → w.grownBy w' v.ownBlock → (some g = v.ownBlock ∨ w.heap.size ≤ g) → wpListIn F nF P ops Q rest (a.put o.dst (.slice (some ⟨g, 0, none⟩) (n + m) cap)) w') :
    wpListIn F nF P ops Q (o :: rest) a w := by
  refine wpListIn_plain hgd fun K hK' => ?_
  obtain ⟨v', w', hrun, r1, r2, r3⟩ := run_append_at (P := P) w base t o.type e i z size bytes h1 h2 h3 h4 h5 h6 h7 v n xs hown ad m c news hl hnews h1c h63 hbytes hbase
  have r0 := r1
  rcases r0.2 with ⟨_, h0⟩ | ⟨g, cap, _, rfl, _⟩
  · omega
  unfold Oper.wpIn
  refine ⟨by simp [Oper.about, hop, resolve, Target.leads, Sem.run_pure], ?_⟩
  rw [Oper.semAt_plain F _ _ (by rw [hop]; intro c hc'; cases hc')]
  simp [execOp, hop, resolve, invoke, builtin, hs, hx, hrun, Result.andThen]
  exact hK' _ _ (hK g cap w' r1 r2 (by
    rcases r3 with h | ⟨k, h, hk⟩
    · exact .inl h
    · cases h; exact .inr hk))
end
end Go.Proofs.Ytkidkhjpijjphaa.base

/- Whether a trace is right: may an event come? -/
namespace Go.Proofs.Ytkidkhjpijjphaa.hs
open Go Go.RowKit Go.Proofs.Ytkidkhjpijjphaa.base Go.Maps
set_option linter.unusedVariables false
set_option maxRecDepth 100000

set_option maxHeartbeats 1000000 in
theorem may_any (om tm n1 n2 : Nat) (f : Int → Option Value) (g : Int × Int → Option Value) (e : Ev) (o : Option Ev) (c : Int) (w : World) (he : Ev.Wf e) (hf : MapG Try.prog 3 (Value.int .i64) w om n1 f) (hg : MapG Try.prog 138 two w tm n2 g) (ho : f e.th = opnV o) (hc : (g (e.th, e.tx)).getD (.int .i64 0) = .int .i64 c) :
    Calls Try.prog 55 #[.agg #[.map (some om), .map (some tm)], .agg #[.int .i64 e.k, .int .i64 e.th, .int .i64 e.tx, .int .i64 e.at_, .int .i64 e.ob, .int .i64 e.va, .int .i64 e.re]] w fun r w' => r = .returned (.bool (mayB o c e)) ∧ Hid (w.grownBy w' none) := by
  obtain ⟨k, th, tx, at_, ob, va, re⟩ := e
  have M1 := Lib.hid hf
  have M2 := Lib.hid hg
  have E := Lib.hid he
  have C := Lib.hid hc
  obtain ⟨kl, hkl⟩ := keyTxn (x := (th, tx)) he.th he.tx
  have KL := Lib.hid hkl
  have O := Lib.hid ho
  clear hf hg he hc hkl ho
  dsimp only at *
  cases o with
  | none =>
    by_cases h1 : k = 1
    · subst h1
      go_enter Try.func55, Try.ntmps55
      go_wp2_with (first | (at_lookup; refine wpList_look_mapG rfl _ _ 104 rfl 3 51 kInt Try.underlying104 _ (zeroEv _) (Value.int .i64) om n1 f rfl (M1.out.grown (show World.grownBy w _ none from (by repeat (first | exact gb_refl _ _ | refine gb_drewN ?_ _ | refine gb_drew ?_ | refine gb_alloc ?_ _))) (by simp)) th _ rfl (keyInt E.out.th) (.agg #[.int .i64 0, .int .i64 0, .int .i64 0, .int .i64 0, .int .i64 0, .int .i64 0, .int .i64 0]) false (by rw [O.out]; rfl) (by rw [O.out]; rfl) ?_) | go_in)
      have hget : ∀ n, (Instr.lookup 105 (.map (some tm)) (.agg #[.int .i64 th, .int .i64 tx]) false).run Try.prog ((((w.alloc (.cells #[.map (some om), .map (some tm)] 107)).alloc (.cells #[.int .i64 1, .int .i64 th, .int .i64 tx, .int .i64 at_, .int .i64 ob, .int .i64 va, .int .i64 re] 51)).alloc (.cells #[.int .i64 0, .int .i64 0, .int .i64 0, .int .i64 0, .int .i64 0, .int .i64 0, .int .i64 0] 51)).drewN n) = .ok (.int .i64 c) ((((w.alloc (.cells #[.map (some om), .map (some tm)] 107)).alloc (.cells #[.int .i64 1, .int .i64 th, .int .i64 tx, .int .i64 at_, .int .i64 ob, .int .i64 va, .int .i64 re] 51)).alloc (.cells #[.int .i64 0, .int .i64 0, .int .i64 0, .int .i64 0, .int .i64 0, .int .i64 0, .int .i64 0] 51)).drewN n) := fun n => by
        have h := (M2.out.grown (show World.grownBy w ((((w.alloc (.cells #[.map (some om), .map (some tm)] 107)).alloc (.cells #[.int .i64 1, .int .i64 th, .int .i64 tx, .int .i64 at_, .int .i64 ob, .int .i64 va, .int .i64 re] 51)).alloc (.cells #[.int .i64 0, .int .i64 0, .int .i64 0, .int .i64 0, .int .i64 0, .int .i64 0, .int .i64 0] 51)).drewN n) none from (by repeat (first | exact gb_refl _ _ | refine gb_drewN ?_ _ | refine gb_drew ?_ | refine gb_alloc ?_ _))) (by simp)).get kTxn Try.underlying105 (zeroInt _) KL.out
        rw [C.out] at h
        exact h
      go_quiet (fail)
      go_wp2
      go_ret
      refine ⟨?_, (by repeat (first | exact gb_refl _ _ | refine gb_drewN ?_ _ | refine gb_drew ?_ | refine gb_alloc ?_ _))⟩
      simp [mayB, IntWalk.i64_left]
    have f1 : (k == 1) = false := by simp [h1]
    clear h1
    by_cases h7 : k = 7
    · subst h7
      go_enter Try.func55, Try.ntmps55
      go_wp2_with (first | (at_lookup; refine wpList_look_mapG rfl _ _ 104 rfl 3 51 kInt Try.underlying104 _ (zeroEv _) (Value.int .i64) om n1 f rfl (M1.out.grown (show World.grownBy w _ none from (by repeat (first | exact gb_refl _ _ | refine gb_drewN ?_ _ | refine gb_drew ?_ | refine gb_alloc ?_ _))) (by simp)) th _ rfl (keyInt E.out.th) (.agg #[.int .i64 0, .int .i64 0, .int .i64 0, .int .i64 0, .int .i64 0, .int .i64 0, .int .i64 0]) false (by rw [O.out]; rfl) (by rw [O.out]; rfl) ?_) | go_in)
      go_ret
      refine ⟨?_, (by repeat (first | exact gb_refl _ _ | refine gb_drewN ?_ _ | refine gb_drew ?_ | refine gb_alloc ?_ _))⟩
      simp [mayB]
    have f7 : (k == 7) = false := by simp [h7]
    by_cases h2 : k = 2
    · subst h2
      go_enter Try.func55, Try.ntmps55
      go_wp2_with (first | (at_lookup; refine wpList_look_mapG rfl _ _ 104 rfl 3 51 kInt Try.underlying104 _ (zeroEv _) (Value.int .i64) om n1 f rfl (M1.out.grown (show World.grownBy w _ none from (by repeat (first | exact gb_refl _ _ | refine gb_drewN ?_ _ | refine gb_drew ?_ | refine gb_alloc ?_ _))) (by simp)) th _ rfl (keyInt E.out.th) (.agg #[.int .i64 0, .int .i64 0, .int .i64 0, .int .i64 0, .int .i64 0, .int .i64 0, .int .i64 0]) false (by rw [O.out]; rfl) (by rw [O.out]; rfl) ?_) | go_in)
      go_ret
      refine ⟨?_, (by repeat (first | exact gb_refl _ _ | refine gb_drewN ?_ _ | refine gb_drew ?_ | refine gb_alloc ?_ _))⟩
      simp [mayB]
    have f2 : (k == 2) = false := by simp [h2]
    by_cases h3 : k = 3
    · subst h3
      go_enter Try.func55, Try.ntmps55
      go_wp2_with (first | (at_lookup; refine wpList_look_mapG rfl _ _ 104 rfl 3 51 kInt Try.underlying104 _ (zeroEv _) (Value.int .i64) om n1 f rfl (M1.out.grown (show World.grownBy w _ none from (by repeat (first | exact gb_refl _ _ | refine gb_drewN ?_ _ | refine gb_drew ?_ | refine gb_alloc ?_ _))) (by simp)) th _ rfl (keyInt E.out.th) (.agg #[.int .i64 0, .int .i64 0, .int .i64 0, .int .i64 0, .int .i64 0, .int .i64 0, .int .i64 0]) false (by rw [O.out]; rfl) (by rw [O.out]; rfl) ?_) | go_in)
      go_ret
      refine ⟨?_, (by repeat (first | exact gb_refl _ _ | refine gb_drewN ?_ _ | refine gb_drew ?_ | refine gb_alloc ?_ _))⟩
      simp [mayB]
    have f3 : (k == 3) = false := by simp [h3]
    by_cases h4 : k = 4
    · subst h4
      go_enter Try.func55, Try.ntmps55
      go_wp2_with (first | (at_lookup; refine wpList_look_mapG rfl _ _ 104 rfl 3 51 kInt Try.underlying104 _ (zeroEv _) (Value.int .i64) om n1 f rfl (M1.out.grown (show World.grownBy w _ none from (by repeat (first | exact gb_refl _ _ | refine gb_drewN ?_ _ | refine gb_drew ?_ | refine gb_alloc ?_ _))) (by simp)) th _ rfl (keyInt E.out.th) (.agg #[.int .i64 0, .int .i64 0, .int .i64 0, .int .i64 0, .int .i64 0, .int .i64 0, .int .i64 0]) false (by rw [O.out]; rfl) (by rw [O.out]; rfl) ?_) | go_in)
      go_ret
      refine ⟨?_, (by repeat (first | exact gb_refl _ _ | refine gb_drewN ?_ _ | refine gb_drew ?_ | refine gb_alloc ?_ _))⟩
      simp [mayB]
    have f4 : (k == 4) = false := by simp [h4]
    by_cases h5 : k = 5
    · subst h5
      go_enter Try.func55, Try.ntmps55
      go_wp2_with (first | (at_lookup; refine wpList_look_mapG rfl _ _ 104 rfl 3 51 kInt Try.underlying104 _ (zeroEv _) (Value.int .i64) om n1 f rfl (M1.out.grown (show World.grownBy w _ none from (by repeat (first | exact gb_refl _ _ | refine gb_drewN ?_ _ | refine gb_drew ?_ | refine gb_alloc ?_ _))) (by simp)) th _ rfl (keyInt E.out.th) (.agg #[.int .i64 0, .int .i64 0, .int .i64 0, .int .i64 0, .int .i64 0, .int .i64 0, .int .i64 0]) false (by rw [O.out]; rfl) (by rw [O.out]; rfl) ?_) | go_in)
      go_ret
      refine ⟨?_, (by repeat (first | exact gb_refl _ _ | refine gb_drewN ?_ _ | refine gb_drew ?_ | refine gb_alloc ?_ _))⟩
      simp [mayB]
    have f5 : (k == 5) = false := by simp [h5]
    by_cases h6 : k = 6
    · subst h6
      go_enter Try.func55, Try.ntmps55
      go_wp2_with (first | (at_lookup; refine wpList_look_mapG rfl _ _ 104 rfl 3 51 kInt Try.underlying104 _ (zeroEv _) (Value.int .i64) om n1 f rfl (M1.out.grown (show World.grownBy w _ none from (by repeat (first | exact gb_refl _ _ | refine gb_drewN ?_ _ | refine gb_drew ?_ | refine gb_alloc ?_ _))) (by simp)) th _ rfl (keyInt E.out.th) (.agg #[.int .i64 0, .int .i64 0, .int .i64 0, .int .i64 0, .int .i64 0, .int .i64 0, .int .i64 0]) false (by rw [O.out]; rfl) (by rw [O.out]; rfl) ?_) | go_in)
      go_ret
      refine ⟨?_, (by repeat (first | exact gb_refl _ _ | refine gb_drewN ?_ _ | refine gb_drew ?_ | refine gb_alloc ?_ _))⟩
      simp [mayB]
    have f6 : (k == 6) = false := by simp [h6]
    go_enter Try.func55, Try.ntmps55
    go_wp2_with (first | (at_lookup; refine wpList_look_mapG rfl _ _ 104 rfl 3 51 kInt Try.underlying104 _ (zeroEv _) (Value.int .i64) om n1 f rfl (M1.out.grown (show World.grownBy w _ none from (by repeat (first | exact gb_refl _ _ | refine gb_drewN ?_ _ | refine gb_drew ?_ | refine gb_alloc ?_ _))) (by simp)) th _ rfl (keyInt E.out.th) (.agg #[.int .i64 0, .int .i64 0, .int .i64 0, .int .i64 0, .int .i64 0, .int .i64 0, .int .i64 0]) false (by rw [O.out]; rfl) (by rw [O.out]; rfl) ?_) | go_in)
    go_ret
    refine ⟨?_, (by repeat (first | exact gb_refl _ _ | refine gb_drewN ?_ _ | refine gb_drew ?_ | refine gb_alloc ?_ _))⟩
    have hm : mayB none c ⟨k, th, tx, at_, ob, va, re⟩ = false := by simp only [mayB, f1, f7, Bool.false_and, Bool.or_self]
    rw [hm]
    rfl
  | some b =>
    by_cases h1 : k = 1
    · subst h1
      go_enter Try.func55, Try.ntmps55
      go_wp2_with (first | (at_lookup; refine wpList_look_mapG rfl _ _ 104 rfl 3 51 kInt Try.underlying104 _ (zeroEv _) (Value.int .i64) om n1 f rfl (M1.out.grown (show World.grownBy w _ none from (by repeat (first | exact gb_refl _ _ | refine gb_drewN ?_ _ | refine gb_drew ?_ | refine gb_alloc ?_ _))) (by simp)) th _ rfl (keyInt E.out.th) (.agg #[.int .i64 b.k, .int .i64 b.th, .int .i64 b.tx, .int .i64 b.at_, .int .i64 b.ob, .int .i64 b.va, .int .i64 b.re]) true (by rw [O.out]; rfl) (by rw [O.out]; rfl) ?_) | go_in)
      go_quiet (fail)
      go_wp2
      go_ret
      refine ⟨?_, (by repeat (first | exact gb_refl _ _ | refine gb_drewN ?_ _ | refine gb_drew ?_ | refine gb_alloc ?_ _))⟩
      simp [mayB]
    have f1 : (k == 1) = false := by simp [h1]
    clear h1
    by_cases h7 : k = 7
    · subst h7
      go_enter Try.func55, Try.ntmps55
      go_wp2_with (first | (at_lookup; refine wpList_look_mapG rfl _ _ 104 rfl 3 51 kInt Try.underlying104 _ (zeroEv _) (Value.int .i64) om n1 f rfl (M1.out.grown (show World.grownBy w _ none from (by repeat (first | exact gb_refl _ _ | refine gb_drewN ?_ _ | refine gb_drew ?_ | refine gb_alloc ?_ _))) (by simp)) th _ rfl (keyInt E.out.th) (.agg #[.int .i64 b.k, .int .i64 b.th, .int .i64 b.tx, .int .i64 b.at_, .int .i64 b.ob, .int .i64 b.va, .int .i64 b.re]) true (by rw [O.out]; rfl) (by rw [O.out]; rfl) ?_) | go_in)
      go_ret
      refine ⟨?_, (by repeat (first | exact gb_refl _ _ | refine gb_drewN ?_ _ | refine gb_drew ?_ | refine gb_alloc ?_ _))⟩
      simp [mayB]
    have f7 : (k == 7) = false := by simp [h7]
    by_cases h2 : k = 2
    · subst h2
      go_enter Try.func55, Try.ntmps55
      go_wp2_with (first | (at_lookup; refine wpList_look_mapG rfl _ _ 104 rfl 3 51 kInt Try.underlying104 _ (zeroEv _) (Value.int .i64) om n1 f rfl (M1.out.grown (show World.grownBy w _ none from (by repeat (first | exact gb_refl _ _ | refine gb_drewN ?_ _ | refine gb_drew ?_ | refine gb_alloc ?_ _))) (by simp)) th _ rfl (keyInt E.out.th) (.agg #[.int .i64 b.k, .int .i64 b.th, .int .i64 b.tx, .int .i64 b.at_, .int .i64 b.ob, .int .i64 b.va, .int .i64 b.re]) true (by rw [O.out]; rfl) (by rw [O.out]; rfl) ?_) | go_in)
      all_goals go_ret
      all_goals refine ⟨?_, (by repeat (first | exact gb_refl _ _ | refine gb_drewN ?_ _ | refine gb_drew ?_ | refine gb_alloc ?_ _))⟩
      all_goals simp_all [mayB]
    have f2 : (k == 2) = false := by simp [h2]
    by_cases h3 : k = 3
    · subst h3
      go_enter Try.func55, Try.ntmps55
      go_wp2_with (first | (at_lookup; refine wpList_look_mapG rfl _ _ 104 rfl 3 51 kInt Try.underlying104 _ (zeroEv _) (Value.int .i64) om n1 f rfl (M1.out.grown (show World.grownBy w _ none from (by repeat (first | exact gb_refl _ _ | refine gb_drewN ?_ _ | refine gb_drew ?_ | refine gb_alloc ?_ _))) (by simp)) th _ rfl (keyInt E.out.th) (.agg #[.int .i64 b.k, .int .i64 b.th, .int .i64 b.tx, .int .i64 b.at_, .int .i64 b.ob, .int .i64 b.va, .int .i64 b.re]) true (by rw [O.out]; rfl) (by rw [O.out]; rfl) ?_) | go_in)
      all_goals go_ret
      all_goals refine ⟨?_, (by repeat (first | exact gb_refl _ _ | refine gb_drewN ?_ _ | refine gb_drew ?_ | refine gb_alloc ?_ _))⟩
      all_goals simp_all [mayB]
    have f3 : (k == 3) = false := by simp [h3]
    by_cases h4 : k = 4
    · subst h4
      go_enter Try.func55, Try.ntmps55
      go_wp2_with (first | (at_lookup; refine wpList_look_mapG rfl _ _ 104 rfl 3 51 kInt Try.underlying104 _ (zeroEv _) (Value.int .i64) om n1 f rfl (M1.out.grown (show World.grownBy w _ none from (by repeat (first | exact gb_refl _ _ | refine gb_drewN ?_ _ | refine gb_drew ?_ | refine gb_alloc ?_ _))) (by simp)) th _ rfl (keyInt E.out.th) (.agg #[.int .i64 b.k, .int .i64 b.th, .int .i64 b.tx, .int .i64 b.at_, .int .i64 b.ob, .int .i64 b.va, .int .i64 b.re]) true (by rw [O.out]; rfl) (by rw [O.out]; rfl) ?_) | go_in)
      all_goals go_ret
      all_goals refine ⟨?_, (by repeat (first | exact gb_refl _ _ | refine gb_drewN ?_ _ | refine gb_drew ?_ | refine gb_alloc ?_ _))⟩
      all_goals simp_all [mayB]
    have f4 : (k == 4) = false := by simp [h4]
    by_cases h5 : k = 5
    · subst h5
      go_enter Try.func55, Try.ntmps55
      go_wp2_with (first | (at_lookup; refine wpList_look_mapG rfl _ _ 104 rfl 3 51 kInt Try.underlying104 _ (zeroEv _) (Value.int .i64) om n1 f rfl (M1.out.grown (show World.grownBy w _ none from (by repeat (first | exact gb_refl _ _ | refine gb_drewN ?_ _ | refine gb_drew ?_ | refine gb_alloc ?_ _))) (by simp)) th _ rfl (keyInt E.out.th) (.agg #[.int .i64 b.k, .int .i64 b.th, .int .i64 b.tx, .int .i64 b.at_, .int .i64 b.ob, .int .i64 b.va, .int .i64 b.re]) true (by rw [O.out]; rfl) (by rw [O.out]; rfl) ?_) | go_in)
      all_goals go_ret
      all_goals refine ⟨?_, (by repeat (first | exact gb_refl _ _ | refine gb_drewN ?_ _ | refine gb_drew ?_ | refine gb_alloc ?_ _))⟩
      all_goals simp_all [mayB]
    have f5 : (k == 5) = false := by simp [h5]
    by_cases h6 : k = 6
    · subst h6
      go_enter Try.func55, Try.ntmps55
      go_wp2_with (first | (at_lookup; refine wpList_look_mapG rfl _ _ 104 rfl 3 51 kInt Try.underlying104 _ (zeroEv _) (Value.int .i64) om n1 f rfl (M1.out.grown (show World.grownBy w _ none from (by repeat (first | exact gb_refl _ _ | refine gb_drewN ?_ _ | refine gb_drew ?_ | refine gb_alloc ?_ _))) (by simp)) th _ rfl (keyInt E.out.th) (.agg #[.int .i64 b.k, .int .i64 b.th, .int .i64 b.tx, .int .i64 b.at_, .int .i64 b.ob, .int .i64 b.va, .int .i64 b.re]) true (by rw [O.out]; rfl) (by rw [O.out]; rfl) ?_) | go_in)
      all_goals go_ret
      all_goals refine ⟨?_, (by repeat (first | exact gb_refl _ _ | refine gb_drewN ?_ _ | refine gb_drew ?_ | refine gb_alloc ?_ _))⟩
      all_goals simp_all [mayB]
    have f6 : (k == 6) = false := by simp [h6]
    go_enter Try.func55, Try.ntmps55
    go_wp2_with (first | (at_lookup; refine wpList_look_mapG rfl _ _ 104 rfl 3 51 kInt Try.underlying104 _ (zeroEv _) (Value.int .i64) om n1 f rfl (M1.out.grown (show World.grownBy w _ none from (by repeat (first | exact gb_refl _ _ | refine gb_drewN ?_ _ | refine gb_drew ?_ | refine gb_alloc ?_ _))) (by simp)) th _ rfl (keyInt E.out.th) (.agg #[.int .i64 b.k, .int .i64 b.th, .int .i64 b.tx, .int .i64 b.at_, .int .i64 b.ob, .int .i64 b.va, .int .i64 b.re]) true (by rw [O.out]; rfl) (by rw [O.out]; rfl) ?_) | go_in)
    go_ret
    refine ⟨?_, (by repeat (first | exact gb_refl _ _ | refine gb_drewN ?_ _ | refine gb_drew ?_ | refine gb_alloc ?_ _))⟩
    have hno : (decide (2 ≤ k) && decide (k ≤ 6)) = false := by
      by_cases g : 2 ≤ k ∧ k ≤ 6
      · simp at f1
        omega
      · simp
        omega
    have hm : mayB (some b) c ⟨k, th, tx, at_, ob, va, re⟩ = false := by simp only [mayB, hno, Bool.false_and]
    rw [hm]
    rfl
end Go.Proofs.Ytkidkhjpijjphaa.hs

/- Whether a trace is right: what an event changes; Right itself. -/
namespace Go.Proofs.Ytkidkhjpijjphaa.hs
open Go Go.RowKit Go.Proofs.Ytkidkhjpijjphaa.base Go.Maps
set_option linter.unusedVariables false
set_option maxRecDepth 100000

noncomputable def enterF (f : Int → Option Value) (e : Ev) : Int → Option Value := if e.k = 1 then upd f e.th (some (.agg ⟨evc e⟩)) else if e.k = 5 ∨ e.k = 6 then upd f e.th none else f
noncomputable def enterG (g : Int × Int → Option Value) (e : Ev) : Int × Int → Option Value := if e.k = 1 then upd g (e.th, e.tx) (some (.int .i64 e.at_)) else g

set_option maxHeartbeats 1000000 in
theorem enter_any (om tm n1 n2 : Nat) (f : Int → Option Value) (g : Int × Int → Option Value) (e : Ev) (w : World) (he : Ev.Wf e) (hne : om ≠ tm) (hn1 : n1 < maxLen) (hn2 : n2 < maxLen) (hf : MapG Try.prog 3 (Value.int .i64) w om n1 f) (hg : MapG Try.prog 138 two w tm n2 g) :
    Calls Try.prog 56 #[.agg #[.map (some om), .map (some tm)], .agg #[.int .i64 e.k, .int .i64 e.th, .int .i64 e.tx, .int .i64 e.at_, .int .i64 e.ob, .int .i64 e.va, .int .i64 e.re]] w fun r w' => r = .returned (.tuple #[]) ∧ Hid (MapG Try.prog 3 (Value.int .i64) w' om (n1 + 1) (enterF f e)) ∧ Hid (MapG Try.prog 138 two w' tm (n2 + 1) (enterG g e)) ∧ Hid (Only (fun k => k = om ∨ k = tm) w w') := by
  obtain ⟨k, th, tx, at_, ob, va, re⟩ := e
  have M1 := Lib.hid hf
  have M2 := Lib.hid hg
  have E := Lib.hid he
  have NE := Lib.hid hne
  obtain ⟨kl, hkl⟩ := keyTxn (x := (th, tx)) he.th he.tx
  have KL := Lib.hid hkl
  clear hf hg he hkl hne
  dsimp only at *
  by_cases h1 : k = 1
  · subst h1
    have GA := Lib.hid (show World.grownBy w ((w.alloc (.cells #[.map (some om), .map (some tm)] 107)).alloc (.cells #[.int .i64 1, .int .i64 th, .int .i64 tx, .int .i64 at_, .int .i64 ob, .int .i64 va, .int .i64 re] 51)) none from (by repeat (first | exact gb_refl _ _ | refine gb_drewN ?_ _ | refine gb_drew ?_ | refine gb_alloc ?_ _)))
    have om_lt := M1.out.lt
    have tm_lt := M2.out.lt
    have BB := Lib.hid ((Blk.made w 107 #[.map (some om), .map (some tm)]).alloc (.cells #[.int .i64 1, .int .i64 th, .int .i64 tx, .int .i64 at_, .int .i64 ob, .int .i64 va, .int .i64 re] 51))
    have EB : Hid (Blk 51 ((w.alloc (.cells #[.map (some om), .map (some tm)] 107)).alloc (.cells #[.int .i64 1, .int .i64 th, .int .i64 tx, .int .i64 at_, .int .i64 ob, .int .i64 va, .int .i64 re] 51)) (w.heap.size + 1) #[.int .i64 1, .int .i64 th, .int .i64 tx, .int .i64 at_, .int .i64 ob, .int .i64 va, .int .i64 re]) := Lib.hid (by have := Blk.made (w.alloc (.cells #[.map (some om), .map (some tm)] 107)) 51 #[.int .i64 1, .int .i64 th, .int .i64 tx, .int .i64 at_, .int .i64 ob, .int .i64 va, .int .i64 re]; rwa [World.size_alloc] at this)
    go_enter Try.func56, Try.ntmps56
    go_wp2_with (first | (at_mapUpdate; (refine wpList_set_mapG rfl (.tmp 9) (.tmp 11) (.tmp 12) 104 rfl 3 51 kInt (Value.int .i64) vint_inj Try.underlying104 om n1 f rfl (M1.out.grown GA.out (by simp)) hn1 th _ rfl (keyInt E.out.th) _ rfl ?_); intro u1 m1 g1; have b1 := BB.out.grown g1 (by simp; omega); have b2 := EB.out.grown g1 (by simp; omega); have q0 := b1.cell 1; have q1 := b2.cell 1; have q2 := b2.cell 2; have q3 := b2.cell 3; have MM := Lib.hid ((M2.out.grown GA.out (by simp)).grown g1 (by simp; exact fun h => NE.out h.symm)); have M1B := Lib.hid m1; have G1 := Lib.hid g1; clear m1 g1 b1 b2) | (at_mapUpdate; (refine wpList_set_mapG rfl (.tmp 14) (.tmp 19) (.tmp 21) 105 rfl 138 3 kTxn two two_inj Try.underlying105 tm n2 g rfl MM.out hn2 (th, tx) _ rfl KL.out _ rfl ?_); intro u2 m2 g2; have M1C := Lib.hid (M1B.out.grown g2 (by simp; exact NE.out)); have M2C := Lib.hid m2; have G2 := Lib.hid g2; clear m2 g2) | go_in)
    go_end0
    refine ⟨rfl, ?_, ?_, ?_⟩
    · rw [enterF, if_pos rfl]; exact M1C.out
    · rw [enterG, if_pos rfl]; exact M2C.out
    · exact ((Only.none GA.out).trans (Only.of G1.out (fun _ e _ => .inl (by cases e; rfl)))).trans (Only.of G2.out (fun _ e _ => .inr (by cases e; rfl)))
  have f1 : (k == 1) = false := by simp [h1]
  by_cases h5 : k = 5
  · subst h5
    have GA := Lib.hid (show World.grownBy w ((w.alloc (.cells #[.map (some om), .map (some tm)] 107)).alloc (.cells #[.int .i64 5, .int .i64 th, .int .i64 tx, .int .i64 at_, .int .i64 ob, .int .i64 va, .int .i64 re] 51)) none from (by repeat (first | exact gb_refl _ _ | refine gb_drewN ?_ _ | refine gb_drew ?_ | refine gb_alloc ?_ _)))
    have om_lt := M1.out.lt
    have tm_lt := M2.out.lt
    have BB := Lib.hid ((Blk.made w 107 #[.map (some om), .map (some tm)]).alloc (.cells #[.int .i64 5, .int .i64 th, .int .i64 tx, .int .i64 at_, .int .i64 ob, .int .i64 va, .int .i64 re] 51))
    have EB : Hid (Blk 51 ((w.alloc (.cells #[.map (some om), .map (some tm)] 107)).alloc (.cells #[.int .i64 5, .int .i64 th, .int .i64 tx, .int .i64 at_, .int .i64 ob, .int .i64 va, .int .i64 re] 51)) (w.heap.size + 1) #[.int .i64 5, .int .i64 th, .int .i64 tx, .int .i64 at_, .int .i64 ob, .int .i64 va, .int .i64 re]) := Lib.hid (by have := Blk.made (w.alloc (.cells #[.map (some om), .map (some tm)] 107)) 51 #[.int .i64 5, .int .i64 th, .int .i64 tx, .int .i64 at_, .int .i64 ob, .int .i64 va, .int .i64 re]; rwa [World.size_alloc] at this)
    go_enter Try.func56, Try.ntmps56
    go_wp2_with (first | (at_delete; refine wpList_del_mapG rfl _ _ 104 3 rfl 51 kInt (Value.int .i64) vint_inj Try.underlying104 om n1 f rfl (M1.out.grown GA.out (by simp)) th _ rfl (keyInt E.out.th) ?_; intro u1 m1 g1; have MM := Lib.hid ((M2.out.grown GA.out (by simp)).grown g1 (by simp; exact fun h => NE.out h.symm)); have M1B := Lib.hid m1; have G1 := Lib.hid g1; clear m1 g1) | go_in)
    go_end0
    refine ⟨rfl, ?_, ?_, ?_⟩
    · rw [enterF, if_neg (by simp), if_pos (by simp)]; exact M1B.out.more (by omega)
    · rw [enterG, if_neg (by simp)]; exact MM.out.more (by omega)
    · exact (Only.none GA.out).trans (Only.of G1.out (fun _ e _ => .inl (by cases e; rfl)))
  have f5 : (k == 5) = false := by simp [h5]
  by_cases h6 : k = 6
  · subst h6
    have GA := Lib.hid (show World.grownBy w ((w.alloc (.cells #[.map (some om), .map (some tm)] 107)).alloc (.cells #[.int .i64 6, .int .i64 th, .int .i64 tx, .int .i64 at_, .int .i64 ob, .int .i64 va, .int .i64 re] 51)) none from (by repeat (first | exact gb_refl _ _ | refine gb_drewN ?_ _ | refine gb_drew ?_ | refine gb_alloc ?_ _)))
    have om_lt := M1.out.lt
    have tm_lt := M2.out.lt
    have BB := Lib.hid ((Blk.made w 107 #[.map (some om), .map (some tm)]).alloc (.cells #[.int .i64 6, .int .i64 th, .int .i64 tx, .int .i64 at_, .int .i64 ob, .int .i64 va, .int .i64 re] 51))
    have EB : Hid (Blk 51 ((w.alloc (.cells #[.map (some om), .map (some tm)] 107)).alloc (.cells #[.int .i64 6, .int .i64 th, .int .i64 tx, .int .i64 at_, .int .i64 ob, .int .i64 va, .int .i64 re] 51)) (w.heap.size + 1) #[.int .i64 6, .int .i64 th, .int .i64 tx, .int .i64 at_, .int .i64 ob, .int .i64 va, .int .i64 re]) := Lib.hid (by have := Blk.made (w.alloc (.cells #[.map (some om), .map (some tm)] 107)) 51 #[.int .i64 6, .int .i64 th, .int .i64 tx, .int .i64 at_, .int .i64 ob, .int .i64 va, .int .i64 re]; rwa [World.size_alloc] at this)
    go_enter Try.func56, Try.ntmps56
    go_wp2_with (first | (at_delete; refine wpList_del_mapG rfl _ _ 104 3 rfl 51 kInt (Value.int .i64) vint_inj Try.underlying104 om n1 f rfl (M1.out.grown GA.out (by simp)) th _ rfl (keyInt E.out.th) ?_; intro u1 m1 g1; have MM := Lib.hid ((M2.out.grown GA.out (by simp)).grown g1 (by simp; exact fun h => NE.out h.symm)); have M1B := Lib.hid m1; have G1 := Lib.hid g1; clear m1 g1) | go_in)
    go_end0
    refine ⟨rfl, ?_, ?_, ?_⟩
    · rw [enterF, if_neg (by simp), if_pos (by simp)]; exact M1B.out.more (by omega)
    · rw [enterG, if_neg (by simp)]; exact MM.out.more (by omega)
    · exact (Only.none GA.out).trans (Only.of G1.out (fun _ e _ => .inl (by cases e; rfl)))
  have f6 : (k == 6) = false := by simp [h6]
  have GA := Lib.hid (show World.grownBy w ((w.alloc (.cells #[.map (some om), .map (some tm)] 107)).alloc (.cells #[.int .i64 k, .int .i64 th, .int .i64 tx, .int .i64 at_, .int .i64 ob, .int .i64 va, .int .i64 re] 51)) none from (by repeat (first | exact gb_refl _ _ | refine gb_drewN ?_ _ | refine gb_drew ?_ | refine gb_alloc ?_ _)))
  have om_lt := M1.out.lt
  have tm_lt := M2.out.lt
  have BB := Lib.hid ((Blk.made w 107 #[.map (some om), .map (some tm)]).alloc (.cells #[.int .i64 k, .int .i64 th, .int .i64 tx, .int .i64 at_, .int .i64 ob, .int .i64 va, .int .i64 re] 51))
  have EB : Hid (Blk 51 ((w.alloc (.cells #[.map (some om), .map (some tm)] 107)).alloc (.cells #[.int .i64 k, .int .i64 th, .int .i64 tx, .int .i64 at_, .int .i64 ob, .int .i64 va, .int .i64 re] 51)) (w.heap.size + 1) #[.int .i64 k, .int .i64 th, .int .i64 tx, .int .i64 at_, .int .i64 ob, .int .i64 va, .int .i64 re]) := Lib.hid (by have := Blk.made (w.alloc (.cells #[.map (some om), .map (some tm)] 107)) 51 #[.int .i64 k, .int .i64 th, .int .i64 tx, .int .i64 at_, .int .i64 ob, .int .i64 va, .int .i64 re]; rwa [World.size_alloc] at this)
  go_enter Try.func56, Try.ntmps56
  go_wp2
  go_end0
  refine ⟨rfl, ?_, ?_, ?_⟩
  · rw [enterF, if_neg h1, if_neg (by rintro (h | h); exact h5 h; exact h6 h)]; exact (M1.out.grown GA.out (by simp)).more (by omega)
  · rw [enterG, if_neg h1]; exact (M2.out.grown GA.out (by simp)).more (by omega)
  · exact Only.none GA.out

/-- What the maps have, one event on. -/
theorem enterF_opn (e : Evs) (i : Nat) (x : Int) : enterF (fun th => opnV ((opn e i th).map e)) (e i) x = opnV ((opn e (i + 1) x).map e) := by
  unfold enterF
  rw [opn]
  by_cases h1 : (e i).k = 1
  · rw [if_pos h1, if_pos h1]
    by_cases hx : x = (e i).th
    · subst hx
      rw [upd_same, if_pos rfl]
      rfl
    · rw [upd_other _ _ hx, if_neg (fun h => hx h.symm)]
  · rw [if_neg h1, if_neg h1]
    by_cases h56 : (e i).k = 5 ∨ (e i).k = 6
    · rw [if_pos h56, if_pos h56]
      by_cases hx : x = (e i).th
      · subst hx
        rw [upd_same, if_pos rfl]
        rfl
      · rw [upd_other _ _ hx, if_neg (fun h => hx h.symm)]
    · rw [if_neg h56, if_neg h56]
      split <;> rfl
theorem enterG_cnt (e : Evs) (i : Nat) (g : Int × Int → Option Value) (h : ∀ th tx, (g (th, tx)).getD (.int .i64 0) = .int .i64 (cnt e i th tx)) (th tx : Int) : (enterG g (e i) (th, tx)).getD (.int .i64 0) = .int .i64 (cnt e (i + 1) th tx) := by
  unfold enterG
  rw [cnt]
  by_cases h1 : (e i).k = 1
  · rw [if_pos h1]
    by_cases hx : (th, tx) = ((e i).th, (e i).tx)
    · cases hx
      rw [upd_same, if_pos ⟨h1, rfl, rfl⟩]
      rfl
    · rw [upd_other _ _ hx, if_neg (fun h => hx (by rw [h.2.1, h.2.2]))]
      exact h th tx
  · rw [if_neg h1, if_neg (fun h => h1 h.1)]
    exact h th tx
theorem may_mayB (e : Evs) (i : Nat) : may e i = mayB ((opn e i (e i).th).map e) (cnt e i (e i).th (e i).tx) (e i) := by
  unfold may mayB
  cases opn e i (e i).th <;> rfl
end Go.Proofs.Ytkidkhjpijjphaa.hs

/- Whether a trace is right: Right itself. -/
namespace Go.Proofs.Ytkidkhjpijjphaa.hs
open Go Go.RowKit Go.Proofs.Ytkidkhjpijjphaa.base Go.Maps
set_option linter.unusedVariables false
set_option maxRecDepth 100000

set_option maxHeartbeats 2000000 in
theorem right_any (a : Option Addr) (len cap : Nat) (e : Evs) (w : World) (hl : IsEvs w a len e) (hlen : len ≤ 1000000) :
    Calls Try.prog 41 #[.slice a len cap] w fun r w' => r = .returned (.bool (right e len)) ∧ Hid (w.grownBy w' none) := by
  have L := Lib.hid hl
  have HL := Lib.hid hlen
  have GA := Lib.hid (show World.grownBy w (((w.alloc (.map #[] 0)).alloc (.map #[] 0)).alloc (.cells #[.map (some w.heap.size), .map (some (w.heap.size + 1))] 107)) none from (by repeat (first | exact gb_refl _ _ | refine gb_drewN ?_ _ | refine gb_drew ?_ | refine gb_alloc ?_ _)))
  have MA : Hid (MapG Try.prog 3 (Value.int .i64) (((w.alloc (.map #[] 0)).alloc (.map #[] 0)).alloc (.cells #[.map (some w.heap.size), .map (some (w.heap.size + 1))] 107)) w.heap.size 0 (fun th => opnV ((opn e 0 th).map e))) := Lib.hid ((MapG.made w Try.prog 3 (Value.int .i64)).grown (r := none) (by repeat (first | exact gb_refl _ _ | refine gb_drewN ?_ _ | refine gb_drew ?_ | refine gb_alloc ?_ _)) (by simp))
  have MB : Hid (MapG Try.prog 138 two (((w.alloc (.map #[] 0)).alloc (.map #[] 0)).alloc (.cells #[.map (some w.heap.size), .map (some (w.heap.size + 1))] 107)) (w.heap.size + 1) 0 (fun _ => none)) := Lib.hid (by have := (MapG.made (w.alloc (.map #[] 0)) Try.prog 138 two).grown (w' := ((w.alloc (.map #[] 0)).alloc (.map #[] 0)).alloc (.cells #[.map (some w.heap.size), .map (some (w.heap.size + 1))] 107)) (r := none) (by repeat (first | exact gb_refl _ _ | refine gb_drewN ?_ _ | refine gb_drew ?_ | refine gb_alloc ?_ _)) (by simp); rwa [World.size_alloc] at this)
  have BA : Hid (Blk 107 (((w.alloc (.map #[] 0)).alloc (.map #[] 0)).alloc (.cells #[.map (some w.heap.size), .map (some (w.heap.size + 1))] 107)) (w.heap.size + 2) #[.map (some w.heap.size), .map (some (w.heap.size + 1))]) := Lib.hid (by have := Blk.made ((w.alloc (.map #[] 0)).alloc (.map #[] 0)) 107 #[.map (some w.heap.size), .map (some (w.heap.size + 1))]; rwa [World.size_alloc, World.size_alloc] at this)
  clear hl hlen
  have hmm := @run_makeMap Try.prog
  go_enter Try.func41, Try.ntmps41
  go_wp2_with fail
  generalize (((w.alloc (.map #[] 0)).alloc (.map #[] 0)).alloc (.cells #[.map (some w.heap.size), .map (some (w.heap.size + 1))] 107)) = wa at *
  generalize hom : w.heap.size = om at *
  have OM := Lib.hid hom
  clear hom
  go_loopw [11] (fun iv wr => ∃ (k : Nat) (g : Int × Int → Option Value), k ≤ len ∧ iv = .int .i64 k ∧ Hid (right e k = true) ∧ Hid (MapG Try.prog 3 (Value.int .i64) wr om k (fun th => opnV ((opn e k th).map e))) ∧ Hid (MapG Try.prog 138 two wr (om + 1) k g) ∧ Hid (∀ th tx, (g (th, tx)).getD (.int .i64 0) = .int .i64 (cnt e k th tx)) ∧ Hid (Blk 107 wr (om + 2) #[.map (some om), .map (some (om + 1))]) ∧ Hid (w.grownBy wr none)) (fun iv _ => (len - intOf iv).toNat)
  case atStart => exact ⟨0, fun _ => none, by omega, rfl, rfl, MA, MB, fun _ _ => rfl, BA, GA⟩
  case round =>
    obtain ⟨k, g, hk, rfl, HR, M1, M2, C, B, G⟩ := hrel
    have om_lt := M1.out.lt
    have tm_lt := M2.out.lt
    have b_lt := B.out.lt
    by_cases hlt : k < len
    · obtain ⟨b, off, rfl, hb, c0, c1, c2, c3, c4, c5, c6, we⟩ := (L.out.grown G.out).at7 hlt
      have WE := Lib.hid we
      clear we
      have hlt' : (k : Int) < (len : Int) := by omega
      have hlk : (k : Int) < 1000000 := by have := HL.out; omega
      have HM := Lib.hid (may_mayB e k)
      have q0 := B.out.cell 0
      have q1 := B.out.cell 1
      have G1 := Lib.hid (World.grownBy_alloc wr (.cells #[.int .i64 ((e k).k), .int .i64 ((e k).th), .int .i64 ((e k).tx), .int .i64 ((e k).at_), .int .i64 ((e k).ob), .int .i64 ((e k).va), .int .i64 ((e k).re)] 51) none)
      have E1 := Lib.hid (Blk.made wr 51 #[.int .i64 ((e k).k), .int .i64 ((e k).th), .int .i64 ((e k).tx), .int .i64 ((e k).at_), .int .i64 ((e k).ob), .int .i64 ((e k).va), .int .i64 ((e k).re)])
      have BB := Lib.hid B.out
      have CC := Lib.hid C.out
      have OMB := Lib.hid (show om + 2 < wr.heap.size from b_lt)
      clear B C
      cases HY : may e k with
      | true =>
        go_wp2_with (first | (go_at_call 55; refine (may_any om (om + 1) k k _ g (e k) ((opn e k (e k).th).map e) (cnt e k (e k).th (e k).tx) _ WE.out (M1.out.grown G1.out (by simp)) (M2.out.grown G1.out (by simp)) rfl (CC.out _ _)).mono ?_; rw [← HM.out, HY]; rintro r u1 ⟨rfl, g1⟩; have E2 := Lib.hid (E1.out.grown g1.out (by simp)); have B2 := Lib.hid ((BB.out.grown G1.out (by simp)).grown g1.out (by simp)); have p0 := B2.out.cell 0; have p1 := B2.out.cell 1; have r0 := E2.out.cell 0; have r1 := E2.out.cell 1; have r2 := E2.out.cell 2; have r3 := E2.out.cell 3; have r4 := E2.out.cell 4; have r5 := E2.out.cell 5; have r6 := E2.out.cell 6; have N1 := Lib.hid ((M1.out.grown G1.out (by simp)).grown g1.out (by simp)); have N2 := Lib.hid ((M2.out.grown G1.out (by simp)).grown g1.out (by simp))) | (go_at_call 56; refine (enter_any om (om + 1) k k _ g (e k) _ WE.out (by omega) (by unfold maxLen; have := HL.out; omega) (by unfold maxLen; have := HL.out; omega) N1.out N2.out).mono ?_; rintro r u2 ⟨rfl, m1, m2, g2⟩) | go_in)
        go_roundw
        case rel =>
          refine ⟨k + 1, enterG g (e k), by omega, by go_num, Lib.hid (by rw [right, HR.out, HY]; rfl), Lib.hid (m1.out.congr fun x _ _ => (enterF_opn e k x).symm), m2, Lib.hid (fun th tx => enterG_cnt e k g CC.out th tx), Lib.hid (B2.out.keep (g2.out.block _ B2.out.lt (by omega))), Lib.hid ?_⟩
          have g0 := gb_trans (gb_trans G.out G1.out) g1.out
          refine ⟨g2.out.os.trans g0.os, g2.out.tape.trans g0.tape, g2.out.output.trans g0.output, Nat.le_trans g0.size g2.out.size, fun i hi _ => (g2.out.block i (Nat.lt_of_lt_of_le hi g0.size) (by have := OM.out; omega)).trans (g0.block i hi (by simp))⟩
        case measure => simp [intOf]; omega
      | false =>
        go_wp2_with (first | (go_at_call 55; refine (may_any om (om + 1) k k _ g (e k) ((opn e k (e k).th).map e) (cnt e k (e k).th (e k).tx) _ WE.out (M1.out.grown G1.out (by simp)) (M2.out.grown G1.out (by simp)) rfl (CC.out _ _)).mono ?_; rw [← HM.out, HY]; rintro r u1 ⟨rfl, g1⟩; have E2 := Lib.hid (E1.out.grown g1.out (by simp)); have B2 := Lib.hid ((BB.out.grown G1.out (by simp)).grown g1.out (by simp)); have p0 := B2.out.cell 0; have p1 := B2.out.cell 1; have r0 := E2.out.cell 0; have r1 := E2.out.cell 1; have r2 := E2.out.cell 2; have r3 := E2.out.cell 3; have r4 := E2.out.cell 4; have r5 := E2.out.cell 5; have r6 := E2.out.cell 6; have N1 := Lib.hid ((M1.out.grown G1.out (by simp)).grown g1.out (by simp)); have N2 := Lib.hid ((M2.out.grown G1.out (by simp)).grown g1.out (by simp))) | go_in)
        go_ret
        refine ⟨?_, gb_trans (gb_trans G.out G1.out) g1.out⟩
        have hno : right e len = false := by
          cases h : right e len with
          | false => rfl
          | true => rw [right_may e h hlt] at HY; cases HY
        rw [hno]
        rfl
    · obtain rfl : k = len := by omega
      go_wp2
      go_ret
      exact ⟨by rw [HR.out]; rfl, G.out⟩
end Go.Proofs.Ytkidkhjpijjphaa.hs

/- The tries that are asked for: hist's told. -/
namespace Go.Proofs.Ytkidkhjpijjphaa.hs
open Go Go.RowKit Go.Proofs.Ytkidkhjpijjphaa.base Go.Maps
set_option linter.unusedVariables false
set_option maxRecDepth 100000
attribute [local go_sem] Oper.semAt_some

def tvC (x : Tr × Value) : List Value := trC x.1 x.2
theorem tvC_len (x : Tr × Value) : (tvC x).length = 9 := rfl

/-- What told holds while the tries come. -/
structure JTP (l D : Nat) (rec : Loop) (bw : Nat) (fw : Value) (bt : Nat) (Cap : List (Nat × TypeId × List Value)) (ys : List (Tr × Value)) (W : World) (Fc : Nat → Prop) (a : Option Addr) (c : Nat) : Prop where
  box : Blk 34 W bt #[.slice a ys.length c]
  row : W.ownsRow 0 41 9 (.slice a ys.length c) ys.length (rows tvC ys)
  acc : ∀ x ∈ ys, W.ownsRow 0 48 6 x.2 x.1.ac.length (rows accC x.1.ac)
  wan : Blk 69 W bw #[fw]
  loop : LoopAt l D rec W
  fbt : Fc bt
  fbw : Fc bw
  fl : Fc l
  fD : Fc D
  frow : ∀ k, (Value.slice a ys.length c).ownBlock = some k → Fc k
  facc : ∀ x ∈ ys, ∀ k, x.2.ownBlock = some k → Fc k
  cap : ∀ x ∈ Cap, Blk x.2.1 W x.1 ⟨x.2.2⟩ ∧ Fc x.1
def JT (l D : Nat) (rec : Loop) (bw : Nat) (fw : Value) (bt : Nat) (Cap : List (Nat × TypeId × List Value)) (p : Tr → Bool) (pre : List (Tr × Value)) (W : World) (Fc : Nat → Prop) : Prop := ∃ a c, JTP l D rec bw fw bt Cap (pre.filter fun x => p x.1) W Fc a c

theorem JTP.keep {l D : Nat} {rec : Loop} {bw : Nat} {fw : Value} {bt : Nat} {Cap : List (Nat × TypeId × List Value)} {ys : List (Tr × Value)} {W W' : World} {Fc Fd : Nat → Prop} {a : Option Addr} {c : Nat} (h : JTP l D rec bw fw bt Cap ys W Fc a c) (hk : ∀ k, Fc k → W'.heap[k]? = W.heap[k]?) (hF : ∀ k, Fc k → Fd k) : JTP l D rec bw fw bt Cap ys W' Fd a c :=
  ⟨h.box.keep (hk _ h.fbt), ownsRow_keep h.row (fun k e => hk _ (h.frow k e)), fun x hx => ownsRow_keep (h.acc x hx) (fun k e => hk _ (h.facc x hx k e)), h.wan.keep (hk _ h.fbw), h.loop.keep (hk _ h.fl) (hk _ h.fD), hF _ h.fbt, hF _ h.fbw, hF _ h.fl, hF _ h.fD, fun k e => hF _ (h.frow k e), fun x hx k e => hF _ (h.facc x hx k e), fun x hx => ⟨(h.cap x hx).1.keep (hk _ (h.cap x hx).2), hF _ (h.cap x hx).2⟩⟩
theorem jt_firm (l D : Nat) (rec : Loop) (bw : Nat) (fw : Value) (bt : Nat) (Cap : List (Nat × TypeId × List Value)) (p : Tr → Bool) : Firm2 (JT l D rec bw fw bt Cap p) := by
  rintro pre W W' Fc ⟨a, c, h⟩ hk
  exact ⟨a, c, h.keep hk (fun _ h => h)⟩

theorem infoTry : (Try.prog.info? 41).map (fun i => (i.zero, i.size, i.bytes)) = some (some (.agg #[.int .i64 0, .int .i64 0, .int .i64 0, .int .i64 0, .int .i64 0, .int .i64 0, .int .i64 0, .bool false, .slice none 0 0]), 9, 88) := by kernel_rfl

/-- The function value that says which tries are wanted: it says p, wherever its captured variables lie. -/
def Wants (Cap : List (Nat × TypeId × List Value)) (gw : Nat) (cw : Array Value) (p : Tr → Bool) : Prop :=
  (∀ args w, (callFunc gw args).run Try.prog w = .ok (.enter gw args) w) ∧ ∀ u t v, (∀ x ∈ Cap, Blk x.2.1 u x.1 ⟨x.2.2⟩) → Calls Try.prog gw (#[.agg ⟨trC t v⟩] ++ cw) u fun r u' => r = .returned (.bool (p t)) ∧ Hid (u.grownBy u' none)

section
variable {l D : Nat} {rec : Loop} {bw : Nat} {fw : Value} {bt : Nat} {Cap : List (Nat × TypeId × List Value)} {p : Tr → Bool} {pre : List (Tr × Value)} {W W' : World} {Fc G : Nat → Prop} {t : Tr} {v : Value}

theorem jt_skip (h : JT l D rec bw fw bt Cap p pre W Fc) (hp : p t = false) (hk : ∀ k, Fc k → W'.heap[k]? = W.heap[k]?) (hF : ∀ k, Fc k → G k) : JT l D rec bw fw bt Cap p (pre ++ [(t, v)]) W' G := by
  obtain ⟨a, c, h⟩ := h
  refine ⟨a, c, ?_⟩
  have : (pre ++ [(t, v)]).filter (fun x => p x.1) = pre.filter (fun x => p x.1) := by simp [hp]
  rw [this]
  exact h.keep hk hF

theorem jt_add {a : Option Addr} {c : Nat} (hCap : ∀ x ∈ Cap, x.2.1 = 3) (h : JTP l D rec bw fw bt Cap (pre.filter fun x => p x.1) W Fc a c) (hp : p t = true) (hv : W'.ownsRow 0 48 6 v t.ac.length (rows accC t.ac)) (hvG : ∀ k, v.ownBlock = some k → G k)
    (ho : Only (fun k => k = bt ∨ k = l ∨ (Value.slice a (pre.filter fun x => p x.1).length c).ownBlock = some k) W W') (hlt : ∀ k, Fc k → k < W.heap.size) {g c' : Nat} (hb : Blk 34 W' bt #[.slice (some ⟨g, 0, none⟩) ((pre.filter fun x => p x.1).length + 1) c'])
    (hr : W'.ownsRow 0 41 9 (.slice (some ⟨g, 0, none⟩) ((pre.filter fun x => p x.1).length + 1) c') ((pre.filter fun x => p x.1).length + 1) (rows tvC (pre.filter fun x => p x.1) ++ tvC (t, v))) (hL : W'.heap[l]? = some (.loop rec)) (hF : ∀ k, Fc k → G k) (hg : G g) :
    JT l D rec bw fw bt Cap p (pre ++ [(t, v)]) W' G := by
  have e1 : (pre ++ [(t, v)]).filter (fun x => p x.1) = pre.filter (fun x => p x.1) ++ [(t, v)] := by simp [hp]
  refine ⟨some ⟨g, 0, none⟩, c', ?_⟩
  rw [e1]
  generalize pre.filter (fun x => p x.1) = ys at *
  have hcell : ∀ k ty cs, W.heap[k]? = some (.cells cs ty (0, 0)) → ty ≠ 34 → ty ≠ 41 → Fc k → W'.heap[k]? = W.heap[k]? := fun k ty cs hk h1 h2 hf => by
    refine ho.block k (hlt k hf) ?_
    rintro (e | e | e)
    · have := h.box
      unfold Blk at this
      rw [← e, hk] at this
      injection this with this
      injection this with _ this
      exact h1 this
    · have := h.loop.1
      rw [← e, hk] at this
      cases this
    · obtain ⟨ds, hd⟩ := ownsRow_type h.row e
      rw [hk] at hd
      injection hd with hd
      injection hd with _ hd
      exact h2 hd
  have hl2 : (ys ++ [(t, v)]).length = ys.length + 1 := by simp
  refine ⟨by rw [hl2]; exact hb, by rw [hl2, show rows tvC (ys ++ [(t, v)]) = rows tvC ys ++ tvC (t, v) from rows_snoc _ _]; exact hr, fun x hx => ?_, ?_, ⟨hL, ?_⟩, hF _ h.fbt, hF _ h.fbw, hF _ h.fl, hF _ h.fD, fun k e => by cases e; exact hg, fun x hx k e => ?_, fun x hx => ⟨?_, hF _ (h.cap x hx).2⟩⟩
  · rcases List.mem_append.1 hx with hx | hx
    · refine ownsRow_keep (h.acc x hx) (fun k e => ?_)
      obtain ⟨cs, hc⟩ := ownsRow_type (h.acc x hx) e
      exact hcell k _ cs hc (by decide) (by decide) (h.facc x hx k e)
    · have : x = (t, v) := by simpa using hx
      subst this
      exact hv
  · exact h.wan.keep (hcell bw _ _ h.wan (by decide) (by decide) h.fbw)
  · refine (ho.block D (hlt D h.fD) ?_).trans h.loop.2
    have hd := h.loop.2
    rintro (e | e | e)
    · have := h.box
      unfold Blk at this
      rw [← e, hd] at this
      cases this
    · have := h.loop.1
      rw [← e, hd] at this
      cases this
    · obtain ⟨ds, hd2⟩ := ownsRow_type h.row e
      rw [hd] at hd2
      cases hd2
  · rcases List.mem_append.1 hx with hx | hx
    · exact hF _ (h.facc x hx k e)
    · have : x = (t, v) := by simpa using hx
      subst this
      exact hvG k e
  · exact (h.cap x hx).1.keep (hcell _ _ _ (h.cap x hx).1 (by rw [hCap x hx]; decide) (by rw [hCap x hx]; decide) (h.cap x hx).2)
end
end Go.Proofs.Ytkidkhjpijjphaa.hs

/- The order of tries: what slices.SortFunc asks (laid by hand: its bodies are those of the kit's own, the kernel compares them), and the two orders. -/
namespace Go.Proofs.Ytkidkhjpijjphaa.hs
open Go Go.RowKit Go.Proofs.Ytkidkhjpijjphaa.base Go.Maps Go.Shelf Go.Lib Go.Sort
set_option linter.unusedVariables false
set_option maxRecDepth 100000

def sortTryRen : Go.Shelf.Ren where
  f := fun x => match x with
    | 6 => 50
    | 15 => 65
    | 14 => 64
    | 28 => 83
    | 29 => 84
    | 20 => 75
    | 21 => 76
    | 22 => 77
    | 23 => 78
    | 24 => 79
    | 25 => 80
    | 26 => 81
    | 27 => 82
    | 46 => 89
    | 47 => 90
    | 48 => 91
    | 49 => 92
    | 50 => 93
    | 57 => 95
    | n => n
  t := fun x => match x with
    | 22 => 34
    | 24 => 41
    | 25 => 70
    | 3 => 3
    | 39 => 134
    | 0 => 0
    | 53 => 155
    | 55 => 157
    | 4 => 4
    | 46 => 149
    | 45 => 148
    | 50 => 37
    | 5 => 5
    | 9 => 9
    | 66 => 164
    | 70 => 168
    | 76 => 171
    | 77 => 172
    | n => n
  g := fun n => n

theorem sortTryLaid : SlLaysF0.n6 Try.prog sortTryRen where
  mixed := by kernel_rfl
  f6 := ⟨"slices.SortFunc[[]quarrel/hist.Try,quarrel/hist.Try]", by kernel_rfl, Try.func50.trans (congrArg some (by kernel_rfl))⟩
  f14 := ⟨"slices.pdqsortCmpFunc[quarrel/hist.Try]", by kernel_rfl, Try.func64.trans (congrArg some (by kernel_rfl))⟩
  f20 := ⟨"slices.insertionSortCmpFunc[quarrel/hist.Try]", by kernel_rfl, Try.func75.trans (congrArg some (by kernel_rfl))⟩
  f21 := ⟨"slices.heapSortCmpFunc[quarrel/hist.Try]", by kernel_rfl, Try.func76.trans (congrArg some (by kernel_rfl))⟩
  f22 := ⟨"slices.breakPatternsCmpFunc[quarrel/hist.Try]", by kernel_rfl, Try.func77.trans (congrArg some (by kernel_rfl))⟩
  f23 := ⟨"slices.choosePivotCmpFunc[quarrel/hist.Try]", by kernel_rfl, Try.func78.trans (congrArg some (by kernel_rfl))⟩
  f24 := ⟨"slices.reverseRangeCmpFunc[quarrel/hist.Try]", by kernel_rfl, Try.func79.trans (congrArg some (by kernel_rfl))⟩
  f25 := ⟨"slices.partialInsertionSortCmpFunc[quarrel/hist.Try]", by kernel_rfl, Try.func80.trans (congrArg some (by kernel_rfl))⟩
  f26 := ⟨"slices.partitionEqualCmpFunc[quarrel/hist.Try]", by kernel_rfl, Try.func81.trans (congrArg some (by kernel_rfl))⟩
  f27 := ⟨"slices.partitionCmpFunc[quarrel/hist.Try]", by kernel_rfl, Try.func82.trans (congrArg some (by kernel_rfl))⟩
  f46 := ⟨"slices.siftDownCmpFunc[quarrel/hist.Try]", by kernel_rfl, Try.func89.trans (congrArg some (by kernel_rfl))⟩
  f49 := ⟨"slices.medianAdjacentCmpFunc[quarrel/hist.Try]", by kernel_rfl, Try.func92.trans (congrArg some (by kernel_rfl))⟩
  f50 := ⟨"slices.medianCmpFunc[quarrel/hist.Try]", by kernel_rfl, Try.func93.trans (congrArg some (by kernel_rfl))⟩
  f57 := ⟨"slices.order2CmpFunc[quarrel/hist.Try]", by kernel_rfl, Try.func95.trans (congrArg some (by kernel_rfl))⟩
  f15 := Try.func65.trans (congrArg some (by kernel_rfl))
  f28 := Try.func83.trans (congrArg some (by kernel_rfl))
  f29 := Try.func84.trans (congrArg some (by kernel_rfl))
  f47 := Try.func90.trans (congrArg some (by kernel_rfl))
  f48 := Try.func91.trans (congrArg some (by kernel_rfl))
  t0 := Try.underlying0
  a0 := Try.isAgg0
  z0 := Try.sizeOf0
  v0 := Try.zeroValue0
  t3 := Try.underlying3
  a3 := Try.isAgg3
  z3 := Try.sizeOf3
  v3 := Try.zeroValue3
  t4 := Try.underlying4
  a4 := Try.isAgg4
  z4 := Try.sizeOf4
  v4 := Try.zeroValue4
  t5 := Try.underlying5
  a5 := Try.isAgg5
  z5 := Try.sizeOf5
  v5 := Try.zeroValue5
  t9 := Try.underlying9
  a9 := Try.isAgg9
  z9 := Try.sizeOf9
  v9 := Try.zeroValue9
  t22 := Try.underlying34
  a22 := Try.isAgg34
  z22 := Try.sizeOf34
  v22 := Try.zeroValue34
  t25 := Try.underlying70
  a25 := Try.isAgg70
  z25 := Try.sizeOf70
  v25 := Try.zeroValue70
  t39 := Try.underlying134
  a39 := Try.isAgg134
  z39 := Try.sizeOf134
  v39 := Try.zeroValue134
  t45 := Try.underlying148
  a45 := Try.isAgg148
  z45 := Try.sizeOf148
  v45 := Try.zeroValue148
  t46 := Try.underlying149
  a46 := Try.isAgg149
  z46 := Try.sizeOf149
  v46 := Try.zeroValue149
  t50 := Try.underlying37
  a50 := Try.isAgg37
  z50 := Try.sizeOf37
  v50 := Try.zeroValue37
  t53 := Try.underlying155
  a53 := Try.isAgg155
  z53 := Try.sizeOf155
  v53 := Try.zeroValue155
  t55 := Try.underlying157
  a55 := Try.isAgg157
  z55 := Try.sizeOf157
  v55 := Try.zeroValue157
  t66 := Try.underlying164
  a66 := Try.isAgg164
  z66 := Try.sizeOf164
  v66 := Try.zeroValue164
  t70 := Try.underlying168
  a70 := Try.isAgg168
  z70 := Try.sizeOf168
  v70 := Try.zeroValue168
  t76 := Try.underlying171
  a76 := Try.isAgg171
  z76 := Try.sizeOf171
  v76 := Try.zeroValue171
  t77 := Try.underlying172
  a77 := Try.isAgg172
  z77 := Try.sizeOf172
  v77 := Try.zeroValue172

def cmpIntRen : Go.Shelf.Ren where
  f := fun x => match x with
    | 5 => 51
    | 7 => 66
    | n => n
  t := fun x => match x with
    | 22 => 3
    | 3 => 3
    | 4 => 4
    | n => n
  g := fun n => n

theorem cmpIntLaid : SlLaysC2.n5 Try.prog cmpIntRen where
  mixed := by kernel_rfl
  f5 := ⟨"cmp.Compare[int]", by kernel_rfl, Try.func51.trans (congrArg some (by kernel_rfl))⟩
  f7 := ⟨"cmp.isNaN[int]", by kernel_rfl, Try.func66.trans (congrArg some (by kernel_rfl))⟩
  t3 := Try.underlying3
  a3 := Try.isAgg3
  z3 := Try.sizeOf3
  v3 := Try.zeroValue3
  t4 := Try.underlying4
  a4 := Try.isAgg4
  z4 := Try.sizeOf4
  v4 := Try.zeroValue4
  t22 := Try.underlying3
  a22 := Try.isAgg3
  z22 := Try.sizeOf3
  v22 := Try.zeroValue3

theorem aggTry : ∀ w, (isAgg (sortTryRen.t 24)).run Try.prog w = .ok true w := Try.isAgg41

theorem sizeTry : ∀ w, (Go.sizeOf (sortTryRen.t 24)).run Try.prog w = .ok 9 w := Try.sizeOf41

def tvI (x : Tr × Value) : Tr × Value := (x.1, if x.2.oneCell' = true then x.2 else .slice none 0 0)
/-- A try's cells, whatever its accesses are. -/
def encT (x : Tr × Value) : List Value := tvC (tvI x)

theorem encT_len (x : Tr × Value) : (encT x).length = 9 := rfl

theorem encT_one (x : Tr × Value) : ∀ v ∈ encT x, v.oneCell' = true := by
  intro v hv
  simp [encT, tvC, trC, tvI] at hv
  rcases hv with rfl | rfl | rfl | rfl | rfl | rfl | rfl | rfl | rfl
  all_goals first | rfl | (split <;> first | assumption | rfl)

theorem encT_slice (t : Tr) (a : Option Addr) (n c : Nat) : encT (t, .slice a n c) = tvC (t, .slice a n c) := rfl

theorem ltOf_cmp {α : Type} (f : α → Int) (x y : α) : ltOf (fun x y : α => Lib.compareInt (f x) (f y)) x y = decide (f x < f y) := by
  unfold ltOf Lib.compareInt
  by_cases h1 : f x < f y
  · simp [h1]
  · by_cases h2 : f y < f x <;> simp [h1, h2]

theorem swo_cmp {α : Type} (f : α → Int) : SWO (ltOf fun x y : α => Lib.compareInt (f x) (f y)) where
  irrefl x := by rw [ltOf_cmp]; simp
  trans x y z h1 h2 := by rw [ltOf_cmp] at *; simp at *; omega
  ntrans x y z h1 h2 := by rw [ltOf_cmp] at *; simp at *; omega

set_option maxHeartbeats 1000000 in
theorem byBegin_any : ∀ (x y : Tr × Value) (W : World), Calls Try.prog 31 #[.agg ⟨encT x⟩, .agg ⟨encT y⟩] W fun e w' => e = .returned (.int .i64 (Lib.compareInt x.1.b y.1.b)) ∧ ∃ q os', w' = grow (W.drewN q) os' := by
  intro x y W
  have hcon := fun W' => AnyG.cmp_Compare_int cmpIntLaid x.1.b y.1.b W'
  change ∀ W', Calls Try.prog 51 _ _ _ at hcon
  generalize Lib.compareInt x.1.b y.1.b = r at hcon ⊢
  show Calls Try.prog 31 #[.agg #[.int .i64 x.1.th, .int .i64 x.1.tx, .int .i64 x.1.at_, .int .i64 x.1.st, .int .i64 x.1.b, .int .i64 x.1.en, .int .i64 x.1.re, .bool x.1.co, (tvI x).2], .agg #[.int .i64 y.1.th, .int .i64 y.1.tx, .int .i64 y.1.at_, .int .i64 y.1.st, .int .i64 y.1.b, .int .i64 y.1.en, .int .i64 y.1.re, .bool y.1.co, (tvI y).2]] W _
  generalize (tvI x).2 = vx
  generalize (tvI y).2 = vy
  go_enter Try.func31, Try.ntmps31
  go_wp2_with (go_at_call 51; refine (hcon _).mono ?_; rintro e w' ⟨rfl, rfl⟩)
  go_ret
  exact ⟨rfl, 0, _, by rw [alloc_eq_grow, alloc_eq_grow, grow_grow]; rfl⟩

theorem byBegin_lays (blk off size : Nat) (w : World) : CmpLays Try.prog 31 #[] encT 9 (fun x y : Tr × Value => Lib.compareInt x.1.b y.1.b) blk off size w :=
  fun _ _ _ _ x y => byBegin_any x y _

set_option maxHeartbeats 1000000 in
theorem byEnd_any : ∀ (x y : Tr × Value) (W : World), Calls Try.prog 68 #[.agg ⟨encT x⟩, .agg ⟨encT y⟩] W fun e w' => e = .returned (.int .i64 (Lib.compareInt x.1.en y.1.en)) ∧ ∃ q os', w' = grow (W.drewN q) os' := by
  intro x y W
  have hcon := fun W' => AnyG.cmp_Compare_int cmpIntLaid x.1.en y.1.en W'
  change ∀ W', Calls Try.prog 51 _ _ _ at hcon
  generalize Lib.compareInt x.1.en y.1.en = r at hcon ⊢
  show Calls Try.prog 68 #[.agg #[.int .i64 x.1.th, .int .i64 x.1.tx, .int .i64 x.1.at_, .int .i64 x.1.st, .int .i64 x.1.b, .int .i64 x.1.en, .int .i64 x.1.re, .bool x.1.co, (tvI x).2], .agg #[.int .i64 y.1.th, .int .i64 y.1.tx, .int .i64 y.1.at_, .int .i64 y.1.st, .int .i64 y.1.b, .int .i64 y.1.en, .int .i64 y.1.re, .bool y.1.co, (tvI y).2]] W _
  generalize (tvI x).2 = vx
  generalize (tvI y).2 = vy
  go_enter Try.func68, Try.ntmps68
  go_wp2_with (go_at_call 51; refine (hcon _).mono ?_; rintro e w' ⟨rfl, rfl⟩)
  go_ret
  exact ⟨rfl, 0, _, by rw [alloc_eq_grow, alloc_eq_grow, grow_grow]; rfl⟩

theorem byEnd_lays (blk off size : Nat) (w : World) : CmpLays Try.prog 68 #[] encT 9 (fun x y : Tr × Value => Lib.compareInt x.1.en y.1.en) blk off size w :=
  fun _ _ _ _ x y => byEnd_any x y _

/-- What the order that told is given must do: it goes by a number. -/
def Orders (go : Nat) (f : Tr → Int) : Prop := (∀ args w, (callFunc go args).run Try.prog w = .ok (.enter go args) w) ∧ ∀ blk off size w, CmpLays Try.prog go #[] encT 9 (fun x y : Tr × Value => Lib.compareInt (f x.1) (f y.1)) blk off size w

theorem byBegin_orders : Orders 31 Tr.b := ⟨enters_of Try.func31 (by kernel_rfl) rfl, byBegin_lays⟩

theorem byEnd_orders : Orders 68 Tr.en := ⟨enters_of Try.func68 (by kernel_rfl) rfl, byEnd_lays⟩

/-- The tries of ys lie there. -/
def IsTries (w : World) (a : Option Addr) (ys : List (Tr × Value)) : Prop :=
  (ys = [] ∨ ∃ g, a = some ⟨g, 0, none⟩ ∧ g < w.heap.size ∧ ∀ i x, ys[i]? = some x → ∀ j u, (tvC x)[j]? = some u → w.cell? ⟨g, i * 9 + j, none⟩ = some u) ∧
  ∀ x ∈ ys, w.ownsRow 0 48 6 x.2 x.1.ac.length (rows accC x.1.ac)

theorem IsTries.grown {w w' : World} {a : Option Addr} {ys : List (Tr × Value)} (h : IsTries w a ys) (g : w.grownBy w' none) : IsTries w' a ys := by
  refine ⟨?_, fun x hx => ownsRow_keep (h.2 x hx) (fun k e => g.block k ((h.2 x hx).lt k e).2 (by simp))⟩
  rcases h.1 with h1 | ⟨b, rfl, hb, hc⟩
  · exact .inl h1
  · exact .inr ⟨b, rfl, Nat.lt_of_lt_of_le hb g.size, fun i x hx j u hu => g.cell (hc i x hx j u hu) (by simp)⟩

/-- A row's elements, in their cells. -/
theorem holdsK_of {w : World} {g n cap : Nat} {ys : List (Tr × Value)} (hs : ∀ x ∈ ys, ∃ a m c, x.2 = .slice a m c) (hn : n = ys.length) (h : w.ownsRow 0 41 9 (.slice (some ⟨g, 0, none⟩) n cap) n (rows tvC ys)) : HoldsK encT 9 w g 0 ys.toArray := by
  intro t ht
  simp only [size_flatK, List.size_toArray] at ht
  rw [get_flatK _ _ _ _ (by simpa using ht)]
  have h1 : t / 9 < ys.length := by omega
  have h2 : t % 9 < 9 := Nat.mod_lt _ (by omega)
  have e1 : ys.toArray[t / 9]! = ys[t / 9] := by simp [h1]
  rw [e1]
  obtain ⟨va, vm, vc, hx⟩ := hs _ (List.getElem_mem h1)
  have e2 : encT ys[t / 9] = tvC ys[t / 9] := by
    generalize ys[t / 9] = x at hx
    obtain ⟨tt, v⟩ := x
    dsimp only at hx
    subst hx
    rfl
  rw [e2]
  have h3 := rows_get tvC_len ys (t / 9) (t % 9) ys[t / 9] (List.getElem?_eq_getElem h1) h2
  have e3 : t / 9 * 9 + t % 9 = t := Nat.div_add_mod' t 9
  rw [e3] at h3
  have h4 : (tvC ys[t / 9])[t % 9]? = some ((tvC ys[t / 9])[t % 9]!) := by
    rw [List.getElem?_eq_getElem (by rw [tvC_len]; exact h2), getElem!_pos _ _ (by rw [tvC_len]; exact h2)]
  rw [h4] at h3
  have h5 := h.cells (g := g) rfl t _ h3
  rw [add_eq] at h5
  obtain ⟨cs, hc⟩ := ownsRow_type h (k := g) rfl
  exact ⟨h5, Blk.free (t := 41) hc _⟩

theorem sortW_block {w : World} {g n : Nat} {d : Array (Tr × Value)} {os : Array Obj} {k : Nat} (hk : k < w.heap.size) (hne : k ≠ g) : (sortWorldK encT 9 w g 0 n d os).heap[k]? = w.heap[k]? := by
  unfold sortWorldK grow putRowK putRow mapBlock
  simp only
  rw [Array.getElem?_append_left (by simp [Sort.ahead]; exact hk)]
  rw [Array.getElem?_modify]
  rw [if_neg (fun e => hne e.symm)]
  rfl

theorem sortW_only {w : World} {g n : Nat} {d : Array (Tr × Value)} {os : Array Obj} : Only (fun k => k = g) w (sortWorldK encT 9 w g 0 n d os) :=
  ⟨rfl, rfl, rfl, by simp [sortWorldK, grow, putRowK, putRow, mapBlock, Sort.ahead], fun k hk hn => sortW_block hk hn⟩
end Go.Proofs.Ytkidkhjpijjphaa.hs

/- The tries that are asked for: hist's told. -/
namespace Go.Proofs.Ytkidkhjpijjphaa.hs
open Go Go.RowKit Go.Proofs.Ytkidkhjpijjphaa.base Go.Maps Go.Shelf Go.Lib Go.Sort
set_option linter.unusedVariables false
set_option maxRecDepth 100000
attribute [local go_sem] Oper.semAt_some

/-- The tries, and their accesses, lie in blocks from B on. -/
def NewT (B : Nat) (a : Option Addr) (ys : List (Tr × Value)) : Prop := (∀ b off, a = some ⟨b, off, none⟩ → B ≤ b) ∧ ∀ x ∈ ys, ∀ k, x.2.ownBlock = some k → B ≤ k

set_option maxHeartbeats 4000000 in
theorem told_right (w0 w : World) (a : Option Addr) (len cap : Nat) (e : Evs) (hl : IsEvs w0 a len e) (hB : Below w0.heap.size w0 w) (hr : right e len = true) (hlen : len ≤ 10000) (gw : Nat) (cw : Array Value) (p : Tr → Bool) (Cap : List (Nat × TypeId × List Value)) (hCap : ∀ x ∈ Cap, x.2.1 = 3 ∧ w0.heap.size ≤ x.1 ∧ Blk x.2.1 w x.1 ⟨x.2.2⟩) (hw : Wants Cap gw cw p) (go : Nat) (f : Tr → Int) (hgo : Orders go f) :
    Calls Try.prog 29 #[.slice a len cap, .func (.func gw) #[] cw, .func (.func go) #[] #[]] w fun r w' => ∃ a c ys, r = .returned (.slice a ys.length c) ∧ Hid (IsTries w' a ys) ∧ Hid ((ys.map Prod.fst).Perm ((tries e len).filter p)) ∧ Hid ((ys.map Prod.fst).Pairwise (fun x y => ¬ f y < f x)) ∧ Hid (Below w0.heap.size w0 w') ∧ Hid (NewT w0.heap.size a ys) := by
  have HL := Lib.hid hl
  have HB := Lib.hid hB
  have HLEN := Lib.hid hlen
  have HW := Lib.hid hw
  have HC := Lib.hid hCap
  have HRT := Lib.hid hr
  have HGO := Lib.hid hgo
  obtain ⟨eg, wt⟩ := hw
  have WT := Lib.hid wt
  obtain ⟨i0, hi0, hz00, hz10, hz20⟩ := info_parts infoTry
  have hi := Lib.hid hi0
  have hz0 := Lib.hid hz00
  have hz1 := Lib.hid hz10
  have hz2 := Lib.hid hz20
  clear hl hlen hCap hr hB wt hgo hi0 hz00 hz10 hz20
  refine (callsIn_wide (n := 5)).1 ?_
  refine callsIn_of_wp_marks Try.func29 rfl trivial ?_ rfl
  simp only [Try.ntmps29, List.size_toArray, List.length_cons, List.length_nil, Nat.reduceAdd, Nat.reduceSub, Array.replicate_succ, Array.replicate_zero, List.push_toArray, List.append_toArray, List.nil_append, List.cons_append]
  have GA := Lib.hid (World.grownBy_alloc w (.cells #[.func (.func gw) #[] cw] 69) none)
  have BW := Lib.hid (Blk.made w 69 #[.func (.func gw) #[] cw])
  gi_wp2_with (first | (refine ⟨trivial, ?_⟩; gi_at_call 41; refine (callsIn_wide.2 (right_any a len cap e _ ((HL.out.below HB.out (Nat.le_refl _)).grown GA.out) (by have := HLEN.out; omega))).mono ?_; rw [HRT.out]; rintro r u1 ⟨rfl, g1⟩) | gi_in)
  have G1 := Lib.hid (gb_trans GA.out g1.out)
  have BW1 := Lib.hid (BW.out.grown g1.out (by simp))
  have BT := Lib.hid (Blk.made u1 34 #[.slice none 0 0])
  have G2 := Lib.hid (gb_alloc G1.out (.cells #[.slice none 0 0] 34))
  have BW2 := Lib.hid (BW1.out.alloc (.cells #[.slice none 0 0] 34))
  have HSZ := Lib.hid (show u1.heap.size < (u1.alloc (.cells #[.slice none 0 0] 34)).heap.size by simp)
  have HW1 := Lib.hid (show w.heap.size < u1.heap.size by have := g1.out.size; simp at this; omega)
  generalize u1.alloc (.cells #[.slice none 0 0] 34) = u2 at *
  generalize u1.heap.size = bt at *
  clear g1 G1 GA BW BW1
  refine wpIn_range_take rfl (by omega) (gf := 49) (bnd := #[.slice a len cap]) (lb := #[]) rfl trivial (enters_of Try.func49 (by kernel_rfl) rfl) ?_
  intro fn hfn rec hrec
  have HREC := Lib.hid hrec
  clear hrec
  have HT : Takes 3 (u2.heap.size + 1) (JT (u2.heap.size + 1) u2.heap.size rec w.heap.size (.func (.func gw) #[] cw) bt Cap p) := by
    intro pre t v W Fc G hJ hrow hvG hd hGl hFl hac hpre
    obtain ⟨va, vc, rfl⟩ := owns_slice hrow
    obtain ⟨ya, yc, J⟩ := hJ
    have HJ := Lib.hid J
    have HROW := Lib.hid hrow
    have HVG := Lib.hid hvG
    have HD := Lib.hid hd
    have HGL := Lib.hid hGl
    have FLT : Hid (∀ k, Fc k → k < W.heap.size) := Lib.hid hFl
    show YieldAt Fence.wide 3 Try.prog _ #[.agg #[.int .i64 t.th, .int .i64 t.tx, .int .i64 t.at_, .int .i64 t.st, .int .i64 t.b, .int .i64 t.en, .int .i64 t.re, .bool t.co, .slice va t.ac.length vc]] W _
    refine yield_take HREC.out J.loop.1 rfl hfn ?_
    clear J hrow hvG hd hGl hFl
    gi_wp2
    refine ⟨(Below.heap_alloc W _ _ (FLT.out _ HJ.out.fl)).trans HJ.out.loop.1, ?_⟩
    obtain ⟨W4, hW4⟩ : ∃ W4, W4 = (W.alloc (.cells #[.int .i64 t.th, .int .i64 t.tx, .int .i64 t.at_, .int .i64 t.st, .int .i64 t.b, .int .i64 t.en, .int .i64 t.re, .bool t.co, .slice va t.ac.length vc] 41)).putObj (u2.heap.size + 1) (.loop { rec with state := .busy }) := ⟨_, rfl⟩
    rw [← hW4]
    have lt1 := FLT.out _ HJ.out.fl
    have K4 : Hid (∀ k, k < W.heap.size → k ≠ u2.heap.size + 1 → W4.heap[k]? = W.heap[k]?) := Lib.hid (fun k hk hne => by rw [hW4, World.putObj_heap_other hne]; exact Below.heap_alloc W _ k hk)
    have TB : Hid (Blk 41 W4 W.heap.size #[.int .i64 t.th, .int .i64 t.tx, .int .i64 t.at_, .int .i64 t.st, .int .i64 t.b, .int .i64 t.en, .int .i64 t.re, .bool t.co, .slice va t.ac.length vc]) := Lib.hid (by
      show W4.heap[_]? = _
      rw [hW4, World.putObj_heap_other (by omega)]
      exact Blk.made W _ _)
    have L4 : Hid (W4.heap[u2.heap.size + 1]? = some (.loop { rec with state := .busy })) := Lib.hid (by rw [hW4]; exact World.putObj_heap_same (by simp; omega))
    have S4 : Hid (W4.heap.size = W.heap.size + 1) := Lib.hid (by rw [hW4]; simp)
    have O4 : Hid (W4.os = W.os ∧ W4.tape = W.tape ∧ W4.output = W.output) := Lib.hid (by rw [hW4]; exact ⟨rfl, rfl, rfl⟩)
    have ncl : ∀ k ty cs, W.heap[k]? = some (.cells cs ty (0, 0)) → k ≠ u2.heap.size + 1 := fun k ty cs hk e => by
      have := HJ.out.loop.1
      rw [← e, hk] at this
      cases this
    have B4 := Lib.hid (HJ.out.box.keep (K4.out _ (FLT.out _ HJ.out.fbt) (ncl _ _ _ HJ.out.box)))
    have N4 := Lib.hid (HJ.out.wan.keep (K4.out _ (FLT.out _ HJ.out.fbw) (ncl _ _ _ HJ.out.wan)))
    have R4 := Lib.hid (ownsRow_keep HJ.out.row (fun k e => K4.out k (FLT.out _ (HJ.out.frow k e)) (by obtain ⟨cs, hc⟩ := ownsRow_type HJ.out.row e; exact ncl _ _ _ hc)))
    have C4 : Hid (∀ x ∈ Cap, Blk x.2.1 W4 x.1 ⟨x.2.2⟩) := Lib.hid (fun x hx => (HJ.out.cap x hx).1.keep (K4.out _ (FLT.out _ (HJ.out.cap x hx).2) (ncl _ _ _ (HJ.out.cap x hx).1)))
    clear hW4
    have n0 : W4.cell? ⟨w.heap.size, 0, none⟩ = some (.func (.func gw) #[] cw) := N4.out.cell 0
    have d0 : W4.cell? ⟨W.heap.size, 0, none⟩ = some (.int .i64 t.th) := TB.out.cell 0; have d1 : W4.cell? ⟨W.heap.size, 1, none⟩ = some (.int .i64 t.tx) := TB.out.cell 1; have d2 : W4.cell? ⟨W.heap.size, 2, none⟩ = some (.int .i64 t.at_) := TB.out.cell 2; have d3 : W4.cell? ⟨W.heap.size, 3, none⟩ = some (.int .i64 t.st) := TB.out.cell 3; have d4 : W4.cell? ⟨W.heap.size, 4, none⟩ = some (.int .i64 t.b) := TB.out.cell 4; have d5 : W4.cell? ⟨W.heap.size, 5, none⟩ = some (.int .i64 t.en) := TB.out.cell 5; have d6 : W4.cell? ⟨W.heap.size, 6, none⟩ = some (.int .i64 t.re) := TB.out.cell 6; have d7 : W4.cell? ⟨W.heap.size, 7, none⟩ = some (.bool t.co) := TB.out.cell 7; have d8 : W4.cell? ⟨W.heap.size, 8, none⟩ = some (.slice va t.ac.length vc) := TB.out.cell 8
    have OA : Hid (Only (fun k => k = u2.heap.size + 1) W W4) := Lib.hid ⟨O4.out.1, O4.out.2.1, O4.out.2.2, by rw [S4.out]; omega, fun k hk hn => K4.out k hk hn⟩
    obtain ⟨n, hn⟩ : ∃ n, n = (pre.filter fun x => p x.1).length := ⟨_, rfl⟩
    have HN := Lib.hid hn
    rw [← hn] at B4 R4
    have hn1 : n < 100000 := by rw [hn]; exact Nat.lt_of_le_of_lt (List.length_filter_le _ _) hpre
    clear hn
    cases hp : p t with
    | true =>
      have HP := Lib.hid hp
      gi_wp2_with (first | (refine ⟨trivial, ?_⟩; gi_at_fn gw; refine (CallsIn.inRound _ (callsIn_wide.2 (WT.out W4 t (.slice va t.ac.length vc) C4.out))).mono ?_; rw [HP.out]; rintro r u3 ⟨rfl, g3⟩; have B5 := Lib.hid (B4.out.grown g3.out (by simp)); have T5 := Lib.hid (TB.out.grown g3.out (by simp)); have R5 := Lib.hid (ownsRow_keep R4.out (fun k e => g3.out.block k (R4.out.lt k e).2 (by simp))); have L5 := Lib.hid ((g3.out.block _ (by rw [S4.out]; omega) (by simp)).trans L4.out); have b5 : u3.cell? ⟨bt, 0, none⟩ = some (.slice ya n yc) := B5.out.cell 0; have x0 : u3.cell? ⟨W.heap.size, 0, none⟩ = some (.int .i64 t.th) := T5.out.cell 0; have x1 : u3.cell? ⟨W.heap.size, 1, none⟩ = some (.int .i64 t.tx) := T5.out.cell 1; have x2 : u3.cell? ⟨W.heap.size, 2, none⟩ = some (.int .i64 t.at_) := T5.out.cell 2; have x3 : u3.cell? ⟨W.heap.size, 3, none⟩ = some (.int .i64 t.st) := T5.out.cell 3; have x4 : u3.cell? ⟨W.heap.size, 4, none⟩ = some (.int .i64 t.b) := T5.out.cell 4; have x5 : u3.cell? ⟨W.heap.size, 5, none⟩ = some (.int .i64 t.en) := T5.out.cell 5; have x6 : u3.cell? ⟨W.heap.size, 6, none⟩ = some (.int .i64 t.re) := T5.out.cell 6; have x7 : u3.cell? ⟨W.heap.size, 7, none⟩ = some (.bool t.co) := T5.out.cell 7; have x8 : u3.cell? ⟨W.heap.size, 8, none⟩ = some (.slice va t.ac.length vc) := T5.out.cell 8) | (gi_at_builtin; refine wpListIn_append_at _ rfl (.tmp 18) (.tmp 20) 34 rfl 0 41 i0 (.agg #[.int .i64 0, .int .i64 0, .int .i64 0, .int .i64 0, .int .i64 0, .int .i64 0, .int .i64 0, .bool false, .slice none 0 0]) 9 88 Try.underlying34 hi.out hz0.out hz1.out hz2.out rfl (by decide) (.slice ya n yc) n (rows tvC (pre.filter fun x => p x.1)) rfl (R5.out.alloc _) ⟨u3.heap.size, 0, none⟩ 1 1 (tvC (t, .slice va t.ac.length vc)) rfl rfl (new_cells u3 _ _) (by intro u hu; simp [tvC, trC] at hu; rcases hu with rfl | rfl | rfl | rfl | rfl | rfl | rfl | rfl | rfl <;> rfl) (by unfold maxLen; omega) (by omega) (by simp) (by decide) ?_; intro g' c' w5 ho hg hv; have nbt : Hid ((Value.slice ya n yc).ownBlock ≠ some bt) := Lib.hid (by intro e; obtain ⟨cs, hc⟩ := ownsRow_type R5.out e; have h9 := B5.out; unfold Blk at h9; rw [hc] at h9; injection h9 with h9; injection h9 with _ h9; exact absurd h9 (by decide)); have B6 := Lib.hid ((B5.out.alloc (.cells ⟨tvC (t, .slice va t.ac.length vc)⟩ 41)).grown hg (fun e => nbt.out e.symm)); have b6 : w5.cell? ⟨bt, 0, none⟩ = some (.slice ya n yc) := B6.out.cell 0; have f6 := B6.out.free 0; have HO := Lib.hid ho; have HG := Lib.hid hg; have HV := Lib.hid hv; clear ho hg hv) | gi_in)
      have hl5 : u2.heap.size + 1 < u3.heap.size := (Array.getElem?_eq_some_iff.1 L5.out).1
      have nl : ∀ k ty cs, u3.heap[k]? = some (.cells cs ty (0, 0)) → u2.heap.size + 1 ≠ k := fun k ty cs hk e => by
        have := L5.out
        rw [e, hk] at this
        cases this
      have nlb : u2.heap.size + 1 ≠ bt := nl _ _ _ B5.out
      have nlr : ∀ k, (Value.slice ya n yc).ownBlock = some k → u2.heap.size + 1 ≠ k := fun k e => by
        obtain ⟨cs, hc⟩ := ownsRow_type R5.out e
        exact nl _ _ _ hc
      have s35 := HG.out.size
      simp at s35
      have sW := OA.out.size
      have s3 := g3.out.size
      have L6 : (w5.setCell ⟨bt, 0, none⟩ (.slice (some ⟨g', 0, none⟩) (n + 1) c')).heap[u2.heap.size + 1]? = some (.loop { rec with state := .busy }) :=
        (Below.heap_setCell _ _ _ _ nlb).trans ((HG.out.block _ (by simp; omega) (by intro e; exact nlr _ e.symm rfl)).trans ((Below.heap_alloc u3 _ _ hl5).trans L5.out))
      have hgl : g' ≠ u2.heap.size + 1 := by
        rcases HV.out with h | h
        · exact fun e => nlr g' h.symm e.symm
        · simp at h; omega
      have hgb : g' ≠ bt := by
        rcases HV.out with h | h
        · exact fun e => nbt.out (by rw [← h, e])
        · have := B5.out.lt
          simp at h
          omega
      have OZ : Only (fun k => k = bt ∨ k = u2.heap.size + 1 ∨ (Value.slice ya n yc).ownBlock = some k) W ((w5.setCell ⟨bt, 0, none⟩ (.slice (some ⟨g', 0, none⟩) (n + 1) c')).putObj (u2.heap.size + 1) (.loop rec)) :=
        ((((OA.out.mono (fun k _ h => .inr (.inl h))).trans (Only.none (gb_alloc g3.out _))).trans (Only.of HG.out (fun k e _ => .inr (.inr e)))).trans (Only.of (gb_setB (gb_refl w5 _) _) (fun k e _ => .inl (by cases e; rfl)))).trans ((only_put _ _ _).mono (fun k _ h => .inr (.inl h)))
      have OZF : Only Fc W ((w5.setCell ⟨bt, 0, none⟩ (.slice (some ⟨g', 0, none⟩) (n + 1) c')).putObj (u2.heap.size + 1) (.loop rec)) := OZ.mono (fun k _ hk => by
        rcases hk with rfl | rfl | hk
        · exact HJ.out.fbt
        · exact HJ.out.fl
        · exact HJ.out.frow k (by rw [← HN.out]; exact hk))
      refine ⟨L6, fun k => Fc k ∨ G k ∨ (W.heap.size ≤ k ∧ k < w5.heap.size), jt_add (a := ya) (c := yc) (g := g') (c' := c') (fun x hx => (HC.out x hx).1) HJ.out HP.out ?_ (fun k e => .inr (.inl (HVG.out k e))) (by rw [← HN.out]; exact OZ) FLT.out ?_ ?_ (World.putObj_heap_same (by simp [World.setCell]; omega)) (fun k hk => .inl hk) ?_, fun k hk => hk, OZF⟩
      · exact ownsRow_keep HROW.out (fun k e => OZF.block k (HROW.out.lt k e).2 (fun hf => HD.out k hf (HVG.out k e)))
      · rw [← HN.out]
        exact (B6.out.set 0 (.slice (some ⟨g', 0, none⟩) (n + 1) c')).keep (World.putObj_heap_other (fun e => nlb e.symm))
      · rw [← HN.out]
        exact ownsRow_keep HO.out (fun k e => by cases e; exact (World.putObj_heap_other hgl).trans (Below.heap_setCell _ _ _ _ hgb))
      · rcases HV.out with h | h
        · exact .inl (HJ.out.frow g' (by rw [← HN.out]; exact h.symm))
        · exact .inr (.inr ⟨by simp at h; omega, (HO.out.lt g' rfl).2⟩)
    | false =>
      have HP := Lib.hid hp
      gi_wp2_with (first | (refine ⟨trivial, ?_⟩; gi_at_fn gw; refine (CallsIn.inRound _ (callsIn_wide.2 (WT.out W4 t (.slice va t.ac.length vc) C4.out))).mono ?_; rw [HP.out]; rintro r u3 ⟨rfl, g3⟩) | gi_in)
      have L5 := (g3.out.block _ (by rw [S4.out]; omega) (by simp)).trans L4.out
      have OZ : Only (fun k => k = u2.heap.size + 1) W (u3.putObj (u2.heap.size + 1) (.loop rec)) := (OA.out.trans (Only.none g3.out)).trans (only_put _ _ _)
      refine ⟨L5, fun k => Fc k ∨ G k ∨ (W.heap.size ≤ k ∧ k < u3.heap.size), jt_skip ⟨ya, yc, HJ.out⟩ HP.out (fun k hk => ?_) (fun k hk => .inl hk), fun k hk => hk, OZ.mono (fun k _ hk => by rw [hk]; exact HJ.out.fl)⟩
      by_cases he : k = u2.heap.size + 1
      · subst he
        rw [World.putObj_heap_same (Array.getElem?_eq_some_iff.1 L5).1]
        exact HJ.out.loop.1.symm
      · exact OZ.block k (FLT.out k hk) he
  have hW1 := HW1.out
  have hSZ := HSZ.out
  have HT2 := Lib.hid HT
  clear HT
  refine (tries_in 4 (by omega) (u2.heap.size + 1) a len cap e _ (jt_firm _ _ _ _ _ _ _ _) HT2.out w0 ((u2.alloc (.deferred (some []))).alloc (.loop rec)) HL.out HRT.out HLEN.out (fun k => (w.heap.size ≤ k ∧ k < u2.heap.size + 2) ∨ ∃ x ∈ Cap, x.1 = k)
    ⟨none, 0, ⟨(BT.out.alloc _).alloc _, World.ownsRow_nil _ _ _ _, by simp, (BW2.out.alloc _).alloc _, ⟨?_, ?_⟩, .inl ⟨by omega, by omega⟩, .inl ⟨by omega, by omega⟩, .inl ⟨by omega, by omega⟩, .inl ⟨by omega, by omega⟩, (by intro k e; cases e), (by simp), fun x hx => ⟨((HC.out x hx).2.2.grown (gb_alloc (gb_alloc G2.out _) _) (by simp)), .inr ⟨x, hx, rfl⟩⟩⟩⟩ ?_ ?_).mono ?_
  · have := World.alloc_heap_new (u2.alloc (.deferred (some []))) (.loop rec)
    rwa [World.size_alloc] at this
  · exact (Below.heap_alloc _ _ _ (by simp)).trans (World.alloc_heap_new u2 _)
  · rintro k (hk | ⟨x, hx, rfl⟩)
    · have := HB.out.size
      simp
      omega
    · have h1 := (HC.out x hx).2.2.lt
      exact ⟨(HC.out x hx).2.1, by simp; omega⟩
  · exact bl_none HB.out (gb_alloc (gb_alloc G2.out _) _)
  rintro r W' ⟨rfl, xs, Fc, rest, ⟨ya, yc, J⟩, hFc, hBel, hnd, hrest, hxs⟩
  refine ⟨⟨_, rfl⟩, J.loop, fun o' => ?_⟩
  have hperm : (xs.map Prod.fst).Perm (tries e len) := by
    rw [hxs]
    exact (all_perm e len HRT.out rest hnd hrest).map _
  obtain ⟨ys, hys⟩ : ∃ ys, ys = xs.filter fun x => p x.1 := ⟨_, rfl⟩
  have hp2 : (ys.map Prod.fst).Perm ((tries e len).filter p) := by
    rw [hys]
    have h3 := hperm.filter p
    rw [List.filter_map] at h3
    exact h3
  rw [← hys] at J
  have HPERM := Lib.hid hp2
  obtain ⟨W5, hW5⟩ : ∃ W5, W5 = W'.putObj (u2.heap.size + 1) o' := ⟨_, rfl⟩
  rw [← hW5]
  have hl5 : u2.heap.size + 1 < W'.heap.size := (Array.getElem?_eq_some_iff.1 J.loop.1).1
  have ncl : ∀ (k : Nat) (ty : TypeId) (cs : Array Value), W'.heap[k]? = some (.cells cs ty (0, 0)) → W5.heap[k]? = W'.heap[k]? := fun k ty cs hk => by
    rw [hW5]
    refine World.putObj_heap_other (fun e => ?_)
    have := J.loop.1
    rw [← e, hk] at this
    cases this
  have BT5 := Lib.hid (J.box.keep (ncl _ _ _ J.box))
  have RO5 := Lib.hid (ownsRow_keep J.row (fun k e => by obtain ⟨cs, hc⟩ := ownsRow_type J.row e; exact ncl _ _ _ hc))
  have AC5 : Hid (∀ x ∈ ys, W5.ownsRow 0 48 6 x.2 x.1.ac.length (rows accC x.1.ac)) := Lib.hid (fun x hx => ownsRow_keep (J.acc x hx) (fun k e => by obtain ⟨cs, hc⟩ := ownsRow_type (J.acc x hx) e; exact ncl _ _ _ hc))
  have BE5 : Hid (Below w0.heap.size w0 W5) := Lib.hid (by rw [hW5]; exact (only_put W' _ o').below hBel hBel.size (fun k hk => by rw [hk]; have := HB.out.size; omega))
  have HGB : Hid (∀ k, (Value.slice ya ys.length yc).ownBlock = some k → w0.heap.size ≤ k) := Lib.hid (fun k e => (hFc k (J.frow k e)).1)
  have HGA : Hid (∀ x ∈ ys, ∀ k, x.2.ownBlock = some k → w0.heap.size ≤ k) := Lib.hid (fun x hx k e => (hFc k (J.facc x hx k e)).1)
  have D5 : Hid (W5.heap[u2.heap.size]? = some (.deferred (some []))) := Lib.hid (by rw [hW5, World.putObj_heap_other (by omega)]; exact J.loop.2)
  have hlen2 : ys.length ≤ 10000 := by
    have h4 := hp2.length_eq
    rw [List.length_map] at h4
    rw [h4]
    refine Nat.le_trans (List.length_filter_le _ _) ?_
    unfold tries begins
    rw [List.length_map]
    refine Nat.le_trans (List.length_filter_le _ _) ?_
    rw [List.length_range]
    exact HLEN.out
  have t0 : W5.cell? ⟨bt, 0, none⟩ = some (.slice ya ys.length yc) := BT5.out.cell 0
  clear J hxs hrest hnd hperm hys hp2 hW5 ncl HT2 HREC
  have ldef : ∀ (k : Nat) (ty : TypeId) (cs : Array Value), W5.heap[k]? = some (.cells cs ty (0, 0)) → k ≠ u2.heap.size := fun k ty cs hk e => by
    have := D5.out
    rw [← e, hk] at this
    cases this
  have LDEF := Lib.hid ldef
  clear ldef
  cases hys : ys with
  | nil =>
    subst hys
    have hnil := fun fv W => AnyF.slices_SortFunc_none sortTryLaid ya yc fv W
    change ∀ fv W, Calls Try.prog 50 _ _ _ at hnil
    have t0' : W5.cell? ⟨bt, 0, none⟩ = some (.slice ya 0 yc) := t0
    have HNIL := Lib.hid hnil
    clear hnil t0
    gi_wp2_with (first | (refine ⟨trivial, ?_⟩; gi_at_call 50; refine (callsIn_wide.2 (HNIL.out _ _)).mono ?_; rintro r u7 ⟨rfl, rfl⟩) | gi_in)
    refine ⟨by simp, .inl ⟨_, _, rfl, run_takeDeferred D5.out, ?_⟩⟩
    exact ⟨_, results_tmp rfl _ _ _, ya, yc, [], rfl, ⟨.inl rfl, by simp⟩, HPERM.out, Lib.hid List.Pairwise.nil, (only_put _ _ _).below BE5.out BE5.out.size (fun k hk => by rw [hk]; have := HB.out.size; omega), ⟨fun b off e => HGB.out b (by rw [e]; rfl), by simp⟩⟩
  | cons y0 yt =>
    obtain ⟨g, rfl⟩ : ∃ g, ya = some ⟨g, 0, none⟩ := by
      rcases RO5.out.2 with ⟨_, h⟩ | ⟨g, _, _, h, _⟩
      · rw [hys] at h; cases h
      · injection h with h; exact ⟨g, h⟩
    have HH := holdsK_of (fun x hx => by obtain ⟨a, c, h⟩ := owns_slice (AC5.out x hx); exact ⟨a, _, c, h⟩) rfl RO5.out
    have hgl := (RO5.out.lt g rfl).2
    have hcon := AnyQ.slices_SortFunc sortTryLaid 9 aggTry sizeTry encT encT_len encT_one (fun x y : Tr × Value => Lib.compareInt (f x.1) (f y.1)) (swo_cmp (fun x : Tr × Value => f x.1)) go #[] g 0 yc ys.toArray W5 HGO.out.1 (HGO.out.2 _ _ _ _) HH hgl (by simp; omega)
    change Calls Try.prog 50 _ _ _ at hcon
    rw [List.size_toArray] at hcon
    have HCON := Lib.hid hcon
    have HHH := Lib.hid HH
    clear hcon HH hys
    gi_wp2_with (first | (refine ⟨trivial, ?_⟩; gi_at_call 50; refine (callsIn_wide.2 HCON.out).mono ?_; rintro r u7 ⟨rfl, d', nn, os, hpi, hso, rfl⟩; have hq := sortW_only (w := W5) (g := g) (n := nn) (d := d') (os := os); have t1 := (BT5.out.keep (hq.block bt BT5.out.lt (fun e => by obtain ⟨cs, hc⟩ := ownsRow_type RO5.out (k := g) rfl; have h9 := BT5.out; unfold Blk at h9; rw [e, hc] at h9; injection h9 with h9; injection h9 with _ h9; exact absurd h9 (by decide)))).cell 0; have t1' : (sortWorldK encT 9 W5 g 0 nn d' os).cell? ⟨bt, 0, none⟩ = some (.slice (some ⟨g, 0, none⟩) ys.length yc) := t1; have HPI := Lib.hid hpi; have HSO := Lib.hid hso; have HQ := Lib.hid hq; clear hpi hso hq t1) | gi_in)
    have hgd : g ≠ u2.heap.size := by
      obtain ⟨cs, hc⟩ := ownsRow_type RO5.out (k := g) rfl
      exact LDEF.out _ _ _ hc
    have hDl : u2.heap.size < W5.heap.size := (Array.getElem?_eq_some_iff.1 D5.out).1
    have hD7 : (sortWorldK encT 9 W5 g 0 nn d' os).heap[u2.heap.size]? = some (.deferred (some [])) := (HQ.out.block _ hDl (fun e => hgd e.symm)).trans D5.out
    refine ⟨by simp, .inl ⟨_, _, rfl, run_takeDeferred hD7, ?_⟩⟩
    have hsz : d'.size = ys.length := by rw [HPI.out.1, List.size_toArray]
    have hperm : d'.toList.Perm ys := by
      have h := HPI.out.2.2
      have e1 : d'.extract 0 ys.length = d' := by rw [← hsz, Array.extract_size]
      have e2 : ys.toArray.extract 0 ys.toArray.size = ys.toArray := Array.extract_size
      rw [List.size_toArray] at e2
      have h' : (d'.extract 0 ys.length).toList.Perm (ys.toArray.extract 0 ys.length).toList := h
      rw [e1, e2] at h'
      exact h'
    have hsl : ∀ x ∈ d'.toList, W5.ownsRow 0 48 6 x.2 x.1.ac.length (rows accC x.1.ac) := fun x hx => AC5.out x (hperm.mem_iff.1 hx)
    have hO7 : Only (fun k => k = g ∨ k = u2.heap.size) W5 ((sortWorldK encT 9 W5 g 0 nn d' os).putObj u2.heap.size (.deferred none)) := (HQ.out.mono (fun k _ h => .inl h)).trans ((only_put _ _ _).mono (fun k _ h => .inr h))
    have hK := holdsK_sortWorldK_c encT 9 W5 g 0 ys.toArray d' nn os HHH.out hgl HPI.out.1
    refine ⟨_, results_tmp rfl _ _ _, some ⟨g, 0, none⟩, yc, d'.toList, ?_, ⟨.inr ⟨g, rfl, ?_, fun i x hx j u hu => ?_⟩, fun x hx => ?_⟩, ?_, ?_, ?_, ⟨fun b off e => by cases e; exact HGB.out _ rfl, fun x hx => HGA.out x (hperm.mem_iff.1 hx)⟩⟩
    · show Ending.returned (Value.slice (some ⟨g, 0, none⟩) ys.toArray.size yc) = _
      rw [Array.length_toList, hsz, List.size_toArray]
    · have := hO7.size
      omega
    · have hi : i < d'.size := by
        have := (List.getElem?_eq_some_iff.1 hx).1
        rwa [Array.length_toList] at this
      have hj : j < 9 := by
        have := (List.getElem?_eq_some_iff.1 hu).1
        rwa [tvC_len] at this
      have hc := HoldsK.cell hK hi hj
      have hx2 : d'[i]! = x := by
        rw [getElem!_pos d' i hi]
        have := (List.getElem?_eq_some_iff.1 hx).2
        simpa using this
      have hmem : x ∈ d'.toList := List.mem_of_getElem? hx
      obtain ⟨va, vc, hv⟩ := owns_slice (hsl x hmem)
      have hen : encT x = tvC x := by
        obtain ⟨tt, v⟩ := x
        dsimp only at hv
        rw [hv]
        rfl
      have hu2 : (encT d'[i]!)[j]! = u := by
        rw [hx2, hen, getElem!_pos _ j (by rw [tvC_len]; exact hj)]
        exact (List.getElem?_eq_some_iff.1 hu).2
      have hb : ((sortWorldK encT 9 W5 g 0 nn d' os).putObj u2.heap.size (.deferred none)).heap[g]? = (sortWorldK encT 9 W5 g 0 nn d' os).heap[g]? := World.putObj_heap_other hgd
      rw [World.cell?_of_block (w := sortWorldK encT 9 W5 g 0 nn d' os) hb]
      have h8 := hc.1
      rw [hu2, Nat.zero_add] at h8
      exact h8
    · refine ownsRow_keep (hsl x hx) (fun k e => hO7.block k ((hsl x hx).lt k e).2 ?_)
      obtain ⟨cs, hc⟩ := ownsRow_type (hsl x hx) e
      rintro (h | h)
      · obtain ⟨ds, hd⟩ := ownsRow_type RO5.out (k := g) rfl
        rw [h, hd] at hc
        injection hc with hc
        injection hc with _ hc
        exact absurd hc (by decide)
      · exact LDEF.out _ _ _ hc h
    · exact (hperm.map Prod.fst).trans HPERM.out
    · rw [List.pairwise_map]
      refine List.pairwise_iff_getElem.2 fun i j hi hj hij => ?_
      rw [Array.length_toList] at hi hj
      have h := HSO.out i j (Nat.zero_le _) hij (by rw [← hsz]; exact hj)
      rw [ltOf_cmp (fun x : Tr × Value => f x.1), getElem!_pos d' j hj, getElem!_pos d' i hi] at h
      simpa using h
    · exact hO7.below BE5.out BE5.out.size (fun k hk => by
        have hB := HB.out.size
        rcases hk with rfl | rfl
        · exact HGB.out _ rfl
        · omega)
end Go.Proofs.Ytkidkhjpijjphaa.hs

/- Package hist's Tries, Commits, Of, Before. -/
namespace Go.Proofs.Ytkidkhjpijjphaa.hs
open Go Go.RowKit Go.Proofs.Ytkidkhjpijjphaa.base Go.Maps
set_option linter.unusedVariables false
set_option maxRecDepth 100000

theorem gb_of_below {w w' : World} (h : Below w.heap.size w w') : w.grownBy w' none := ⟨h.os, h.tape, h.output, h.size, fun k hk _ => h.block k hk⟩

set_option maxHeartbeats 1000000 in
theorem told_wrong (w : World) (a : Option Addr) (len cap : Nat) (e : Evs) (hl : IsEvs w a len e) (hr : right e len = false) (hlen : len ≤ 10000) (gw : Nat) (cw : Array Value) (go : Nat) :
    Calls Try.prog 29 #[.slice a len cap, .func (.func gw) #[] cw, .func (.func go) #[] #[]] w fun r w' => r = .returned (.slice none 0 0) ∧ Hid (w.grownBy w' none) := by
  have HL := Lib.hid hl
  have HRT := Lib.hid hr
  have GA := Lib.hid (World.grownBy_alloc w (.cells #[.func (.func gw) #[] cw] 69) none)
  have HLEN := Lib.hid hlen
  clear hl hr hlen
  go_enter Try.func29, Try.ntmps29
  go_wp2_with (first | (go_at_call 41; refine (right_any a len cap e _ (HL.out.grown GA.out) (by have := HLEN.out; omega)).mono ?_; rw [HRT.out]; rintro r u1 ⟨rfl, g1⟩) | go_in)
  go_ret
  exact ⟨rfl, gb_trans GA.out g1.out⟩


theorem all_wants : Wants [] 30 #[] (fun _ => true) := by
  refine ⟨enters_of Try.func30 (by kernel_rfl) rfl, fun u t v _ => ?_⟩
  show Calls Try.prog 30 #[.agg #[.int .i64 t.th, .int .i64 t.tx, .int .i64 t.at_, .int .i64 t.st, .int .i64 t.b, .int .i64 t.en, .int .i64 t.re, .bool t.co, v]] u _
  go_enter Try.func30, Try.ntmps30
  go_wp2
  go_ret
  exact ⟨rfl, (by repeat (first | exact gb_refl _ _ | refine gb_drewN ?_ _ | refine gb_drew ?_ | refine gb_alloc ?_ _))⟩

theorem co_wants : Wants [] 67 #[] (fun t => t.co) := by
  refine ⟨enters_of Try.func67 (by kernel_rfl) rfl, fun u t v _ => ?_⟩
  show Calls Try.prog 67 #[.agg #[.int .i64 t.th, .int .i64 t.tx, .int .i64 t.at_, .int .i64 t.st, .int .i64 t.b, .int .i64 t.en, .int .i64 t.re, .bool t.co, v]] u _
  go_enter Try.func67, Try.ntmps67
  go_wp2
  go_ret
  exact ⟨rfl, (by repeat (first | exact gb_refl _ _ | refine gb_drewN ?_ _ | refine gb_drew ?_ | refine gb_alloc ?_ _))⟩

/-- What is told of a right trace. -/
def Told (w w' : World) (r : Ending) (T : List Tr) (f : Tr → Int) : Prop := ∃ a c ys, r = .returned (.slice a ys.length c) ∧ Hid (IsTries w' a ys) ∧ Hid ((ys.map Prod.fst).Perm T) ∧ Hid ((ys.map Prod.fst).Pairwise (fun x y => f x ≤ f y)) ∧ Hid (w.grownBy w' none)

set_option maxHeartbeats 1000000 in
theorem tries_right (w : World) (a : Option Addr) (len cap : Nat) (e : Evs) (hl : IsEvs w a len e) (hr : right e len = true) (hlen : len ≤ 10000) :
    Calls Try.prog 15 #[.slice a len cap] w fun r w' => Told w w' r (tries e len) Tr.b := by
  have H := Lib.hid (told_right w w a len cap e hl (Below.refl _ _) hr hlen 30 #[] _ [] (by simp) all_wants 31 Tr.b byBegin_orders)
  clear hl hr hlen
  go_enter Try.func15, Try.ntmps15
  go_wp2_with (first | (go_at_call 29; refine H.out.mono ?_; rintro r u1 ⟨a', c', ys, rfl, h1, h2, h3, h4, h5⟩) | go_in)
  go_ret
  refine ⟨a', c', ys, rfl, h1, ?_, h3, gb_of_below h4.out⟩
  have := h2.out
  rwa [List.filter_eq_self.2 (by simp)] at this

set_option maxHeartbeats 1000000 in
theorem commits_right (w : World) (a : Option Addr) (len cap : Nat) (e : Evs) (hl : IsEvs w a len e) (hr : right e len = true) (hlen : len ≤ 10000) :
    Calls Try.prog 54 #[.slice a len cap] w fun r w' => Told w w' r ((tries e len).filter fun t => t.co) Tr.en := by
  have H := Lib.hid (told_right w w a len cap e hl (Below.refl _ _) hr hlen 67 #[] _ [] (by simp) co_wants 68 Tr.en byEnd_orders)
  clear hl hr hlen
  go_enter Try.func54, Try.ntmps54
  go_wp2_with (first | (go_at_call 29; refine H.out.mono ?_; rintro r u1 ⟨a', c', ys, rfl, h1, h2, h3, h4, h5⟩) | go_in)
  go_ret
  exact ⟨a', c', ys, rfl, h1, h2, h3, gb_of_below h4.out⟩

set_option maxHeartbeats 1000000 in
theorem commits_new (w : World) (a : Option Addr) (len cap : Nat) (e : Evs) (hl : IsEvs w a len e) (hr : right e len = true) (hlen : len ≤ 10000) :
    Calls Try.prog 54 #[.slice a len cap] w fun r w' => ∃ a c ys, r = .returned (.slice a ys.length c) ∧ Hid (IsTries w' a ys) ∧ Hid ((ys.map Prod.fst).Perm ((tries e len).filter fun t => t.co)) ∧ Hid ((ys.map Prod.fst).Pairwise (fun x y => x.en ≤ y.en)) ∧ Hid (w.grownBy w' none) ∧ Hid (NewT w.heap.size a ys) := by
  have H := Lib.hid (told_right w w a len cap e hl (Below.refl _ _) hr hlen 67 #[] _ [] (by simp) co_wants 68 Tr.en byEnd_orders)
  clear hl hr hlen
  go_enter Try.func54, Try.ntmps54
  go_wp2_with (first | (go_at_call 29; refine H.out.mono ?_; rintro r u1 ⟨a', c', ys, rfl, h1, h2, h3, h4, h5⟩) | go_in)
  go_ret
  exact ⟨a', c', ys, rfl, h1, h2, h3, gb_of_below h4.out, h5⟩

theorem tries_wrong (w : World) (a : Option Addr) (len cap : Nat) (e : Evs) (hl : IsEvs w a len e) (hr : right e len = false) (hlen : len ≤ 10000) :
    Calls Try.prog 15 #[.slice a len cap] w fun r w' => r = .returned (.slice none 0 0) ∧ Hid (w.grownBy w' none) := by
  have H := fun gw cw go => told_wrong w a len cap e hl hr hlen gw cw go
  go_enter Try.func15, Try.ntmps15
  go_wp2_with (first | (go_at_call 29; refine (H _ _ _).mono ?_; rintro r u1 ⟨rfl, g1⟩) | go_in)
  go_ret
  exact ⟨rfl, g1⟩

theorem commits_wrong (w : World) (a : Option Addr) (len cap : Nat) (e : Evs) (hl : IsEvs w a len e) (hr : right e len = false) (hlen : len ≤ 10000) :
    Calls Try.prog 54 #[.slice a len cap] w fun r w' => r = .returned (.slice none 0 0) ∧ Hid (w.grownBy w' none) := by
  have H := fun gw cw go => told_wrong w a len cap e hl hr hlen gw cw go
  go_enter Try.func54, Try.ntmps54
  go_wp2_with (first | (go_at_call 29; refine (H _ _ _).mono ?_; rintro r u1 ⟨rfl, g1⟩) | go_in)
  go_ret
  exact ⟨rfl, g1⟩

end Go.Proofs.Ytkidkhjpijjphaa.hs

/- Package hist's Before; the document's example. -/
namespace Go.Proofs.Ytkidkhjpijjphaa.hs
open Go Go.RowKit Go.Proofs.Ytkidkhjpijjphaa.base Go.Maps
set_option linter.unusedVariables false
set_option maxRecDepth 100000

theorem before_le (e : Evs) : ∀ n, before e n ≤ n
  | 0 => Nat.le_refl _
  | n + 1 => by have := before_le e n; unfold before; split <;> omega

set_option maxHeartbeats 1000000 in
theorem before_any (w : World) (a : Option Addr) (len cap : Nat) (e : Evs) (pl : Int) (hw : (Lit.int .i64 pl).wf = true) (hl : IsEvs w a len e) (hlc : len ≤ cap) (hlen : len ≤ 1000000) :
    Calls Try.prog 21 #[.slice a len cap, .int .i64 pl] w fun r w' => r = .returned (.int .i64 (before e (min len pl.toNat))) ∧ Hid (w.grownBy w' none) := by
  have HL := Lib.hid hl
  obtain ⟨m, hm⟩ : ∃ m, m = min len pl.toNat := ⟨_, rfl⟩
  rw [← hm]
  have hml : m ≤ len := by omega
  have HM := Lib.hid hm
  clear hm
  have hc2 : (len : Int) ≤ (cap : Int) := by omega
  have hl2 : (len : Int) ≤ 1000000 := by omega
  go_enter Try.func21, Try.ntmps21
  go_wp2_with fail
  have hm := HM.out
  have e1 : min (max pl 0) (len : Int) = (m : Int) := by omega
  have e2 : max (m : Int) 0 = (m : Int) := by omega
  simp only [e1, e2, Int.toNat_natCast]
  have hm2 : (m : Int) ≤ 1000000 := by omega
  clear e1 e2 hm hl
  go_loopw [5, 16] (fun nv iv wr => ∃ k : Nat, k ≤ m ∧ iv = .int .i64 k ∧ nv = .int .i64 (before e k) ∧ Hid (w.grownBy wr none)) (fun _ iv _ => (m - intOf iv).toNat)
  case atStart => exact ⟨0, by omega, rfl, rfl, gb_refl _ _⟩
  case round =>
    obtain ⟨k, hk, rfl, rfl, G⟩ := hrel
    have hbk := before_le e k
    by_cases hlt : k < m
    · obtain ⟨b0, off, rfl, hb0, c0, c1, c2, c3, c4, c5, c6, we⟩ := (HL.out.grown G.out).at7 (show k < len by omega)
      have hlt' : (k : Int) < (m : Int) := by omega
      have hk2 : (k : Int) < 1000000 := by omega
      have hb2 : (before e k : Int) < 1000000 := by omega
      have G1 := Lib.hid (gb_alloc G.out (.cells #[.int .i64 ((e k).k), .int .i64 ((e k).th), .int .i64 ((e k).tx), .int .i64 ((e k).at_), .int .i64 ((e k).ob), .int .i64 ((e k).va), .int .i64 ((e k).re)] 51))
      by_cases h5 : (e k).k = 5
      · have f5 : ((e k).k == 5) = true := by simp [h5]
        have HB := Lib.hid (show before e (k + 1) = before e k + 1 by rw [before, if_pos h5])
        clear h5
        go_wp2
        go_roundw
        case rel => exact ⟨k + 1, by omega, by go_num, by rw [HB.out]; go_num, G1⟩
        case measure => simp [intOf]; omega
      · have f5 : ((e k).k == 5) = false := by simp [h5]
        have HB := Lib.hid (show before e (k + 1) = before e k by rw [before, if_neg h5]; rfl)
        clear h5
        go_wp2
        go_roundw
        case rel => exact ⟨k + 1, by omega, by go_num, by rw [HB.out], G1⟩
        case measure => simp [intOf]; omega
    · obtain rfl : k = m := by omega
      go_wp2
      go_ret
      exact ⟨rfl, G.out⟩

theorem one_of {ys : List (Tr × Value)} {t : Tr} (h : (ys.map Prod.fst).Perm [t]) : ∃ v, ys = [(t, v)] := by
  have h1 := h.length_eq
  rw [List.length_map] at h1
  match ys, h1, h with
  | [(t', v)], _, h =>
    have := h.mem_iff (a := t') |>.1 (by simp)
    simp at this
    exact ⟨v, by rw [this]⟩

theorem first_of {w : World} {a : Option Addr} {t : Tr} {v : Value} (h : IsTries w a [(t, v)]) : ∃ g va vc, a = some ⟨g, 0, none⟩ ∧ g < w.heap.size ∧ v = .slice va t.ac.length vc ∧ w.cell? ⟨g, 7, none⟩ = some (.bool t.co) ∧ w.cell? ⟨g, 5, none⟩ = some (.int .i64 t.en) ∧ w.cell? ⟨g, 8, none⟩ = some v := by
  obtain ⟨h1, h2⟩ := h
  obtain ⟨va, vc, hv⟩ := owns_slice (h2 (t, v) (by simp))
  rcases h1 with h1 | ⟨g, rfl, hg, hc⟩
  · cases h1
  · exact ⟨g, va, vc, rfl, hg, hv, by simpa using hc 0 (t, v) rfl 7 _ rfl, by simpa using hc 0 (t, v) rfl 5 _ rfl, by simpa using hc 0 (t, v) rfl 8 _ rfl⟩

def exE : Evs := fun i => match i with
  | 0 => ⟨1, 0, 0, 1, 0, 0, 0⟩
  | 1 => ⟨2, 0, 0, 1, 0, 5, 0⟩
  | _ => ⟨5, 0, 0, 1, 0, 0, 0⟩

theorem exE_right : right exE 3 = true := by decide

theorem exE_tries : tries exE 3 = [⟨0, 0, 1, 0, 0, 2, 0, true, [⟨1, 2, 0, 5, false, false⟩]⟩] := by decide

end Go.Proofs.Ytkidkhjpijjphaa.hs

/- What committed ones make of the objects, in plain numbers: of no program, and of no memory. -/
namespace Go.Proofs.Ytkidkhjpijjphaa.base
open Go

/-- One access, done to values. -/
def app1 (a : Acc) (z : Nat → Int) : Nat → Int := fun o => if a.k = 3 ∧ a.ob = (o : Int) then a.va else z o
/-- A try applied. -/
def app (z : Nat → Int) (l : List Acc) : Nat → Int := l.foldl (fun z a => app1 a z) z

theorem app_snoc (z : Nat → Int) (l : List Acc) (a : Acc) : app z (l ++ [a]) = app1 a (app z l) := by simp [app]
theorem app_take (z : Nat → Int) {l : List Acc} {k : Nat} {a : Acc} (h : l[k]? = some a) : app z (l.take (k + 1)) = app1 a (app z (l.take k)) := by
  rw [List.take_add_one, h]
  exact app_snoc _ _ _
theorem app_zero (z : Nat → Int) (l : List Acc) : app z (l.take 0) = z := rfl
theorem app_all (z : Nat → Int) (l : List Acc) : app z (l.take l.length) = app z l := by rw [List.take_length]
theorem app1_no {a : Acc} (z : Nat → Int) (h : a.k ≠ 3) : app1 a z = z := by
  funext o
  unfold app1
  rw [if_neg (fun h2 => h h2.1)]
theorem app1_out {a : Acc} (z : Nat → Int) (h : a.ob < 0) : app1 a z = z := by
  funext o
  unfold app1
  rw [if_neg (by omega)]
theorem app1_in {a : Acc} (z : Nat → Int) {i : Nat} (h : a.k = 3) (ho : a.ob = (i : Int)) : app1 a z = fun o => if o = i then a.va else z o := by
  funext o
  unfold app1
  by_cases e : o = i
  · subst e; rw [if_pos ⟨h, ho⟩, if_pos rfl]
  · rw [if_neg (by omega), if_neg e]

/-- What was written last to an object. -/
def lastW (l : List Acc) (o : Int) : Option Int := l.foldl (fun r a => if a.k = 3 ∧ a.ob = o then some a.va else r) none
theorem lastW_snoc (l : List Acc) (a : Acc) (o : Int) : lastW (l ++ [a]) o = if a.k = 3 ∧ a.ob = o then some a.va else lastW l o := by simp [lastW]
theorem lastW_take {l : List Acc} {k : Nat} {a : Acc} (h : l[k]? = some a) (o : Int) : lastW (l.take (k + 1)) o = if a.k = 3 ∧ a.ob = o then some a.va else lastW (l.take k) o := by
  rw [List.take_add_one, h]
  exact lastW_snoc _ _ _
theorem foldl_or (l : List Acc) (o : Int) : ∀ r : Option Int, l.foldl (fun r a => if a.k = 3 ∧ a.ob = o then some a.va else r) r = (lastW l o).or r := by
  induction l with
  | nil => intro r; rfl
  | cons a l ih =>
    intro r
    simp only [lastW, List.foldl_cons]
    rw [ih, ih (if a.k = 3 ∧ a.ob = o then some a.va else none)]
    split <;> cases lastW l o <;> rfl
theorem lastW_cons (l : List Acc) (a : Acc) (o : Int) : lastW (a :: l) o = (lastW l o).or (if a.k = 3 ∧ a.ob = o then some a.va else none) := by
  unfold lastW
  rw [List.foldl_cons, foldl_or]
  rfl
theorem app_last (l : List Acc) : ∀ (z : Nat → Int) (o : Nat), app z l o = (lastW l o).getD (z o) := by
  induction l with
  | nil => intro z o; rfl
  | cons a l ih =>
    intro z o
    have h : app z (a :: l) = app (app1 a z) l := rfl
    rw [h, ih, lastW_cons]
    cases lastW l o with
    | some v => rfl
    | none =>
      unfold app1
      split <;> rfl
theorem lastW_some {l : List Acc} {o v : Int} (h : lastW l o = some v) : ∃ a ∈ l, a.k = 3 ∧ a.ob = o ∧ a.va = v := by
  induction l with
  | nil => cases h
  | cons a l ih =>
    rw [lastW_cons] at h
    cases hl : lastW l o with
    | some u =>
      rw [hl] at h
      obtain ⟨b, hb, h1⟩ := ih (by rw [hl]; exact h)
      exact ⟨b, List.mem_cons_of_mem _ hb, h1⟩
    | none =>
      rw [hl] at h
      by_cases hc : a.k = 3 ∧ a.ob = o
      · rw [if_pos hc] at h
        injection h with h
        exact ⟨a, by simp, hc.1, hc.2, h⟩
      · rw [if_neg hc] at h; cases h

/-- Twice as once. -/
theorem app_twice (z : Nat → Int) (l : List Acc) : app (app z l) l = app z l := by
  funext o
  rw [app_last, app_last]
  cases lastW l o <;> rfl
/-- Two that write no object both. -/
theorem app_apart (z : Nat → Int) (l m : List Acc) (h : ∀ a ∈ l, ∀ b ∈ m, a.k = 3 → b.k = 3 → a.ob ≠ b.ob) : app (app z l) m = app (app z m) l := by
  funext o
  rw [app_last, app_last, app_last, app_last]
  cases hl : lastW l o with
  | none => cases lastW m o <;> rfl
  | some u =>
    cases hm : lastW m o with
    | none => rfl
    | some v =>
      obtain ⟨a, ha, a1, a2, _⟩ := lastW_some hl
      obtain ⟨b, hb, b1, b2, _⟩ := lastW_some hm
      exact absurd (a2.trans b2.symm) (h a ha b hb a1 b1)

/-- Does a reading tell what it should? -/
def tellsB (n : Nat) (z : Nat → Int) (w : Option Int) (a : Acc) : Bool :=
  match w with
  | some v => a.own && a.va == v
  | none => !a.own && decide (0 ≤ a.ob) && decide (a.ob < (n : Int)) && a.va == z a.ob.toNat
/-- Does an access, if it is a reading that isn't released? -/
def readOk (n : Nat) (z : Nat → Int) (w : Option Int) (a : Acc) : Bool := if a.k = 2 ∧ a.rel = false then tellsB n z w a else true
/-- Do the first k? -/
def fitsN (n : Nat) (z : Nat → Int) (l : List Acc) : Nat → Bool
  | 0 => true
  | k + 1 => fitsN n z l k && (match l[k]? with | none => true | some a => readOk n z (lastW (l.take k) a.ob) a)
def fits (n : Nat) (z : Nat → Int) (l : List Acc) : Bool := fitsN n z l l.length

theorem fitsN_step {n : Nat} {z : Nat → Int} {l : List Acc} {k : Nat} {a : Acc} (h : l[k]? = some a) : fitsN n z l (k + 1) = (fitsN n z l k && readOk n z (lastW (l.take k) a.ob) a) := by
  rw [fitsN, h]
theorem fitsN_iff {n : Nat} {z : Nat → Int} {l : List Acc} : ∀ {k : Nat}, fitsN n z l k = true ↔ ∀ i a, i < k → l[i]? = some a → readOk n z (lastW (l.take i) a.ob) a = true
  | 0 => by
    constructor
    · intro _ i a hi; omega
    · intro _; rfl
  | k + 1 => by
    rw [fitsN, Bool.and_eq_true, fitsN_iff (k := k)]
    constructor
    · rintro ⟨h1, h2⟩ i a hi ha
      by_cases e : i = k
      · subst e; rw [ha] at h2; exact h2
      · exact h1 i a (by omega) ha
    · intro h
      refine ⟨fun i a hi ha => h i a (by omega) ha, ?_⟩
      cases hk : l[k]? with
      | none => rfl
      | some a => exact h k a (by omega) hk
theorem fits_bad {n : Nat} {z : Nat → Int} {l : List Acc} {k : Nat} {a : Acc} (h : l[k]? = some a) (hb : readOk n z (lastW (l.take k) a.ob) a = false) : fits n z l = false := by
  cases e : fits n z l with
  | false => rfl
  | true =>
    have := fitsN_iff.1 e k a (List.getElem?_eq_some_iff.1 h).1 h
    rw [hb] at this
    cases this

/-- A reading of an object that counts, and isn't own. -/
def readsO (l : List Acc) (o : Int) : Nat → Bool
  | 0 => false
  | k + 1 => readsO l o k || (match l[k]? with | none => false | some a => decide (a.k = 2) && decide (a.ob = o) && !a.rel && !a.own)
theorem readsO_step {l : List Acc} {o : Int} {k : Nat} {a : Acc} (h : l[k]? = some a) : readsO l o (k + 1) = (readsO l o k || (decide (a.k = 2) && decide (a.ob = o) && !a.rel && !a.own)) := by
  rw [readsO, h]
theorem readsO_iff {l : List Acc} {o : Int} : ∀ {k : Nat}, readsO l o k = true ↔ ∃ i a, i < k ∧ l[i]? = some a ∧ a.k = 2 ∧ a.ob = o ∧ a.rel = false ∧ a.own = false
  | 0 => by
    constructor
    · intro h; cases h
    · rintro ⟨i, _, h, _⟩; omega
  | k + 1 => by
    rw [readsO, Bool.or_eq_true, readsO_iff (k := k)]
    constructor
    · rintro (⟨i, a, h1, h2⟩ | h)
      · exact ⟨i, a, by omega, h2⟩
      · cases hk : l[k]? with
        | none => rw [hk] at h; cases h
        | some a =>
          rw [hk] at h
          simp at h
          exact ⟨k, a, by omega, hk, h.1.1.1, h.1.1.2, h.1.2, h.2⟩
    · rintro ⟨i, a, h1, h2, h3, h4, h5, h6⟩
      by_cases e : i = k
      · subst e
        right
        rw [h2]
        simp [h3, h4, h5, h6]
      · exact .inl ⟨i, a, by omega, h2, h3, h4, h5, h6⟩

/-- Objects that it didn't read play no part. -/
theorem fits_other {n : Nat} {z y : Nat → Int} {l : List Acc} {o : Nat} (h : readsO l o l.length = false) (hz : ∀ i, i ≠ o → z i = y i) : fits n z l = fits n y l := by
  have key : ∀ z y : Nat → Int, (∀ i, i ≠ o → z i = y i) → fits n z l = true → fits n y l = true := by
    intro z y hz hf
    refine fitsN_iff.2 fun i a hi ha => ?_
    have h0 := fitsN_iff.1 hf i a hi ha
    unfold readOk at h0 ⊢
    by_cases hc : a.k = 2 ∧ a.rel = false
    · rw [if_pos hc] at h0 ⊢
      unfold tellsB at h0 ⊢
      cases hl : lastW (l.take i) a.ob with
      | some v => rw [hl] at h0; exact h0
      | none =>
        rw [hl] at h0
        dsimp only at h0 ⊢
        cases hw : a.own with
        | true => rw [hw] at h0; simp at h0
        | false =>
          have hne : a.ob ≠ (o : Int) := fun e => by
            have : readsO l o l.length = true := readsO_iff.2 ⟨i, a, hi, ha, hc.1, e, hc.2, hw⟩
            rw [h] at this
            cases this
          rw [hw] at h0
          simp at h0
          rw [← hz a.ob.toNat (by omega)]
          simp [h0]
    · rw [if_neg hc]
  cases e1 : fits n z l with
  | true => exact (key z y hz e1).symm
  | false =>
    cases e2 : fits n y l with
    | false => rfl
    | true =>
      rw [key y z (fun i hi => (hz i hi).symm) e2] at e1
      cases e1
/-- What it read that isn't there doesn't fit. -/
theorem fits_both {n : Nat} {z y : Nat → Int} {l : List Acc} {o : Nat} (h : readsO l o l.length = true) (h1 : fits n z l = true) (h2 : fits n y l = true) : z o = y o := by
  obtain ⟨i, a, hi, ha, a1, a2, a3, a4⟩ := readsO_iff.1 h
  have f1 := fitsN_iff.1 h1 i a hi ha
  have f2 := fitsN_iff.1 h2 i a hi ha
  unfold readOk at f1 f2
  rw [if_pos ⟨a1, a3⟩] at f1 f2
  unfold tellsB at f1 f2
  cases hl : lastW (l.take i) a.ob with
  | some v => rw [hl] at f1; simp [a4] at f1
  | none =>
    rw [hl] at f1 f2
    simp [a4, a2] at f1 f2
    rw [← f1.2, ← f2.2]

/-- The values behind the first i tries. -/
def stAt (z : Nat → Int) (c : List (List Acc)) (i : Nat) : Nat → Int := (c.take i).foldl app z
theorem stAt_zero (z : Nat → Int) (c : List (List Acc)) : stAt z c 0 = z := rfl
theorem stAt_step (z : Nat → Int) {c : List (List Acc)} {i : Nat} {l : List Acc} (h : c[i]? = some l) : stAt z c (i + 1) = app (stAt z c i) l := by
  unfold stAt
  rw [List.take_add_one, h]
  simp
theorem stAt_append (z : Nat → Int) (c d : List (List Acc)) {i : Nat} (h : i ≤ c.length) : stAt z (c ++ d) i = stAt z c i := by
  unfold stAt
  rw [List.take_append_of_le_length h]
end Go.Proofs.Ytkidkhjpijjphaa.base

/- append, at the types of this program: []int64, []api.Op, []byte: onto a slice of one's own, of whatever slice. -/
namespace Go.Proofs.Ytkidkhjpijjphaa.lg
open Go Go.RowKit Go.Proofs.Ytkidkhjpijjphaa.base
set_option linter.unusedVariables false

theorem info64 : (Try.prog.info? 2).map (fun i => (i.zero, i.size, i.bytes)) = some (some (.int .i64 0), 1, 8) := by kernel_rfl

theorem append64 (w : World) {ops : Array Oper} {rest : List Oper} {o : Oper} {a : Act} {Q : Exit → Act → World → Prop}
    (hgd : o.guard = none) (s x : Operand) (hop : o.op = Op.call { callee := Callee.builtin Builtin.append, args := #[s, x], argTypes := #[22, 22] }) (base : Nat)
    (v : Value) (n : Nat) (xs : List Value) (hs : a.eval s = v) (hown : w.ownsRow base 2 1 v n xs)
    (ao : Option Addr) (m c : Nat) (news : List Value) (hx : a.eval x = .slice ao m c) (hl : news.length = m * 1) (hsrc : (m = 0 ∧ news = []) ∨ ∃ ad, ao = some ad ∧ ∀ j u, news[j]? = some u → w.cell? (ad.add j) = some u) (h1c : ∀ u ∈ news, u.oneCell' = true)
    (hn : n + m ≤ 1000000) (hbase : base ≤ w.heap.size)
    (hK : ∀ b' cap w', w'.ownsRow base 2 1 (.slice b' (n + m) cap) (n + m) (xs ++ news) → w.grownBy w' v.ownBlock → ((Value.slice b' (n + m) cap).ownBlock = v.ownBlock ∨ ∃ k, (Value.slice b' (n + m) cap).ownBlock = some k ∧ w.heap.size ≤ k) → wpList Try.prog ops Q rest (a.put o.dst (.slice b' (n + m) cap)) w') :
    wpList Try.prog ops Q (o :: rest) a w := by
  obtain ⟨i0, hi, hz0, hz1, hz2⟩ := info_parts info64
  exact wpList_append_any w hgd s x 22 hop base 2 i0 (.int .i64 0) 1 8 Try.underlying22 hi hz0 hz1 hz2 rfl (by decide) v n xs hs hown ao m c news hx hl hsrc h1c (by unfold maxLen; omega) (by omega) hbase hK

theorem infoU8 : (Try.prog.info? 5).map (fun i => (i.zero, i.size, i.bytes)) = some (some (.int .u8 0), 1, 1) := by kernel_rfl

theorem step64 {w : World} {ops : Array Oper} {o : Oper} {a : Act} {K : Act → World → Prop} {Q : Exit → Act → World → Prop} {E : Prop}
    (hgd : o.guard = none) (s x : Operand) (hop : o.op = Op.call { callee := Callee.builtin Builtin.append, args := #[s, x], argTypes := #[22, 22] }) (base : Nat)
    (v : Value) (n : Nat) (xs : List Value) (hs : a.eval s = v) (hown : w.ownsRow base 2 1 v n xs)
    (ao : Option Addr) (m c : Nat) (news : List Value) (hx : a.eval x = .slice ao m c) (hl : news.length = m * 1) (hsrc : (m = 0 ∧ news = []) ∨ ∃ ad, ao = some ad ∧ ∀ j u, news[j]? = some u → w.cell? (ad.add j) = some u) (h1c : ∀ u ∈ news, u.oneCell' = true)
    (hn : n + m ≤ 1000000) (hbase : base ≤ w.heap.size)
    (hK : ∀ b' cap w', w'.ownsRow base 2 1 (.slice b' (n + m) cap) (n + m) (xs ++ news) → w.grownBy w' v.ownBlock → ((Value.slice b' (n + m) cap).ownBlock = v.ownBlock ∨ ∃ k, (Value.slice b' (n + m) cap).ownBlock = some k ∧ w.heap.size ≤ k) → K (a.put o.dst (.slice b' (n + m) cap)) w') :
    if Region.wanted o (yielded ops a.tmps) = true then Oper.wp Try.prog o a w K Q else E := by
  have hw : Region.wanted o (yielded ops a.tmps) = true := by simp [Region.wanted, hgd]
  rw [if_pos hw]
  obtain ⟨i0, hi, hz0, hz1, hz2⟩ := info_parts info64
  obtain ⟨v', w', hrun, r1, r2, r3⟩ := run_append_any (P := Try.prog) w base 22 o.type 2 i0 (.int .i64 0) 1 8 Try.underlying22 hi hz0 hz1 hz2 rfl (by decide) v n xs hown ao m c news hl hsrc h1c (by unfold maxLen; omega) (by omega) hbase
  obtain ⟨b', cap, rfl⟩ : ∃ b' cap, v' = .slice b' (n + m) cap := by
    rcases r1.2 with ⟨rfl, h0⟩ | ⟨g, cap, cur, rfl, _⟩
    · exact ⟨none, 0, by rw [h0]⟩
    · exact ⟨_, cap, rfl⟩
  unfold Oper.wp
  simp [execOp, hop, resolve, invoke, builtin, hs, hx, hrun, Result.andThen]
  exact hK b' cap w' r1 r2 r3

end Go.Proofs.Ytkidkhjpijjphaa.lg

/- The contracts of package lang's Ok, Right, Opens, and of the document's own (quarrelref11.Ok, Right, Same). -/
namespace Go.Proofs.Ytkidkhjpijjphaa.lg
open Go Go.RowKit Go.Proofs.Ytkidkhjpijjphaa.base
set_option linter.unusedVariables false

theorem ret_bool {a b : Bool} (h : a = b) : Ending.returned (.bool a) = .returned (.bool b) := by rw [h]

end Go.Proofs.Ytkidkhjpijjphaa.lg

/- The contracts of package lang's Right, Opens, and of the document's own (quarrelref11.Right, Same). -/
namespace Go.Proofs.Ytkidkhjpijjphaa.lg
open Go Go.RowKit Go.Proofs.Ytkidkhjpijjphaa.base
set_option linter.unusedVariables false

end Go.Proofs.Ytkidkhjpijjphaa.lg

/- Package lang's course: what it is in memory, and what its methods do. -/
namespace Go.Proofs.Ytkidkhjpijjphaa.lg
open Go Go.RowKit Go.Proofs.Ytkidkhjpijjphaa.base
set_option linter.unusedVariables false

theorem vals_set (f : Nat → Int) (n i : Nat) (u : Int) : (vals f n).set i (.int .i64 u) = vals (fun j => if j = i then u else f j) n := by
  apply List.ext_getElem?
  intro j
  by_cases hj : j < n
  · by_cases e : j = i
    · subst e
      rw [List.getElem?_set_self (by simpa [vals] using hj), vals_get _ _ _ hj]
      simp
    · rw [List.getElem?_set_ne (fun e2 => e e2.symm), vals_get _ _ _ hj, vals_get _ _ _ hj]
      simp [e]
  · rw [List.getElem?_eq_none (by simp [vals]; omega), List.getElem?_eq_none (by simp [vals]; omega)]

/-- A cell of a row of one's own is stored. -/
theorem ownsRow_set {base : Nat} {e : TypeId} {w : World} {v : Value} {n : Nat} {xs : List Value} (h : w.ownsRow base e 1 v n xs) {g i : Nat} (hg : v.ownBlock = some g) (hi : i < n) (u : Value) : (w.setCell ⟨g, i, none⟩ u).ownsRow base e 1 v n (xs.set i u) := by
  refine ⟨by rw [List.length_set]; exact h.1, ?_⟩
  rcases h.2 with ⟨rfl, _⟩ | ⟨g', cap, cur, rfl, h4, h5, h6, h7, h8, h9⟩
  · simp [Value.ownBlock] at hg
  · obtain rfl : g' = g := by simpa [Value.ownBlock] using hg
    have hb : Blk e w g' cur := h5
    refine .inr ⟨g', cap, cur.setIfInBounds i u, rfl, h4, hb.set i u, h6, h7, by simpa using h8, ?_⟩
    have hx := h.1
    have hs : i < cur.size := by rw [h8]; omega
    rw [← h9]
    simp only [Array.toList_setIfInBounds]
    rw [List.take_set]

end Go.Proofs.Ytkidkhjpijjphaa.lg

/- Package model's Apply: the values behind a try. -/
namespace Go.Proofs.Ytkidkhjpijjphaa.md
open Go Go.RowKit Go.Proofs.Ytkidkhjpijjphaa.base Go.Proofs.Ytkidkhjpijjphaa.hs Go.Proofs.Ytkidkhjpijjphaa.lg Go.Maps
set_option linter.unusedVariables false
set_option maxRecDepth 100000

theorem has_yesq (a : Option Addr) (n c i : Nat) (w : World) (h : i < n) : Calls Try.prog 52 #[.slice a n c, .int .i64 (i : Int)] w fun r w' => r = .returned (.bool true) ∧ w' = w := by
  have h1 : (0 : Int) ≤ (i : Int) := by omega
  have h2 : (i : Int) < (n : Int) := by omega
  go_enter Try.func52, Try.ntmps52
  go_wp2
  go_ret
  exact ⟨rfl, rfl⟩

theorem has_noq (a : Option Addr) (n c : Nat) (o : Int) (w : World) (h : o < 0 ∨ (n : Int) ≤ o) : Calls Try.prog 52 #[.slice a n c, .int .i64 o] w fun r w' => r = .returned (.bool false) ∧ w' = w := by
  by_cases h1 : o < 0
  · have q1 : decide (0 ≤ o) = false := by simpa using h1
    clear h h1
    go_enter Try.func52, Try.ntmps52
    go_wp2
    go_ret
    exact ⟨rfl, rfl⟩
  · have q1 : 0 ≤ o := by omega
    have q2 : decide (o < (n : Int)) = false := by simp; omega
    clear h h1
    go_enter Try.func52, Try.ntmps52
    go_wp2
    go_ret
    exact ⟨rfl, rfl⟩

theorem has_yes (a : Option Addr) (n c i : Nat) (w : World) (h : i < n) : Calls Try.prog 52 #[.slice a n c, .int .i64 (i : Int)] w fun r w' => r = .returned (.bool true) ∧ Hid (w.grownBy w' none) :=
  (has_yesq a n c i w h).mono fun r w' ⟨h1, h2⟩ => ⟨h1, by rw [h2]; exact gb_refl _ _⟩

theorem has_no (a : Option Addr) (n c : Nat) (o : Int) (w : World) (h : o < 0 ∨ (n : Int) ≤ o) : Calls Try.prog 52 #[.slice a n c, .int .i64 o] w fun r w' => r = .returned (.bool false) ∧ Hid (w.grownBy w' none) :=
  (has_noq a n c o w h).mono fun r w' ⟨h1, h2⟩ => ⟨h1, by rw [h2]; exact gb_refl _ _⟩

theorem copied_any (a : Option Addr) (n c : Nat) (z : Nat → Int) (w : World) (hz : IsNums .i64 w a n z) (hn : n ≤ 1000000) :
    Calls Try.prog 33 #[.slice a n c] w fun r w' => ∃ a' c', r = .returned (.slice a' n c') ∧ Hid (w'.ownsRow w.heap.size 2 1 (.slice a' n c') n (vals z n)) ∧ Hid (w.grownBy w' none) := by
  have Z := Lib.hid hz.src
  clear hz
  go_enter Try.func33, Try.ntmps33
  go_wp2_with (at_builtin; go_loud (refine append64 _ rfl (.const (.slice none 0 0)) (.tmp 3) rfl w.heap.size _ 0 [] rfl (World.ownsRow_nil _ _ _ _) a n c (vals z n) rfl (by simp [vals]) Z.out (one_nums _ _ _) (by omega) (by simp) ?_); intro b' c' u2 ho hg hv; clear hv)
  simp only [Nat.zero_add, List.nil_append] at ho hg
  go_ret
  exact ⟨b', c', rfl, ho, hg⟩

/-- An access, in its cells. -/
theorem acc6 {w : World} {va : Option Addr} {l : List Acc} (h : IsL accC w va l) {j : Nat} {a : Acc} (hj : l[j]? = some a) : ∃ b off, va = some ⟨b, off, none⟩ ∧ b < w.heap.size ∧ w.cell? ⟨b, off + j * 6, none⟩ = some (.int .i64 a.pl) ∧ w.cell? ⟨b, off + j * 6 + 1, none⟩ = some (.int .i64 a.k) ∧ w.cell? ⟨b, off + j * 6 + 2, none⟩ = some (.int .i64 a.ob) ∧ w.cell? ⟨b, off + j * 6 + 3, none⟩ = some (.int .i64 a.va) ∧ w.cell? ⟨b, off + j * 6 + 4, none⟩ = some (.bool a.own) ∧ w.cell? ⟨b, off + j * 6 + 5, none⟩ = some (.bool a.rel) := by
  obtain ⟨b, off, h1, h2, h3⟩ := h.at accC_len hj
  exact ⟨b, off, h1, h2, h3 0 _ rfl, h3 1 _ rfl, h3 2 _ rfl, h3 3 _ rfl, h3 4 _ rfl, h3 5 _ rfl⟩

/-- Values of one's own, with the first k accesses done to them. -/
structure AR (w : World) (base : Nat) (z : Nat → Int) (l : List Acc) (a : Option Addr) (n c k : Nat) (wr : World) : Prop where
  row : wr.ownsRow base 2 1 (.slice a n c) n (vals (app z (l.take k)) n)
  grow : w.grownBy wr (Value.slice a n c).ownBlock

section
variable {w wr w' : World} {base n k c : Nat} {a : Option Addr} {z : Nat → Int} {l : List Acc}
theorem AR.grown (h : AR w base z l a n c k wr) (g : wr.grownBy w' none) : AR w base z l a n c k w' :=
  ⟨ownsRow_keep h.row fun b e => g.block b (h.row.lt b e).2 (by simp), gb_trans h.grow ⟨g.os, g.tape, g.output, g.size, fun i hi _ => g.block i hi (by simp)⟩⟩
theorem AR.same (h : AR w base z l a n c k wr) (e : app z (l.take (k + 1)) = app z (l.take k)) : AR w base z l a n c (k + 1) wr := ⟨by rw [e]; exact h.row, h.grow⟩
theorem AR.at (h : AR w base z l a n c k wr) {i : Nat} (hi : i < n) : ∃ g, a = some ⟨g, 0, none⟩ ∧ g < wr.heap.size ∧ wr.cell? ⟨g, i, none⟩ = some (.int .i64 (app z (l.take k) i)) ∧ wr.frozen? ⟨g, i, none⟩ = false := by
  rcases h.row.2 with ⟨_, h0⟩ | ⟨g, cap, cur, e, hb, hg, _⟩
  · omega
  · injection e with e1 e2 e3
    subst e1
    refine ⟨g, rfl, lt_of_block hg, (h.row.cellAt i (by omega)).trans (vals_get _ n i hi), by simp [World.frozen?, hg]⟩
theorem AR.set (h : AR w base z l a n c k wr) {i g : Nat} {u : Int} (hi : i < n) (hg : a = some ⟨g, 0, none⟩) (e : app z (l.take (k + 1)) = fun j => if j = i then u else app z (l.take k) j) : AR w base z l a n c (k + 1) (wr.setCell ⟨g, i, none⟩ (.int .i64 u)) := by
  refine ⟨?_, gb_setCell h.grow (by rw [hg]; rfl) _⟩
  rw [e, ← vals_set]
  exact ownsRow_set h.row (by rw [hg]; rfl) hi _
theorem AR.accs (h : AR w base z l a n c k wr) {va : Option Addr} (hl : IsL accC w va l) (hap : l ≠ [] → ∀ b off g, va = some ⟨b, off, none⟩ → a = some ⟨g, 0, none⟩ → b ≠ g) : IsL accC wr va l := by
  by_cases hne : l = []
  · exact .inl hne
  exact hl.keep (fun b off e hb => h.grow.block b hb (fun e2 => by
    rcases h.row.2 with ⟨e3, _⟩ | ⟨g, cap, cur, e3, _⟩
    · rw [e3] at e2; simp [Value.ownBlock] at e2
    · injection e3 with e3
      subst e3
      simp [Value.ownBlock] at e2
      exact hap hne b off g e rfl e2)) h.grow.size
end

set_option maxHeartbeats 1000000 in
theorem change_any (base : Nat) (a : Option Addr) (n c : Nat) (z : Nat → Int) (t : Tr) (av : Option Addr) (vc : Nat) (w : World) (hv : w.ownsRow base 2 1 (.slice a n c) n (vals z n)) (hl : IsL accC w av t.ac) (hap : t.ac ≠ [] → ∀ b off g, av = some ⟨b, off, none⟩ → a = some ⟨g, 0, none⟩ → b ≠ g) (hn : n ≤ 1000000) (hm : t.ac.length ≤ 1000000) :
    Calls Try.prog 34 #[.slice a n c, .agg ⟨trC t (.slice av t.ac.length vc)⟩] w fun r w' => r = .returned (.tuple #[]) ∧ Hid (w'.ownsRow base 2 1 (.slice a n c) n (vals (app z t.ac) n)) ∧ Hid (w.grownBy w' (Value.slice a n c).ownBlock) := by
  obtain ⟨xth, xtx, xat, xst, xb, xen, xre, xco, ac⟩ := t
  dsimp only at hl hm hap
  show Calls Try.prog 34 #[.slice a n c, .agg #[.int .i64 xth, .int .i64 xtx, .int .i64 xat, .int .i64 xst, .int .i64 xb, .int .i64 xen, .int .i64 xre, .bool xco, .slice av ac.length vc]] w _
  have A0 : Hid (AR w base z ac a n c 0 w) := Lib.hid ⟨hv, gb_refl _ _⟩
  have HL := Lib.hid hl
  have HAP := Lib.hid hap
  clear hv hl hap
  go_enter Try.func34, Try.ntmps34
  go_wp2
  go_loopw [9] (fun iv wr => ∃ k : Nat, k ≤ ac.length ∧ iv = .int .i64 k ∧ Hid (AR w base z ac a n c k wr)) (fun iv _ => (ac.length - intOf iv).toNat)
  case atStart => exact ⟨0, by omega, rfl, A0.out.grown (World.grownBy_alloc w _ none)⟩
  case round =>
    obtain ⟨k, hk, rfl, A⟩ := hrel
    clear A0
    by_cases hlt : k < ac.length
    · have hlt' : (k : Int) < (ac.length : Int) := by omega
      have hk6 : (k : Int) < 1000000 := by omega
      obtain ⟨b, off, rfl, hb, c0, c1, c2, c3, c4, c5⟩ := acc6 (A.out.accs HL.out HAP.out) (List.getElem?_eq_getElem hlt)
      have HT := Lib.hid (app_take z (List.getElem?_eq_getElem hlt))
      generalize ac[k] = y at *
      obtain ⟨pl, ak, ob, va, own, rel⟩ := y
      dsimp only at c0 c1 c2 c3 c4 c5
      by_cases h3 : ak = 3
      · subst h3
        have A1 := Lib.hid (A.out.grown (World.grownBy_alloc wr (.cells #[.int .i64 pl, .int .i64 3, .int .i64 ob, .int .i64 va, .bool own, .bool rel] 48) none))
        have EB := Lib.hid (Blk.made wr 48 #[.int .i64 pl, .int .i64 3, .int .i64 ob, .int .i64 va, .bool own, .bool rel])
        by_cases hin : 0 ≤ ob ∧ ob < (n : Int)
        · obtain ⟨i, rfl⟩ : ∃ i : Nat, ob = (i : Int) := ⟨ob.toNat, by omega⟩
          have hi : i < n := by omega
          have hi' : (i : Int) < (n : Int) := by omega
          have HE := Lib.hid (show app z (ac.take (k + 1)) = fun j => if j = i then va else app z (ac.take k) j by rw [HT.out]; exact app1_in _ rfl rfl)
          clear hin A HT
          go_wp2_with (first | (go_at_call 52; refine (has_yes _ n _ i _ hi).mono ?_; rintro r u1 ⟨rfl, g1⟩; have A2 := Lib.hid (A1.out.grown g1.out); have E2 := Lib.hid (EB.out.grown g1.out (by simp)); obtain ⟨g, hg, hgl, cv, fv⟩ := A2.out.at hi; subst hg; have e2 : u1.cell? ⟨wr.heap.size, 2, none⟩ = some (.int .i64 (i : Int)) := E2.out.cell 2; have e3 : u1.cell? ⟨wr.heap.size, 3, none⟩ = some (.int .i64 va) := E2.out.cell 3) | go_in)
          go_roundw
          case rel => exact ⟨k + 1, by omega, by go_num, A2.out.set hi rfl HE.out⟩
          case measure => simp [intOf]; omega
        · have hno : ob < 0 ∨ (n : Int) ≤ ob := by omega
          have HNO := Lib.hid hno
          clear hin hno A
          go_wp2_with (first | (go_at_call 52; refine (has_no _ n _ ob _ HNO.out).mono ?_; rintro r u1 ⟨rfl, g1⟩; have A2 := Lib.hid (A1.out.grown g1.out)) | go_in)
          go_roundw
          case rel => exact ⟨k + 1, by omega, by go_num, by
            have h := A2.out
            refine ⟨?_, h.grow⟩
            have e : vals (app z (ac.take (k + 1))) n = vals (app z (ac.take k)) n := by
              unfold vals
              apply List.map_congr_left
              intro j hj
              rw [HT.out]
              unfold app1
              have hj2 : j < n := by simpa using hj
              have := HNO.out
              rw [if_neg (by dsimp only; omega)]
            rw [e]
            exact h.row⟩
          case measure => simp [intOf]; omega
      · have f3 : (ak == 3) = false := by simp [h3]
        have A1 := Lib.hid (A.out.grown (World.grownBy_alloc wr (.cells #[.int .i64 pl, .int .i64 ak, .int .i64 ob, .int .i64 va, .bool own, .bool rel] 48) none))
        have HE := Lib.hid (show app z (ac.take (k + 1)) = app z (ac.take k) by rw [HT.out]; exact app1_no _ h3)
        clear h3 HT A
        go_wp2
        go_roundw
        case rel => exact ⟨k + 1, by omega, by go_num, A1.out.same HE.out⟩
        case measure => simp [intOf]; omega
    · obtain rfl : k = ac.length := by omega
      go_wp2
      go_end0
      exact ⟨rfl, by have h := A.out.row; rw [app_all] at h; exact h, A.out.grow⟩

theorem apply_any (a : Option Addr) (n c : Nat) (z : Nat → Int) (t : Tr) (av : Option Addr) (vc : Nat) (w : World) (hz : IsNums .i64 w a n z) (hl : IsL accC w av t.ac) (hn : n ≤ 1000000) (hm : t.ac.length ≤ 1000000) :
    Calls Try.prog 17 #[.slice a n c, .agg ⟨trC t (.slice av t.ac.length vc)⟩] w fun r w' => ∃ a' c', r = .returned (.slice a' n c') ∧ Hid (w'.ownsRow w.heap.size 2 1 (.slice a' n c') n (vals (app z t.ac) n)) ∧ Hid (w.grownBy w' none) := by
  have HZ := Lib.hid hz
  have HL := Lib.hid hl
  have BT := Lib.hid (Blk.made w 41 #[.int .i64 t.th, .int .i64 t.tx, .int .i64 t.at_, .int .i64 t.st, .int .i64 t.b, .int .i64 t.en, .int .i64 t.re, .bool t.co, .slice av t.ac.length vc])
  clear hz hl
  show Calls Try.prog 17 #[.slice a n c, .agg #[.int .i64 t.th, .int .i64 t.tx, .int .i64 t.at_, .int .i64 t.st, .int .i64 t.b, .int .i64 t.en, .int .i64 t.re, .bool t.co, .slice av t.ac.length vc]] w _
  have GA := Lib.hid (World.grownBy_alloc w (.cells #[.int .i64 t.th, .int .i64 t.tx, .int .i64 t.at_, .int .i64 t.st, .int .i64 t.b, .int .i64 t.en, .int .i64 t.re, .bool t.co, .slice av t.ac.length vc] 41) none)
  go_enter Try.func17, Try.ntmps17
  go_wp2_with fail
  refine (copied_any a n c z _ (HZ.out.grown GA.out) hn).mono ?_
  rintro r u1 ⟨a', c', rfl, HR, g1⟩
  have B1 := Lib.hid (BT.out.grown g1.out (by simp))
  have q0 := B1.out.at 0 rfl; have q1 := B1.out.at 1 rfl; have q2 := B1.out.at 2 rfl; have q3 := B1.out.at 3 rfl; have q4 := B1.out.at 4 rfl; have q5 := B1.out.at 5 rfl; have q6 := B1.out.at 6 rfl; have q7 := B1.out.at 7 rfl; have q8 := B1.out.at 8 rfl
  have G1 := Lib.hid (gb_trans GA.out g1.out)
  go_wp2_with fail
  refine (change_any _ a' n c' z t av vc _ HR.out (HL.out.grown G1.out) ?_ hn hm).mono ?_
  · intro hne b off g e1 e2
    have h2 := (HR.out.lt g (by rw [e2]; rfl)).1
    rcases HL.out with h | ⟨b', off', e3, h1, _⟩
    · exact absurd h hne
    · rw [e1] at e3
      cases e3
      simp at h2
      omega
  rintro r u2 ⟨rfl, HR2, g2⟩
  go_wp2
  go_ret
  exact ⟨a', c', rfl, ownsRow_drop HR2.out (by simp), gb_overO G1.out g2.out (by intro i e; have := (HR.out.lt i e).1; simp at this; omega)⟩
end Go.Proofs.Ytkidkhjpijjphaa.md

/- The states of a trace, one by one: model's function that is ranged over. -/
namespace Go.Proofs.Ytkidkhjpijjphaa.md
open Go Go.RowKit Go.Proofs.Ytkidkhjpijjphaa.base Go.Proofs.Ytkidkhjpijjphaa.hs Go.Proofs.Ytkidkhjpijjphaa.lg Go.Maps
set_option linter.unusedVariables false
set_option maxRecDepth 100000
attribute [local go_sem] Oper.semAt_some

/-- The accesses of the tries that committed, in the order of their ends; of a trace that isn't right none. -/
def cacs (e : Evs) (len : Nat) : List (List Acc) := if right e len = true then (commsD e len).map Tr.ac else []

theorem tries_n' (e : Evs) (n : Nat) : (tries e n).length ≤ n := by
  unfold tries begins
  rw [List.length_map]
  refine Nat.le_trans (List.length_filter_le _ _) ?_
  rw [List.length_range]
  exact Nat.le_refl _

theorem commits_any (w : World) (a : Option Addr) (len cap : Nat) (e : Evs) (hl : IsEvs w a len e) (hlen : len ≤ 10000) :
    Calls Try.prog 54 #[.slice a len cap] w fun r w' => ∃ a' c ys, r = .returned (.slice a' ys.length c) ∧ Hid (IsTries w' a' ys) ∧ Hid (ys.map (fun x => x.1.ac) = cacs e len) ∧ Hid (w.grownBy w' none) ∧ Hid (NewT w.heap.size a' ys) ∧ Hid (ys.length ≤ len) ∧ Hid (∀ x ∈ ys, x.1.ac.length ≤ len) ∧ Hid (right e len = true → ys.map Prod.fst = commsD e len) := by
  cases hr : right e len with
  | true =>
    refine (commits_new w a len cap e hl hr hlen).mono ?_
    rintro r w' ⟨a', c, ys, rfl, h1, h2, h3, h4, h5⟩
    have E := sorted_one Tr.en (h2.out.trans (commsD_perm e hr).symm) (commsD_sorted e hr) (h3.out.imp fun h => by omega)
    have hm : ∀ x ∈ ys, x.1 ∈ tries e len := fun x hx => (List.mem_filter.1 (h2.out.mem_iff.1 (List.mem_map_of_mem hx))).1
    refine ⟨a', c, ys, rfl, h1, ?_, h4, h5, ?_, fun x hx => ?_, fun _ => E⟩
    · show _ = _
      unfold cacs
      rw [if_pos hr, ← E, List.map_map]
      rfl
    · show _ ≤ _
      have h9 := h2.out.length_eq
      rw [List.length_map] at h9
      have h8 := List.length_filter_le (fun t : Tr => t.co) (tries e len)
      have h7 := tries_n' e len
      omega
    · have h8 := hm x hx
      unfold tries at h8
      obtain ⟨b, _, hb⟩ := List.mem_map.1 h8
      rw [← hb]
      exact trAt_ac e b len
  | false =>
    refine (commits_wrong w a len cap e hl hr hlen).mono ?_
    rintro r w' ⟨rfl, h4⟩
    refine ⟨none, 0, [], rfl, ⟨.inl rfl, by simp⟩, ?_, h4, ⟨fun b off h => (by cases h), by simp⟩, Nat.zero_le _, (by intro x hx; simp at hx), fun h => (by cases h)⟩
    show _ = _
    unfold cacs
    rw [if_neg (by rw [hr]; simp)]
    rfl

theorem tries_keep {w w' : World} {a : Option Addr} {ys : List (Tr × Value)} (h : IsTries w a ys) (ht : ys ≠ [] → ∀ b, a = some ⟨b, 0, none⟩ → w'.heap[b]? = w.heap[b]?) (ha : ∀ x ∈ ys, ∀ k, x.2.ownBlock = some k → w'.heap[k]? = w.heap[k]?) (hs : w.heap.size ≤ w'.heap.size) : IsTries w' a ys := by
  refine ⟨?_, fun x hx => ownsRow_keep (h.2 x hx) (ha x hx)⟩
  by_cases hne : ys = []
  · exact .inl hne
  · rcases h.1 with h1 | ⟨g, h1, h2, h3⟩
    · exact .inl h1
    · exact .inr ⟨g, h1, by omega, fun i x hx j u hu => (World.cell?_of_block (ht hne g h1)).trans (h3 i x hx j u hu)⟩
/-- A try in its cells. -/
theorem try9 {w : World} {a : Option Addr} {ys : List (Tr × Value)} (h : IsTries w a ys) {i : Nat} {x : Tr × Value} (hx : ys[i]? = some x) : ∃ g va vc, a = some ⟨g, 0, none⟩ ∧ g < w.heap.size ∧ x.2 = .slice va x.1.ac.length vc ∧
    w.cell? ⟨g, i * 9, none⟩ = some (.int .i64 x.1.th) ∧ w.cell? ⟨g, i * 9 + 1, none⟩ = some (.int .i64 x.1.tx) ∧ w.cell? ⟨g, i * 9 + 2, none⟩ = some (.int .i64 x.1.at_) ∧ w.cell? ⟨g, i * 9 + 3, none⟩ = some (.int .i64 x.1.st) ∧ w.cell? ⟨g, i * 9 + 4, none⟩ = some (.int .i64 x.1.b) ∧ w.cell? ⟨g, i * 9 + 5, none⟩ = some (.int .i64 x.1.en) ∧ w.cell? ⟨g, i * 9 + 6, none⟩ = some (.int .i64 x.1.re) ∧ w.cell? ⟨g, i * 9 + 7, none⟩ = some (.bool x.1.co) ∧ w.cell? ⟨g, i * 9 + 8, none⟩ = some (.slice va x.1.ac.length vc) := by
  obtain ⟨h1, h2⟩ := h
  obtain ⟨va, vc, hv⟩ := owns_slice (h2 x (List.mem_of_getElem? hx))
  rcases h1 with rfl | ⟨g, rfl, hg, hc⟩
  · simp at hx
  · exact ⟨g, va, vc, rfl, hg, hv, hc i x hx 0 _ rfl, hc i x hx 1 _ rfl, hc i x hx 2 _ rfl, hc i x hx 3 _ rfl, hc i x hx 4 _ rfl, hc i x hx 5 _ rfl, hc i x hx 6 _ rfl, hc i x hx 7 _ rfl, by rw [← hv]; exact hc i x hx 8 _ rfl⟩

def FirmV (J : List Value → World → (Nat → Prop) → Prop) : Prop := ∀ pre W W' Fc, J pre W Fc → (∀ k, Fc k → W'.heap[k]? = W.heap[k]?) → J pre W' Fc

/-- Wherever J has seen so many states, all in one list, it takes one more, and gives word. -/
def TakesV (m l n : Nat) (st : Nat → Nat → Int) (J : List Value → World → (Nat → Prop) → Prop) : Prop :=
  ∀ (pre : List Value) (a : Option Addr) (c : Nat) (W : World) (Fc : Nat → Prop), J pre W Fc → (∀ x ∈ pre, x = .slice a n c) → W.ownsRow 0 2 1 (.slice a n c) n (vals (st pre.length) n) → (∀ k, (Value.slice a n c).ownBlock = some k → ¬ Fc k) → (∀ k, Fc k → k < W.heap.size) → pre.length < 100000 →
    YieldAt Fence.wide m Try.prog l #[.slice a n c] W fun e W' => e = .returned (.bool true) ∧ ∃ Fc', J (pre ++ [.slice a n c]) W' Fc' ∧ (∀ k, Fc' k → Fc k ∨ (W.heap.size ≤ k ∧ k < W'.heap.size)) ∧ Only Fc W W'

/-- At the head of a round. -/
structure RelS (w0 : World) (n c : Nat) (a ta : Option Addr) (z : Nat → Int) (cs : List (List Acc)) (ys : List (Tr × Value)) (J : List Value → World → (Nat → Prop) → Prop) (k : Nat) (wr : World) (xs : List Value) (Fc : Nat → Prop) : Prop where
  j : J xs wr Fc
  len : xs.length = k + 1
  all : ∀ x ∈ xs, x = .slice a n c
  row : wr.ownsRow 0 2 1 (.slice a n c) n (vals (stAt z cs k) n)
  tr : IsTries wr ta ys
  fr : ∀ i, (Value.slice a n c).ownBlock = some i → ¬ Fc i ∧ w0.heap.size ≤ i
  ft : ys ≠ [] → ∀ b, ta = some ⟨b, 0, none⟩ → ¬ Fc b
  rt : ys ≠ [] → ∀ b, ta = some ⟨b, 0, none⟩ → (Value.slice a n c).ownBlock ≠ some b
  fa : ∀ x ∈ ys, ∀ i, x.2.ownBlock = some i → ¬ Fc i
  fc : ∀ i, Fc i → w0.heap.size ≤ i ∧ i < wr.heap.size
  bel : Below w0.heap.size w0 wr

section
variable {w0 wr u u' : World} {n c k : Nat} {a ta : Option Addr} {z : Nat → Int} {cs : List (List Acc)} {ys : List (Tr × Value)} {J : List Value → World → (Nat → Prop) → Prop} {xs : List Value} {Fc Fc' : Nat → Prop}
theorem tries_lt (h : IsTries wr ta ys) (hne : ys ≠ []) {b : Nat} (hb : ta = some ⟨b, 0, none⟩) : b < wr.heap.size := by
  rcases h.1 with h1 | ⟨g, h1, h2, _⟩
  · exact absurd h1 hne
  · rw [hb] at h1
    cases h1
    exact h2
theorem RelS.grown (h : RelS w0 n c a ta z cs ys J k wr xs Fc) (firm : FirmV J) (g : wr.grownBy u none) : RelS w0 n c a ta z cs ys J k u xs Fc :=
  ⟨firm _ _ _ _ h.j (fun i hi => g.block i (h.fc i hi).2 (by simp)), h.len, h.all, ownsRow_keep h.row (fun i e => g.block i (h.row.lt i e).2 (by simp)), h.tr.grown g, h.fr, h.ft, h.rt, h.fa, fun i hi => ⟨(h.fc i hi).1, Nat.lt_of_lt_of_le (h.fc i hi).2 g.size⟩, bl_none h.bel g⟩
/-- The list of values was changed, and J has taken it. -/
theorem RelS.next (h : RelS w0 n c a ta z cs ys J k wr xs Fc) (firm : FirmV J) (g : wr.grownBy u (Value.slice a n c).ownBlock) (hr : u.ownsRow 0 2 1 (.slice a n c) n (vals (stAt z cs (k + 1)) n)) (hJ : J (xs ++ [.slice a n c]) u' Fc') (hF : ∀ i, Fc' i → Fc i ∨ (u.heap.size ≤ i ∧ i < u'.heap.size)) (hO : Only Fc u u') :
    RelS w0 n c a ta z cs ys J (k + 1) u' (xs ++ [.slice a n c]) Fc' := by
  have hne : ∀ i, i < wr.heap.size → (Value.slice a n c).ownBlock ≠ some i → ¬ Fc i → u'.heap[i]? = wr.heap[i]? := fun i h1 h2 h3 => (hO.block i (Nat.lt_of_lt_of_le h1 g.size) h3).trans (g.block i h1 (fun e => h2 e.symm))
  have hdif : ∀ x ∈ ys, ∀ i, x.2.ownBlock = some i → (Value.slice a n c).ownBlock ≠ some i := fun x hx i e e2 => by
    obtain ⟨ds, hd⟩ := ownsRow_type (h.tr.2 x hx) e
    obtain ⟨es, he⟩ := ownsRow_type h.row e2
    rw [hd] at he
    injection he with he
    injection he with _ he
    exact absurd he (by decide)
  refine ⟨hJ, by rw [List.length_append, h.len]; rfl, fun x hx => ?_, ownsRow_keep hr (fun i e => hO.block i (hr.lt i e).2 (h.fr i e).1), tries_keep h.tr (fun hn b hb => hne b (tries_lt h.tr hn hb) (h.rt hn b hb) (h.ft hn b hb)) (fun x hx i e => hne i ((h.tr.2 x hx).lt i e).2 (hdif x hx i e) (h.fa x hx i e)) (Nat.le_trans g.size hO.size), fun i e => ⟨fun hf => ?_, (h.fr i e).2⟩, fun hn b hb hf => ?_, h.rt, fun x hx i e hf => ?_, fun i hi => ?_, ?_⟩
  · rcases List.mem_append.1 hx with hx | hx
    · exact h.all x hx
    · simpa using hx
  · rcases hF i hf with h1 | h1
    · exact (h.fr i e).1 h1
    · have := (hr.lt i e).2; omega
  · rcases hF b hf with h1 | h1
    · exact h.ft hn b hb h1
    · have := tries_lt h.tr hn hb; have := g.size; omega
  · rcases hF i hf with h1 | h1
    · exact h.fa x hx i e h1
    · have := ((h.tr.2 x hx).lt i e).2; have := g.size; omega
  · rcases hF i hi with h1 | h1
    · exact ⟨(h.fc i h1).1, Nat.lt_of_lt_of_le (h.fc i h1).2 (Nat.le_trans g.size hO.size)⟩
    · exact ⟨Nat.le_trans h.bel.size (Nat.le_trans g.size h1.1), h1.2⟩
  · exact hO.below (h.bel.grown g h.bel.size (fun i hi => (h.fr i hi).2)) (Nat.le_trans h.bel.size g.size) (fun i hi => (h.fc i hi).1)
end

theorem row_ne {w : World} {b1 b2 : Nat} {E1 E2 : TypeId} {s1 s2 n1 n2 : Nat} {v1 v2 : Value} {x1 x2 : List Value} (h1 : w.ownsRow b1 E1 s1 v1 n1 x1) (h2 : w.ownsRow b2 E2 s2 v2 n2 x2) (hne : E1 ≠ E2) : ∀ k, v1.ownBlock = some k → v2.ownBlock ≠ some k := fun k e e2 => by
  obtain ⟨cs, hc⟩ := ownsRow_type h1 e
  obtain ⟨ds, hd⟩ := ownsRow_type h2 e2
  rw [hc] at hd
  injection hd with hd
  injection hd with _ hd
  exact hne hd

set_option maxHeartbeats 4000000 in
theorem states_in (m : Nat) (hm : 1 ≤ m) (l : Nat) (a1 : Option Addr) (n c1 : Nat) (z : Nat → Int) (a2 : Option Addr) (len cap : Nat) (e : Evs) (bf bl : Nat) (J : List Value → World → (Nat → Prop) → Prop) (firm : FirmV J)
    (hY : TakesV (m - 1) l n (stAt z (cacs e len)) J) (w0 W : World) (hZ : IsNums .i64 w0 a1 n z) (hL : IsEvs w0 a2 len e) (hn : n ≤ 1000000) (hlen : len ≤ 10000) (hbf : Blk 22 W bf #[.slice a1 n c1]) (hbl : Blk 23 W bl #[.slice a2 len cap])
    (Fc0 : Nat → Prop) (h0 : J [] W Fc0) (hfl : ¬ Fc0 bl) (hF0 : ∀ k, Fc0 k → w0.heap.size ≤ k ∧ k < W.heap.size) (hB : Below w0.heap.size w0 W) :
    CallsIn Fence.wide m Try.prog 53 #[.func (.yield l) #[] #[], .pointer (some ⟨bf, 0, none⟩), .pointer (some ⟨bl, 0, none⟩)] W fun r W' => r = .returned (.tuple #[]) ∧ ∃ xs Fc a c, J xs W' Fc ∧ xs.length = (cacs e len).length + 1 ∧ (∀ x ∈ xs, x = .slice a n c) ∧ W'.ownsRow 0 2 1 (.slice a n c) n (vals (stAt z (cacs e len) (cacs e len).length) n) ∧ (∀ i, (Value.slice a n c).ownBlock = some i → ¬ Fc i ∧ w0.heap.size ≤ i) ∧ (∀ k, Fc k → w0.heap.size ≤ k ∧ k < W'.heap.size) ∧ Below w0.heap.size w0 W' := by
  have HZ := Lib.hid hZ
  have HL := Lib.hid hL
  have HBL := Lib.hid hbl
  have FIRM := Lib.hid firm
  have HY := Lib.hid hY
  have HJ := Lib.hid h0
  have HFL := Lib.hid hfl
  have HF0 := Lib.hid hF0
  have HB := Lib.hid hB
  have b1 : W.cell? ⟨bf, 0, none⟩ = some (.slice a1 n c1) := hbf.cell 0
  have lt1 := hbf.lt
  have lt2 := hbl.lt
  clear hZ hL hbf hbl firm hY h0 hfl hF0 hB
  refine callsIn_of_wp Try.func53 rfl trivial ?_ rfl
  simp only [Try.ntmps53, List.size_toArray, List.length_cons, List.length_nil, Nat.reduceAdd, Nat.reduceSub, Array.replicate_succ, Array.replicate_zero, List.push_toArray, List.append_toArray, List.nil_append, List.cons_append]
  gi_wp2_with (first | (refine ⟨trivial, ?_⟩; gi_at_call 33; refine (callsIn_wide.2 (copied_any a1 n c1 z _ ((HZ.out.below HB.out)) hn)).mono ?_; rintro r u1 ⟨a, c, rfl, hr, g1⟩; have HR := Lib.hid hr; have G1 := Lib.hid g1.out; clear hr g1; obtain ⟨fn, tmps, assign, body, hy, hRd⟩ := HY.out [] a c u1 Fc0 (FIRM.out _ _ _ _ HJ.out (fun k hk => G1.out.block k (HF0.out k hk).2 (by simp))) (by simp) (ownsRow_drop HR.out (Nat.zero_le _)) (fun k e hf => by have h1 := (HR.out.lt k e).1; have h2 := (HF0.out k hf).2; omega) (fun k hk => Nat.lt_of_lt_of_le (HF0.out k hk).2 G1.out.size) (by simp); have hy' : (Instr.yield l #[.slice a n c]).run Try.prog u1 = .ok (.round l fn tmps assign body) u1 := hy; have RD := Lib.hid hRd; clear hy hRd) | gi_in)
  refine RD.out.mono ?_
  rintro e3 u2 ⟨rfl, Fc1, hJ, hF, hO⟩
  have HJ1 := Lib.hid hJ
  have HF1 := Lib.hid hF
  have HO1 := Lib.hid hO
  clear hJ hF hO RD
  have hs1 : W.heap.size ≤ u1.heap.size := G1.out.size
  have hs2 : u1.heap.size ≤ u2.heap.size := HO1.out.size
  have BL2 := Lib.hid (HBL.out.keep ((HO1.out.block bl (by omega) HFL.out).trans (G1.out.block bl lt2 (by simp))))
  have l2 : u2.cell? ⟨bl, 0, none⟩ = some (.slice a2 len cap) := BL2.out.cell 0
  have HB2 : Hid (Below w0.heap.size w0 u2) := Lib.hid (HO1.out.below (bl_none HB.out G1.out) (Nat.le_trans HB.out.size hs1) (fun i hi => (HF0.out i hi).1))
  gi_wp2_with (first | (refine ⟨trivial, ?_⟩; gi_at_call 54; refine (callsIn_wide.2 (commits_any u2 a2 len cap e (HL.out.below HB2.out (Nat.le_refl _)) hlen)).mono ?_; rintro r u3 ⟨ta, tc, ys, rfl, h1, h2, h3, h4, h5, h6, _⟩) | gi_in)
  have hyl : ys.length ≤ 10000 := by have := h5.out; omega
  have HCL := Lib.hid (show (cacs e len).length = ys.length by rw [← h2.out, List.length_map])
  have R0 : RelS w0 n c a ta z (cacs e len) ys J 0 u3 [.slice a n c] Fc1 := by
    have hfc : ∀ i, Fc1 i → w0.heap.size ≤ i ∧ i < u2.heap.size := fun i hi => by
      rcases HF1.out i hi with h | h
      · have := HF0.out i h; omega
      · have := HB.out.size; omega
    refine ⟨FIRM.out _ _ _ _ HJ1.out (fun k hk => h3.out.block k (hfc k hk).2 (by simp)), rfl, by simp, ownsRow_keep (ownsRow_drop HR.out (Nat.zero_le _)) (fun k e => ?_), h1.out, fun i e => ⟨fun hf => ?_, ?_⟩, fun hne b hb hf => ?_, fun hne b hb e => ?_, fun x hx i e hf => ?_, fun i hi => ⟨(hfc i hi).1, Nat.lt_of_lt_of_le (hfc i hi).2 h3.out.size⟩, bl_none HB2.out h3.out⟩
    · have h8 := HR.out.lt k e
      exact (h3.out.block k (by omega) (by simp)).trans (HO1.out.block k h8.2 (fun hf => by have := HF0.out k hf; omega))
    · have h8 := HR.out.lt i e
      rcases HF1.out i hf with h | h
      · have := HF0.out i h; omega
      · omega
    · have h8 := HR.out.lt i e
      have := HB.out.size
      omega
    · have h8 := h4.out.1 b 0 hb
      have := hfc b hf
      omega
    · have h8 := h4.out.1 b 0 hb
      have h9 := HR.out.lt b e
      omega
    · have h8 := h4.out.2 x hx i e
      have := hfc i hf
      omega
  have HR0 := Lib.hid R0
  have HAC := Lib.hid h6.out
  have HMAP := Lib.hid h2.out
  clear R0 HJ1 HF1 HO1 BL2 HB2 h1 h2 h3 h4 h6 HR G1 HBL HF0 HB HJ HFL b1 l2
  gi_loopw [16] (fun iv wr => ∃ (k : Nat) (xs : List Value) (Fc : Nat → Prop), k ≤ ys.length ∧ iv = .int .i64 k ∧ Hid (RelS w0 n c a ta z (cacs e len) ys J k wr xs Fc)) (fun iv _ => (ys.length - intOf iv).toNat)
  case atStart => exact ⟨0, _, _, by omega, rfl, HR0⟩
  case round =>
    obtain ⟨k, xs, Fc, hk, rfl, RR⟩ := hrel
    clear HR0
    by_cases hlt : k < ys.length
    · have hlt' : (k : Int) < (ys.length : Int) := by omega
      have hk6 : (k : Int) < 1000000 := by omega
      have hget := List.getElem?_eq_getElem hlt
      have hmem : ys[k] ∈ ys := List.getElem_mem hlt
      obtain ⟨g, va, vc, rfl, hg, hv, d0, d1, d2, d3, d4, d5, d6, d7, d8⟩ := try9 RR.out.tr hget
      have hcs : (cacs e len)[k]? = some ys[k].1.ac := by rw [← HMAP.out, List.getElem?_map, hget]; rfl
      have hrow := RR.out.tr.2 ys[k] hmem
      have hal := HAC.out ys[k] hmem
      have ST := Lib.hid (stAt_step z hcs)
      rw [hv] at hrow
      generalize ys[k].1 = t at *
      have HROW := Lib.hid hrow
      clear hget hmem hcs hv hrow
      have RR1 := Lib.hid (RR.out.grown FIRM.out (World.grownBy_alloc wr (.cells #[.int .i64 t.th, .int .i64 t.tx, .int .i64 t.at_, .int .i64 t.st, .int .i64 t.b, .int .i64 t.en, .int .i64 t.re, .bool t.co, .slice va t.ac.length vc] 41) none))
      have TB := Lib.hid (Blk.made wr 41 #[.int .i64 t.th, .int .i64 t.tx, .int .i64 t.at_, .int .i64 t.st, .int .i64 t.b, .int .i64 t.en, .int .i64 t.re, .bool t.co, .slice va t.ac.length vc])
      have HROW1 := Lib.hid (HROW.out.alloc (.cells #[.int .i64 t.th, .int .i64 t.tx, .int .i64 t.at_, .int .i64 t.st, .int .i64 t.b, .int .i64 t.en, .int .i64 t.re, .bool t.co, .slice va t.ac.length vc] 41))
      have HAP := Lib.hid (show t.ac ≠ [] → ∀ b off gg, va = some ⟨b, off, none⟩ → a = some ⟨gg, 0, none⟩ → b ≠ gg from fun _ b off gg e1 e2 e3 => row_ne HROW1.out RR1.out.row (by decide) b (by rw [e1]; rfl) (by rw [e2, e3]; rfl))
      clear RR HROW
      gi_wp2_with (first | (refine ⟨trivial, ?_⟩; gi_at_call 34; refine (callsIn_wide.2 (change_any 0 a n c (stAt z (cacs e len) k) t va vc _ RR1.out.row (IsL.of_own HROW1.out accC_len rfl) HAP.out hn (by omega))).mono ?_; rintro r u2 ⟨rfl, hr2, g2⟩; have HR2 := Lib.hid (show u2.ownsRow 0 2 1 (.slice a n c) n (vals (stAt z (cacs e len) (k + 1)) n) by rw [ST.out]; exact hr2.out); obtain ⟨fn, tmps, assign, body, hy, hRd⟩ := HY.out xs a c u2 Fc (FIRM.out _ _ _ _ RR1.out.j (fun k hk => g2.out.block k (RR1.out.fc k hk).2 (fun e => (RR1.out.fr k e.symm).1 hk))) RR1.out.all (by rw [RR1.out.len]; exact HR2.out) (fun k e => (RR1.out.fr k e).1) (fun k hk => Nat.lt_of_lt_of_le (RR1.out.fc k hk).2 g2.out.size) (by have := RR1.out.len; omega); have hy' : (Instr.yield l #[.slice a n c]).run Try.prog u2 = .ok (.round l fn tmps assign body) u2 := hy; have RD := Lib.hid hRd; have G2 := Lib.hid g2.out; clear hy hRd hr2 g2) | gi_in)
      refine RD.out.mono ?_
      rintro e3 u3 ⟨rfl, Fc', hJ, hF, hO⟩
      have QQ := Lib.hid (RR1.out.next FIRM.out G2.out HR2.out hJ hF hO)
      clear hJ hF hO RD RR1 G2 HR2
      gi_wp2
      go_roundw
      case rel => exact ⟨k + 1, _, _, by omega, by go_num, QQ⟩
      case measure => simp [intOf]; omega
    · obtain rfl : k = ys.length := by omega
      gi_wp2
      go_end0
      exact ⟨rfl, xs, Fc, a, c, RR.out.j, by rw [HCL.out]; exact RR.out.len, RR.out.all, by rw [HCL.out]; exact RR.out.row, RR.out.fr, RR.out.fc, RR.out.bel⟩
end Go.Proofs.Ytkidkhjpijjphaa.md

/- A region that draws its order, in a round of a range over a function: walked as anywhere; append, and a call, as its steps. Of no program. -/
namespace Go.Proofs.Ytkidkhjpijjphaa.base
open Go Go.RowKit

def noDefer (o : Oper) : Bool := match o.op with | .defer _ => false | _ => true

section
variable {F : Fence} {l n : Nat} {P : Program} {md : Region.Mode} {ops : Array Oper} {Q : Exit → Act → World → Prop}

theorem wpOpIn_round {i : Nat} {K : Act → World → Prop} {a : Act} {w : World} (hd : ∀ o, ops[i]? = some o → noDefer o = true) (h : wpOpIn F n P ops Q i K a w) : wpOpIn (F.inRound l) n P ops Q i K a w := by
  unfold wpOpIn at h ⊢
  cases ho : ops[i]? with
  | none => rw [ho] at h; exact h
  | some o =>
    rw [ho] at h
    dsimp only at h ⊢
    have hne : ∀ c, o.op ≠ .defer c := fun c e => by have := hd o ho; simp [noDefer, e] at this
    by_cases hw : Region.wanted o (yielded ops a.tmps) = true
    · rw [if_pos hw] at h ⊢
      refine ⟨h.1, ?_⟩
      have h2 := h.2
      rw [Oper.semAt_eq _ _ _ hne] at h2 ⊢
      exact h2
    · rw [if_neg hw] at h ⊢
      exact h

theorem wpAnyIn_round (hd : ops.toList.all noDefer = true) : ∀ (fuel : Nat) (listed : Array Bool) (a : Act) (w : World), wpAnyIn F n P md ops Q fuel listed a w → wpAnyIn (F.inRound l) n P md ops Q fuel listed a w
  | 0, _, _, _, h => h
  | fuel + 1, listed, a, w, h => by
    refine ⟨h.1, fun i hi => wpOpIn_mono (fun a w h => wpAnyIn_round hd fuel _ a w h) (wpOpIn_round (fun o ho => ?_) (h.2 i hi))⟩
    exact List.all_eq_true.1 hd o (Array.mem_toList_iff.2 (Array.mem_of_getElem? ho))

theorem wpIn_region_round {id : Nat} {a : Act} {w : World} (hm : P.follows .mixedOrders = true) (hd : ops.toList.all noDefer = true) (h : wpAnyIn F n P .any ops Q ops.size (Array.replicate ops.size false) a w.drew) : (Code.region id ops true).wpIn (F.inRound l) n P Q a w :=
  wpIn_region_any hm (wpAnyIn_round hd _ _ _ _ h)

/-- append, as one step. -/
theorem stepIn_append_at {o : Oper} {a : Act} {w : World} {K : Act → World → Prop} {E : Prop}
    (hg : o.guard = none) (s x : Operand) (t : TypeId) (hop : o.op = Op.call { callee := Callee.builtin Builtin.append, args := #[s, x], argTypes := #[t, t] })
    (base : Nat) (e : TypeId) (i : TypeInfo) (z : Value) (size bytes : Nat) (h1 : P.underlying t = some (.slice e)) (h2 : P.info? e = some i) (h3 : i.zero = some z) (h4 : i.size = size) (h5 : i.bytes = bytes) (h6 : z.cells.size = size) (h7 : 0 < size)
    (v : Value) (k : Nat) (xs : List Value) (hs : a.eval s = v) (hown : w.ownsRow base e size v k xs)
    (ad : Addr) (m c : Nat) (news : List Value) (hx : a.eval x = .slice (some ad) m c) (hl : news.length = m * size) (hnews : ∀ j u, news[j]? = some u → w.cell? (ad.add j) = some u) (h1c : ∀ u ∈ news, u.oneCell' = true)
    (h63 : k + m ≤ maxLen) (hbytes : (k + m) * bytes ≤ 140737488355328) (hbase : base ≤ w.heap.size) (hm : 0 < m)
    (hK : ∀ g cap w', w'.ownsRow base e size (.slice (some ⟨g, 0, none⟩) (k + m) cap) (k + m) (xs ++ news) → w.grownBy w' v.ownBlock → (some g = v.ownBlock ∨ w.heap.size ≤ g) → K (a.put o.dst (.slice (some ⟨g, 0, none⟩) (k + m) cap)) w') :
    if Region.wanted o (yielded ops a.tmps) = true then Oper.wpIn F n P o a w K Q else E := by
  have hw : Region.wanted o (yielded ops a.tmps) = true := by simp [Region.wanted, hg]
  rw [if_pos hw]
  obtain ⟨v', w', hrun, r1, r2, r3⟩ := run_append_at (P := P) w base t o.type e i z size bytes h1 h2 h3 h4 h5 h6 h7 v k xs hown ad m c news hl hnews h1c h63 hbytes hbase
  have r0 := r1
  rcases r0.2 with ⟨_, h0⟩ | ⟨g, cap, _, rfl, _⟩
  · omega
  unfold Oper.wpIn
  refine ⟨by simp [Oper.about, hop, resolve, Target.leads, Sem.run_pure], ?_⟩
  rw [Oper.semAt_plain F _ _ (by rw [hop]; intro c hc'; cases hc')]
  simp [execOp, hop, resolve, invoke, builtin, hs, hx, hrun, Result.andThen]
  exact hK g cap w' r1 r2 (by
    rcases r3 with h | ⟨k, h, hk⟩
    · exact .inl h
    · cases h; exact .inr hk)

/-- A call of a Go function, as one step. -/
theorem stepIn_call {o : Oper} {a : Act} {w : World} {K : Act → World → Prop} {E : Prop}
    (hg : o.guard = none) (f : FuncId) (args : Array Value) (hx : (o.semAt none a.eval).run P w = .ok (.enter f args) w) {R : Ending → World → Prop} (hC : Calls P f args w R)
    (hr : ∀ e w', R e w' → ∃ v, e = .returned v ∧ K (a.put o.dst v) w') : if Region.wanted o (yielded ops a.tmps) = true then Oper.wpIn Fence.wide n P o a w K Q else E := by
  have hw : Region.wanted o (yielded ops a.tmps) = true := by simp [Region.wanted, hg]
  rw [if_pos hw]
  refine ⟨fun _ _ => trivial, ?_⟩
  show o.uponIn Fence.wide n P a K Q ((o.semAt none a.eval).run P w)
  rw [hx, Oper.uponIn_enter]
  refine ⟨fun h => (by cases h), (callsIn_wide.2 hC).mono ?_⟩
  intro e w' h
  obtain ⟨v, rfl, hK⟩ := hr e w' h
  exact hK
end
end Go.Proofs.Ytkidkhjpijjphaa.base

/- Package model's States: all states of a trace, in memory of their own. -/
namespace Go.Proofs.Ytkidkhjpijjphaa.md
open Go Go.RowKit Go.Proofs.Ytkidkhjpijjphaa.base Go.Proofs.Ytkidkhjpijjphaa.hs Go.Proofs.Ytkidkhjpijjphaa.lg Go.Maps
set_option linter.unusedVariables false
set_option linter.unusedSimpArgs false
set_option maxRecDepth 100000
attribute [local go_sem] Oper.semAt_some

theorem mf_run (fn : Fn) (first cap : Array Value) (w : World) : (Instr.makeFunc fn first cap).run Try.prog w = .ok (.func fn first cap) w := rfl

theorem states_fn (a1 : Option Addr) (n c1 : Nat) (a2 : Option Addr) (len cap : Nat) (w : World) :
    Calls Try.prog 35 #[.slice a1 n c1, .slice a2 len cap] w fun r w' => r = .returned (.func (.func 53) #[] #[.pointer (some ⟨w.heap.size, 0, none⟩), .pointer (some ⟨w.heap.size + 1, 0, none⟩)]) ∧ w' = (w.alloc (.cells #[.slice a1 n c1] 22)).alloc (.cells #[.slice a2 len cap] 23) := by
  have hmf := mf_run
  go_enter Try.func35, Try.ntmps35
  go_wp2
  go_ret
  exact ⟨rfl, rfl⟩

/-- A row of n numbers of one's own, in blocks from B on. -/
def RowAt (w : World) (B n : Nat) (f : Nat → Int) (u : Value) : Prop := ∃ a c, u = .slice a n c ∧ w.ownsRow B 2 1 u n (vals f n)

theorem infoRow : (Try.prog.info? 22).map (fun i => (i.zero, i.size, i.bytes)) = some (some (.slice none 0 0), 1, 24) := by kernel_rfl

/-- What States holds while the states come: us, the rows so far. -/
structure JSP (l D : Nat) (rec : Loop) (bt n : Nat) (st : Nat → Nat → Int) (m : Nat) (W : World) (Fc : Nat → Prop) (a : Option Addr) (c : Nat) (us : List Value) : Prop where
  len : us.length = m
  box : Blk 45 W bt #[.slice a m c]
  row : W.ownsRow 0 22 1 (.slice a m c) m us
  each : ∀ i u, us[i]? = some u → ∃ a c, u = .slice a n c ∧ W.ownsRow 0 2 1 u n (vals (st i) n)
  loop : LoopAt l D rec W
  fbt : Fc bt
  fl : Fc l
  fD : Fc D
  frow : ∀ k, (Value.slice a m c).ownBlock = some k → Fc k
  feach : ∀ u ∈ us, ∀ k, u.ownBlock = some k → Fc k
def JS (l D : Nat) (rec : Loop) (bt n : Nat) (st : Nat → Nat → Int) (pre : List Value) (W : World) (Fc : Nat → Prop) : Prop := ∃ a c us, JSP l D rec bt n st pre.length W Fc a c us

theorem JSP.keep {l D : Nat} {rec : Loop} {bt n : Nat} {st : Nat → Nat → Int} {m : Nat} {W W' : World} {Fc Fd : Nat → Prop} {a : Option Addr} {c : Nat} {us : List Value} (h : JSP l D rec bt n st m W Fc a c us) (hk : ∀ k, Fc k → W'.heap[k]? = W.heap[k]?) (hF : ∀ k, Fc k → Fd k) : JSP l D rec bt n st m W' Fd a c us :=
  ⟨h.len, h.box.keep (hk _ h.fbt), ownsRow_keep h.row (fun k e => hk _ (h.frow k e)), fun i u hu => (by
    obtain ⟨a, c, h1, h2⟩ := h.each i u hu
    exact ⟨a, c, h1, ownsRow_keep h2 (fun k e => hk _ (h.feach u (List.mem_of_getElem? hu) k e))⟩), h.loop.keep (hk _ h.fl) (hk _ h.fD), hF _ h.fbt, hF _ h.fl, hF _ h.fD, fun k e => hF _ (h.frow k e), fun u hu k e => hF _ (h.feach u hu k e)⟩
theorem js_firm (l D : Nat) (rec : Loop) (bt n : Nat) (st : Nat → Nat → Int) : FirmV (JS l D rec bt n st) := by
  rintro pre W W' Fc ⟨a, c, us, h⟩ hk
  exact ⟨a, c, us, h.keep hk (fun _ h => h)⟩

/-- One more state was copied, and appended. -/
theorem js_add {l D : Nat} {rec : Loop} {bt n : Nat} {st : Nat → Nat → Int} {m : Nat} {W W' : World} {Fc G : Nat → Prop} {a : Option Addr} {c : Nat} {us : List Value} (h : JSP l D rec bt n st m W Fc a c us) {av : Option Addr} {vc g c' : Nat}
    (hv : W'.ownsRow 0 2 1 (.slice av n vc) n (vals (st m) n)) (hvG : ∀ k, (Value.slice av n vc).ownBlock = some k → G k)
    (ho : Only (fun k => k = bt ∨ k = l ∨ (Value.slice a m c).ownBlock = some k) W W') (hlt : ∀ k, Fc k → k < W.heap.size) (hb : Blk 45 W' bt #[.slice (some ⟨g, 0, none⟩) (m + 1) c'])
    (hr : W'.ownsRow 0 22 1 (.slice (some ⟨g, 0, none⟩) (m + 1) c') (m + 1) (us ++ [.slice av n vc])) (hL : W'.heap[l]? = some (.loop rec)) (hF : ∀ k, Fc k → G k) (hg : G g) :
    JSP l D rec bt n st (m + 1) W' G (some ⟨g, 0, none⟩) c' (us ++ [.slice av n vc]) := by
  have hcell : ∀ k ty cs, W.heap[k]? = some (.cells cs ty (0, 0)) → ty ≠ 45 → ty ≠ 22 → Fc k → W'.heap[k]? = W.heap[k]? := fun k ty cs hk h1 h2 hf => by
    refine ho.block k (hlt k hf) ?_
    rintro (e | e | e)
    · have := h.box
      unfold Blk at this
      rw [← e, hk] at this
      injection this with this
      injection this with _ this
      exact h1 this
    · have := h.loop.1
      rw [← e, hk] at this
      cases this
    · obtain ⟨ds, hd⟩ := ownsRow_type h.row e
      rw [hk] at hd
      injection hd with hd
      injection hd with _ hd
      exact h2 hd
  refine ⟨by rw [List.length_append, h.len]; rfl, hb, hr, fun i u hu => ?_, ⟨hL, ?_⟩, hF _ h.fbt, hF _ h.fl, hF _ h.fD, fun k e => by cases e; exact hg, fun u hu k e => ?_⟩
  · by_cases hi : i < us.length
    · rw [List.getElem?_append_left hi] at hu
      obtain ⟨a3, c3, h1, h2⟩ := h.each i u hu
      refine ⟨a3, c3, h1, ownsRow_keep h2 (fun k e => ?_)⟩
      obtain ⟨cs, hc⟩ := ownsRow_type h2 e
      exact hcell k _ cs hc (by decide) (by decide) (h.feach u (List.mem_of_getElem? hu) k e)
    · rw [List.getElem?_append_right (by omega)] at hu
      have hi0 : i - us.length = 0 := by have := (List.getElem?_eq_some_iff.1 hu).1; simp at this; omega
      rw [hi0] at hu
      have hi1 : i = m := by have := h.len; omega
      subst hi1
      simp at hu
      subst hu
      exact ⟨av, vc, rfl, hv⟩
  · refine (ho.block D (hlt D h.fD) ?_).trans h.loop.2
    have hd := h.loop.2
    rintro (e | e | e)
    · have := h.box
      unfold Blk at this
      rw [← e, hd] at this
      cases this
    · have := h.loop.1
      rw [← e, hd] at this
      cases this
    · obtain ⟨ds, hd2⟩ := ownsRow_type h.row e
      rw [hd] at hd2
      cases hd2
  · rcases List.mem_append.1 hu with hu | hu
    · exact hF _ (h.feach u hu k e)
    · rw [List.mem_singleton.1 hu] at e
      exact hvG k e

/-- .. and the round has ended. -/
theorem js_end {l D : Nat} {rec : Loop} {bt n : Nat} {st : Nat → Nat → Int} {pre : List Value} {x : Value} {W W4 u5 w6 : World} {Fc : Nat → Prop} {ya : Option Addr} {yc : Nat} {us : List Value} {lo : Loop} {a5 : Option Addr} {c5 g' c' : Nat} (HJ : JSP l D rec bt n st pre.length W Fc ya yc us) (FLT : ∀ k, Fc k → k < W.heap.size) (OA : Only (fun k => k = l) W W4) (L4 : W4.heap[l]? = some (.loop lo)) (S4 : W4.heap.size = W.heap.size)
    (g5 : W4.drew.grownBy u5 none) (V5 : u5.ownsRow W4.drew.heap.size 2 1 (.slice a5 n c5) n (vals (st pre.length) n)) (B6 : Blk 45 w6 bt #[.slice ya pre.length yc]) (R4 : W4.drew.ownsRow 0 22 1 (.slice ya pre.length yc) pre.length us)
    (HO : w6.ownsRow 0 22 1 (.slice (some ⟨g', 0, none⟩) (pre.length + 1) c') (pre.length + 1) (us ++ [.slice a5 n c5])) (HG : (u5.alloc (.cells #[.slice a5 n c5] 22)).grownBy w6 (Value.slice ya pre.length yc).ownBlock) (HV : some g' = (Value.slice ya pre.length yc).ownBlock ∨ (u5.alloc (.cells #[.slice a5 n c5] 22)).heap.size ≤ g') :
    (w6.setCell ⟨bt, 0, none⟩ (.slice (some ⟨g', 0, none⟩) (pre.length + 1) c')).heap[l]? = some (.loop lo) ∧ ∃ Fc', JS l D rec bt n st (pre ++ [x]) ((w6.setCell ⟨bt, 0, none⟩ (.slice (some ⟨g', 0, none⟩) (pre.length + 1) c')).putObj l (.loop rec)) Fc' ∧
      (∀ k, Fc' k → Fc k ∨ (W.heap.size ≤ k ∧ k < (w6.setCell ⟨bt, 0, none⟩ (.slice (some ⟨g', 0, none⟩) (pre.length + 1) c')).heap.size)) ∧ Only Fc W ((w6.setCell ⟨bt, 0, none⟩ (.slice (some ⟨g', 0, none⟩) (pre.length + 1) c')).putObj l (.loop rec)) := by
  have s5 : W4.heap.size ≤ u5.heap.size := g5.size
  have s6 : u5.heap.size + 1 ≤ w6.heap.size := by have := HG.size; rwa [World.size_alloc] at this
  have hl4 : l < W4.heap.size := (Array.getElem?_eq_some_iff.1 L4).1
  have nlb : bt ≠ l := fun e => by
    have h1 := HJ.box
    unfold Blk at h1
    rw [e, HJ.loop.1] at h1
    cases h1
  have nlr : (Value.slice ya pre.length yc).ownBlock ≠ some l := fun e => by
    obtain ⟨cs, hc⟩ := ownsRow_type R4 e
    have h1 : W4.drew.heap[l]? = some (.loop lo) := L4
    rw [h1] at hc
    cases hc
  have nbr : (Value.slice ya pre.length yc).ownBlock ≠ some bt := fun e => by
    obtain ⟨cs, hc⟩ := ownsRow_type HJ.row e
    have h1 := HJ.box
    unfold Blk at h1
    rw [h1] at hc
    injection hc with hc
    injection hc with _ hc
    exact absurd hc (by decide)
  have L5 : u5.heap[l]? = some (.loop lo) := (g5.block l hl4 (by simp)).trans L4
  have L6 : w6.heap[l]? = some (.loop lo) := (HG.block l (by rw [World.size_alloc]; omega) (fun e => nlr e.symm)).trans ((Below.heap_alloc u5 _ l (by omega)).trans L5)
  have L7 : (w6.setCell ⟨bt, 0, none⟩ (.slice (some ⟨g', 0, none⟩) (pre.length + 1) c')).heap[l]? = some (.loop lo) := (Below.heap_setCell _ _ _ _ (fun e => nlb e.symm)).trans L6
  have hgl : g' ≠ l := by
    rcases HV with h | h
    · exact fun e => nlr (by rw [← h, e])
    · rw [World.size_alloc] at h; omega
  have hbl : bt < W.heap.size := HJ.box.lt
  have hgb : g' ≠ bt := by
    rcases HV with h | h
    · exact fun e => nbr (by rw [← h, e])
    · rw [World.size_alloc] at h; omega
  have OZ : Only (fun k => k = bt ∨ k = l ∨ (Value.slice ya pre.length yc).ownBlock = some k) W ((w6.setCell ⟨bt, 0, none⟩ (.slice (some ⟨g', 0, none⟩) (pre.length + 1) c')).putObj l (.loop rec)) :=
    (((((OA.mono (fun k _ h => .inr (.inl h))).trans (Only.none (gb_drew (gb_refl W4 none)))).trans (Only.none (gb_alloc g5 _))).trans (Only.of HG (fun k e _ => .inr (.inr e)))).trans (Only.of (gb_setB (gb_refl w6 _) _) (fun k e _ => .inl (by cases e; rfl)))).trans ((only_put _ _ _).mono (fun k _ h => .inr (.inl h)))
  have OZF : Only Fc W ((w6.setCell ⟨bt, 0, none⟩ (.slice (some ⟨g', 0, none⟩) (pre.length + 1) c')).putObj l (.loop rec)) := OZ.mono (fun k _ hk => by
    rcases hk with rfl | rfl | hk
    · exact HJ.fbt
    · exact HJ.fl
    · exact HJ.frow k hk)
  have hs7 : (w6.setCell ⟨bt, 0, none⟩ (.slice (some ⟨g', 0, none⟩) (pre.length + 1) c')).heap.size = w6.heap.size := by simp [World.setCell]
  have V6 : w6.ownsRow 0 2 1 (.slice a5 n c5) n (vals (st pre.length) n) := by
    refine ownsRow_keep (ownsRow_drop V5 (Nat.zero_le _)) (fun k e => ?_)
    have h1 := V5.lt k e
    refine (HG.block k (by rw [World.size_alloc]; omega) (fun e2 => ?_)).trans (Below.heap_alloc u5 _ k h1.2)
    have h2 := (R4.lt k e2.symm).2
    have h3 : W4.drew.heap.size = W4.heap.size := rfl
    omega
  refine ⟨L7, fun k => Fc k ∨ (W.heap.size ≤ k ∧ k < w6.heap.size), ⟨some ⟨g', 0, none⟩, c', us ++ [.slice a5 n c5], ?_⟩, fun k hk => by rw [hs7]; exact hk, OZF⟩
  rw [List.length_append]
  refine js_add HJ (ownsRow_keep V6 (fun k e => ?_)) (fun k e => .inr ?_) OZ FLT ?_ ?_ (World.putObj_heap_same (by simp [World.setCell]; omega)) (fun k hk => .inl hk) ?_
  · have h1 := V5.lt k e
    have h3 : W4.drew.heap.size = W4.heap.size := rfl
    exact (World.putObj_heap_other (by omega)).trans (Below.heap_setCell _ _ _ _ (by dsimp only; omega))
  · have h1 := V5.lt k e
    have h3 : W4.drew.heap.size = W4.heap.size := rfl
    omega
  · exact (B6.set 0 (.slice (some ⟨g', 0, none⟩) (pre.length + 1) c')).keep (World.putObj_heap_other nlb)
  · exact ownsRow_keep HO (fun k e => by cases e; exact (World.putObj_heap_other hgl).trans (Below.heap_setCell _ _ _ _ hgb))
  · rcases HV with h | h
    · exact .inl (HJ.frow g' h.symm)
    · rw [World.size_alloc] at h
      exact .inr ⟨by omega, (HO.lt g' rfl).2⟩

set_option maxHeartbeats 4000000 in
theorem states_any (a1 : Option Addr) (n c1 : Nat) (z : Nat → Int) (a2 : Option Addr) (len cap : Nat) (e : Evs) (w : World) (hZ : IsNums .i64 w a1 n z) (hL : IsEvs w a2 len e) (hn : n ≤ 1000000) (hlen : len ≤ 10000) :
    Calls Try.prog 20 #[.slice a1 n c1, .slice a2 len cap] w fun r w' => ∃ a c us, r = .returned (.slice a us.length c) ∧ Hid (us.length = (cacs e len).length + 1) ∧ Hid (w.grownBy w' none) ∧ Hid (w'.ownsRow w.heap.size 22 1 (.slice a us.length c) us.length us) ∧ Hid (∀ i u, us[i]? = some u → RowAt w' w.heap.size n (stAt z (cacs e len) i) u) := by
  have HZ := Lib.hid hZ
  have HL := Lib.hid hL
  clear hZ hL
  refine (callsIn_wide (n := 5)).1 ?_
  refine callsIn_of_wp_marks Try.func20 rfl trivial ?_ rfl
  simp only [Try.ntmps20, List.size_toArray, List.length_cons, List.length_nil, Nat.reduceAdd, Nat.reduceSub, Array.replicate_succ, Array.replicate_zero, List.push_toArray, List.append_toArray, List.nil_append, List.cons_append]
  have BT := Lib.hid (Blk.made w 45 #[.slice none 0 0])
  have GA := Lib.hid (World.grownBy_alloc w (.cells #[.slice none 0 0] 45) none)
  gi_wp2_with (first | (refine ⟨trivial, ?_⟩; gi_at_call 35; refine (callsIn_wide.2 (states_fn a1 n c1 a2 len cap _)).mono ?_; rintro r u1 ⟨rfl, rfl⟩) | gi_in)
  obtain ⟨i0, hi0, hz00, hz10, hz20⟩ := info_parts infoRow
  have hi := Lib.hid hi0
  have hz0 := Lib.hid hz00
  have hz1 := Lib.hid hz10
  have hz2 := Lib.hid hz20
  clear hi0 hz00 hz10 hz20
  have BF := Lib.hid (Blk.made (w.alloc (.cells #[.slice none 0 0] 45)) 22 #[.slice a1 n c1])
  have BL := Lib.hid (Blk.made ((w.alloc (.cells #[.slice none 0 0] 45)).alloc (.cells #[.slice a1 n c1] 22)) 23 #[.slice a2 len cap])
  have BF2 := Lib.hid (BF.out.alloc (.cells #[.slice a2 len cap] 23))
  have BT2 := Lib.hid ((BT.out.alloc (.cells #[.slice a1 n c1] 22)).alloc (.cells #[.slice a2 len cap] 23))
  have G2 := Lib.hid (gb_alloc (gb_alloc GA.out (.cells #[.slice a1 n c1] 22)) (.cells #[.slice a2 len cap] 23))
  have S2 := Lib.hid (show (((w.alloc (.cells #[.slice none 0 0] 45)).alloc (.cells #[.slice a1 n c1] 22)).alloc (.cells #[.slice a2 len cap] 23)).heap.size = w.heap.size + 3 by simp)
  clear BT GA BF
  generalize ((w.alloc (.cells #[.slice none 0 0] 45)).alloc (.cells #[.slice a1 n c1] 22)).alloc (.cells #[.slice a2 len cap] 23) = u2 at *
  simp only [size_alloc] at BF2 BL
  generalize hbt : w.heap.size = bt at *
  have HBT := Lib.hid hbt
  clear hbt
  generalize hst : stAt z (cacs e len) = st at *
  have HST := Lib.hid hst
  clear hst
  refine wpIn_range_take rfl (by omega) (gf := 53) (bnd := #[]) (lb := #[.pointer (some ⟨bt + 1, 0, none⟩), .pointer (some ⟨bt + 1 + 1, 0, none⟩)]) rfl trivial (enters_of Try.func53 (by kernel_rfl) rfl) ?_
  intro fn hfn rec hrec
  have HREC := Lib.hid hrec
  clear hrec
  have HT : TakesV 3 (u2.heap.size + 1) n st (JS (u2.heap.size + 1) u2.heap.size rec bt n st) := by
    intro pre a c W Fc hJ hall hrow hdis hFl hpre
    obtain ⟨ya, yc, us, J⟩ := hJ
    have HJ := Lib.hid J
    have HROW := Lib.hid hrow
    have HDIS := Lib.hid hdis
    have FLT : Hid (∀ k, Fc k → k < W.heap.size) := Lib.hid hFl
    refine yield_take HREC.out J.loop.1 rfl hfn ?_
    clear J hrow hdis hFl hall
    gi_wp2
    refine ⟨HJ.out.loop.1, ?_⟩
    obtain ⟨W4, hW4⟩ : ∃ W4, W4 = W.putObj (u2.heap.size + 1) (.loop { rec with state := .busy }) := ⟨_, rfl⟩
    rw [← hW4]
    have lt1 := FLT.out _ HJ.out.fl
    have K4 : Hid (∀ k, k ≠ u2.heap.size + 1 → W4.heap[k]? = W.heap[k]?) := Lib.hid (fun k hne => by rw [hW4, World.putObj_heap_other hne])
    have L4 : Hid (W4.heap[u2.heap.size + 1]? = some (.loop { rec with state := .busy })) := Lib.hid (by rw [hW4]; exact World.putObj_heap_same lt1)
    have S4 : Hid (W4.heap.size = W.heap.size) := Lib.hid (by rw [hW4]; simp)
    have OA : Hid (Only (fun k => k = u2.heap.size + 1) W W4) := Lib.hid (by rw [hW4]; exact only_put W _ _)
    clear hW4
    have ncl : ∀ k ty cs, W.heap[k]? = some (.cells cs ty (0, 0)) → k ≠ u2.heap.size + 1 := fun k ty cs hk e => by
      have := HJ.out.loop.1
      rw [← e, hk] at this
      cases this
    have B4 : Hid (Blk 45 W4.drew bt #[.slice ya pre.length yc]) := Lib.hid (HJ.out.box.keep (K4.out _ (ncl _ _ _ HJ.out.box)))
    have R4 : Hid (W4.drew.ownsRow 0 22 1 (.slice ya pre.length yc) pre.length us) := Lib.hid (ownsRow_keep HJ.out.row (fun k e => K4.out k (by obtain ⟨cs, hc⟩ := ownsRow_type HJ.out.row e; exact ncl _ _ _ hc)))
    have NV : Hid (IsNums .i64 W4.drew a n (st pre.length)) := Lib.hid (IsNums.of_own (ownsRow_keep HROW.out (fun k e => K4.out k (by obtain ⟨cs, hc⟩ := ownsRow_type HROW.out e; exact ncl _ _ _ hc))))
    have NBT : Hid ((Value.slice ya pre.length yc).ownBlock ≠ some bt) := Lib.hid (fun e => by
      obtain ⟨cs, hc⟩ := ownsRow_type R4.out e
      have h9 := B4.out
      unfold Blk at h9
      rw [hc] at h9
      injection h9 with h9
      injection h9 with _ h9
      exact absurd h9 (by decide))
    have b4 : W4.drew.cell? ⟨bt, 0, none⟩ = some (.slice ya pre.length yc) := B4.out.cell 0
    gi_wp2_with fail
    refine wpIn_region_round (by kernel_rfl) (by kernel_rfl) ?_
    refine wpAnyIn_ready (rs := [0, 1]) (by kernel_rfl) (by simp) ?_
    refine AllReadyIn.cons rfl (fun K hK => ?_) (AllReadyIn.cons rfl (fun K hK => ?_) AllReadyIn.nil)
    · go_simp; refine hK _ _ ?_; clear hK K
      refine wpAnyIn_ready (rs := [1]) (by kernel_rfl) (by simp) ?_; refine AllReadyIn.cons rfl (fun K hK => ?_) AllReadyIn.nil; go_simp; refine hK _ _ ?_; clear hK K
      refine wpAnyIn_ready (rs := [2]) (by kernel_rfl) (by simp) ?_; refine AllReadyIn.cons rfl (fun K hK => ?_) AllReadyIn.nil; refine stepIn_call rfl 33 #[.slice a n c] (by simp [Act.eval, Act.put, go_sem]) (copied_any a n c (st pre.length) _ NV.out hn) ?_; rintro r5 u5 ⟨a5, c5, rfl, hr5, g5⟩; refine ⟨_, rfl, hK _ _ ?_⟩; clear hK K; have V5 := Lib.hid hr5.out; have G5 := Lib.hid g5.out; have B5 := Lib.hid (B4.out.grown g5.out (by simp)); have R5 := Lib.hid (ownsRow_keep R4.out (fun k e => g5.out.block k (R4.out.lt k e).2 (by simp))); have b5 : u5.cell? ⟨bt, 0, none⟩ = some (.slice ya pre.length yc) := B5.out.cell 0; have b6 : (u5.alloc (.cells #[.slice a5 n c5] 22)).cell? ⟨bt, 0, none⟩ = some (.slice ya pre.length yc) := (B5.out.alloc _).cell 0; clear hr5 g5
      refine wpAnyIn_ready (rs := [3]) (by kernel_rfl) (by simp) ?_; refine AllReadyIn.cons rfl (fun K hK => ?_) AllReadyIn.nil; go_simp; refine hK _ _ ?_; clear hK K
      refine wpAnyIn_ready (rs := [4]) (by kernel_rfl) (by simp) ?_; refine AllReadyIn.cons rfl (fun K hK => ?_) AllReadyIn.nil; refine stepIn_append_at rfl (.tmp 11) (.tmp 14) 45 rfl 0 22 i0 (.slice none 0 0) 1 24 Try.underlying45 hi.out hz0.out hz1.out hz2.out rfl (by decide) (.slice ya pre.length yc) pre.length us rfl (R5.out.alloc _) ⟨u5.heap.size, 0, none⟩ 1 1 [.slice a5 n c5] rfl rfl (new_cells u5 _ _) (by intro u hu; simp at hu; subst hu; rfl) (by unfold maxLen; omega) (by omega) (by simp) (by decide) ?_; intro g' c' w6 ho hg hv; refine hK _ _ ?_; clear hK K; have HO := Lib.hid ho; have HG := Lib.hid hg; have HV := Lib.hid hv; have B6 := Lib.hid ((B5.out.alloc (.cells #[.slice a5 n c5] 22)).grown hg (fun e => NBT.out e.symm)); have b7 : w6.cell? ⟨bt, 0, none⟩ = some (.slice ya pre.length yc) := B6.out.cell 0; have f7 := B6.out.free 0; clear ho hg hv
      refine wpAnyIn_ready (rs := [5]) (by kernel_rfl) (by simp) ?_; refine AllReadyIn.cons rfl (fun K hK => ?_) AllReadyIn.nil; go_simp; refine hK _ _ ?_; clear hK K
      refine wpAnyIn_done (by kernel_rfl) ?_ _; obtain ⟨q1, q2⟩ := js_end (x := .slice a n c) HJ.out FLT.out OA.out L4.out S4.out G5.out V5.out B6.out R4.out HO.out HG.out HV.out; exact ⟨rfl, q1, q2⟩
    · go_simp; refine hK _ _ ?_; clear hK K
      refine wpAnyIn_ready (rs := [0, 2]) (by kernel_rfl) (by simp) ?_
      refine AllReadyIn.cons rfl (fun K hK => ?_) (AllReadyIn.cons rfl (fun K hK => ?_) AllReadyIn.nil)
      · go_simp; refine hK _ _ ?_; clear hK K
        refine wpAnyIn_ready (rs := [2]) (by kernel_rfl) (by simp) ?_; refine AllReadyIn.cons rfl (fun K hK => ?_) AllReadyIn.nil; refine stepIn_call rfl 33 #[.slice a n c] (by simp [Act.eval, Act.put, go_sem]) (copied_any a n c (st pre.length) _ NV.out hn) ?_; rintro r5 u5 ⟨a5, c5, rfl, hr5, g5⟩; refine ⟨_, rfl, hK _ _ ?_⟩; clear hK K; have V5 := Lib.hid hr5.out; have G5 := Lib.hid g5.out; have B5 := Lib.hid (B4.out.grown g5.out (by simp)); have R5 := Lib.hid (ownsRow_keep R4.out (fun k e => g5.out.block k (R4.out.lt k e).2 (by simp))); have b5 : u5.cell? ⟨bt, 0, none⟩ = some (.slice ya pre.length yc) := B5.out.cell 0; have b6 : (u5.alloc (.cells #[.slice a5 n c5] 22)).cell? ⟨bt, 0, none⟩ = some (.slice ya pre.length yc) := (B5.out.alloc _).cell 0; clear hr5 g5
        refine wpAnyIn_ready (rs := [3]) (by kernel_rfl) (by simp) ?_; refine AllReadyIn.cons rfl (fun K hK => ?_) AllReadyIn.nil; go_simp; refine hK _ _ ?_; clear hK K
        refine wpAnyIn_ready (rs := [4]) (by kernel_rfl) (by simp) ?_; refine AllReadyIn.cons rfl (fun K hK => ?_) AllReadyIn.nil; refine stepIn_append_at rfl (.tmp 11) (.tmp 14) 45 rfl 0 22 i0 (.slice none 0 0) 1 24 Try.underlying45 hi.out hz0.out hz1.out hz2.out rfl (by decide) (.slice ya pre.length yc) pre.length us rfl (R5.out.alloc _) ⟨u5.heap.size, 0, none⟩ 1 1 [.slice a5 n c5] rfl rfl (new_cells u5 _ _) (by intro u hu; simp at hu; subst hu; rfl) (by unfold maxLen; omega) (by omega) (by simp) (by decide) ?_; intro g' c' w6 ho hg hv; refine hK _ _ ?_; clear hK K; have HO := Lib.hid ho; have HG := Lib.hid hg; have HV := Lib.hid hv; have B6 := Lib.hid ((B5.out.alloc (.cells #[.slice a5 n c5] 22)).grown hg (fun e => NBT.out e.symm)); have b7 : w6.cell? ⟨bt, 0, none⟩ = some (.slice ya pre.length yc) := B6.out.cell 0; have f7 := B6.out.free 0; clear ho hg hv
        refine wpAnyIn_ready (rs := [5]) (by kernel_rfl) (by simp) ?_; refine AllReadyIn.cons rfl (fun K hK => ?_) AllReadyIn.nil; go_simp; refine hK _ _ ?_; clear hK K
        refine wpAnyIn_done (by kernel_rfl) ?_ _; obtain ⟨q1, q2⟩ := js_end (x := .slice a n c) HJ.out FLT.out OA.out L4.out S4.out G5.out V5.out B6.out R4.out HO.out HG.out HV.out; exact ⟨rfl, q1, q2⟩
      · refine stepIn_call rfl 33 #[.slice a n c] (by simp [Act.eval, Act.put, go_sem]) (copied_any a n c (st pre.length) _ NV.out hn) ?_; rintro r5 u5 ⟨a5, c5, rfl, hr5, g5⟩; refine ⟨_, rfl, hK _ _ ?_⟩; clear hK K; have V5 := Lib.hid hr5.out; have G5 := Lib.hid g5.out; have B5 := Lib.hid (B4.out.grown g5.out (by simp)); have R5 := Lib.hid (ownsRow_keep R4.out (fun k e => g5.out.block k (R4.out.lt k e).2 (by simp))); have b5 : u5.cell? ⟨bt, 0, none⟩ = some (.slice ya pre.length yc) := B5.out.cell 0; have b6 : (u5.alloc (.cells #[.slice a5 n c5] 22)).cell? ⟨bt, 0, none⟩ = some (.slice ya pre.length yc) := (B5.out.alloc _).cell 0; clear hr5 g5
        refine wpAnyIn_ready (rs := [0, 3]) (by kernel_rfl) (by simp) ?_
        refine AllReadyIn.cons rfl (fun K hK => ?_) (AllReadyIn.cons rfl (fun K hK => ?_) AllReadyIn.nil)
        · go_simp; refine hK _ _ ?_; clear hK K
          refine wpAnyIn_ready (rs := [3]) (by kernel_rfl) (by simp) ?_; refine AllReadyIn.cons rfl (fun K hK => ?_) AllReadyIn.nil; go_simp; refine hK _ _ ?_; clear hK K
          refine wpAnyIn_ready (rs := [4]) (by kernel_rfl) (by simp) ?_; refine AllReadyIn.cons rfl (fun K hK => ?_) AllReadyIn.nil; refine stepIn_append_at rfl (.tmp 11) (.tmp 14) 45 rfl 0 22 i0 (.slice none 0 0) 1 24 Try.underlying45 hi.out hz0.out hz1.out hz2.out rfl (by decide) (.slice ya pre.length yc) pre.length us rfl (R5.out.alloc _) ⟨u5.heap.size, 0, none⟩ 1 1 [.slice a5 n c5] rfl rfl (new_cells u5 _ _) (by intro u hu; simp at hu; subst hu; rfl) (by unfold maxLen; omega) (by omega) (by simp) (by decide) ?_; intro g' c' w6 ho hg hv; refine hK _ _ ?_; clear hK K; have HO := Lib.hid ho; have HG := Lib.hid hg; have HV := Lib.hid hv; have B6 := Lib.hid ((B5.out.alloc (.cells #[.slice a5 n c5] 22)).grown hg (fun e => NBT.out e.symm)); have b7 : w6.cell? ⟨bt, 0, none⟩ = some (.slice ya pre.length yc) := B6.out.cell 0; have f7 := B6.out.free 0; clear ho hg hv
          refine wpAnyIn_ready (rs := [5]) (by kernel_rfl) (by simp) ?_; refine AllReadyIn.cons rfl (fun K hK => ?_) AllReadyIn.nil; go_simp; refine hK _ _ ?_; clear hK K
          refine wpAnyIn_done (by kernel_rfl) ?_ _; obtain ⟨q1, q2⟩ := js_end (x := .slice a n c) HJ.out FLT.out OA.out L4.out S4.out G5.out V5.out B6.out R4.out HO.out HG.out HV.out; exact ⟨rfl, q1, q2⟩
        · go_simp; refine hK _ _ ?_; clear hK K
          refine wpAnyIn_ready (rs := [0]) (by kernel_rfl) (by simp) ?_; refine AllReadyIn.cons rfl (fun K hK => ?_) AllReadyIn.nil; go_simp; refine hK _ _ ?_; clear hK K
          refine wpAnyIn_ready (rs := [4]) (by kernel_rfl) (by simp) ?_; refine AllReadyIn.cons rfl (fun K hK => ?_) AllReadyIn.nil; refine stepIn_append_at rfl (.tmp 11) (.tmp 14) 45 rfl 0 22 i0 (.slice none 0 0) 1 24 Try.underlying45 hi.out hz0.out hz1.out hz2.out rfl (by decide) (.slice ya pre.length yc) pre.length us rfl (R5.out.alloc _) ⟨u5.heap.size, 0, none⟩ 1 1 [.slice a5 n c5] rfl rfl (new_cells u5 _ _) (by intro u hu; simp at hu; subst hu; rfl) (by unfold maxLen; omega) (by omega) (by simp) (by decide) ?_; intro g' c' w6 ho hg hv; refine hK _ _ ?_; clear hK K; have HO := Lib.hid ho; have HG := Lib.hid hg; have HV := Lib.hid hv; have B6 := Lib.hid ((B5.out.alloc (.cells #[.slice a5 n c5] 22)).grown hg (fun e => NBT.out e.symm)); have b7 : w6.cell? ⟨bt, 0, none⟩ = some (.slice ya pre.length yc) := B6.out.cell 0; have f7 := B6.out.free 0; clear ho hg hv
          refine wpAnyIn_ready (rs := [5]) (by kernel_rfl) (by simp) ?_; refine AllReadyIn.cons rfl (fun K hK => ?_) AllReadyIn.nil; go_simp; refine hK _ _ ?_; clear hK K
          refine wpAnyIn_done (by kernel_rfl) ?_ _; obtain ⟨q1, q2⟩ := js_end (x := .slice a n c) HJ.out FLT.out OA.out L4.out S4.out G5.out V5.out B6.out R4.out HO.out HG.out HV.out; exact ⟨rfl, q1, q2⟩
  have HT2 := Lib.hid HT
  clear HT
  have hst := HST.out
  subst hst
  refine (states_in 4 (by omega) (u2.heap.size + 1) a1 n c1 z a2 len cap e (bt + 1) (bt + 1 + 1) _ (js_firm (u2.heap.size + 1) u2.heap.size rec bt n _) HT2.out w ((u2.alloc (.deferred (some []))).alloc (.loop rec)) HZ.out HL.out hn hlen ((BF2.out.alloc _).alloc _) ((BL.out.alloc _).alloc _) (fun k => k = bt ∨ (u2.heap.size ≤ k ∧ k < u2.heap.size + 2))
    ⟨none, 0, [], ⟨rfl, (BT2.out.alloc _).alloc _, World.ownsRow_nil _ _ _ _, by simp, ⟨?_, ?_⟩, .inl rfl, .inr ⟨by omega, by omega⟩, .inr ⟨by omega, by omega⟩, (by intro k e; cases e), (by simp)⟩⟩ ?_ ?_ ?_).mono ?_
  · have := World.alloc_heap_new (u2.alloc (.deferred (some []))) (.loop rec)
    rwa [World.size_alloc] at this
  · exact (Below.heap_alloc _ _ _ (by simp)).trans (World.alloc_heap_new u2 _)
  · have hsz := S2.out
    rintro (h | h) <;> omega
  · have hsz := S2.out
    have hbt := HBT.out
    rintro k (rfl | h)
    · exact ⟨by omega, by simp; omega⟩
    · exact ⟨by omega, by simp; omega⟩
  · exact bl_none (Below.refl _ _) (gb_alloc (gb_alloc G2.out _) _)
  rintro r W' ⟨rfl, xs, Fc, a, c, ⟨ya, yc, us, J⟩, hxl, hall, hrow, hfr, hFc, hBel⟩
  refine ⟨⟨_, rfl⟩, J.loop, fun o' => ?_⟩
  obtain ⟨W5, hW5⟩ : ∃ W5, W5 = W'.putObj (u2.heap.size + 1) o' := ⟨_, rfl⟩
  rw [← hW5]
  have ncl : ∀ (k : Nat) (ty : TypeId) (cs : Array Value), W'.heap[k]? = some (.cells cs ty (0, 0)) → W5.heap[k]? = W'.heap[k]? := fun k ty cs hk => by
    rw [hW5]
    refine World.putObj_heap_other (fun e => ?_)
    have := J.loop.1
    rw [← e, hk] at this
    cases this
  have hul := J.len
  have BT5 := Lib.hid (J.box.keep (ncl _ _ _ J.box))
  have RO5 : Hid (W5.ownsRow w.heap.size 22 1 (.slice ya us.length yc) us.length us) := Lib.hid (by
    rw [hul]
    have h := ownsRow_keep (w' := W5) J.row (fun k e => by obtain ⟨cs, hc⟩ := ownsRow_type J.row e; exact ncl _ _ _ hc)
    refine ⟨h.1, h.2.imp id ?_⟩
    rintro ⟨q, cap', cur, e1, _, rest⟩
    exact ⟨q, cap', cur, e1, (hFc q (J.frow q (by rw [e1]; rfl))).1, rest⟩)
  have EA5 : Hid (∀ i u, us[i]? = some u → RowAt W5 w.heap.size n (stAt z (cacs e len) i) u) := Lib.hid (fun i u hu => by
    obtain ⟨a3, c3, e1, h3⟩ := J.each i u hu
    have h := ownsRow_keep (w' := W5) h3 (fun k e => by obtain ⟨cs, hc⟩ := ownsRow_type h3 e; exact ncl _ _ _ hc)
    refine ⟨a3, c3, e1, h.1, h.2.imp id ?_⟩
    rintro ⟨q, cap', cur, e2, _, rest⟩
    exact ⟨q, cap', cur, e2, (hFc q (J.feach u (List.mem_of_getElem? hu) q (by rw [e2]; rfl))).1, rest⟩)
  have BE5 : Hid (Below w.heap.size w W5) := Lib.hid (by rw [hW5]; exact (only_put W' _ o').below hBel hBel.size (fun k hk => by have := S2.out; have := HBT.out; omega))
  have D5 : Hid (W5.heap[u2.heap.size]? = some (.deferred (some []))) := Lib.hid (by rw [hW5, World.putObj_heap_other (by omega)]; exact J.loop.2)
  have ULEN := Lib.hid (show us.length = (cacs e len).length + 1 by rw [hul, hxl])
  have hxu : xs.length = us.length := hul.symm
  rw [hxu] at BT5
  have t0 : W5.cell? ⟨bt, 0, none⟩ = some (.slice ya us.length yc) := BT5.out.cell 0
  clear J hW5 ncl HT2 HREC hxl hall hrow hfr hFc hBel hul hxu
  have ldef : ∀ (k : Nat) (ty : TypeId) (cs : Array Value), W5.heap[k]? = some (.cells cs ty (0, 0)) → (W5.putObj u2.heap.size (.deferred none)).heap[k]? = W5.heap[k]? := fun k ty cs hk => World.putObj_heap_other (fun e => by
    have := D5.out
    rw [← e, hk] at this
    cases this)
  have LDEF := Lib.hid ldef
  clear ldef
  gi_wp2
  refine ⟨by simp, .inl ⟨_, _, rfl, run_takeDeferred D5.out, ?_⟩⟩
  refine ⟨_, results_tmp rfl _ _ _, ya, yc, us, rfl, ULEN.out, gb_of_below ((only_put _ _ _).below BE5.out BE5.out.size (fun k hk => by have := S2.out; have := HBT.out; rw [hk]; omega)), ?_, fun i u hu => ?_⟩
  · exact ownsRow_keep RO5.out (fun k e => by obtain ⟨cs, hc⟩ := ownsRow_type RO5.out e; exact LDEF.out _ _ _ hc)
  · obtain ⟨a3, c3, e1, h3⟩ := EA5.out i u hu
    exact ⟨a3, c3, e1, ownsRow_keep h3 (fun k e => by obtain ⟨cs, hc⟩ := ownsRow_type h3 e; exact LDEF.out _ _ _ hc)⟩
end Go.Proofs.Ytkidkhjpijjphaa.md

/- Package model's Last: the last state of a trace. -/
namespace Go.Proofs.Ytkidkhjpijjphaa.md
open Go Go.RowKit Go.Proofs.Ytkidkhjpijjphaa.base Go.Proofs.Ytkidkhjpijjphaa.hs Go.Proofs.Ytkidkhjpijjphaa.lg Go.Maps
set_option linter.unusedVariables false
set_option maxRecDepth 100000
attribute [local go_sem] Oper.semAt_some

/-- What Last holds while the states come. -/
structure JL (l D : Nat) (rec : Loop) (bt : Nat) (pre : List Value) (W : World) (Fc : Nat → Prop) : Prop where
  box : Blk 22 W bt #[pre.getLast?.getD (.slice none 0 0)]
  loop : LoopAt l D rec W
  fbt : Fc bt
  fl : Fc l
  fD : Fc D

theorem jl_firm (l D : Nat) (rec : Loop) (bt : Nat) : FirmV (JL l D rec bt) := by
  intro pre W W' Fc h hk
  exact ⟨h.box.keep (hk _ h.fbt), h.loop.keep (hk _ h.fl) (hk _ h.fD), h.fbt, h.fl, h.fD⟩

theorem last_v {xs : List Value} {v d : Value} {n : Nat} (hl : xs.length = n + 1) (h : ∀ x ∈ xs, x = v) : xs.getLast?.getD d = v := by
  cases hx : xs.getLast? with
  | none =>
    rw [List.getLast?_eq_none_iff] at hx
    rw [hx] at hl
    cases hl
  | some x => exact h x (List.mem_of_getLast? hx)

theorem jl_end {l D : Nat} {rec : Loop} {bt : Nat} {pre : List Value} {v : Value} {W W4 : World} {Fc : Nat → Prop} {lo : Loop} (HJ : JL l D rec bt pre W Fc) (OA : Only (fun k => k = l) W W4) (L4 : W4.heap[l]? = some (.loop lo)) (B4 : Blk 22 W4 bt #[pre.getLast?.getD (.slice none 0 0)]) :
    (W4.setCell ⟨bt, 0, none⟩ v).heap[l]? = some (.loop lo) ∧ ∃ Fc', JL l D rec bt (pre ++ [v]) ((W4.setCell ⟨bt, 0, none⟩ v).putObj l (.loop rec)) Fc' ∧ (∀ k, Fc' k → Fc k ∨ (W.heap.size ≤ k ∧ k < W4.heap.size)) ∧ Only Fc W ((W4.setCell ⟨bt, 0, none⟩ v).putObj l (.loop rec)) := by
  have nlb : bt ≠ l := fun e => by
    have h1 := HJ.box
    unfold Blk at h1
    rw [e, HJ.loop.1] at h1
    cases h1
  have hDW : D < W.heap.size := (Array.getElem?_eq_some_iff.1 HJ.loop.2).1
  have nDl : D ≠ l := fun e => by
    have h1 := HJ.loop.1
    rw [← e, HJ.loop.2] at h1
    cases h1
  have nDb : D ≠ bt := fun e => by
    have h1 := HJ.box
    unfold Blk at h1
    rw [← e, HJ.loop.2] at h1
    cases h1
  have hl4 : l < W4.heap.size := (Array.getElem?_eq_some_iff.1 L4).1
  have L5 : (W4.setCell ⟨bt, 0, none⟩ v).heap[l]? = some (.loop lo) := (Below.heap_setCell _ _ _ _ (fun e => nlb e.symm)).trans L4
  refine ⟨L5, Fc, ⟨?_, ⟨World.putObj_heap_same (by simp [World.setCell]; omega), ?_⟩, HJ.fbt, HJ.fl, HJ.fD⟩, fun k hk => .inl hk, ?_⟩
  · have h := (B4.set 0 v).keep (w' := (W4.setCell ⟨bt, 0, none⟩ v).putObj l (.loop rec)) (World.putObj_heap_other nlb)
    rw [show (pre ++ [v]).getLast?.getD (.slice none 0 0) = v by simp]
    exact h
  · exact (World.putObj_heap_other nDl).trans ((Below.heap_setCell _ _ _ _ nDb).trans ((OA.block D hDW nDl).trans HJ.loop.2))
  · refine (((OA.mono (fun k _ h => ?_)).trans (Only.of (gb_setB (gb_refl W4 (some bt)) v) (fun k e _ => ?_))).trans ((only_put _ _ _).mono (fun k _ h => ?_)))
    · rw [h]; exact HJ.fl
    · cases e; exact HJ.fbt
    · rw [h]; exact HJ.fl

set_option maxHeartbeats 4000000 in
theorem last_any (a1 : Option Addr) (n c1 : Nat) (z : Nat → Int) (a2 : Option Addr) (len cap : Nat) (e : Evs) (w : World) (hZ : IsNums .i64 w a1 n z) (hL : IsEvs w a2 len e) (hn : n ≤ 1000000) (hlen : len ≤ 10000) :
    Calls Try.prog 19 #[.slice a1 n c1, .slice a2 len cap] w fun r w' => ∃ a c, r = .returned (.slice a n c) ∧ Hid (IsNums .i64 w' a n (stAt z (cacs e len) (cacs e len).length)) ∧ Hid (w.grownBy w' none) := by
  have HZ := Lib.hid hZ
  have HL := Lib.hid hL
  clear hZ hL
  refine (callsIn_wide (n := 5)).1 ?_
  refine callsIn_of_wp_marks Try.func19 rfl trivial ?_ rfl
  simp only [Try.ntmps19, List.size_toArray, List.length_cons, List.length_nil, Nat.reduceAdd, Nat.reduceSub, Array.replicate_succ, Array.replicate_zero, List.push_toArray, List.append_toArray, List.nil_append, List.cons_append]
  have BT := Lib.hid (Blk.made w 22 #[.slice none 0 0])
  have GA := Lib.hid (World.grownBy_alloc w (.cells #[.slice none 0 0] 22) none)
  gi_wp2_with (first | (refine ⟨trivial, ?_⟩; gi_at_call 35; refine (callsIn_wide.2 (states_fn a1 n c1 a2 len cap _)).mono ?_; rintro r u1 ⟨rfl, rfl⟩) | gi_in)
  have BF := Lib.hid (Blk.made (w.alloc (.cells #[.slice none 0 0] 22)) 22 #[.slice a1 n c1])
  have BL := Lib.hid (Blk.made ((w.alloc (.cells #[.slice none 0 0] 22)).alloc (.cells #[.slice a1 n c1] 22)) 23 #[.slice a2 len cap])
  have BF2 := Lib.hid (BF.out.alloc (.cells #[.slice a2 len cap] 23))
  have BT2 := Lib.hid ((BT.out.alloc (.cells #[.slice a1 n c1] 22)).alloc (.cells #[.slice a2 len cap] 23))
  have G2 := Lib.hid (gb_alloc (gb_alloc GA.out (.cells #[.slice a1 n c1] 22)) (.cells #[.slice a2 len cap] 23))
  have S2 := Lib.hid (show (((w.alloc (.cells #[.slice none 0 0] 22)).alloc (.cells #[.slice a1 n c1] 22)).alloc (.cells #[.slice a2 len cap] 23)).heap.size = w.heap.size + 3 by simp)
  clear BT GA BF
  generalize ((w.alloc (.cells #[.slice none 0 0] 22)).alloc (.cells #[.slice a1 n c1] 22)).alloc (.cells #[.slice a2 len cap] 23) = u2 at *
  simp only [size_alloc] at BF2 BL
  generalize hbt : w.heap.size = bt at *
  have HBT := Lib.hid hbt
  clear hbt
  generalize hst : stAt z (cacs e len) = st at *
  have HST := Lib.hid hst
  clear hst
  refine wpIn_range_take rfl (by omega) (gf := 53) (bnd := #[]) (lb := #[.pointer (some ⟨bt + 1, 0, none⟩), .pointer (some ⟨bt + 1 + 1, 0, none⟩)]) rfl trivial (enters_of Try.func53 (by kernel_rfl) rfl) ?_
  intro fn hfn rec hrec
  have HREC := Lib.hid hrec
  clear hrec
  have HT : TakesV 3 (u2.heap.size + 1) n st (JL (u2.heap.size + 1) u2.heap.size rec bt) := by
    intro pre a c W Fc hJ hall hrow hdis hFl hpre
    have HJ := Lib.hid hJ
    refine yield_take HREC.out hJ.loop.1 rfl hfn ?_
    have LT1 := Lib.hid (hFl _ hJ.fl)
    clear hJ hrow hdis hFl hall
    gi_wp2
    refine ⟨HJ.out.loop.1, ?_⟩
    obtain ⟨W4, hW4⟩ : ∃ W4, W4 = W.putObj (u2.heap.size + 1) (.loop { rec with state := .busy }) := ⟨_, rfl⟩
    rw [← hW4]
    have L4 : Hid (W4.heap[u2.heap.size + 1]? = some (.loop { rec with state := .busy })) := Lib.hid (by rw [hW4]; exact World.putObj_heap_same LT1.out)
    have OA : Hid (Only (fun k => k = u2.heap.size + 1) W W4) := Lib.hid (by rw [hW4]; exact only_put W _ _)
    have B4 : Hid (Blk 22 W4 bt #[pre.getLast?.getD (.slice none 0 0)]) := Lib.hid (HJ.out.box.keep (by
      rw [hW4]
      refine World.putObj_heap_other (fun e => ?_)
      have h1 := HJ.out.box
      unfold Blk at h1
      rw [e, HJ.out.loop.1] at h1
      cases h1))
    clear hW4
    obtain ⟨q1, q2⟩ := jl_end (v := .slice a n c) HJ.out OA.out L4.out B4.out
    have Q1 := Lib.hid q1
    have Q2 := Lib.hid q2
    have f4 := B4.out.free 0
    have b4 := B4.out.cell 0
    generalize pre.getLast?.getD (.slice none 0 0) = lv at *
    have b4' : W4.cell? ⟨bt, 0, none⟩ = some lv := b4
    clear q1 q2 b4
    gi_wp2
    exact ⟨Q1.out, Q2.out⟩
  have HT2 := Lib.hid HT
  clear HT
  have hst := HST.out
  subst hst
  refine (states_in 4 (by omega) (u2.heap.size + 1) a1 n c1 z a2 len cap e (bt + 1) (bt + 1 + 1) _ (jl_firm (u2.heap.size + 1) u2.heap.size rec bt) HT2.out w ((u2.alloc (.deferred (some []))).alloc (.loop rec)) HZ.out HL.out hn hlen ((BF2.out.alloc _).alloc _) ((BL.out.alloc _).alloc _) (fun k => k = bt ∨ (u2.heap.size ≤ k ∧ k < u2.heap.size + 2))
    ⟨(BT2.out.alloc _).alloc _, ⟨?_, ?_⟩, .inl rfl, .inr ⟨by omega, by omega⟩, .inr ⟨by omega, by omega⟩⟩ ?_ ?_ ?_).mono ?_
  · have := World.alloc_heap_new (u2.alloc (.deferred (some []))) (.loop rec)
    rwa [World.size_alloc] at this
  · exact (Below.heap_alloc _ _ _ (by simp)).trans (World.alloc_heap_new u2 _)
  · have hsz := S2.out
    rintro (h | h) <;> omega
  · have hsz := S2.out
    have hbt := HBT.out
    rintro k (rfl | h)
    · exact ⟨by omega, by simp; omega⟩
    · exact ⟨by omega, by simp; omega⟩
  · exact bl_none (Below.refl _ _) (gb_alloc (gb_alloc G2.out _) _)
  rintro r W' ⟨rfl, xs, Fc, a, c, J, hxl, hall, hrow, hfr, hFc, hBel⟩
  refine ⟨⟨_, rfl⟩, J.loop, fun o' => ?_⟩
  obtain ⟨W5, hW5⟩ : ∃ W5, W5 = W'.putObj (u2.heap.size + 1) o' := ⟨_, rfl⟩
  rw [← hW5]
  have ncl : ∀ (k : Nat) (ty : TypeId) (cs : Array Value), W'.heap[k]? = some (.cells cs ty (0, 0)) → W5.heap[k]? = W'.heap[k]? := fun k ty cs hk => by
    rw [hW5]
    refine World.putObj_heap_other (fun e => ?_)
    have := J.loop.1
    rw [← e, hk] at this
    cases this
  have hlast : xs.getLast?.getD (.slice none 0 0) = .slice a n c := last_v hxl hall
  have BT5 : Hid (Blk 22 W5 bt #[.slice a n c]) := Lib.hid (by have h := J.box.keep (ncl _ _ _ J.box); rw [hlast] at h; exact h)
  have RO5 := Lib.hid (ownsRow_keep (w' := W5) hrow (fun k e => by obtain ⟨cs, hc⟩ := ownsRow_type hrow e; exact ncl _ _ _ hc))
  have BE5 : Hid (Below w.heap.size w W5) := Lib.hid (by rw [hW5]; exact (only_put W' _ o').below hBel hBel.size (fun k hk => by have := S2.out; have := HBT.out; omega))
  have D5 : Hid (W5.heap[u2.heap.size]? = some (.deferred (some []))) := Lib.hid (by rw [hW5, World.putObj_heap_other (by omega)]; exact J.loop.2)
  have t0 : W5.cell? ⟨bt, 0, none⟩ = some (.slice a n c) := BT5.out.cell 0
  clear J hW5 ncl HT2 HREC hxl hall hrow hfr hFc hBel hlast
  gi_wp2
  refine ⟨by simp, .inl ⟨_, _, rfl, run_takeDeferred D5.out, ?_⟩⟩
  refine ⟨_, results_tmp rfl _ _ _, a, ⟨c, rfl⟩, IsNums.of_own (ownsRow_keep RO5.out (fun k e => World.putObj_heap_other (fun e2 => ?_))), gb_of_below ((only_put _ _ _).below BE5.out BE5.out.size (fun k hk => by have := S2.out; have := HBT.out; rw [hk]; omega))⟩
  obtain ⟨cs, hc⟩ := ownsRow_type RO5.out e
  have := D5.out
  rw [← e2, hc] at this
  cases this
end Go.Proofs.Ytkidkhjpijjphaa.md

/- The document's own comparison of values: quarrelref01.Vals. -/
namespace Go.Proofs.Ytkidkhjpijjphaa.md
open Go Go.RowKit Go.Proofs.Ytkidkhjpijjphaa.base Go.Proofs.Ytkidkhjpijjphaa.lg
set_option linter.unusedVariables false

/-- The same first n numbers? -/
def eqTo (f g : Nat → Int) : Nat → Bool
  | 0 => true
  | k + 1 => eqTo f g k && f k == g k
theorem eqTo_iff {f g : Nat → Int} : ∀ {n : Nat}, eqTo f g n = true ↔ ∀ i, i < n → f i = g i
  | 0 => by
    constructor
    · intro _ i hi; omega
    · intro _; rfl
  | n + 1 => by
    rw [eqTo, Bool.and_eq_true, eqTo_iff (n := n), beq_iff_eq]
    constructor
    · rintro ⟨h1, h2⟩ i hi
      by_cases e : i = n
      · subst e; exact h2
      · exact h1 i (by omega)
    · intro h
      exact ⟨fun i hi => h i (by omega), h n (by omega)⟩
theorem eqTo_self (f : Nat → Int) (n : Nat) : eqTo f f n = true := eqTo_iff.2 fun _ _ => rfl
theorem eqTo_bad {f g : Nat → Int} {n k : Nat} (hk : k < n) (h : f k ≠ g k) : eqTo f g n = false := by
  cases e : eqTo f g n with
  | false => rfl
  | true => exact absurd (eqTo_iff.1 e k hk) h

set_option maxHeartbeats 1000000 in
theorem vals_any (a b : Option Addr) (n m ca cb : Nat) (f g : Nat → Int) (w : World) (ha : IsNums .i64 w a n f) (hb : IsNums .i64 w b m g) (hm : n ≤ 100000) :
    Calls Try.prog 18 #[.slice a n ca, .slice b m cb] w fun e w' => e = .returned (.bool (decide (n = m) && eqTo f g n)) ∧ Hid (w.grownBy w' none) := by
  have HA := Lib.hid ha
  have HB := Lib.hid hb
  clear ha hb
  by_cases hnm : n = m
  · subst hnm
    rw [show (decide (n = n) && eqTo f g n) = eqTo f g n by simp]
    go_enter Try.func18, Try.ntmps18
    go_wp2_with fail
    go_loopw [5] (fun i wr => ∃ k : Nat, k ≤ n ∧ i = .int .i64 k ∧ Hid (eqTo f g k = true) ∧ Hid (w.grownBy wr none)) (fun i _ => (n - intOf i).toNat)
    case atStart => exact ⟨0, by omega, rfl, rfl, gb_refl _ _⟩
    case round =>
      obtain ⟨k, hk, rfl, HE, G⟩ := hrel
      by_cases hlt : k < n
      · obtain ⟨b1, o1, rfl, hb1, d1⟩ := (HA.out.grown G.out).at1 hlt
        obtain ⟨b2, o2, rfl, hb2, d2⟩ := (HB.out.grown G.out).at1 hlt
        have hlt' : (k : Int) < (n : Int) := by omega
        by_cases hfg : f k = g k
        · have HE1 := Lib.hid (show eqTo f g (k + 1) = true by rw [eqTo, HE.out, hfg]; simp)
          rw [← hfg] at d2
          clear hfg
          generalize f k = x at *
          go_wp2_with fail
          go_quiet (fail)
          go_wp2
          go_roundw
          case rel => exact ⟨k + 1, by omega, by go_num, HE1, by first | exact gb_drewN G.out _ | exact gb_drew (gb_drewN G.out _)⟩
          case measure => simp [intOf]; omega
        · have HE1 := Lib.hid (eqTo_bad hlt hfg)
          have hne : (f k != g k) = true := by simp [hfg]
          clear hfg
          generalize f k = x at *
          generalize g k = y at *
          go_wp2_with fail
          go_quiet (fail)
          go_wp2
          go_ret
          exact ⟨by rw [HE1.out]; rfl, by first | exact gb_drewN G.out _ | exact gb_drew (gb_drewN G.out _)⟩
      · obtain rfl : k = n := by omega
        go_wp2
        go_ret
        exact ⟨by rw [HE.out]; rfl, G⟩
  · have hne : ((n : Int) != (m : Int)) = true := by simp; omega
    rw [show (decide (n = m) && eqTo f g n) = false by simp [hnm]]
    clear hnm
    go_enter Try.func18, Try.ntmps18
    go_wp2
    go_ret
    exact ⟨rfl, gb_refl _ _⟩

theorem vals_yes (a b : Option Addr) (n ca cb : Nat) (f : Nat → Int) (w : World) (ha : IsNums .i64 w a n f) (hb : IsNums .i64 w b n f) (hm : n ≤ 100000) :
    Calls Try.prog 18 #[.slice a n ca, .slice b n cb] w fun e w' => e = .returned (.bool true) ∧ Hid (w.grownBy w' none) := by
  have h := vals_any a b n n ca cb f f w ha hb hm
  rwa [show (decide (n = n) && eqTo f f n) = true by simp [eqTo_self]] at h
end Go.Proofs.Ytkidkhjpijjphaa.md

/- The tries of a trace's beginning, and those of the trace. Of no program, and of no memory. -/
namespace Go.Proofs.Ytkidkhjpijjphaa.base
open Go

theorem stepT_ac (t : Tr) (i : Nat) (e : Ev) : t.ac.length ≤ (stepT t i e).ac.length := by
  unfold stepT
  repeat' split
  all_goals simp [relAll]
theorem trAt_ac (e : Evs) (b : Nat) : ∀ i j, (trAt e b i).ac.length ≤ (trAt e b (i + j)).ac.length
  | _, 0 => Nat.le_refl _
  | i, j + 1 => by
    have ih := trAt_ac e b i j
    rw [← Nat.add_assoc, trAt]
    split
    · exact Nat.le_trans ih (stepT_ac _ _ _)
    · exact ih

/-- What begins ahead of a place, begins ahead of a later one, first. -/
theorem begins_pre (e : Evs) (m j : Nat) : ∃ r, begins e (m + j) = begins e m ++ r := by
  unfold begins
  rw [List.range_add, List.filter_append]
  exact ⟨_, rfl⟩

theorem tries_len (e : Evs) {m n : Nat} (h : m ≤ n) : (tries e m).length ≤ (tries e n).length := by
  obtain ⟨r, hr⟩ := begins_pre e m (n - m)
  rw [show m + (n - m) = n by omega] at hr
  unfold tries
  rw [List.length_map, List.length_map, hr, List.length_append]
  omega
theorem begins_n (e : Evs) (n : Nat) : (begins e n).length ≤ n := by
  unfold begins
  have := List.length_filter_le (fun i => decide ((e i).k = 1)) (List.range n)
  rwa [List.length_range] at this
theorem tries_n (e : Evs) (n : Nat) : (tries e n).length ≤ n := by
  unfold tries
  rw [List.length_map]
  exact begins_n e n

/-- A beginning's tries are the trace's own first ones: what had ended stands as it was, and none did less. -/
theorem tries_pre (e : Evs) {m n : Nat} (h : m ≤ n) {i : Nat} {x y : Tr} (hx : (tries e m)[i]? = some x) (hy : (tries e n)[i]? = some y) : x.b = y.b ∧ (0 ≤ x.en → x.en = y.en) ∧ x.ac.length ≤ y.ac.length := by
  obtain ⟨r, hr⟩ := begins_pre e m (n - m)
  rw [show m + (n - m) = n by omega] at hr
  unfold tries at hx hy
  rw [List.getElem?_map, Option.map_eq_some_iff] at hx hy
  obtain ⟨b, hb, rfl⟩ := hx
  obtain ⟨c, hc, rfl⟩ := hy
  have hl : i < (begins e m).length := (List.getElem?_eq_some_iff.1 hb).1
  rw [hr, List.getElem?_append_left hl, hb] at hc
  cases hc
  refine ⟨by rw [(trAt_fix e b m).2.2.2.2, (trAt_fix e b n).2.2.2.2], fun h0 => by rw [trAt_end e b h0 h], ?_⟩
  have := trAt_ac e b m (n - m)
  rwa [show m + (n - m) = n by omega] at this

/-- What was sorted by the beginnings: the tries, one by one. -/
theorem sorted_tries (e : Evs) {n : Nat} {β : Type} {ys : List (Tr × β)} (h2 : (ys.map Prod.fst).Perm (tries e n)) (h3 : (ys.map Prod.fst).Pairwise (fun x y => x.b ≤ y.b)) : ys.map Prod.fst = tries e n :=
  sorted_one Tr.b h2 (tries_sorted e n) (h3.imp fun h => by omega)
end Go.Proofs.Ytkidkhjpijjphaa.base

/- Where a try's accesses stand in the trace, and how many there are. Of no program, and of no memory. -/
namespace Go.Proofs.Ytkidkhjpijjphaa.base
open Go

/-- An access of the try that began at b is an event ahead of place i. -/
def AccOk (e : Evs) (b i : Nat) (t : Tr) (a : Acc) : Prop := ∃ p : Nat, a.pl = (p : Int) ∧ b < p ∧ p < i ∧ (e p).k = a.k ∧ (e p).ob = a.ob ∧ (e p).va = a.va ∧ (e p).th = (e b).th ∧ (0 ≤ t.en → a.pl < t.en)
def AcsOk (e : Evs) (b i : Nat) (t : Tr) : Prop := (∀ a ∈ t.ac, AccOk e b i t a) ∧ t.ac.Pairwise (fun x y => x.pl < y.pl) ∧ (t.en = -1 ∨ ∃ q : Nat, t.en = (q : Int) ∧ q < i)

theorem AcsOk.step {e : Evs} {b i : Nat} {t : Tr} (h : AcsOk e b i t) (hb : b < i) (hth : (e i).th = (e b).th) (hen : t.en < 0) : AcsOk e b (i + 1) (stepT t i (e i)) := by
  obtain ⟨h1, h2, h3⟩ := h
  have hen1 : t.en = -1 := by
    rcases h3 with h3 | ⟨q, h3, _⟩
    · exact h3
    · omega
  have old : ∀ (t' : Tr) (a : Acc), a ∈ t.ac → t'.en = t.en → AccOk e b (i + 1) t' a := by
    intro t' a ha ht
    obtain ⟨p, p1, p2, p3, p4, p5, p6, p7, p8⟩ := h1 a ha
    exact ⟨p, p1, p2, by omega, p4, p5, p6, p7, fun h0 => by omega⟩
  have new : ∀ (a : Acc) (t' : Tr), t'.ac = t.ac ++ [a] → t'.en = t.en → a.pl = i → a.k = (e i).k → a.ob = (e i).ob → a.va = (e i).va → AcsOk e b (i + 1) t' := by
    intro a t' ht he a1 a2 a3 a4
    unfold AcsOk
    rw [ht, he]
    refine ⟨fun x hx => ?_, ?_, .inl hen1⟩
    · rcases List.mem_append.1 hx with hx | hx
      · exact old t' x hx he
      · have hx : x = a := by simpa using hx
        subst hx
        exact ⟨i, a1, hb, by omega, a2.symm, a3.symm, a4.symm, hth, fun h0 => by omega⟩
    · refine List.pairwise_append.2 ⟨h2, by simp, fun x hx y hy => ?_⟩
      have hy : y = a := by simpa using hy
      subst hy
      obtain ⟨p, p1, _, p3, _⟩ := h1 x hx
      omega
  have ends : ∀ (t' : Tr), t'.ac = t.ac → t'.en = i → AcsOk e b (i + 1) t' := by
    intro t' ht he
    unfold AcsOk
    rw [ht, he]
    refine ⟨fun a ha => ?_, h2, .inr ⟨i, rfl, by omega⟩⟩
    obtain ⟨p, p1, p2, p3, p4, p5, p6, p7, _⟩ := h1 a ha
    exact ⟨p, p1, p2, by omega, p4, p5, p6, p7, fun _ => by omega⟩
  unfold stepT
  by_cases k2 : (e i).k = 2
  · rw [if_pos k2]
    exact new _ _ rfl rfl rfl k2.symm rfl rfl
  rw [if_neg k2]
  by_cases k3 : (e i).k = 3
  · rw [if_pos k3]
    exact new _ _ rfl rfl rfl k3.symm rfl rfl
  rw [if_neg k3]
  by_cases k4 : (e i).k = 4
  · rw [if_pos k4]
    refine ⟨fun a ha => ?_, ?_, .inl hen1⟩
    · obtain ⟨a', ha', rfl⟩ := List.mem_map.1 (show a ∈ t.ac.map (Acc.free (e i).ob) from ha)
      have := old t a' ha' rfl
      unfold Acc.free
      split
      · obtain ⟨p, p1, p2, p3, p4, p5, p6, p7, p8⟩ := this
        exact ⟨p, p1, p2, p3, p4, p5, p6, p7, p8⟩
      · exact this
    · show (t.ac.map (Acc.free (e i).ob)).Pairwise _
      rw [List.pairwise_map]
      refine h2.imp fun {x y} h => ?_
      have hf : ∀ z : Acc, (Acc.free (e i).ob z).pl = z.pl := fun z => by unfold Acc.free; split <;> rfl
      rw [hf, hf]
      exact h
  rw [if_neg k4]
  by_cases k5 : (e i).k = 5
  · rw [if_pos k5]
    exact ends _ rfl rfl
  rw [if_neg k5]
  by_cases k6 : (e i).k = 6
  · rw [if_pos k6]
    exact ends _ rfl rfl
  rw [if_neg k6]
  exact ⟨fun a ha => old t a ha rfl, h2, .inl hen1⟩

theorem acs_ok (e : Evs) (b : Nat) : ∀ i, AcsOk e b i (trAt e b i)
  | 0 => ⟨fun a ha => absurd ha (by simp [trAt, init]), List.Pairwise.nil, .inl rfl⟩
  | i + 1 => by
    have ih := acs_ok e b i
    rw [trAt]
    split
    · next h => exact ih.step h.1 h.2.1 h.2.2
    · refine ⟨fun a ha => ?_, ih.2.1, ?_⟩
      · obtain ⟨p, p1, p2, p3, p4⟩ := ih.1 a ha
        exact ⟨p, p1, p2, by omega, p4⟩
      · rcases ih.2.2 with h | ⟨q, h1, h2⟩
        · exact .inl h
        · exact .inr ⟨q, h1, by omega⟩

/-- How many readings and writings stand ahead of a place. -/
def rws (e : Evs) : Nat → Nat
  | 0 => 0
  | i + 1 => rws e i + (if (e i).k = 2 ∨ (e i).k = 3 then 1 else 0)
theorem rws_le (e : Evs) : ∀ n, rws e n ≤ n
  | 0 => Nat.le_refl _
  | n + 1 => by have := rws_le e n; unfold rws; split <;> omega

theorem sum_same {l : List Nat} {f g : Nat → Nat} (h : ∀ b ∈ l, g b = f b) : (l.map g).sum = (l.map f).sum := by
  rw [List.map_congr_left h]
theorem sum_one {l : List Nat} {f g : Nat → Nat} {c : Nat} (nd : l.Nodup) (hc : c ∈ l) (h : ∀ b ∈ l, g b = f b + (if b = c then 1 else 0)) : (l.map g).sum = (l.map f).sum + 1 := by
  induction l with
  | nil => cases hc
  | cons x l ih =>
    rw [List.map_cons, List.map_cons, List.sum_cons, List.sum_cons, h x (by simp)]
    have nd2 := List.nodup_cons.1 nd
    by_cases hx : x = c
    · subst hx
      rw [if_pos rfl, sum_same (l := l) (f := f) (g := g) (fun b hb => by rw [h b (by simp [hb]), if_neg (fun e1 : b = x => nd2.1 (e1 ▸ hb))]; rfl)]
      omega
    · rw [if_neg hx, ih nd2.2 ((List.mem_cons.1 hc).resolve_left (fun e1 => hx e1.symm)) (fun b hb => h b (by simp [hb]))]
      omega

theorem ac_step (t : Tr) (i : Nat) (e : Ev) : (stepT t i e).ac.length = t.ac.length + (if e.k = 2 ∨ e.k = 3 then 1 else 0) := by
  by_cases k23 : e.k = 2 ∨ e.k = 3
  · rw [if_pos k23]
    unfold stepT
    rcases k23 with k | k <;> simp [k]
  · rw [if_neg k23]
    unfold stepT
    rw [if_neg (fun h => k23 (.inl h)), if_neg (fun h => k23 (.inr h))]
    split
    · simp [relAll]
    · split
      · rfl
      · split <;> rfl

/-- The accesses of all tries: as many as readings and writings. -/
theorem acs_sum (e : Evs) : ∀ n, right e n = true → ((begins e n).map fun b => (trAt e b n).ac.length).sum = rws e n
  | 0, _ => rfl
  | n + 1, hr => by
    rw [right, Bool.and_eq_true] at hr
    have ih := acs_sum e n hr.1
    have hmay := hr.2
    have hb : begins e (n + 1) = begins e n ++ (if (e n).k = 1 then [n] else []) := by
      unfold begins
      rw [List.range_succ, List.filter_append]
      by_cases h1 : (e n).k = 1 <;> simp [h1]
    have hnew : ((if (e n).k = 1 then [n] else ([] : List Nat)).map fun b => (trAt e b (n + 1)).ac.length).sum = 0 := by
      split
      · have := trAt_init e n (n + 1) (Nat.le_refl _)
        simp [this, init]
      · rfl
    rw [hb, List.map_append, List.sum_append_nat, hnew, Nat.add_zero, rws]
    by_cases h23 : (e n).k = 2 ∨ (e n).k = 3
    · rw [if_pos h23]
      obtain ⟨c, ho⟩ : ∃ c, opn e n (e n).th = some c := by
        cases ho : opn e n (e n).th with
        | some c => exact ⟨c, rfl⟩
        | none =>
          unfold may at hmay
          rw [ho] at hmay
          simp at hmay
          omega
      obtain ⟨c1, c2, c3, c4⟩ := opn_spec e _ _ _ ho
      rw [sum_one (f := fun b => (trAt e b n).ac.length) (begins_nodup e n) ((begins_mem e n c).2 ⟨c1, c2⟩), ih]
      intro b hbm
      obtain ⟨b1, b2⟩ := (begins_mem e n b).1 hbm
      show (trAt e b (n + 1)).ac.length = (trAt e b n).ac.length + _
      by_cases hbc : b = c
      · subst hbc
        rw [trAt_step e ho, ac_step, if_pos h23, if_pos rfl]
      · rw [if_neg hbc, trAt, if_neg]
        · rfl
        · rintro ⟨_, x2, x3⟩
          have := opn_of e hr.1 b1 b2 x3
          rw [← x2, ho] at this
          cases this
          exact hbc rfl
    · rw [if_neg h23, sum_same (f := fun b => (trAt e b n).ac.length), ih]
      · rfl
      · intro b _
        show (trAt e b (n + 1)).ac.length = (trAt e b n).ac.length
        rw [trAt]
        split
        · rw [ac_step, if_neg h23]
          rfl
        · rfl

theorem tries_sum (e : Evs) {n : Nat} (hr : right e n = true) : ((tries e n).map fun t => t.ac.length).sum = rws e n := by
  rw [← acs_sum e n hr]
  unfold tries
  rw [List.map_map]
  rfl

/-- How many accesses the first k have. -/
def sumTo (l : List Tr) : Nat → Nat
  | 0 => 0
  | k + 1 => sumTo l k + (match l[k]? with | some t => t.ac.length | none => 0)
theorem sumTo_take (l : List Tr) : ∀ k, sumTo l k = ((l.take k).map fun t => t.ac.length).sum
  | 0 => rfl
  | k + 1 => by
    rw [sumTo, sumTo_take l k, List.take_add_one, List.map_append, List.sum_append_nat]
    cases l[k]? <;> simp
theorem sumTo_all (l : List Tr) {k : Nat} (h : l.length ≤ k) : sumTo l k = (l.map fun t => t.ac.length).sum := by
  rw [sumTo_take, List.take_of_length_le h]
theorem sumTo_mono (l : List Tr) (k : Nat) : ∀ j, sumTo l k ≤ sumTo l (k + j)
  | 0 => Nat.le_refl _
  | j + 1 => by have := sumTo_mono l k j; rw [← Nat.add_assoc, sumTo]; omega

/-- What a try of a right trace is. -/
theorem try_is (e : Evs) {n i : Nat} {t : Tr} (hr : right e n = true) (h : (tries e n)[i]? = some t) : ∃ b : Nat, t.b = (b : Int) ∧ b < n ∧ (e b).k = 1 ∧ t.th = (e b).th ∧ AcsOk e b n t ∧ (∀ q : Nat, t.en = (q : Int) → q < n ∧ (t.co = true ↔ (e q).k = 5)) := by
  unfold tries at h
  rw [List.getElem?_map, Option.map_eq_some_iff] at h
  obtain ⟨b, hb, rfl⟩ := h
  obtain ⟨h1, h2⟩ := (begins_mem e n b).1 (List.mem_of_getElem? hb)
  have hf := trAt_fix e b n
  refine ⟨b, hf.2.2.2.2, h1, h2, hf.1, acs_ok e b n, fun q hq => ?_⟩
  obtain ⟨i, i1, i2, i3, i4, i5⟩ := en_at e h2 n hr h1 (by omega)
  have : i = q := by omega
  subst this
  exact ⟨i1, i5⟩
end Go.Proofs.Ytkidkhjpijjphaa.base

/- Where tries are seen: a walk along a trace on which a try that doesn't fit waits for a value, in plain numbers. Of no program, and of no memory. -/
namespace Go.Proofs.Ytkidkhjpijjphaa.base
open Go
set_option linter.unusedVariables false
set_option linter.unusedSimpArgs false

/-- The least number from lo to hi that f has; -1: there is none. -/
def IsP (f : Nat → Bool) (lo hi : Nat) (q : Int) : Prop :=
  (q = -1 ∧ ∀ k, lo ≤ k → k ≤ hi → f k = false) ∨ ∃ p : Nat, q = (p : Int) ∧ lo ≤ p ∧ p ≤ hi ∧ f p = true ∧ ∀ k, lo ≤ k → k < p → f k = false
theorem IsP.one {f : Nat → Bool} {lo hi : Nat} {q r : Int} (h : IsP f lo hi q) (g : IsP f lo hi r) : q = r := by
  rcases h with ⟨rfl, h⟩ | ⟨p, rfl, h1, h2, h3, h4⟩ <;> rcases g with ⟨rfl, g⟩ | ⟨p', rfl, g1, g2, g3, g4⟩
  · rfl
  · rw [h p' g1 g2] at g3; cases g3
  · rw [g p h1 h2] at h3; cases h3
  · rcases Nat.lt_trichotomy p p' with l | l | l
    · rw [g4 p h1 l] at h3; cases h3
    · rw [l]
    · rw [h4 p' g1 l] at g3; cases g3
theorem IsP.at {f : Nat → Bool} {lo : Nat} : IsP f lo lo (if f lo = true then (lo : Int) else -1) := by
  by_cases h : f lo = true
  · rw [if_pos h]
    exact .inr ⟨lo, rfl, Nat.le_refl _, Nat.le_refl _, h, fun k h1 h2 => by omega⟩
  · rw [if_neg h]
    refine .inl ⟨rfl, fun k h1 h2 => ?_⟩
    obtain rfl : k = lo := by omega
    simpa using h
theorem IsP.up {f : Nat → Bool} {lo hi : Nat} {q : Int} (h : IsP f lo hi q) (hq : q ≠ -1) : IsP f lo (hi + 1) q := by
  rcases h with ⟨rfl, h⟩ | ⟨p, rfl, h1, h2, h3, h4⟩
  · exact absurd rfl hq
  · exact .inr ⟨p, rfl, h1, by omega, h3, h4⟩
theorem IsP.up0 {f : Nat → Bool} {lo hi : Nat} (h : IsP f lo hi (-1)) (hf : f (hi + 1) = false) : IsP f lo (hi + 1) (-1) := by
  rcases h with ⟨_, h⟩ | ⟨p, h0, h1, h2, h3, h4⟩
  · refine .inl ⟨rfl, fun k k1 k2 => ?_⟩
    by_cases e : k = hi + 1
    · rw [e]; exact hf
    · exact h k k1 (by omega)
  · omega
theorem IsP.up1 {f : Nat → Bool} {lo hi : Nat} (h : IsP f lo hi (-1)) (hl : lo ≤ hi + 1) (hf : f (hi + 1) = true) : IsP f lo (hi + 1) ((hi + 1 : Nat) : Int) := by
  rcases h with ⟨_, h⟩ | ⟨p, h0, h1, h2, h3, h4⟩
  · exact .inr ⟨hi + 1, rfl, hl, Nat.le_refl _, hf, fun k k1 k2 => h k k1 (by omega)⟩
  · omega

/-- Has a state what an access tells? -/
def holdsB (n : Nat) (z : Nat → Int) (a : Acc) : Bool := decide (0 ≤ a.ob) && decide (a.ob < (n : Int)) && a.va == z a.ob.toNat
/-- A reading that counts, and isn't own. -/
def Acc.asks (a : Acc) : Prop := a.k = 2 ∧ a.own = false ∧ a.rel = false
instance (a : Acc) : Decidable a.asks := by unfold Acc.asks; infer_instance
/-- What a state hasn't of what was read. -/
def misses (n : Nat) (z : Nat → Int) : List Acc → Option (Int × Int)
  | [] => none
  | a :: l => if a.asks ∧ holdsB n z a = false then some (a.ob, a.va) else misses n z l
def Waits (n : Nat) (z : Nat → Int) (x : Int × Int) (l : List Acc) : Prop := ∃ a ∈ l, a.asks ∧ (a.ob, a.va) = x ∧ holdsB n z a = false

theorem misses_some {n : Nat} {z : Nat → Int} {x : Int × Int} : ∀ {l : List Acc}, misses n z l = some x → Waits n z x l
  | a :: l, h => by
    rw [misses] at h
    split at h
    · next hc => cases h; exact ⟨a, by simp, hc.1, rfl, hc.2⟩
    · obtain ⟨b, hb, h1⟩ := misses_some h
      exact ⟨b, List.mem_cons_of_mem _ hb, h1⟩
theorem misses_none {n : Nat} {z : Nat → Int} : ∀ {l : List Acc}, misses n z l = none → ∀ a ∈ l, a.asks → holdsB n z a = true
  | b :: l, h, a, ha, hk => by
    rw [misses] at h
    split at h
    · cases h
    · next hc =>
      rcases List.mem_cons.1 ha with rfl | ha
      · cases e : holdsB n z a with
        | true => rfl
        | false => exact absurd ⟨hk, e⟩ hc
      · exact misses_none h a ha hk
theorem waits_fits {n : Nat} {z : Nat → Int} {x : Int × Int} {l : List Acc} (h : Waits n z x l) : fits n z l = false := by
  obtain ⟨a, ha, ⟨h1, h2, h3⟩, _, h4⟩ := h
  obtain ⟨i, hi⟩ := List.getElem?_of_mem ha
  refine fits_bad hi ?_
  unfold readOk
  rw [if_pos ⟨h1, h3⟩]
  unfold tellsB
  cases lastW (l.take i) a.ob with
  | some v => simp [h2]
  | none =>
    unfold holdsB at h4
    simp only [h2, Bool.not_false, Bool.true_and]
    exact h4
/-- What doesn't fit, and misses nothing, never fits. -/
theorem never_fits {n : Nat} {z : Nat → Int} {l : List Acc} (h : fits n z l = false) (hm : misses n z l = none) (y : Nat → Int) : fits n y l = false := by
  cases e : fits n y l with
  | false => rfl
  | true =>
    have hf := fitsN_iff.1 e
    have : fits n z l = true := by
      refine fitsN_iff.2 fun i a hi ha => ?_
      have h0 := hf i a hi ha
      unfold readOk at h0 ⊢
      by_cases hc : a.k = 2 ∧ a.rel = false
      · rw [if_pos hc] at h0 ⊢
        unfold tellsB at h0 ⊢
        cases hl : lastW (l.take i) a.ob with
        | some v => rw [hl] at h0; exact h0
        | none =>
          rw [hl] at h0
          cases hw : a.own with
          | true => rw [hw] at h0; simp at h0
          | false =>
            have := misses_none hm a (List.mem_of_getElem? ha) ⟨hc.1, hw, hc.2⟩
            unfold holdsB at this
            simpa using this
      · rw [if_neg hc]
    rw [h] at this
    cases this

/-- What the walk knows: where each try is seen, and who waits for what. -/
structure Wk where
  seen : List Int
  M : Int × Int → List Nat

def ask (n : Nat) (z : Nat → Int) (p : Nat) (l : List Acc) (no : Nat) (s : Wk) : Wk :=
  if fits n z l = true then ⟨s.seen.set no p, s.M⟩
  else match misses n z l with
    | some x => ⟨s.seen, fun y => if y = x then s.M y ++ [no] else s.M y⟩
    | none => s
/-- One of those that are woken. -/
def wake1 (ts : List Tr) (n : Nat) (z : Nat → Int) (p place : Nat) (no : Nat) (s : Wk) : Wk :=
  match ts[no]? with
  | some t => if t.en < 0 ∨ (place : Int) < t.en then ask n z p t.ac no s else s
  | none => s
def wakes (ts : List Tr) (n : Nat) (z : Nat → Int) (p place : Nat) : List Nat → Wk → Wk
  | [], s => s
  | no :: l, s => wakes ts n z p place l (wake1 ts n z p place no s)
def wake (ts : List Tr) (n : Nat) (z : Nat → Int) (p place : Nat) (x : Int × Int) (s : Wk) : Wk :=
  wakes ts n z p place (s.M x) ⟨s.seen, fun y => if y = x then [] else s.M y⟩
/-- The objects that were written, in order. -/
def writes (n : Nat) : List Acc → List Nat
  | [] => []
  | a :: l => if a.k = 3 ∧ 0 ≤ a.ob ∧ a.ob < (n : Int) then a.ob.toNat :: writes n l else writes n l
def wakeAll (ts : List Tr) (n : Nat) (z : Nat → Int) (p place : Nat) : List Nat → Wk → Wk
  | [], s => s
  | o :: l, s => wakeAll ts n z p place l (wake ts n z p place ((o : Int), z o) s)
def commit (ts : List Tr) (n : Nat) (z : Nat → Int) (p place : Nat) (t : Tr) (no : Nat) (s : Wk) : Wk :=
  wakeAll ts n (app z t.ac) (p + 1) place (writes n t.ac) (if fits n z t.ac = true then ⟨s.seen.set no p, s.M⟩ else s)

theorem app_writes {n : Nat} {z : Nat → Int} {l : List Acc} {o : Nat} (ho : o < n) (h : app z l o ≠ z o) : o ∈ writes n l := by
  induction l generalizing z with
  | nil => exact absurd rfl h
  | cons a l ih =>
    have e : app z (a :: l) = app (app1 a z) l := rfl
    rw [writes]
    by_cases h1 : app (app1 a z) l o = app1 a z o
    · rw [e, h1] at h
      unfold app1 at h
      by_cases hc : a.k = 3 ∧ a.ob = (o : Int)
      · rw [if_pos ⟨hc.1, by omega, by omega⟩]
        have : a.ob.toNat = o := by omega
        rw [this]
        simp
      · rw [if_neg hc] at h; exact absurd rfl h
    · have := ih h1
      split
      · exact List.mem_cons_of_mem _ this
      · exact this

/-- How a trace's tries end. -/
theorem tries_get {e : Evs} {len no : Nat} {t : Tr} (h : (tries e len)[no]? = some t) : ∃ b, (begins e len)[no]? = some b ∧ t = trAt e b len ∧ t.b = (b : Int) ∧ b < len ∧ (e b).k = 1 := by
  unfold tries at h
  rw [List.getElem?_map, Option.map_eq_some_iff] at h
  obtain ⟨b, hb, rfl⟩ := h
  obtain ⟨h1, h2⟩ := (begins_mem e len b).1 (List.mem_of_getElem? hb)
  exact ⟨b, hb, rfl, (trAt_fix e b len).2.2.2.2, h1, h2⟩
theorem tries_end {e : Evs} {len no : Nat} {t : Tr} (hr : right e len = true) (h : (tries e len)[no]? = some t) : (t.en < 0 ∧ t.co = false) ∨ ∃ q : Nat, t.en = (q : Int) ∧ t.b < (q : Int) ∧ q < len ∧ ((e q).k = 5 ∨ (e q).k = 6) ∧ (t.co = true ↔ (e q).k = 5) := by
  obtain ⟨b, _, rfl, hb, hbl, hk⟩ := tries_get h
  by_cases h0 : 0 ≤ (trAt e b len).en
  · obtain ⟨q, h1, h2, h3, h4, h5⟩ := en_at e hk len hr hbl h0
    have := (opn_spec e _ _ _ h3).1
    exact .inr ⟨q, h2, by rw [hb]; omega, h1, h4, h5⟩
  · refine .inl ⟨by omega, ?_⟩
    cases e1 : (trAt e b len).co with
    | false => rfl
    | true => exact absurd (co_en e b len e1) h0
theorem before_mono (e : Evs) {i j : Nat} (h : i ≤ j) : before e i ≤ before e j := by
  induction h with
  | refl => exact Nat.le_refl _
  | step _ ih => rw [before]; omega

/-- Where a try is seen, by what was told. -/
def endOf (len : Nat) (t : Tr) : Nat := if t.en < 0 then len else t.en.toNat
def SeenAt (e : Evs) (n len i : Nat) (S : Nat → Nat → Int) (t : Tr) (q : Int) : Prop :=
  if t.co = true then q = if t.en < (i : Int) ∧ fits n (S (before e t.en.toNat)) t.ac = true then (before e t.en.toNat : Int) else -1
  else if t.b < (i : Int) then IsP (fun k => fits n (S k) t.ac) (before e t.b.toNat) (before e (min i (endOf len t))) q
  else q = -1
def Live (i : Nat) (t : Tr) : Prop := t.co = false ∧ t.b < (i : Int) ∧ (t.en < 0 ∨ (i : Int) ≤ t.en)
def Never (n : Nat) (S : Nat → Nat → Int) (t : Tr) : Prop := ∀ k, fits n (S k) t.ac = false

structure WkInv (e : Evs) (n len : Nat) (S : Nat → Nat → Int) (i : Nat) (s : Wk) : Prop where
  slen : s.seen.length = (tries e len).length
  at_ : ∀ (no : Nat) (t : Tr), (tries e len)[no]? = some t → ∃ q, s.seen[no]? = some q ∧ SeenAt e n len i S t q
  wait : ∀ (no : Nat) (t : Tr), (tries e len)[no]? = some t → Live i t → s.seen[no]? = some (-1) → Never n S t ∨ ∃ x, no ∈ s.M x ∧ Waits n (S (before e i)) x t.ac
  mem : ∀ (x : Int × Int) (no : Nat), no ∈ s.M x → ∃ t, (tries e len)[no]? = some t ∧ t.co = false ∧ t.b < (i : Int) ∧ s.seen[no]? = some (-1)
  uniq : ∀ (x y : Int × Int) (no : Nat), no ∈ s.M x → no ∈ s.M y → x = y
  nodup : ∀ x, (s.M x).Nodup

theorem WkInv.start (e : Evs) (n len : Nat) (S : Nat → Nat → Int) (hr : right e len = true) : WkInv e n len S 0 ⟨List.replicate (tries e len).length (-1), fun _ => []⟩ := by
  have hb : ∀ (no : Nat) (t : Tr), (tries e len)[no]? = some t → 0 ≤ t.b := fun no t h => by obtain ⟨b, _, _, h, _⟩ := tries_get h; omega
  have hg : ∀ (no : Nat) (t : Tr), (tries e len)[no]? = some t → (List.replicate (tries e len).length (-1 : Int))[no]? = some (-1) := fun no t h => by
    rw [List.getElem?_replicate, if_pos (List.getElem?_eq_some_iff.1 h).1]
  refine ⟨by simp, fun no t h => ⟨-1, hg no t h, ?_⟩, fun no t h hl => absurd hl.2.1 (by have := hb no t h; omega), fun x no h => absurd h (by simp), fun x y no h => absurd h (by simp), fun x => List.nodup_nil⟩
  unfold SeenAt
  by_cases hc : t.co = true
  · rw [if_pos hc, if_neg]
    rintro ⟨h1, _⟩
    rcases tries_end hr h with ⟨_, h3⟩ | ⟨q, h3, _⟩
    · rw [h3] at hc; cases hc
    · omega
  · rw [if_neg hc, if_neg (by have := hb no t h; omega)]

/-- An event at which no try begins, and none commits. -/
theorem WkInv.skip {e : Evs} {n len : Nat} {S : Nat → Nat → Int} {i : Nat} {s : Wk} (h : WkInv e n len S i s) (hr : right e len = true) (h1 : (e i).k ≠ 1) (h5 : (e i).k ≠ 5) : WkInv e n len S (i + 1) s := by
  have hbe : before e (i + 1) = before e i := by rw [before, if_neg h5]; rfl
  have hb : ∀ (no : Nat) (t : Tr), (tries e len)[no]? = some t → (t.b < ((i + 1 : Nat) : Int) ↔ t.b < (i : Int)) := fun no t ht => by
    obtain ⟨b, _, _, h2, _, h3⟩ := tries_get ht
    have : b ≠ i := fun e => by subst e; exact h1 h3
    omega
  refine ⟨h.slen, fun no t ht => ?_, fun no t ht hl hs => ?_, fun x no hx => ?_, h.uniq, h.nodup⟩
  · obtain ⟨q, hq, hs⟩ := h.at_ no t ht
    refine ⟨q, hq, ?_⟩
    unfold SeenAt at hs ⊢
    by_cases hc : t.co = true
    · rw [if_pos hc] at hs ⊢
      have : t.en < ((i + 1 : Nat) : Int) ↔ t.en < (i : Int) := by
        rcases tries_end hr ht with ⟨_, h3⟩ | ⟨q, h3, _, _, _, h4⟩
        · rw [h3] at hc; cases hc
        · have : q ≠ i := fun e => by subst e; exact h5 (h4.1 hc)
          omega
      simpa only [this] using hs
    · rw [if_neg hc] at hs ⊢
      by_cases hlt : t.b < (i : Int)
      · rw [if_pos hlt] at hs
        rw [if_pos ((hb no t ht).2 hlt)]
        have : before e (min (i + 1) (endOf len t)) = before e (min i (endOf len t)) := by
          by_cases hm : endOf len t ≤ i
          · rw [Nat.min_eq_right hm, Nat.min_eq_right (by omega)]
          · rw [Nat.min_eq_left (by omega), Nat.min_eq_left (by omega), hbe]
        rw [this]
        exact hs
      · rw [if_neg hlt] at hs
        rw [if_neg (fun h => hlt ((hb no t ht).1 h))]
        exact hs
  · rw [hbe]
    exact h.wait no t ht ⟨hl.1, (hb no t ht).1 hl.2.1, by have := hl.2.2; omega⟩ hs
  · obtain ⟨t, h1, h2, h3, h4⟩ := h.mem x no hx
    exact ⟨t, h1, h2, by omega, h4⟩

theorem tries_b_one {e : Evs} {len i j : Nat} {t u : Tr} (ht : (tries e len)[i]? = some t) (hu : (tries e len)[j]? = some u) (h : t.b = u.b) : i = j := by
  obtain ⟨b, h1, _, h3, _⟩ := tries_get ht
  obtain ⟨c, g1, _, g3, _⟩ := tries_get hu
  obtain rfl : b = c := by omega
  obtain ⟨hi, hi2⟩ := List.getElem?_eq_some_iff.1 h1
  obtain ⟨hj, hj2⟩ := List.getElem?_eq_some_iff.1 g1
  have hn := List.pairwise_iff_getElem.1 (begins_nodup e len)
  rcases Nat.lt_trichotomy i j with l | l | l
  · exact absurd (hi2.trans hj2.symm) (hn i j hi hj l)
  · exact l
  · exact absurd (hj2.trans hi2.symm) (hn j i hj hi l)

/-- An event at which a try begins. -/
theorem WkInv.begin_ {e : Evs} {n len : Nat} {S : Nat → Nat → Int} {i : Nat} {s : Wk} (h : WkInv e n len S i s) (hr : right e len = true) (h1 : (e i).k = 1) {no : Nat} {t : Tr} (ht : (tries e len)[no]? = some t) (hb : t.b = (i : Int)) :
    WkInv e n len S (i + 1) (if t.co = true then s else ask n (S (before e i)) (before e i) t.ac no s) := by
  have h5 : (e i).k ≠ 5 := by omega
  have hbe : before e (i + 1) = before e i := by rw [before, if_neg h5]; rfl
  have hb2 : ∀ (no' : Nat) (t' : Tr), (tries e len)[no']? = some t' → no' ≠ no → (t'.b < ((i + 1 : Nat) : Int) ↔ t'.b < (i : Int)) := fun no' t' ht' hne => by
    have : t'.b ≠ (i : Int) := fun e => hne (tries_b_one ht' ht (e.trans hb.symm))
    omega
  have hsame : ∀ (no' : Nat) (t' : Tr) (q : Int), (tries e len)[no']? = some t' → (no' ≠ no ∨ t'.co = true) → SeenAt e n len i S t' q → SeenAt e n len (i + 1) S t' q := by
    intro no' t' q ht' hne hs
    unfold SeenAt at hs ⊢
    by_cases hc : t'.co = true
    · rw [if_pos hc] at hs ⊢
      have : t'.en < ((i + 1 : Nat) : Int) ↔ t'.en < (i : Int) := by
        rcases tries_end hr ht' with ⟨_, h3⟩ | ⟨q, h3, _, _, _, h4⟩
        · rw [h3] at hc; cases hc
        · have : q ≠ i := fun e => by subst e; exact h5 (h4.1 hc)
          omega
      simpa only [this] using hs
    · rw [if_neg hc] at hs ⊢
      have hne : no' ≠ no := hne.resolve_right hc
      by_cases hlt : t'.b < (i : Int)
      · rw [if_pos hlt] at hs
        rw [if_pos ((hb2 no' t' ht' hne).2 hlt)]
        have : before e (min (i + 1) (endOf len t')) = before e (min i (endOf len t')) := by
          by_cases hm : endOf len t' ≤ i
          · rw [Nat.min_eq_right hm, Nat.min_eq_right (by omega)]
          · rw [Nat.min_eq_left (by omega), Nat.min_eq_left (by omega), hbe]
        rw [this]
        exact hs
      · rw [if_neg hlt] at hs
        rw [if_neg (fun h => hlt ((hb2 no' t' ht' hne).1 h))]
        exact hs
  have hmemNe : ∀ (x : Int × Int) (no' : Nat), no' ∈ s.M x → no' ≠ no := fun x no' hx e => by
    subst e
    obtain ⟨t', g1, _, g3, _⟩ := h.mem x no' hx
    rw [ht] at g1
    cases g1
    omega
  by_cases hc : t.co = true
  · rw [if_pos hc]
    refine ⟨h.slen, fun no' t' ht' => ?_, fun no' t' ht' hl hs => ?_, fun x no' hx => ?_, h.uniq, h.nodup⟩
    · obtain ⟨q, hq, hs⟩ := h.at_ no' t' ht'
      refine ⟨q, hq, hsame no' t' q ht' ?_ hs⟩
      by_cases e : no' = no
      · subst e; rw [ht] at ht'; cases ht'; exact .inr hc
      · exact .inl e
    · have hne : no' ≠ no := fun e => by subst e; rw [ht] at ht'; cases ht'; rw [hl.1] at hc; cases hc
      rw [hbe]
      exact h.wait no' t' ht' ⟨hl.1, (hb2 no' t' ht' hne).1 hl.2.1, by have := hl.2.2; omega⟩ hs
    · obtain ⟨t', g1, g2, g3, g4⟩ := h.mem x no' hx
      exact ⟨t', g1, g2, by omega, g4⟩
  · rw [if_neg hc]
    have hc' : t.co = false := by simpa using hc
    have hend : i + 1 ≤ endOf len t := by
      unfold endOf
      have := (List.getElem?_eq_some_iff.1 ht).1
      obtain ⟨b, _, _, h3, h4, _⟩ := tries_get ht
      rcases tries_end hr ht with ⟨h3, _⟩ | ⟨q, h3, h4, _⟩
      · rw [if_pos h3]; omega
      · rw [if_neg (by omega)]; omega
    have hlo : before e t.b.toNat = before e i := by rw [hb]; rfl
    have hhi : before e (min (i + 1) (endOf len t)) = before e i := by rw [Nat.min_eq_left hend, hbe]
    have hnol : no < s.seen.length := by rw [h.slen]; exact (List.getElem?_eq_some_iff.1 ht).1
    have hseen0 : s.seen[no]? = some (-1) := by
      obtain ⟨q, hq, hs⟩ := h.at_ no t ht
      unfold SeenAt at hs
      rw [if_neg hc, if_neg (by omega)] at hs
      rw [hq, hs]
    have hself : ∀ q, IsP (fun k => fits n (S k) t.ac) (before e i) (before e i) q → SeenAt e n len (i + 1) S t q := fun q hq => by
      unfold SeenAt
      rw [if_neg hc, if_pos (by omega), hlo, hhi]
      exact hq
    unfold ask
    by_cases hf : fits n (S (before e i)) t.ac = true
    · rw [if_pos hf]
      refine ⟨by simpa using h.slen, fun no' t' ht' => ?_, fun no' t' ht' hl hs => ?_, fun x no' hx => ?_, h.uniq, h.nodup⟩
      · by_cases e : no' = no
        · subst e
          rw [ht] at ht'
          cases ht'
          refine ⟨_, List.getElem?_set_self hnol, hself _ ?_⟩
          have := IsP.at (f := fun k => fits n (S k) t.ac) (lo := before e i)
          rwa [if_pos hf] at this
        · obtain ⟨q, hq, hs⟩ := h.at_ no' t' ht'
          exact ⟨q, by rw [List.getElem?_set_ne (Ne.symm e)]; exact hq, hsame no' t' q ht' (.inl e) hs⟩
      · have hne : no' ≠ no := fun e => by
          subst e
          dsimp only at hs
          rw [List.getElem?_set_self hnol] at hs
          injection hs with hs
          omega
        dsimp only at hs ⊢
        rw [List.getElem?_set_ne (Ne.symm hne)] at hs
        rw [hbe]
        exact h.wait no' t' ht' ⟨hl.1, (hb2 no' t' ht' hne).1 hl.2.1, by have := hl.2.2; omega⟩ hs
      · obtain ⟨t', g1, g2, g3, g4⟩ := h.mem x no' hx
        exact ⟨t', g1, g2, by omega, by dsimp only; rw [List.getElem?_set_ne (Ne.symm (hmemNe x no' hx))]; exact g4⟩
    · rw [if_neg hf]
      have hf' : fits n (S (before e i)) t.ac = false := by simpa using hf
      have hP : IsP (fun k => fits n (S k) t.ac) (before e i) (before e i) (-1) := by
        have := IsP.at (f := fun k => fits n (S k) t.ac) (lo := before e i)
        rwa [if_neg hf] at this
      have hat : ∀ (no' : Nat) (t' : Tr), (tries e len)[no']? = some t' → ∃ q, s.seen[no']? = some q ∧ SeenAt e n len (i + 1) S t' q := by
        intro no' t' ht'
        by_cases e : no' = no
        · subst e
          rw [ht] at ht'
          cases ht'
          exact ⟨-1, hseen0, hself _ hP⟩
        · obtain ⟨q, hq, hs⟩ := h.at_ no' t' ht'
          exact ⟨q, hq, hsame no' t' q ht' (.inl e) hs⟩
      cases hm : misses n (S (before e i)) t.ac with
      | none =>
        refine ⟨h.slen, hat, fun no' t' ht' hl hs => ?_, fun x no' hx => ?_, h.uniq, h.nodup⟩
        · by_cases e : no' = no
          · subst e
            rw [ht] at ht'
            cases ht'
            exact .inl fun k => never_fits hf' hm _
          · rw [hbe]
            exact h.wait no' t' ht' ⟨hl.1, (hb2 no' t' ht' e).1 hl.2.1, by have := hl.2.2; omega⟩ hs
        · obtain ⟨t', g1, g2, g3, g4⟩ := h.mem x no' hx
          exact ⟨t', g1, g2, by omega, g4⟩
      | some x0 =>
        dsimp only
        refine ⟨h.slen, hat, fun no' t' ht' hl hs => ?_, fun x no' hx => ?_, fun x y no' hx hy => ?_, fun x => ?_⟩
        · by_cases e : no' = no
          · subst e
            rw [ht] at ht'
            cases ht'
            exact .inr ⟨x0, by dsimp only; rw [if_pos rfl]; simp, by rw [hbe]; exact misses_some hm⟩
          · rw [hbe]
            rcases h.wait no' t' ht' ⟨hl.1, (hb2 no' t' ht' e).1 hl.2.1, by have := hl.2.2; omega⟩ hs with h1 | ⟨x, h1, h2⟩
            · exact .inl h1
            · refine .inr ⟨x, ?_, h2⟩
              dsimp only
              split
              · exact List.mem_append_left _ h1
              · exact h1
        · dsimp only at hx
          have old : no' ∈ s.M x → ∃ t, (tries e len)[no']? = some t ∧ t.co = false ∧ t.b < ((i + 1 : Nat) : Int) ∧ s.seen[no']? = some (-1) := fun hx => by
            obtain ⟨t', g1, g2, g3, g4⟩ := h.mem x no' hx
            exact ⟨t', g1, g2, by omega, g4⟩
          split at hx
          · rcases List.mem_append.1 hx with hx | hx
            · exact old hx
            · have : no' = no := by simpa using hx
              subst this
              exact ⟨t, ht, hc', by omega, hseen0⟩
          · exact old hx
        · dsimp only at hx hy
          by_cases e : no' = no
          · subst e
            have key : ∀ (x : Int × Int), no' ∈ (if x = x0 then s.M x ++ [no'] else s.M x) → x = x0 := fun x hx => by
              by_cases e2 : x = x0
              · exact e2
              · rw [if_neg e2] at hx
                exact absurd rfl (hmemNe x no' hx)
            exact (key x hx).trans (key y hy).symm
          · have key : ∀ (x : Int × Int), no' ∈ (if x = x0 then s.M x ++ [no] else s.M x) → no' ∈ s.M x := fun x hx => by
              split at hx
              · rcases List.mem_append.1 hx with hx | hx
                · exact hx
                · exact absurd (by simpa using hx) e
              · exact hx
            exact h.uniq x y no' (key x hx) (key y hy)
        · dsimp only
          split
          · refine List.nodup_append.2 ⟨h.nodup x, by simp, fun a ha b hb hab => ?_⟩
            have : b = no := by simpa using hb
            exact hmemNe x a ha (hab.trans this)
          · exact h.nodup x
end Go.Proofs.Ytkidkhjpijjphaa.base
