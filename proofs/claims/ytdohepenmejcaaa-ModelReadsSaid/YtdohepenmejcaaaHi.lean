/- The tries of a trace, one behind the other: hist's function that is ranged over. -/
import Derived.RangeFuncNested
import Derived.RangeFuncCalls
import Derived.RangeFuncLeaves
import Derived.Shelf.Abstract
import Derived.Shelf.RegionOpen
import Derived.OwnWalkIn
import Derived.TacticsInMore
import Derived.LoopNIn
import Derived.LoopIn
import Derived.RegionIn
import Derived.Test.YtdohepenmejcaaaHk
import Derived.Test.YtdohepenmejcaaaHmR
import Derived.Maps.RangeWalk
namespace Go.Proofs.Ytdohepenmejcaaa.hs
open Go Go.RowKit Go.Proofs.Ytdohepenmejcaaa.base Go.Maps
set_option linter.unusedVariables false
set_option maxRecDepth 100000
attribute [local go_sem] Oper.semAt_some

/-- Wherever J has seen the tries of pre, it takes one more, whose accesses lie apart, and gives word. -/
def Takes (m l : Nat) (J : List (Tr × Value) → World → (Nat → Prop) → Prop) : Prop :=
  ∀ (pre : List (Tr × Value)) (t : Tr) (v : Value) (W : World) (Fc G : Nat → Prop), J pre W Fc → W.ownsRow 0 54 6 v t.ac.length (rows accC t.ac) → (∀ k, v.ownBlock = some k → G k) → (∀ k, Fc k → ¬ G k) → (∀ k, G k → k < W.heap.size) → (∀ k, Fc k → k < W.heap.size) → t.ac.length ≤ 100000 → pre.length < 100000 →
    YieldAt Fence.wide m Try.prog l #[.agg ⟨trC t v⟩] W fun e W' => e = .returned (.bool true) ∧ ∃ Fc', J (pre ++ [(t, v)]) W' Fc' ∧ (∀ k, Fc' k → Fc k ∨ G k ∨ (W.heap.size ≤ k ∧ k < W'.heap.size)) ∧ Only Fc W W'

theorem ended_len (e : Evs) : ∀ n, (ended e n).length ≤ n
  | 0 => by simp [ended]
  | n + 1 => by
    have := ended_len e n
    unfold ended
    cases opn e n (e n).th with
    | none => simp; omega
    | some b => dsimp only; split <;> simp <;> omega
theorem trAt_ac (e : Evs) (b : Nat) : ∀ n, (trAt e b n).ac.length ≤ n
  | 0 => by simp [trAt, init]
  | n + 1 => by
    have := trAt_ac e b n
    unfold trAt
    split
    · unfold base.stepT
      repeat' split
      all_goals simp [relAll] <;> omega
    · omega
theorem zeroP (w : World) : (zeroValue 117).run Try.prog w = .ok (.pointer none) w := by kernel_rfl

set_option maxHeartbeats 4000000 in
theorem tries_in (n : Nat) (hn : 1 ≤ n) (l : Nat) (a : Option Addr) (len cap : Nat) (e : Evs) (J : List (Tr × Value) → World → (Nat → Prop) → Prop) (firm : Firm2 J)
    (hY : Takes (n - 1) l J) (w0 W : World) (hL : IsEvs w0 a len e) (hr : right e len = true) (hlen : len ≤ 10000) (Fc0 : Nat → Prop) (h0 : J [] W Fc0) (hF0 : ∀ k, Fc0 k → w0.heap.size ≤ k ∧ k < W.heap.size) (hB : Below w0.heap.size w0 W) :
    CallsIn Fence.wide n Try.prog 50 #[.slice a len cap, .func (.yield l) #[] #[]] W fun r W' => r = .returned (.tuple #[]) ∧ ∃ xs Fc rest, J xs W' Fc ∧ (∀ k, Fc k → w0.heap.size ≤ k ∧ k < W'.heap.size) ∧ Below w0.heap.size w0 W' ∧
      rest.Nodup ∧ (∀ b, b ∈ rest ↔ ∃ th, opn e len th = some b) ∧ xs.map Prod.fst = (ended e len ++ rest).map (fun b => trAt e b len) := by
  have hmm := @run_makeMap Try.prog
  refine callsIn_of_wp Try.func50 rfl trivial ?_ rfl
  simp only [Try.ntmps50, List.size_toArray, List.length_cons, List.length_nil, Nat.reduceAdd, Nat.reduceSub, Array.replicate_succ, Array.replicate_zero, List.push_toArray, List.append_toArray, List.nil_append, List.cons_append]
  gi_wp2
  have R0 : Rel1 w0 W.heap.size len e J 0 (W.alloc (.map #[] 0)) (fun _ => none) (fun _ _ => False) Fc0 [] := by
    refine ⟨⟨(MapG.made W Try.prog 3 (Value.int .i64)).congr (fun _ _ _ => rfl), by simp, by simp, by simp, hB.size⟩, fun th => rfl, firm _ _ _ _ h0 (fun k hk => Below.heap_alloc W _ k (hF0 k hk).2), rfl, fun k hk h => ?_, fun k hk => ⟨(hF0 k hk).1, by have := (hF0 k hk).2; simp; omega⟩, bl_none hB (World.grownBy_alloc W _ none)⟩
    rcases h with h | ⟨_, h, _⟩
    · have := (hF0 k hk).2
      omega
    · exact h rfl
  have HR0 := Lib.hid R0
  have HL := Lib.hid hL
  have HRT := Lib.hid hr
  have HLEN := Lib.hid hlen
  have FIRM := Lib.hid firm
  have HY := Lib.hid hY
  have HBS := Lib.hid (show w0.heap.size ≤ W.heap.size from hB.size)
  clear R0 hL hr h0 hF0 hB firm hY
  gi_loopw [14] (fun iv wr => ∃ (i : Nat) (G : Int → Option (Nat × Tr)) (Fo : Int → Nat → Prop) (Fc : Nat → Prop) (xs : List (Tr × Value)), i ≤ len ∧ iv = .int .i64 i ∧ Hid (Rel1 w0 W.heap.size len e J i wr G Fo Fc xs)) (fun iv _ => (len - intOf iv).toNat)
  case atStart => exact ⟨0, _, _, _, _, by omega, rfl, HR0⟩
  case round =>
    obtain ⟨i, G, Fo, Fc, xs, hi, rfl, HR⟩ := hrel
    by_cases hlt : i < len
    · have hlt' : (i : Int) < (len : Int) := by omega
      have hin : (i : Int) < 10000 := by have := HLEN.out; omega
      obtain ⟨b0, off, rfl, hb0, c0, c1, c2, c3, c4, c5, c6, we⟩ := (HL.out.below HR.out.2.2.2.2.2.2 (Nat.le_refl _)).at7 hlt
      have WE := Lib.hid we
      have hmay := right_may e HRT.out hlt
      have hxl : xs.length ≤ i := by
        have := congrArg List.length HR.out.2.2.2.1
        rw [List.length_map, List.length_map] at this
        rw [this]
        exact ended_len e i
      cases ho : opn e i (e i).th with
      | none =>
        have HG := Lib.hid (G_no HR.out ho)
        unfold may at hmay
        rw [ho] at hmay
        by_cases h1 : (e i).k = 1
        · have HR1 := Lib.hid (HR.out.grown FIRM.out (World.grownBy_alloc wr (.cells #[.int .i64 1, .int .i64 ((e i).th), .int .i64 ((e i).tx), .int .i64 ((e i).at_), .int .i64 ((e i).ob), .int .i64 ((e i).va), .int .i64 ((e i).re)] 58) none))
          have EB := Lib.hid (Blk.made wr 58 #[.int .i64 1, .int .i64 ((e i).th), .int .i64 ((e i).tx), .int .i64 ((e i).at_), .int .i64 ((e i).ob), .int .i64 ((e i).va), .int .i64 ((e i).re)])
          rw [h1] at c0
          have H1 := Lib.hid h1
          have HO := Lib.hid ho
          clear hmay h1 ho we HR
          have RO1 := Lib.hid HR1.out.1
          gi_wp2_with (first | (gi_at_lookup; refine wpListIn_look_mapG rfl _ _ 116 rfl 3 117 kInt Try.underlying116 _ (zeroP _) (Value.int .i64) W.heap.size i (fun th => (G th).map ptrV) rfl RO1.out.map (e i).th _ rfl (keyInt WE.out.th) (.pointer none) false (by rw [HG.out]; rfl) (by rw [HG.out]; rfl) ?_) | gi_in)
          generalize wr.alloc _ = v1 at *
          have e1 : v1.cell? ⟨wr.heap.size, 1, none⟩ = some (.int .i64 (e i).th) := EB.out.cell 1
          have e0 : v1.cell? ⟨wr.heap.size, 0, none⟩ = some (.int .i64 1) := EB.out.cell 0
          have e2 : v1.cell? ⟨wr.heap.size, 2, none⟩ = some (.int .i64 (e i).tx) := EB.out.cell 2
          have e3 : v1.cell? ⟨wr.heap.size, 3, none⟩ = some (.int .i64 (e i).at_) := EB.out.cell 3
          have e4 : v1.cell? ⟨wr.heap.size, 4, none⟩ = some (.int .i64 (e i).ob) := EB.out.cell 4
          have e5 : v1.cell? ⟨wr.heap.size, 5, none⟩ = some (.int .i64 (e i).va) := EB.out.cell 5
          have e6 : v1.cell? ⟨wr.heap.size, 6, none⟩ = some (.int .i64 (e i).re) := EB.out.cell 6
          gi_region_with (refine ⟨trivial, ?_⟩; gi_at_call 55; refine (callsIn_wide.2 (begun_any i ⟨1, (e i).th, (e i).tx, (e i).at_, (e i).ob, (e i).va, (e i).re⟩ _)).mono ?_; rintro r u1 ⟨bn, rfl, g1, gg1⟩; have E1 := EB.out.drew.grown gg1.out (by simp); have x1 : u1.cell? ⟨wr.heap.size, 1, none⟩ = some (.int .i64 (e i).th) := E1.cell 1; obtain ⟨u2, hU, hm2, hg2⟩ := ((show MapG Try.prog 3 (Value.int .i64) v1.drew W.heap.size i (fun th => (G th).map ptrV) from RO1.out.map).grown gg1.out (by simp)).set kInt vint_inj Try.underlying116 (by unfold maxLen; omega) (keyInt WE.out.th) (.pointer (some ⟨bn, 0, none⟩)); have HM2 := Lib.hid hm2; have HG2 := Lib.hid hg2; clear hm2 hg2 E1)
          all_goals
            gi_wp2
            go_roundw
            case rel =>
              obtain ⟨G', Fo', q⟩ := rel1_put HR1.out FIRM.out HO.out H1.out (ev := ⟨1, (e i).th, (e i).tx, (e i).at_, (e i).ob, (e i).va, (e i).re⟩) rfl (gb_trans (gb_drew (gb_refl v1 none)) gg1.out) g1.out HM2.out HG2.out
              exact ⟨i + 1, G', Fo', Fc, xs, by omega, by go_num, q⟩
            case measure => simp [intOf]; omega
        · have hk7 : (e i).k = 7 := by
            simp only [Bool.or_eq_true, Bool.and_eq_true, beq_iff_eq] at hmay
            omega
          have HR1 := Lib.hid (HR.out.grown FIRM.out (World.grownBy_alloc wr (.cells #[.int .i64 7, .int .i64 ((e i).th), .int .i64 ((e i).tx), .int .i64 ((e i).at_), .int .i64 ((e i).ob), .int .i64 ((e i).va), .int .i64 ((e i).re)] 58) none))
          rw [hk7] at c0
          have H1 := Lib.hid h1
          have HO := Lib.hid ho
          clear hmay h1 ho we HR hk7
          have RO1 := Lib.hid HR1.out.1
          gi_wp2_with (first | (gi_at_lookup; refine wpListIn_look_mapG rfl _ _ 116 rfl 3 117 kInt Try.underlying116 _ (zeroP _) (Value.int .i64) W.heap.size i (fun th => (G th).map ptrV) rfl RO1.out.map (e i).th _ rfl (keyInt WE.out.th) (.pointer none) false (by rw [HG.out]; rfl) (by rw [HG.out]; rfl) ?_) | gi_in)
          refine ⟨trivial, ?_⟩
          gi_wp2
          go_roundw
          case rel => exact ⟨i + 1, G, Fo, Fc, xs, by omega, by go_num, rel1_skip HR1.out HO.out H1.out⟩
          case measure => simp [intOf]; omega
      | some b =>
        obtain ⟨bk, hG⟩ := G_of HR.out ho
        have HG := Lib.hid hG
        obtain ⟨_, hk2, hk6⟩ := may_own e hmay ho
        have hob := opn_spec e i _ b ho
        have HR1 := Lib.hid (HR.out.grown FIRM.out (World.grownBy_alloc wr (.cells #[.int .i64 ((e i).k), .int .i64 ((e i).th), .int .i64 ((e i).tx), .int .i64 ((e i).at_), .int .i64 ((e i).ob), .int .i64 ((e i).va), .int .i64 ((e i).re)] 58) none))
        have EB := Lib.hid (Blk.made wr 58 #[.int .i64 ((e i).k), .int .i64 ((e i).th), .int .i64 ((e i).tx), .int .i64 ((e i).at_), .int .i64 ((e i).ob), .int .i64 ((e i).va), .int .i64 ((e i).re)])
        have f1 : ((e i).k == 1) = false := by simp; omega
        have HK := Lib.hid (show 2 ≤ (e i).k ∧ (e i).k ≤ 6 from ⟨hk2, hk6⟩)
        have HOB := Lib.hid hob
        have HO := Lib.hid ho
        have RO1 := Lib.hid HR1.out.1
        have ELT : Hid (∀ k, Fo (e i).th k → k < wr.heap.size) := Lib.hid (fun k hk => (HR.out.1.lt _ k (by rw [hG]; simp) hk).2.1)
        have ACL := Lib.hid (trAt_ac e b i)
        have HXL := Lib.hid hxl
        clear hmay ho we hG hk2 hk6 hob hxl
        by_cases h56 : (e i).k = 5 ∨ (e i).k = 6
        · have HD := Lib.hid (show decide ((e i).k = 5 ∨ (e i).k = 6) = true by simpa using h56)
          have H56 := Lib.hid h56
          clear h56
          gi_wp2_with (first | (gi_at_lookup; refine wpListIn_look_mapG rfl _ _ 116 rfl 3 117 kInt Try.underlying116 _ (zeroP _) (Value.int .i64) W.heap.size i (fun th => (G th).map ptrV) rfl RO1.out.map (e i).th _ rfl (keyInt WE.out.th) (.pointer (some ⟨bk, 0, none⟩)) true (by rw [HG.out]; rfl) (by rw [HG.out]; rfl) ?_) | (refine ⟨trivial, ?_⟩; gi_at_call 56; refine (callsIn_wide.2 (does_any _ (Fo (e i).th) bk (trAt e b i) i i (e i) WE.out HK.out (fun k hk => by have := ELT.out k hk; simp; omega) (RO1.out.gng _ _ _ HG.out) HOB.out.2.2.2 (by have := ACL.out; omega) (by omega))).mono ?_; rw [HD.out]; rintro r u1 ⟨rfl, g1, o1⟩; have x1 : u1.cell? ⟨wr.heap.size, 1, none⟩ = some (.int .i64 (e i).th) := ((EB.out.keep (o1.out.block wr.heap.size (by simp) (fun hF => Nat.lt_irrefl _ (ELT.out _ hF)))).cell 1); have MU := Lib.hid (RO1.out.map.keep (o1.out.block W.heap.size RO1.out.map.lt (fun hF => (RO1.out.lt _ _ (by rw [HG.out]; simp) hF).2.2 rfl)))) | (gi_at_delete; refine wpListIn_del_mapG rfl _ _ 116 3 rfl 117 kInt (Value.int .i64) vint_inj Try.underlying116 W.heap.size i (fun th => (G th).map ptrV) rfl MU.out (e i).th _ rfl (keyInt WE.out.th) ?_; intro u2 m2 g2; obtain ⟨G', Fo', MID, hFo, GN⟩ := rel1_mid HR1.out FIRM.out HO.out HG.out H56.out g1.out o1.out (m2.more (Nat.le_succ _)) g2; obtain ⟨v, wm, rm, rd, GP⟩ := GN; obtain ⟨va, vc, rfl⟩ := owns_slice GP.row; have d0 : u2.cell? ⟨bk, 0, none⟩ = some (.int .i64 (trAt e b (i + 1)).th) := GP.blk.cell 0; have d1 : u2.cell? ⟨bk, 1, none⟩ = some (.int .i64 (trAt e b (i + 1)).tx) := GP.blk.cell 1; have d2 : u2.cell? ⟨bk, 2, none⟩ = some (.int .i64 (trAt e b (i + 1)).at_) := GP.blk.cell 2; have d3 : u2.cell? ⟨bk, 3, none⟩ = some (.int .i64 (trAt e b (i + 1)).st) := GP.blk.cell 3; have d4 : u2.cell? ⟨bk, 4, none⟩ = some (.int .i64 (trAt e b (i + 1)).b) := GP.blk.cell 4; have d5 : u2.cell? ⟨bk, 5, none⟩ = some (.int .i64 (trAt e b (i + 1)).en) := GP.blk.cell 5; have d6 : u2.cell? ⟨bk, 6, none⟩ = some (.int .i64 (trAt e b (i + 1)).re) := GP.blk.cell 6; have d7 : u2.cell? ⟨bk, 7, none⟩ = some (.bool (trAt e b (i + 1)).co) := GP.blk.cell 7; have d8 : u2.cell? ⟨bk, 8, none⟩ = some (.slice va (trAt e b (i + 1)).ac.length vc) := GP.blk.cell 8; obtain ⟨fn, tmps, assign, body, hy, hRd⟩ := HY.out xs (trAt e b (i + 1)) (.slice va (trAt e b (i + 1)).ac.length vc) u2 Fc (Fo' (e i).th) MID.2.2.1 GP.row (fun k hk => by rw [hFo]; exact GP.fv k hk) (fun k hc hg => (MID.2.2.2.2.2.2.2.2 k hg).1 hc) (fun k hk => (MID.2.2.2.2.2.2.2.2 k hk).2.2.1) (fun k hk => (MID.2.2.2.2.2.1 k hk).2) (by have := trAt_ac e b (i + 1); omega) (by have := HXL.out; omega); have hy' : (Instr.yield l #[.agg #[.int .i64 (trAt e b (i + 1)).th, .int .i64 (trAt e b (i + 1)).tx, .int .i64 (trAt e b (i + 1)).at_, .int .i64 (trAt e b (i + 1)).st, .int .i64 (trAt e b (i + 1)).b, .int .i64 (trAt e b (i + 1)).en, .int .i64 (trAt e b (i + 1)).re, .bool (trAt e b (i + 1)).co, .slice va (trAt e b (i + 1)).ac.length vc]]).run Try.prog u2 = .ok (.round l fn tmps assign body) u2 := hy; have MD := Lib.hid MID; have RD := Lib.hid hRd; clear hy MID hRd GP m2 g2 hFo) | gi_in)
          refine RD.out.mono ?_
          rintro e3 u3 ⟨rfl, Fc', hJ, hF, hO⟩
          have QQ := Lib.hid (mid_rel1 MD.out HO.out H56.out hlt hJ hF hO)
          clear hJ hF hO MD RD
          gi_wp2
          go_roundw
          case rel => exact ⟨i + 1, G', Fo', Fc', _, by omega, by go_num, QQ⟩
          case measure => simp [intOf]; omega
        · have HD := Lib.hid (show decide ((e i).k = 5 ∨ (e i).k = 6) = false by simpa using h56)
          have H56 := Lib.hid h56
          clear h56
          gi_wp2_with (first | (gi_at_lookup; refine wpListIn_look_mapG rfl _ _ 116 rfl 3 117 kInt Try.underlying116 _ (zeroP _) (Value.int .i64) W.heap.size i (fun th => (G th).map ptrV) rfl RO1.out.map (e i).th _ rfl (keyInt WE.out.th) (.pointer (some ⟨bk, 0, none⟩)) true (by rw [HG.out]; rfl) (by rw [HG.out]; rfl) ?_) | (refine ⟨trivial, ?_⟩; gi_at_call 56; refine (callsIn_wide.2 (does_any _ (Fo (e i).th) bk (trAt e b i) i i (e i) WE.out HK.out (fun k hk => by have := ELT.out k hk; simp; omega) (RO1.out.gng _ _ _ HG.out) HOB.out.2.2.2 (by have := ACL.out; omega) (by omega))).mono ?_; rw [HD.out]; rintro r u1 ⟨rfl, g1, o1⟩) | gi_in)
          go_roundw
          case rel =>
            obtain ⟨G', Fo', q⟩ := rel1_does HR1.out FIRM.out HO.out HG.out (by have := HK.out; omega) H56.out g1.out o1.out
            exact ⟨i + 1, G', Fo', Fc, xs, by omega, by go_num, q⟩
          case measure => simp [intOf]; omega
    · obtain rfl : i = len := by omega
      obtain ⟨D, hown, hD⟩ := HR.out.1.map
      have hD' : Says D G := hD
      have HWF := Lib.hid (show ∀ th b, opn e i th = some b → (Lit.int .i64 th).wf = true from fun th b h => by
        have := opn_spec e _ _ _ h
        obtain ⟨_, _, _, _, _, _, _, _, _, _, _, we⟩ := HL.out.at7 this.1
        rw [← this.2.2.1]
        exact we.th)
      have HD := Lib.hid hD'
      have HOWN := Lib.hid hown
      have hxl : xs.length ≤ i := by
        have := congrArg List.length HR.out.2.2.2.1
        rw [List.length_map, List.length_map] at this
        rw [this]
        exact ended_len e i
      clear hD hD' hown hxl
      gi_wp2_with (first | (gi_at_range; refine wpListIn_range_own _ rfl _ 116 rfl 3 117 kInt Try.underlying116 heldR W.heap.size i D rfl HOWN.out ?_; intro wq hrg0 hg0 hs0; have R2 := Lib.hid (rel2_start HR.out FIRM.out HWF.out HD.out hrg0 hg0 hs0); clear hrg0 hg0 hs0) | gi_in)
      go_frame
      generalize wr.heap.size = ro at R2 ⊢
      gi_loopw [10] (fun _ wq => ∃ (left : Lit → Bool) (cnt : Nat) (ys : List (Tr × Value)) (Fd : Nat → Prop) (rest : List Nat), Hid (Rel2 w0 W.heap.size ro i e J D G Fo wq left cnt ys Fd rest)) (fun _ wq => wq.rangeLeft W.heap.size ro)
      case atStart => exact ⟨_, _, _, _, _, R2⟩
      case round =>
        obtain ⟨left, cnt, ys, Fd, rest, RR⟩ := hrel
        gi_wp2_with (first | (gi_at_next; refine wpListIn_next_G rfl _ rfl W.heap.size ro i D G HD.out left RR.out.2.1 cnt rfl RR.out.1 ?_ ?_) | gi_in)
        · intro hl0
          gi_wp2
          go_end0
          obtain ⟨q1, q2, q3⟩ := rel2_done RR.out hl0
          exact ⟨rfl, ys, Fd, rest, RR.out.2.2.2.1, RR.out.2.2.2.2.2.2.2.2.1, RR.out.2.2.2.2.2.2.2.2.2.1, q1, q2, q3⟩
        · intro x bk t u2 cnt2 hGx hlx hrg2 hlt2 hg2 hs2 hen
          obtain ⟨qJ, qG, qA, qB, p, qo, qt⟩ := rel2_came RR.out FIRM.out hg2 hGx hlx
          obtain ⟨v, wm, rm, rd, GP⟩ := qG
          obtain ⟨va, vc, rfl⟩ := owns_slice GP.row
          have d0 : u2.cell? ⟨bk, 0, none⟩ = some (.int .i64 t.th) := GP.blk.cell 0; have d1 : u2.cell? ⟨bk, 1, none⟩ = some (.int .i64 t.tx) := GP.blk.cell 1; have d2 : u2.cell? ⟨bk, 2, none⟩ = some (.int .i64 t.at_) := GP.blk.cell 2; have d3 : u2.cell? ⟨bk, 3, none⟩ = some (.int .i64 t.st) := GP.blk.cell 3; have d4 : u2.cell? ⟨bk, 4, none⟩ = some (.int .i64 t.b) := GP.blk.cell 4; have d5 : u2.cell? ⟨bk, 5, none⟩ = some (.int .i64 t.en) := GP.blk.cell 5; have d6 : u2.cell? ⟨bk, 6, none⟩ = some (.int .i64 t.re) := GP.blk.cell 6; have d7 : u2.cell? ⟨bk, 7, none⟩ = some (.bool t.co) := GP.blk.cell 7; have d8 : u2.cell? ⟨bk, 8, none⟩ = some (.slice va t.ac.length vc) := GP.blk.cell 8
          obtain ⟨fn, tmps, assign, body, hy, hRd⟩ := HY.out ys t (.slice va t.ac.length vc) u2 Fd (Fo x) qJ GP.row GP.fv qA qB (fun k hk => by have := (RR.out.2.2.2.2.2.2.2.2.1 k hk).2; omega) (by rw [qt]; have := trAt_ac e p i; omega) (by
            have h1 := congrArg List.length RR.out.2.2.2.2.1
            rw [List.length_map, List.length_map, List.length_append] at h1
            have h2 := ended_len e i
            have h3 : rest.Perm ((List.range i).filter (fun b => decide (b ∈ rest))) := (List.perm_ext_iff_of_nodup RR.out.2.2.2.2.2.1 (List.nodup_range.filter _)).2 fun b => by
              simp only [List.mem_filter, List.mem_range, decide_eq_true_eq]
              refine ⟨fun h => ⟨?_, h⟩, fun h => h.2⟩
              obtain ⟨th, ho, _⟩ := (RR.out.2.2.2.2.2.2.1 b).1 h
              exact (opn_spec e _ _ _ ho).1
            have h4 := h3.length_eq
            have h5 := List.length_filter_le (fun b => decide (b ∈ rest)) (List.range i)
            rw [List.length_range] at h5
            omega)
          have hy' : (Instr.yield l #[.agg #[.int .i64 t.th, .int .i64 t.tx, .int .i64 t.at_, .int .i64 t.st, .int .i64 t.b, .int .i64 t.en, .int .i64 t.re, .bool t.co, .slice va t.ac.length vc]]).run Try.prog u2 = .ok (.round l fn tmps assign body) u2 := hy
          have RD := Lib.hid hRd
          have XX := Lib.hid (show ∀ v Fc' u3, J (ys ++ [(t, v)]) u3 Fc' → (∀ k, Fc' k → Fd k ∨ Fo x k ∨ (u2.heap.size ≤ k ∧ k < u3.heap.size)) → Only Fd u2 u3 → Rel2 w0 W.heap.size ro i e J D G Fo u3 (fun z => left z && !z.sameKey (.int .i64 x)) cnt2 (ys ++ [(t, v)]) Fc' (rest ++ [p]) from fun v Fc' u3 h1 h2 h3 => rel2_step RR.out FIRM.out hrg2 hg2 hGx hlx qo qt h1 h2 h3)
          have LT := Lib.hid hlt2
          clear hy hRd GP qJ qA qB qo qt hrg2 hg2 hs2 hlt2
          gi_wp2
          refine RD.out.mono ?_
          rintro e3 u3 ⟨rfl, Fc', hJ, hF, hO⟩
          have QQ := Lib.hid (XX.out _ _ _ hJ hF hO)
          clear hJ hF hO XX RD
          gi_wp2
          go_roundw
          case rel => exact ⟨_, _, _, _, _, QQ⟩
          case measure =>
            rw [QQ.out.1.left_eq, RR.out.1.left_eq]
            exact LT.out
end Go.Proofs.Ytdohepenmejcaaa.hs
