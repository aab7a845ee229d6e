/- Package lang's maps of what operations do, and Sum. -/
import Derived.Test.YtjajhkgbhckdeaaCrs
import Derived.Deep.RegionHeld3
namespace Go.Proofs.Ytjajhkgbhckdeaa.lg
open Go Go.RowKit Go.Proofs.Ytjajhkgbhckdeaa.base
set_option linter.unusedVariables false

/-- A method value of the course in block c. -/
def bd (F c : Nat) : Value := .func (Fn.func F) #[.pointer (some ⟨c, 0, none⟩)] #[]

/-- What Set and Add do. -/
def sumsF (c : Nat) (i : Int) : Option Value := if i = 4 then some (bd 28 c) else if i = 3 then some (bd 27 c) else none

/-- What all do. -/
def allF (c : Nat) (i : Int) : Option Value := if i = 5 then some (bd 31 c) else if i = 2 then some (bd 30 c) else if i = 1 then some (bd 29 c) else sumsF c i

/-- A store of a map that is written out. -/
theorem wpList_ins_mapF {P : Program} (w : World) {ops : Array Oper} {rest : List Oper} {o : Oper} {a : Act} {Q : Exit → Act → World → Prop}
    (hg : o.guard = none) (m x v : Operand) (t : TypeId) (hop : o.op = Op.insert t m x v ∨ o.op = Op.mapUpdate t m x v)
    (k e : TypeId) (hk : P.underlying k = some (.int .i64)) (ht : P.underlying t = some (.map k e)) (b n : Nat) (f : Int → Option Value)
    (hm : a.eval m = .map (some b)) (h : MapF P k w b n f) (hn : n < maxLen) (j : Int) (hx : a.eval x = .int .i64 j) (hj : (Lit.int .i64 j).wf = true) (hf : f j = none) (val : Value) (hv : a.eval v = val)
    (hK : ∀ w', MapF P k w' b (n + 1) (fun i => if i = j then some val else f i) → w.grownBy w' (some b) → wpList P ops Q rest (a.put o.dst undef) w') :
    wpList P ops Q (o :: rest) a w := by
  refine wpList_plain hg fun K' hK' => ?_
  obtain ⟨w', hrun, r1, r2⟩ := h.put hk ht hn hj hf val
  unfold Oper.wp
  rcases hop with hop | hop <;> simp [execOp, hop, hm, hx, hv, hrun, Result.andThen] <;> exact hK' _ _ (hK w' r1 r2)

/-- A look-up without 'ok'. -/
theorem wpList_get_mapF {P : Program} (w : World) {ops : Array Oper} {rest : List Oper} {o : Oper} {a : Act} {Q : Exit → Act → World → Prop}
    (hg : o.guard = none) (m x : Operand) (t : TypeId) (hop : o.op = Op.lookup t m x false)
    (k e : TypeId) (hk : P.underlying k = some (.int .i64)) (ht : P.underlying t = some (.map k e)) (z : Value) (hz : (zeroValue e).run P w = .ok z w) (b n : Nat) (f : Int → Option Value)
    (hm : a.eval m = .map (some b)) (h : MapF P k w b n f) (j : Int) (hx : a.eval x = .int .i64 j) (hj : (Lit.int .i64 j).wf = true) (v : Value) (hf : f j = some v)
    (hK : wpList P ops Q rest (a.put o.dst v) w) :
    wpList P ops Q (o :: rest) a w := by
  refine wpList_plain hg fun K' hK' => ?_
  have hrun := h.get hk ht hz hj
  rw [hf] at hrun
  unfold Oper.wp
  simp [execOp, hop, hm, hx, hrun, Result.andThen]
  exact hK' _ _ hK

theorem zeroF (w : World) : (zeroValue 50).run Try.prog w = .ok .nilFunc w := by kernel_rfl

theorem mapF_congr {P : Program} {k : TypeId} {w : World} {b n : Nat} {f f' : Int → Option Value} (h : MapF P k w b n f) (e : ∀ i, f i = f' i) : MapF P k w b n f' := by
  rw [← funext e]
  exact h

theorem mk52 (w : World) : (Instr.makeMap 52 none).run Try.prog w = .ok (.map (some w.heap.size)) (w.alloc (.map #[] 0)) := by simp [Instr.makeMap, go_sem]

theorem mf_any (fn : Fn) (first cap : Array Value) (w : World) : (Instr.makeFunc fn first cap).run Try.prog w = .ok (.func fn first cap) w := rfl

set_option maxRecDepth 100000 in
theorem sums_any (c : Nat) (w : World) : Calls Try.prog 24 #[.pointer (some ⟨c, 0, none⟩)] w fun e w' => e = .returned (.map (some w.heap.size)) ∧ Hid (MapF Try.prog 3 w' w.heap.size 2 (sumsF c)) ∧ Hid (w.grownBy w' none) := by
  have hmf := mf_any
  have hmm := mk52
  have N1 := Lib.hid (MapF.made w Try.prog 3)
  have G1 := Lib.hid (World.grownBy_alloc w (.map #[] 0) none)
  generalize hv : w.alloc (.map #[] 0) = v1 at *
  have HV := Lib.hid hv
  generalize hm : w.heap.size = mb at *
  have HM := Lib.hid hm
  have hmm' : (Instr.makeMap 52 none).run Try.prog w = .ok (.map (some mb)) v1 := by rw [hmm, hv, hm]
  clear hv hm hmm
  go_enter Try.func24, Try.ntmps24
  go_wp2_with (first | (refine wpList_ins_mapF _ rfl (.tmp 3) (.const (.int .i64 3)) (.tmp 5) 52 (.inl rfl) 3 50 Try.underlying3 Try.underlying52 mb 0 _ rfl N1.out (by decide) 3 rfl (by decide) rfl (bd 27 c) rfl ?_; intro v2 M2 g2; have N2 := Lib.hid M2; have G2 := Lib.hid (gb_over G1.out g2 (Nat.le_of_eq HM.out)); clear M2 g2) | (refine wpList_ins_mapF _ rfl (.tmp 3) (.const (.int .i64 4)) (.tmp 7) 52 (.inl rfl) 3 50 Try.underlying3 Try.underlying52 mb 1 _ rfl N2.out (by decide) 4 rfl (by decide) rfl (bd 28 c) rfl ?_; intro v3 M3 g3; have N3 := Lib.hid M3; have G3 := Lib.hid (gb_over G2.out g3 (Nat.le_of_eq HM.out)); clear M3 g3))
  go_ret
  exact ⟨rfl, N3, G3⟩

set_option maxRecDepth 100000 in
theorem all_any (c : Nat) (w : World) : Calls Try.prog 25 #[.pointer (some ⟨c, 0, none⟩)] w fun e w' => e = .returned (.map (some w.heap.size)) ∧ Hid (MapF Try.prog 3 w' w.heap.size 5 (allF c)) ∧ Hid (w.grownBy w' none) := by
  have hmf := mf_any
  have hS := sums_any c w
  generalize hm : w.heap.size = mb at *
  have HM := Lib.hid hm
  have HS := Lib.hid hS
  clear hm hS
  go_enter Try.func25, Try.ntmps25
  go_wp2_with fail
  refine HS.out.mono ?_
  rintro e v1 ⟨rfl, N1, G1⟩
  go_wp2_with (first | (refine wpList_ins_mapF _ rfl (.tmp 6) (.const (.int .i64 1)) (.tmp 10) 52 (.inr rfl) 3 50 Try.underlying3 Try.underlying52 mb 2 _ rfl N1.out (by decide) 1 rfl (by decide) rfl (bd 29 c) rfl ?_; intro v2 M2 g2; have N2 := Lib.hid M2; have G2 := Lib.hid (gb_over G1.out g2 (Nat.le_of_eq HM.out)); clear M2 g2) | (refine wpList_ins_mapF _ rfl (.tmp 7) (.const (.int .i64 2)) (.tmp 12) 52 (.inr rfl) 3 50 Try.underlying3 Try.underlying52 mb 3 _ rfl N2.out (by decide) 2 rfl (by decide) rfl (bd 30 c) rfl ?_; intro v3 M3 g3; have N3 := Lib.hid M3; have G3 := Lib.hid (gb_over G2.out g3 (Nat.le_of_eq HM.out)); clear M3 g3) | (refine wpList_ins_mapF _ rfl (.tmp 8) (.const (.int .i64 5)) (.tmp 14) 52 (.inr rfl) 3 50 Try.underlying3 Try.underlying52 mb 4 _ rfl N3.out (by decide) 5 rfl (by decide) rfl (bd 31 c) rfl ?_; intro v4 M4 g4; have N4 := Lib.hid M4; have G4 := Lib.hid (gb_over G3.out g4 (Nat.le_of_eq HM.out)); clear M4 g4))
  go_ret
  exact ⟨rfl, N4, G4⟩

theorem made_crs (w w0 : World) (s : Int) (h : w0.heap.size ≤ w.heap.size) (f : Nat → Int) : Crs w0.heap.size (w.alloc (.cells #[.int .i64 s, .slice none 0 0] 49)) w.heap.size s 0 f none := Fld.made w 49 2 1 h [.int .i64 s] []
theorem ne_map {P : Program} {k : TypeId} {w : World} {b n c : Nat} {f : Int → Option Value} {t : TypeId} {cs : Array Value} (h : MapF P k w b n f) (g : Blk t w c cs) : b ≠ c := fun e => h.not_cells (by rw [e]; exact g)
theorem ret_int {a b : Int} (h : a = b) : Ending.returned (.int .i64 a) = .returned (.int .i64 b) := by rw [h]

/-- Of others the sum stays. -/
theorem sum_other (k o a s : Int) (h3 : k ≠ 3) (h4 : k ≠ 4) (hk : (Lit.int .i64 k).wf = true) (w : World) : Calls Try.prog 15 #[.agg #[.int .i64 k, .int .i64 o, .int .i64 a], .int .i64 s] w fun e w' => e = .returned (.int .i64 s) ∧ Hid (w.grownBy w' none) := by
  have hl0 : sumsF (w.heap.size + 1) k = none := by simp [sumsF, h3, h4]
  have O := Lib.hid (((Own.start w).alloc 24 [.int .i64 k, .int .i64 o, .int .i64 a]).alloc 49 [.int .i64 s, .slice none 0 0])
  have K := Lib.hid (made_crs (w.alloc (.cells #[.int .i64 k, .int .i64 o, .int .i64 a] 24)) w s (by simp) (fun _ => 0))
  simp only [size_alloc] at O K hl0
  have HF := Lib.hid hl0
  clear hl0 h3 h4
  go_enter Try.func15, Try.ntmps15
  go_upto_region 2 with fail
  generalize (w.alloc _).alloc _ = v at *
  have o0 := O.out.cell 1 0 rfl rfl; have o1 := O.out.cell 1 1 rfl rfl; have o2 := O.out.cell 1 2 rfl rfl
  generalize w.heap.size + 1 = cb at *
  generalize hob : w.heap.size = ob at *
  have HB := Lib.hid hob
  clear hob
  generalize hmb : v.heap.size = mb at *
  have HM := Lib.hid hmb
  have HS := Lib.hid (fun (u : World) (hu : u.heap.size = mb) => (hu ▸ sums_any cb u))
  clear hmb
  go_region_held3 (fun w' => w'.cell? ⟨ob, 0, none⟩ = some (.int .i64 k)) (go_keep) ((go_at_call 24; refine (HS.out v.drew HM.out).mono ?_; rintro e v2 ⟨rfl, M, G⟩; have G2 := Lib.hid (show World.grownBy v _ none from gb_trans (gb_drew (gb_refl v none)) G.out); have hl := M.out.miss Try.underlying3 Try.underlying52 (zeroF _) hk HF.out; have o0 := G2.out.cell o0 (by simp)))
  obtain ⟨c0, f0⟩ := K.out.cell0
  have c0 := G2.out.cell c0 (by simp)
  have GG := Lib.hid (gb_trans O.out.grow G2.out)
  clear M G
  go_wp2
  go_ret
  exact ⟨rfl, by first | exact GG.out | exact gb_drew GG.out | exact gb_drewN GG.out _⟩

/-- Of Set it is the Arg. -/
theorem sum_set (o a s : Int) (w : World) : Calls Try.prog 15 #[.agg #[.int .i64 3, .int .i64 o, .int .i64 a], .int .i64 s] w fun e w' => e = .returned (.int .i64 a) ∧ Hid (w.grownBy w' none) := by
  have hl0 : sumsF (w.heap.size + 1) 3 = some (bd 27 (w.heap.size + 1)) := by simp [sumsF]
  have O := Lib.hid (((Own.start w).alloc 24 [.int .i64 3, .int .i64 o, .int .i64 a]).alloc 49 [.int .i64 s, .slice none 0 0])
  have K := Lib.hid (made_crs (w.alloc (.cells #[.int .i64 3, .int .i64 o, .int .i64 a] 24)) w s (by simp) (fun _ => 0))
  simp only [size_alloc] at O K hl0
  have HF := Lib.hid hl0
  clear hl0
  go_enter Try.func15, Try.ntmps15
  go_upto_region 2 with fail
  generalize (w.alloc _).alloc _ = v at *
  have o0 := O.out.cell 1 0 rfl rfl; have o1 := O.out.cell 1 1 rfl rfl; have o2 := O.out.cell 1 2 rfl rfl
  generalize w.heap.size + 1 = cb at *
  generalize hob : w.heap.size = ob at *
  have HB := Lib.hid hob
  clear hob
  generalize hmb : v.heap.size = mb at *
  have HM := Lib.hid hmb
  have HS := Lib.hid (fun (u : World) (hu : u.heap.size = mb) => (hu ▸ sums_any cb u))
  clear hmb
  go_region_held3 (fun w' => w'.cell? ⟨ob, 0, none⟩ = some (.int .i64 3)) (go_keep) ((go_at_call 24; refine (HS.out v.drew HM.out).mono ?_; rintro e v2 ⟨rfl, M, G⟩; have G2 := Lib.hid (show World.grownBy v _ none from gb_trans (gb_drew (gb_refl v none)) G.out); have hl := M.out.hit Try.underlying3 Try.underlying52 (zeroF _) (by decide) HF.out; simp only [bd] at hl; have o0 := G2.out.cell o0 (by simp)))
  have o1 := G2.out.cell o1 (by simp)
  have o2 := G2.out.cell o2 (by simp)
  have KK := Lib.hid (K.out.grown G2.out)
  have GG := Lib.hid (gb_trans O.out.grow G2.out)
  clear M G K O
  go_wp2_with fail
  refine (set_any _ _ cb s 0 (fun _ => 0) none 3 o a (by first | exact KK.out | exact KK.out.drew | exact KK.out.drewN _)).mono ?_
  rintro e v3 ⟨rfl, K3, C3⟩
  obtain ⟨c0, f0⟩ := K3.out.cell0
  go_wp2
  go_ret
  refine ⟨rfl, ?_⟩
  have hb := KK.out.base_le
  have hb2 := HB.out
  exact ⟨C3.out.os.trans GG.out.os, C3.out.tape.trans GG.out.tape, C3.out.output.trans GG.out.output, Nat.le_trans GG.out.size C3.out.size, fun i hi _ => (C3.out.block i (Nat.lt_of_lt_of_le hi GG.out.size) (by omega) (by simp)).trans (GG.out.block i hi (by simp))⟩

/-- Of Add it is so much more. -/
theorem sum_add (o a s : Int) (w : World) : Calls Try.prog 15 #[.agg #[.int .i64 4, .int .i64 o, .int .i64 a], .int .i64 s] w fun e w' => e = .returned (.int .i64 (wrap64 (s + a))) ∧ Hid (w.grownBy w' none) := by
  have hl0 : sumsF (w.heap.size + 1) 4 = some (bd 28 (w.heap.size + 1)) := by simp [sumsF]
  have O := Lib.hid (((Own.start w).alloc 24 [.int .i64 4, .int .i64 o, .int .i64 a]).alloc 49 [.int .i64 s, .slice none 0 0])
  have K := Lib.hid (made_crs (w.alloc (.cells #[.int .i64 4, .int .i64 o, .int .i64 a] 24)) w s (by simp) (fun _ => 0))
  simp only [size_alloc] at O K hl0
  have HF := Lib.hid hl0
  clear hl0
  go_enter Try.func15, Try.ntmps15
  go_upto_region 2 with fail
  generalize (w.alloc _).alloc _ = v at *
  have o0 := O.out.cell 1 0 rfl rfl; have o1 := O.out.cell 1 1 rfl rfl; have o2 := O.out.cell 1 2 rfl rfl
  generalize w.heap.size + 1 = cb at *
  generalize hob : w.heap.size = ob at *
  have HB := Lib.hid hob
  clear hob
  generalize hmb : v.heap.size = mb at *
  have HM := Lib.hid hmb
  have HS := Lib.hid (fun (u : World) (hu : u.heap.size = mb) => (hu ▸ sums_any cb u))
  clear hmb
  go_region_held3 (fun w' => w'.cell? ⟨ob, 0, none⟩ = some (.int .i64 4)) (go_keep) ((go_at_call 24; refine (HS.out v.drew HM.out).mono ?_; rintro e v2 ⟨rfl, M, G⟩; have G2 := Lib.hid (show World.grownBy v _ none from gb_trans (gb_drew (gb_refl v none)) G.out); have hl := M.out.hit Try.underlying3 Try.underlying52 (zeroF _) (by decide) HF.out; simp only [bd] at hl; have o0 := G2.out.cell o0 (by simp)))
  have o1 := G2.out.cell o1 (by simp)
  have o2 := G2.out.cell o2 (by simp)
  have KK := Lib.hid (K.out.grown G2.out)
  have GG := Lib.hid (gb_trans O.out.grow G2.out)
  clear M G K O
  go_wp2_with fail
  refine (add_any _ _ cb s 0 (fun _ => 0) none 4 o a (by first | exact KK.out | exact KK.out.drew | exact KK.out.drewN _)).mono ?_
  rintro e v3 ⟨rfl, K3, C3⟩
  obtain ⟨c0, f0⟩ := K3.out.cell0
  go_wp2
  go_ret
  refine ⟨rfl, ?_⟩
  have hb := KK.out.base_le
  have hb2 := HB.out
  exact ⟨C3.out.os.trans GG.out.os, C3.out.tape.trans GG.out.tape, C3.out.output.trans GG.out.output, Nat.le_trans GG.out.size C3.out.size, fun i hi _ => (C3.out.block i (Nat.lt_of_lt_of_le hi GG.out.size) (by omega) (by simp)).trans (GG.out.block i hi (by simp))⟩

theorem sum_any (k o a s : Int) (hk : (Lit.int .i64 k).wf = true) (w : World) : Calls Try.prog 15 #[.agg #[.int .i64 k, .int .i64 o, .int .i64 a], .int .i64 s] w fun e w' => e = .returned (.int .i64 (sumI k a s)) ∧ Hid (w.grownBy w' none) := by
  by_cases h3 : k = 3
  · subst h3
    exact sum_set o a s w
  by_cases h4 : k = 4
  · subst h4
    exact sum_add o a s w
  have h := sum_other k o a s h3 h4 hk w
  rw [show sumI k a s = s by simp [sumI, h3, h4]]
  exact h
end Go.Proofs.Ytjajhkgbhckdeaa.lg
