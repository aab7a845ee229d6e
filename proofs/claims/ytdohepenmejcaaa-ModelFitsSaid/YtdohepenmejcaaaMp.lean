/- The law's plain: a try as the document's. -/
import Derived.Test.YtdohepenmejcaaaMa
import Derived.Test.YtdohepenmejcaaaHx
import Derived.Deep.CutRange
import Derived.Deep.DeepCutAuto
namespace Go.Proofs.Ytdohepenmejcaaa.md
open Go Go.RowKit Go.Proofs.Ytdohepenmejcaaa.base Go.Proofs.Ytdohepenmejcaaa.hs Go.Proofs.Ytdohepenmejcaaa.lg Go.Maps
set_option linter.unusedVariables false
set_option maxRecDepth 100000

theorem infoAccP : (Try.prog.info? 65).map (fun i => (i.zero, i.size, i.bytes)) = some (some (.agg #[.int .i64 0, .int .i64 0, .int .i64 0, .int .i64 0, .bool false, .bool false]), 6, 40) := by kernel_rfl

set_option maxHeartbeats 2000000 in
theorem plain_any (t : Tr) (av : Option Addr) (ac : Nat) (w : World) (hl : IsL accC w av t.ac) (hm : t.ac.length ≤ 100000) :
    Calls Try.prog 15 #[.agg ⟨trC t (.slice av t.ac.length ac)⟩] w fun r w' => ∃ va vc, r = .returned (.agg ⟨trC t (.slice va t.ac.length vc)⟩) ∧ Hid (IsL accC w' va t.ac) ∧ Hid (w.grownBy w' none) := by
  have HL := Lib.hid hl
  clear hl
  obtain ⟨i0, hi0, hz00, hz10, hz20⟩ := info_parts infoAccP
  have hi := Lib.hid hi0
  have hz0 := Lib.hid hz00
  have hz1 := Lib.hid hz10
  have hz2 := Lib.hid hz20
  clear hi0 hz00 hz10 hz20
  show Calls Try.prog 15 #[.agg #[.int .i64 t.th, .int .i64 t.tx, .int .i64 t.at_, .int .i64 t.st, .int .i64 t.b, .int .i64 t.en, .int .i64 t.re, .bool t.co, .slice av t.ac.length ac]] w _
  have O0 := Lib.hid ((((base.Own.start w).alloc 33 [.int .i64 t.th, .int .i64 t.tx, .int .i64 t.at_, .int .i64 t.st, .int .i64 t.b, .int .i64 t.en, .int .i64 t.re, .bool t.co, .slice av t.ac.length ac]).alloc 36 [.int .i64 0, .int .i64 0, .int .i64 0, .int .i64 0, .int .i64 0, .int .i64 0, .int .i64 0, .bool false, .slice none 0 0]).alloc 36 [.int .i64 t.th, .int .i64 t.tx, .int .i64 t.at_, .int .i64 t.st, .int .i64 t.b, .int .i64 t.en, .int .i64 t.re, .bool t.co, .slice none 0 0])
  simp only [size_alloc] at O0
  go_enter Try.func15, Try.ntmps15
  go_wp2
  generalize (((w.alloc _).alloc _).alloc _) = w1 at *
  generalize w.heap.size + 1 + 1 = bv at *
  generalize w.heap.size + 1 = br at *
  generalize w.heap.size = bt at *
  go_loopw [4] (fun iv wr => ∃ (k : Nat) (l : List Acc) (va : Option Addr) (vc : Nat) (L : Blks), k ≤ t.ac.length ∧ iv = .int .i64 k ∧ Hid (l = t.ac.take k) ∧ Hid (l.length = k) ∧ Hid (Row accC 6 65 l (.slice va l.length vc) L) ∧ Hid (base.Own w wr ((bv, 36, [.int .i64 t.th, .int .i64 t.tx, .int .i64 t.at_, .int .i64 t.st, .int .i64 t.b, .int .i64 t.en, .int .i64 t.re, .bool t.co, .slice va l.length vc]) :: (br, 36, [.int .i64 0, .int .i64 0, .int .i64 0, .int .i64 0, .int .i64 0, .int .i64 0, .int .i64 0, .bool false, .slice none 0 0]) :: (bt, 33, [.int .i64 t.th, .int .i64 t.tx, .int .i64 t.at_, .int .i64 t.st, .int .i64 t.b, .int .i64 t.en, .int .i64 t.re, .bool t.co, .slice av t.ac.length ac]) :: L))) (fun iv _ => (t.ac.length - intOf iv).toNat)
  case atStart => exact ⟨0, [], none, 0, [], by omega, rfl, rfl, rfl, Row.nil, O0⟩
  case round =>
    obtain ⟨k, l, va, vc, L, hk, rfl, HLK, HLL, HRA, HO⟩ := hrel
    clear O0
    have x0 := HO.out.cell 0 0 rfl rfl; have x1 := HO.out.cell 0 1 rfl rfl; have x2 := HO.out.cell 0 2 rfl rfl; have x3 := HO.out.cell 0 3 rfl rfl; have x4 := HO.out.cell 0 4 rfl rfl; have x5 := HO.out.cell 0 5 rfl rfl; have x6 := HO.out.cell 0 6 rfl rfl; have x7 := HO.out.cell 0 7 rfl rfl; have x8 := HO.out.cell 0 8 rfl rfl; have y0 := HO.out.cell 1 0 rfl rfl; have y1 := HO.out.cell 1 1 rfl rfl; have y2 := HO.out.cell 1 2 rfl rfl; have y3 := HO.out.cell 1 3 rfl rfl; have y4 := HO.out.cell 1 4 rfl rfl; have y5 := HO.out.cell 1 5 rfl rfl; have y6 := HO.out.cell 1 6 rfl rfl; have y7 := HO.out.cell 1 7 rfl rfl; have y8 := HO.out.cell 1 8 rfl rfl; have z0 := HO.out.cell 2 0 rfl rfl; have z1 := HO.out.cell 2 1 rfl rfl; have z2 := HO.out.cell 2 2 rfl rfl; have z3 := HO.out.cell 2 3 rfl rfl; have z4 := HO.out.cell 2 4 rfl rfl; have z5 := HO.out.cell 2 5 rfl rfl; have z6 := HO.out.cell 2 6 rfl rfl; have z7 := HO.out.cell 2 7 rfl rfl; have z8 := HO.out.cell 2 8 rfl rfl
    by_cases hlt : k < t.ac.length
    · have hlt' : (k : Int) < (t.ac.length : Int) := by omega
      have hk6 : (k : Int) < 1000000 := by omega
      have hgk := List.getElem?_eq_getElem hlt
      obtain ⟨b1, o1, rfl, hb1, c0, c1, c2, c3, c4, c5⟩ := acc6 (HL.out.grown HO.out.grow) hgk
      have HT := Lib.hid (show t.ac.take (k + 1) = t.ac.take k ++ [t.ac[k]] by rw [List.take_add_one, hgk]; rfl)
      generalize t.ac[k] = yy at *
      obtain ⟨pl, ak, ob, avl, own, rel⟩ := yy
      dsimp only at c0 c1 c2 c3 c4 c5
      clear hgk
      have hll : l.length ≤ 100000 := by have := HLL.out; omega
      go_upto_region 6 with fail
      have O1 := Lib.hid (HO.out.alloc 54 [.int .i64 pl, .int .i64 ak, .int .i64 ob, .int .i64 avl, .bool own, .bool rel])
      generalize wr.alloc _ = w2 at *
      generalize wr.heap.size = ba at *
      clear HO x0 x1 x2 x3 x4 x5 x6 x7 x8 y0 y1 y2 y3 y4 y5 y6 y7 y8 z0 z1 z2 z3 z4 z5 z6 z7 z8 c0 c1 c2 c3 c4 c5
      have a0 := O1.out.cell 0 0 rfl rfl; have a1 := O1.out.cell 0 1 rfl rfl; have a2 := O1.out.cell 0 2 rfl rfl; have a3 := O1.out.cell 0 3 rfl rfl; have a4 := O1.out.cell 0 4 rfl rfl; have a5 := O1.out.cell 0 5 rfl rfl; have x0 := O1.out.cell 1 0 rfl rfl; have x1 := O1.out.cell 1 1 rfl rfl; have x2 := O1.out.cell 1 2 rfl rfl; have x3 := O1.out.cell 1 3 rfl rfl; have x4 := O1.out.cell 1 4 rfl rfl; have x5 := O1.out.cell 1 5 rfl rfl; have x6 := O1.out.cell 1 6 rfl rfl; have x7 := O1.out.cell 1 7 rfl rfl; have x8 := O1.out.cell 1 8 rfl rfl
      have HOWN := Lib.hid (HRA.out.owns accC_len (own_flip (A := [_, _, _, _]) O1.out))
      have hsz := O1.out.grow.size
      go_wp2_with (first | (at_builtin; refine wpList_append_at _ rfl (.tmp 36) (.tmp 50) 34 rfl w.heap.size 65 i0 (.agg #[.int .i64 0, .int .i64 0, .int .i64 0, .int .i64 0, .bool false, .bool false]) 6 40 Try.underlying34 hi.out hz0.out hz1.out hz2.out rfl (by decide) (.slice va l.length vc) l.length (rows accC l) rfl (HOWN.out.alloc _) ⟨w2.heap.size, 0, none⟩ 1 1 (accC (⟨pl, ak, ob, avl, own, rel⟩ : Acc)) rfl rfl (new_cells w2 _ _) (by intro u hu; simp [accC] at hu; rcases hu with rfl | rfl | rfl | rfl | rfl | rfl <;> rfl) (by unfold maxLen; omega) (by omega) (by simp; omega) (by decide) ?_; intro g' c' w5 ho hg hv; obtain ⟨L3, r1, r2⟩ := base.Row.snoc (x := (⟨pl, ak, ob, avl, own, rel⟩ : Acc)) HRA.out (own_flip (A := [_, _, _, _]) O1.out) (World.grownBy_alloc w2 _ none) ho hg hv; have R1 := Lib.hid r1; have R2 := Lib.hid (own_flip (B := [_, _, _, _]) r2); have c8 := R2.out.cell 1 8 rfl rfl; have f8 := R2.out.free 1 8 rfl; clear ho hg hv r1 r2) | go_in)
      go_roundw
      case rel => exact ⟨k + 1, l ++ [(⟨pl, ak, ob, avl, own, rel⟩ : Acc)], some ⟨g', 0, none⟩, c', L3, by omega, by go_num, by show _ = _; rw [HT.out, HLK.out], by show _ = _; rw [List.length_append, HLL.out]; rfl, by rw [List.length_append]; exact R1, by rw [List.length_append]; exact (R2.out.set 1 8 (.slice (some ⟨g', 0, none⟩) (l.length + 1) c') rfl).drop (List.Sublist.cons _ (List.Sublist.refl _))⟩
      case measure => simp [intOf]; omega
    · obtain rfl : k = t.ac.length := by omega
      have hl := HLK.out
      rw [List.take_length] at hl
      subst hl
      have f0 := HO.out.free 1 0 rfl; have f1 := HO.out.free 1 1 rfl; have f2 := HO.out.free 1 2 rfl; have f3 := HO.out.free 1 3 rfl; have f4 := HO.out.free 1 4 rfl; have f5 := HO.out.free 1 5 rfl; have f6 := HO.out.free 1 6 rfl; have f7 := HO.out.free 1 7 rfl; have f8 := HO.out.free 1 8 rfl
      have lt1 := HO.out.lt 1 rfl
      have lt2 := HO.out.lt 0 rfl
      have X0 := HO.out.set 1 0 (.int .i64 t.th) rfl
      have X1 := X0.set 1 1 (.int .i64 t.tx) rfl
      have X2 := X1.set 1 2 (.int .i64 t.at_) rfl
      have X3 := X2.set 1 3 (.int .i64 t.st) rfl
      have X4 := X3.set 1 4 (.int .i64 t.b) rfl
      have X5 := X4.set 1 5 (.int .i64 t.en) rfl
      have X6 := X5.set 1 6 (.int .i64 t.re) rfl
      have X7 := X6.set 1 7 (.bool t.co) rfl
      have X8 := X7.set 1 8 (.slice va t.ac.length vc) rfl
      have Y0 := Lib.hid (X0.cell 1 0 rfl rfl)
      have Y1 := Lib.hid (X1.cell 1 1 rfl rfl)
      have Y2 := Lib.hid (X2.cell 1 2 rfl rfl)
      have Y3 := Lib.hid (X3.cell 1 3 rfl rfl)
      have Y4 := Lib.hid (X4.cell 1 4 rfl rfl)
      have Y5 := Lib.hid (X5.cell 1 5 rfl rfl)
      have Y6 := Lib.hid (X6.cell 1 6 rfl rfl)
      have Y7 := Lib.hid (X7.cell 1 7 rfl rfl)
      have Y8 := Lib.hid (X8.cell 1 8 rfl rfl)
      have XX := Lib.hid X8
      clear X0 X1 X2 X3 X4 X5 X6 X7 X8
      go_wp2
      refine bodyPost_ret (v := .agg #[.int .i64 t.th, .int .i64 t.tx, .int .i64 t.at_, .int .i64 t.st, .int .i64 t.b, .int .i64 t.en, .int .i64 t.re, .bool t.co, .slice va t.ac.length vc]) (by simp [results, Try.results15, go_sem, Y0.out, Y1.out, Y2.out, Y3.out, Y4.out, Y5.out, Y6.out, Y7.out, Y8.out]) rfl ?_
      obtain ⟨a5, c5, e5, H5⟩ := HRA.out.isL accC_len (own_flip (A := [_, _, _]) XX.out)
      cases e5
      exact ⟨va, ⟨vc, rfl⟩, H5, XX.out.grow⟩
end Go.Proofs.Ytdohepenmejcaaa.md
