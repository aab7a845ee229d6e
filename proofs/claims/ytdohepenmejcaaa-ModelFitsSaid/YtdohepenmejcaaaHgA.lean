/- A try on its way: an access is put behind all others. -/
import Derived.Test.YtdohepenmejcaaaHg
namespace Go.Proofs.Ytdohepenmejcaaa.hs
open Go Go.RowKit Go.Proofs.Ytdohepenmejcaaa.base Go.Maps
set_option linter.unusedVariables false
set_option maxRecDepth 100000

theorem infoAcc : (Try.prog.info? 54).map (fun i => (i.zero, i.size, i.bytes)) = some (some (.agg #[.int .i64 0, .int .i64 0, .int .i64 0, .int .i64 0, .bool false, .bool false]), 6, 40) := by kernel_rfl

set_option maxHeartbeats 60000000 in
theorem access_any (w : World) (F : Nat → Prop) (b : Nat) (t : Tr) (W : Int → Bool) (R : Int → List Nat) (N : Nat) (pl : Int) (e : Ev) (own : Bool) (h : Gng w F b t W R N) (hm : t.ac.length < 1000000) :
    Calls Try.prog 65 #[.pointer (some ⟨b, 0, none⟩), .int .i64 pl, .agg #[.int .i64 e.k, .int .i64 e.th, .int .i64 e.tx, .int .i64 e.at_, .int .i64 e.ob, .int .i64 e.va, .int .i64 e.re], .bool own] w fun r w' => r = .returned (.tuple #[]) ∧ Hid (Gng w' (Up F w w') b { t with ac := t.ac ++ [⟨pl, e.k, e.ob, e.va, own, false⟩] } W R N) ∧ Hid (Only F w w') := by
  obtain ⟨v0, wm, rm, rd, h0⟩ := h
  obtain ⟨a, c, rfl⟩ := owns_slice h0.row
  obtain ⟨i0, hi0, hz00, hz10, hz20⟩ := info_parts infoAcc
  have hi := Lib.hid hi0
  have hz0 := Lib.hid hz00
  have hz1 := Lib.hid hz10
  have hz2 := Lib.hid hz20
  have H := Lib.hid h0
  have EB := Lib.hid (Blk.made w 58 #[.int .i64 e.k, .int .i64 e.th, .int .i64 e.tx, .int .i64 e.at_, .int .i64 e.ob, .int .i64 e.va, .int .i64 e.re])
  have GA := Lib.hid (World.grownBy_alloc w (.cells #[.int .i64 e.k, .int .i64 e.th, .int .i64 e.tx, .int .i64 e.at_, .int .i64 e.ob, .int .i64 e.va, .int .i64 e.re] 58) none)
  clear h0 hi0 hz00 hz10 hz20
  go_enter Try.func65, Try.ntmps65
  go_upto_region 1 with fail
  generalize w.alloc _ = v at *
  generalize hp : w.heap.size = p at *
  have P := Lib.hid hp
  clear hp
  have B2 := Lib.hid (H.out.blk.grown GA.out (by simp))
  have O2 := Lib.hid (ownsRow_keep H.out.row (fun k e => GA.out.block k (H.out.row.lt k e).2 (by simp)))
  have c8 : v.cell? ⟨b, 8, none⟩ = some (.slice a t.ac.length c) := B2.out.cell 8
  have e0 : v.cell? ⟨p, 0, none⟩ = some (.int .i64 e.k) := EB.out.cell 0
  have e4 : v.cell? ⟨p, 4, none⟩ = some (.int .i64 e.ob) := EB.out.cell 4
  have e5 : v.cell? ⟨p, 5, none⟩ = some (.int .i64 e.va) := EB.out.cell 5
  have bl := B2.out.lt
  have pl0 := EB.out.lt
  go_wp2_with fail
  have hbp : b ≠ p := by have := P.out; have := H.out.blk.lt; omega
  go_region_law ((refine step_append_at rfl (.tmp 13) (.tmp 23) 31 rfl 0 54 i0 (.agg #[.int .i64 0, .int .i64 0, .int .i64 0, .int .i64 0, .bool false, .bool false]) 6 40 Try.underlying31 hi.out hz0.out hz1.out hz2.out rfl (by decide) (.slice a t.ac.length c) t.ac.length (rows accC t.ac) (by simp [Act.eval]) ((O2.out.alloc _).drew) ⟨v.heap.size, 0, none⟩ 1 1 (accC ⟨pl, e.k, e.ob, e.va, own, false⟩) (by simp [Act.eval]) rfl (new_cells v.drew _ _) (accC_one [⟨pl, e.k, e.ob, e.va, own, false⟩]) (by unfold maxLen; omega) (by omega) (by simp) (by decide) ?_; intro g' c' w1 ho1 hg1 hv1; have BX := Lib.hid (((B2.out.alloc (.cells ⟨accC ⟨pl, e.k, e.ob, e.va, own, false⟩⟩ 54)).drew).grown hg1 (by intro h9; have := (H.out.v_ne _ h9.symm).1; exact this rfl)); have c2 : w1.cell? ⟨b, 8, none⟩ = some (.slice a t.ac.length c) := BX.out.cell 8; have f2 := BX.out.free 8; have EX := ((EB.out.alloc (.cells ⟨accC ⟨pl, e.k, e.ob, e.va, own, false⟩⟩ 54)).drew).grown hg1 (by intro h9; have := H.out.v_lt _ h9.symm; have := P.out; omega); have x0 : w1.cell? ⟨p, 0, none⟩ = some (.int .i64 e.k) := EX.cell 0; have x4 : w1.cell? ⟨p, 4, none⟩ = some (.int .i64 e.ob) := EX.cell 4; have x5 : w1.cell? ⟨p, 5, none⟩ = some (.int .i64 e.va) := EX.cell 5; clear EX; have HO := Lib.hid ho1; have HG := Lib.hid hg1; have HV := Lib.hid hv1; clear ho1 hg1 hv1))
  all_goals
    go_wp2
    (first | go_end0 | refine bodyPost_ret (results_none rfl _ _ _) rfl ?_)
    have hbl : t.ac.length + 1 = (t.ac ++ [(⟨pl, e.k, e.ob, e.va, own, false⟩ : Acc)]).length := by simp
    have hON : Only (fun k => k = b ∨ (Value.slice a t.ac.length c).ownBlock = some k) w w1 := (Only.none GA.out).trans (Only.of (gb_trans (gb_drew (gb_alloc (gb_refl v _) _)) HG.out) (fun k e1 _ => .inr e1))
    obtain ⟨g1, g2⟩ := H.out.change (t' := { t with ac := t.ac ++ [⟨pl, e.k, e.ob, e.va, own, false⟩] }) (v' := .slice (some ⟨g', 0, none⟩) (t.ac.length + 1) c') (hON.trans (Only.of (gb_setB (gb_refl w1 _) (.slice (some ⟨g', 0, none⟩) (t.ac.length + 1) c')) (fun k e1 _ => .inl (by cases e1; rfl)))) (BX.out.set 8 _) (by
      rw [← hbl, show rows accC (t.ac ++ [⟨pl, e.k, e.ob, e.va, own, false⟩]) = rows accC t.ac ++ accC ⟨pl, e.k, e.ob, e.va, own, false⟩ from rows_snoc _ _]
      refine ownsRow_keep HO.out (fun k e1 => Below.heap_setCell _ _ _ _ ?_)
      cases e1
      rcases HV.out with h | h
      · exact (H.out.v_ne _ h.symm).1
      · have h1 := H.out.blk.lt
        have h2 := GA.out.size
        simp at h
        show g' ≠ b
        omega) (by
      rcases HV.out with h | h
      · exact .inl h
      · have h2 := GA.out.size
        simp at h
        exact .inr ⟨g', rfl, by omega⟩)
    exact ⟨rfl, ⟨_, _, _, _, g1⟩, g2⟩
end Go.Proofs.Ytdohepenmejcaaa.hs
