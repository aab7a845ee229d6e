/- The tries that are asked for: hist's told. -/
import Derived.Test.YtdohepenmejcaaaHs
import Derived.Shelf.AbstractIn
namespace Go.Proofs.Ytdohepenmejcaaa.hs
open Go Go.RowKit Go.Proofs.Ytdohepenmejcaaa.base Go.Maps Go.Shelf Go.Lib Go.Sort
set_option linter.unusedVariables false
set_option maxRecDepth 100000
attribute [local go_sem] Oper.semAt_some

/-- The tries, and their accesses, lie in blocks from B on. -/
def NewT (B : Nat) (a : Option Addr) (ys : List (Tr × Value)) : Prop := (∀ b off, a = some ⟨b, off, none⟩ → B ≤ b) ∧ ∀ x ∈ ys, ∀ k, x.2.ownBlock = some k → B ≤ k

set_option maxHeartbeats 4000000 in
theorem told_right (w0 w : World) (a : Option Addr) (len cap : Nat) (e : Evs) (hl : IsEvs w0 a len e) (hB : Below w0.heap.size w0 w) (hr : right e len = true) (hlen : len ≤ 10000) (gw : Nat) (cw : Array Value) (p : Tr → Bool) (Cap : List (Nat × TypeId × List Value)) (hCap : ∀ x ∈ Cap, x.2.1 = 3 ∧ w0.heap.size ≤ x.1 ∧ Blk x.2.1 w x.1 ⟨x.2.2⟩) (hw : Wants Cap gw cw p) (go : Nat) (f : Tr → Int) (hgo : Orders go f) :
    Calls Try.prog 45 #[.slice a len cap, .func (.func gw) #[] cw, .func (.func go) #[] #[]] w fun r w' => ∃ a c ys, r = .returned (.slice a ys.length c) ∧ Hid (IsTries w' a ys) ∧ Hid ((ys.map Prod.fst).Perm ((tries e len).filter p)) ∧ Hid ((ys.map Prod.fst).Pairwise (fun x y => ¬ f y < f x)) ∧ Hid (Below w0.heap.size w0 w') ∧ Hid (NewT w0.heap.size a ys) := by
  have HL := Lib.hid hl
  have HB := Lib.hid hB
  have HLEN := Lib.hid hlen
  have HW := Lib.hid hw
  have HC := Lib.hid hCap
  have HRT := Lib.hid hr
  have HGO := Lib.hid hgo
  obtain ⟨eg, wt⟩ := hw
  have WT := Lib.hid wt
  obtain ⟨i0, hi0, hz00, hz10, hz20⟩ := info_parts infoTry
  have hi := Lib.hid hi0
  have hz0 := Lib.hid hz00
  have hz1 := Lib.hid hz10
  have hz2 := Lib.hid hz20
  clear hl hlen hCap hr hB wt hgo hi0 hz00 hz10 hz20
  refine (callsIn_wide (n := 5)).1 ?_
  refine callsIn_of_wp_marks Try.func45 rfl trivial ?_ rfl
  simp only [Try.ntmps45, List.size_toArray, List.length_cons, List.length_nil, Nat.reduceAdd, Nat.reduceSub, Array.replicate_succ, Array.replicate_zero, List.push_toArray, List.append_toArray, List.nil_append, List.cons_append]
  have GA := Lib.hid (World.grownBy_alloc w (.cells #[.func (.func gw) #[] cw] 94) none)
  have BW := Lib.hid (Blk.made w 94 #[.func (.func gw) #[] cw])
  gi_wp2_with (first | (refine ⟨trivial, ?_⟩; gi_at_call 23; refine (callsIn_wide.2 (right_any a len cap e _ ((HL.out.below HB.out (Nat.le_refl _)).grown GA.out) (by have := HLEN.out; omega))).mono ?_; rw [HRT.out]; rintro r u1 ⟨rfl, g1⟩) | gi_in)
  have G1 := Lib.hid (gb_trans GA.out g1.out)
  have BW1 := Lib.hid (BW.out.grown g1.out (by simp))
  have BT := Lib.hid (Blk.made u1 73 #[.slice none 0 0])
  have G2 := Lib.hid (gb_alloc G1.out (.cells #[.slice none 0 0] 73))
  have BW2 := Lib.hid (BW1.out.alloc (.cells #[.slice none 0 0] 73))
  have HSZ := Lib.hid (show u1.heap.size < (u1.alloc (.cells #[.slice none 0 0] 73)).heap.size by simp)
  have HW1 := Lib.hid (show w.heap.size < u1.heap.size by have := g1.out.size; simp at this; omega)
  generalize u1.alloc (.cells #[.slice none 0 0] 73) = u2 at *
  generalize u1.heap.size = bt at *
  clear g1 G1 GA BW BW1
  refine wpIn_range_take rfl (by omega) (gf := 50) (bnd := #[.slice a len cap]) (lb := #[]) rfl trivial (enters_of Try.func50 (by kernel_rfl) rfl) ?_
  intro fn hfn rec hrec
  have HREC := Lib.hid hrec
  clear hrec
  have HT : Takes 3 (u2.heap.size + 1) (JT (u2.heap.size + 1) u2.heap.size rec w.heap.size (.func (.func gw) #[] cw) bt Cap p) := by
    intro pre t v W Fc G hJ hrow hvG hd hGl hFl hac hpre
    obtain ⟨va, vc, rfl⟩ := owns_slice hrow
    obtain ⟨ya, yc, J⟩ := hJ
    have HJ := Lib.hid J
    have HROW := Lib.hid hrow
    have HVG := Lib.hid hvG
    have HD := Lib.hid hd
    have HGL := Lib.hid hGl
    have FLT : Hid (∀ k, Fc k → k < W.heap.size) := Lib.hid hFl
    show YieldAt Fence.wide 3 Try.prog _ #[.agg #[.int .i64 t.th, .int .i64 t.tx, .int .i64 t.at_, .int .i64 t.st, .int .i64 t.b, .int .i64 t.en, .int .i64 t.re, .bool t.co, .slice va t.ac.length vc]] W _
    refine yield_take HREC.out J.loop.1 rfl hfn ?_
    clear J hrow hvG hd hGl hFl
    gi_wp2
    refine ⟨(Below.heap_alloc W _ _ (FLT.out _ HJ.out.fl)).trans HJ.out.loop.1, ?_⟩
    obtain ⟨W4, hW4⟩ : ∃ W4, W4 = (W.alloc (.cells #[.int .i64 t.th, .int .i64 t.tx, .int .i64 t.at_, .int .i64 t.st, .int .i64 t.b, .int .i64 t.en, .int .i64 t.re, .bool t.co, .slice va t.ac.length vc] 33)).putObj (u2.heap.size + 1) (.loop { rec with state := .busy }) := ⟨_, rfl⟩
    rw [← hW4]
    have lt1 := FLT.out _ HJ.out.fl
    have K4 : Hid (∀ k, k < W.heap.size → k ≠ u2.heap.size + 1 → W4.heap[k]? = W.heap[k]?) := Lib.hid (fun k hk hne => by rw [hW4, World.putObj_heap_other hne]; exact Below.heap_alloc W _ k hk)
    have TB : Hid (Blk 33 W4 W.heap.size #[.int .i64 t.th, .int .i64 t.tx, .int .i64 t.at_, .int .i64 t.st, .int .i64 t.b, .int .i64 t.en, .int .i64 t.re, .bool t.co, .slice va t.ac.length vc]) := Lib.hid (by
      show W4.heap[_]? = _
      rw [hW4, World.putObj_heap_other (by omega)]
      exact Blk.made W _ _)
    have L4 : Hid (W4.heap[u2.heap.size + 1]? = some (.loop { rec with state := .busy })) := Lib.hid (by rw [hW4]; exact World.putObj_heap_same (by simp; omega))
    have S4 : Hid (W4.heap.size = W.heap.size + 1) := Lib.hid (by rw [hW4]; simp)
    have O4 : Hid (W4.os = W.os ∧ W4.tape = W.tape ∧ W4.output = W.output) := Lib.hid (by rw [hW4]; exact ⟨rfl, rfl, rfl⟩)
    have ncl : ∀ k ty cs, W.heap[k]? = some (.cells cs ty (0, 0)) → k ≠ u2.heap.size + 1 := fun k ty cs hk e => by
      have := HJ.out.loop.1
      rw [← e, hk] at this
      cases this
    have B4 := Lib.hid (HJ.out.box.keep (K4.out _ (FLT.out _ HJ.out.fbt) (ncl _ _ _ HJ.out.box)))
    have N4 := Lib.hid (HJ.out.wan.keep (K4.out _ (FLT.out _ HJ.out.fbw) (ncl _ _ _ HJ.out.wan)))
    have R4 := Lib.hid (ownsRow_keep HJ.out.row (fun k e => K4.out k (FLT.out _ (HJ.out.frow k e)) (by obtain ⟨cs, hc⟩ := ownsRow_type HJ.out.row e; exact ncl _ _ _ hc)))
    have C4 : Hid (∀ x ∈ Cap, Blk x.2.1 W4 x.1 ⟨x.2.2⟩) := Lib.hid (fun x hx => (HJ.out.cap x hx).1.keep (K4.out _ (FLT.out _ (HJ.out.cap x hx).2) (ncl _ _ _ (HJ.out.cap x hx).1)))
    clear hW4
    have n0 : W4.cell? ⟨w.heap.size, 0, none⟩ = some (.func (.func gw) #[] cw) := N4.out.cell 0
    have d0 : W4.cell? ⟨W.heap.size, 0, none⟩ = some (.int .i64 t.th) := TB.out.cell 0; have d1 : W4.cell? ⟨W.heap.size, 1, none⟩ = some (.int .i64 t.tx) := TB.out.cell 1; have d2 : W4.cell? ⟨W.heap.size, 2, none⟩ = some (.int .i64 t.at_) := TB.out.cell 2; have d3 : W4.cell? ⟨W.heap.size, 3, none⟩ = some (.int .i64 t.st) := TB.out.cell 3; have d4 : W4.cell? ⟨W.heap.size, 4, none⟩ = some (.int .i64 t.b) := TB.out.cell 4; have d5 : W4.cell? ⟨W.heap.size, 5, none⟩ = some (.int .i64 t.en) := TB.out.cell 5; have d6 : W4.cell? ⟨W.heap.size, 6, none⟩ = some (.int .i64 t.re) := TB.out.cell 6; have d7 : W4.cell? ⟨W.heap.size, 7, none⟩ = some (.bool t.co) := TB.out.cell 7; have d8 : W4.cell? ⟨W.heap.size, 8, none⟩ = some (.slice va t.ac.length vc) := TB.out.cell 8
    have OA : Hid (Only (fun k => k = u2.heap.size + 1) W W4) := Lib.hid ⟨O4.out.1, O4.out.2.1, O4.out.2.2, by rw [S4.out]; omega, fun k hk hn => K4.out k hk hn⟩
    obtain ⟨n, hn⟩ : ∃ n, n = (pre.filter fun x => p x.1).length := ⟨_, rfl⟩
    have HN := Lib.hid hn
    rw [← hn] at B4 R4
    have hn1 : n < 100000 := by rw [hn]; exact Nat.lt_of_le_of_lt (List.length_filter_le _ _) hpre
    clear hn
    cases hp : p t with
    | true =>
      have HP := Lib.hid hp
      gi_wp2_with (first | (refine ⟨trivial, ?_⟩; gi_at_fn gw; refine (CallsIn.inRound _ (callsIn_wide.2 (WT.out W4 t (.slice va t.ac.length vc) C4.out))).mono ?_; rw [HP.out]; rintro r u3 ⟨rfl, g3⟩; have B5 := Lib.hid (B4.out.grown g3.out (by simp)); have T5 := Lib.hid (TB.out.grown g3.out (by simp)); have R5 := Lib.hid (ownsRow_keep R4.out (fun k e => g3.out.block k (R4.out.lt k e).2 (by simp))); have L5 := Lib.hid ((g3.out.block _ (by rw [S4.out]; omega) (by simp)).trans L4.out); have b5 : u3.cell? ⟨bt, 0, none⟩ = some (.slice ya n yc) := B5.out.cell 0; have x0 : u3.cell? ⟨W.heap.size, 0, none⟩ = some (.int .i64 t.th) := T5.out.cell 0; have x1 : u3.cell? ⟨W.heap.size, 1, none⟩ = some (.int .i64 t.tx) := T5.out.cell 1; have x2 : u3.cell? ⟨W.heap.size, 2, none⟩ = some (.int .i64 t.at_) := T5.out.cell 2; have x3 : u3.cell? ⟨W.heap.size, 3, none⟩ = some (.int .i64 t.st) := T5.out.cell 3; have x4 : u3.cell? ⟨W.heap.size, 4, none⟩ = some (.int .i64 t.b) := T5.out.cell 4; have x5 : u3.cell? ⟨W.heap.size, 5, none⟩ = some (.int .i64 t.en) := T5.out.cell 5; have x6 : u3.cell? ⟨W.heap.size, 6, none⟩ = some (.int .i64 t.re) := T5.out.cell 6; have x7 : u3.cell? ⟨W.heap.size, 7, none⟩ = some (.bool t.co) := T5.out.cell 7; have x8 : u3.cell? ⟨W.heap.size, 8, none⟩ = some (.slice va t.ac.length vc) := T5.out.cell 8) | (gi_at_builtin; refine wpListIn_append_at _ rfl (.tmp 18) (.tmp 20) 73 rfl 0 33 i0 (.agg #[.int .i64 0, .int .i64 0, .int .i64 0, .int .i64 0, .int .i64 0, .int .i64 0, .int .i64 0, .bool false, .slice none 0 0]) 9 88 Try.underlying73 hi.out hz0.out hz1.out hz2.out rfl (by decide) (.slice ya n yc) n (rows tvC (pre.filter fun x => p x.1)) rfl (R5.out.alloc _) ⟨u3.heap.size, 0, none⟩ 1 1 (tvC (t, .slice va t.ac.length vc)) rfl rfl (new_cells u3 _ _) (by intro u hu; simp [tvC, trC] at hu; rcases hu with rfl | rfl | rfl | rfl | rfl | rfl | rfl | rfl | rfl <;> rfl) (by unfold maxLen; omega) (by omega) (by simp) (by decide) ?_; intro g' c' w5 ho hg hv; have nbt : Hid ((Value.slice ya n yc).ownBlock ≠ some bt) := Lib.hid (by intro e; obtain ⟨cs, hc⟩ := ownsRow_type R5.out e; have h9 := B5.out; unfold Blk at h9; rw [hc] at h9; injection h9 with h9; injection h9 with _ h9; exact absurd h9 (by decide)); have B6 := Lib.hid ((B5.out.alloc (.cells ⟨tvC (t, .slice va t.ac.length vc)⟩ 33)).grown hg (fun e => nbt.out e.symm)); have b6 : w5.cell? ⟨bt, 0, none⟩ = some (.slice ya n yc) := B6.out.cell 0; have f6 := B6.out.free 0; have HO := Lib.hid ho; have HG := Lib.hid hg; have HV := Lib.hid hv; clear ho hg hv) | gi_in)
      have hl5 : u2.heap.size + 1 < u3.heap.size := (Array.getElem?_eq_some_iff.1 L5.out).1
      have nl : ∀ k ty cs, u3.heap[k]? = some (.cells cs ty (0, 0)) → u2.heap.size + 1 ≠ k := fun k ty cs hk e => by
        have := L5.out
        rw [e, hk] at this
        cases this
      have nlb : u2.heap.size + 1 ≠ bt := nl _ _ _ B5.out
      have nlr : ∀ k, (Value.slice ya n yc).ownBlock = some k → u2.heap.size + 1 ≠ k := fun k e => by
        obtain ⟨cs, hc⟩ := ownsRow_type R5.out e
        exact nl _ _ _ hc
      have s35 := HG.out.size
      simp at s35
      have sW := OA.out.size
      have s3 := g3.out.size
      have L6 : (w5.setCell ⟨bt, 0, none⟩ (.slice (some ⟨g', 0, none⟩) (n + 1) c')).heap[u2.heap.size + 1]? = some (.loop { rec with state := .busy }) :=
        (Below.heap_setCell _ _ _ _ nlb).trans ((HG.out.block _ (by simp; omega) (by intro e; exact nlr _ e.symm rfl)).trans ((Below.heap_alloc u3 _ _ hl5).trans L5.out))
      have hgl : g' ≠ u2.heap.size + 1 := by
        rcases HV.out with h | h
        · exact fun e => nlr g' h.symm e.symm
        · simp at h; omega
      have hgb : g' ≠ bt := by
        rcases HV.out with h | h
        · exact fun e => nbt.out (by rw [← h, e])
        · have := B5.out.lt
          simp at h
          omega
      have OZ : Only (fun k => k = bt ∨ k = u2.heap.size + 1 ∨ (Value.slice ya n yc).ownBlock = some k) W ((w5.setCell ⟨bt, 0, none⟩ (.slice (some ⟨g', 0, none⟩) (n + 1) c')).putObj (u2.heap.size + 1) (.loop rec)) :=
        ((((OA.out.mono (fun k _ h => .inr (.inl h))).trans (Only.none (gb_alloc g3.out _))).trans (Only.of HG.out (fun k e _ => .inr (.inr e)))).trans (Only.of (gb_setB (gb_refl w5 _) _) (fun k e _ => .inl (by cases e; rfl)))).trans ((only_put _ _ _).mono (fun k _ h => .inr (.inl h)))
      have OZF : Only Fc W ((w5.setCell ⟨bt, 0, none⟩ (.slice (some ⟨g', 0, none⟩) (n + 1) c')).putObj (u2.heap.size + 1) (.loop rec)) := OZ.mono (fun k _ hk => by
        rcases hk with rfl | rfl | hk
        · exact HJ.out.fbt
        · exact HJ.out.fl
        · exact HJ.out.frow k (by rw [← HN.out]; exact hk))
      refine ⟨L6, fun k => Fc k ∨ G k ∨ (W.heap.size ≤ k ∧ k < w5.heap.size), jt_add (a := ya) (c := yc) (g := g') (c' := c') (fun x hx => (HC.out x hx).1) HJ.out HP.out ?_ (fun k e => .inr (.inl (HVG.out k e))) (by rw [← HN.out]; exact OZ) FLT.out ?_ ?_ (World.putObj_heap_same (by simp [World.setCell]; omega)) (fun k hk => .inl hk) ?_, fun k hk => hk, OZF⟩
      · exact ownsRow_keep HROW.out (fun k e => OZF.block k (HROW.out.lt k e).2 (fun hf => HD.out k hf (HVG.out k e)))
      · rw [← HN.out]
        exact (B6.out.set 0 (.slice (some ⟨g', 0, none⟩) (n + 1) c')).keep (World.putObj_heap_other (fun e => nlb e.symm))
      · rw [← HN.out]
        exact ownsRow_keep HO.out (fun k e => by cases e; exact (World.putObj_heap_other hgl).trans (Below.heap_setCell _ _ _ _ hgb))
      · rcases HV.out with h | h
        · exact .inl (HJ.out.frow g' (by rw [← HN.out]; exact h.symm))
        · exact .inr (.inr ⟨by simp at h; omega, (HO.out.lt g' rfl).2⟩)
    | false =>
      have HP := Lib.hid hp
      gi_wp2_with (first | (refine ⟨trivial, ?_⟩; gi_at_fn gw; refine (CallsIn.inRound _ (callsIn_wide.2 (WT.out W4 t (.slice va t.ac.length vc) C4.out))).mono ?_; rw [HP.out]; rintro r u3 ⟨rfl, g3⟩) | gi_in)
      have L5 := (g3.out.block _ (by rw [S4.out]; omega) (by simp)).trans L4.out
      have OZ : Only (fun k => k = u2.heap.size + 1) W (u3.putObj (u2.heap.size + 1) (.loop rec)) := (OA.out.trans (Only.none g3.out)).trans (only_put _ _ _)
      refine ⟨L5, fun k => Fc k ∨ G k ∨ (W.heap.size ≤ k ∧ k < u3.heap.size), jt_skip ⟨ya, yc, HJ.out⟩ HP.out (fun k hk => ?_) (fun k hk => .inl hk), fun k hk => hk, OZ.mono (fun k _ hk => by rw [hk]; exact HJ.out.fl)⟩
      by_cases he : k = u2.heap.size + 1
      · subst he
        rw [World.putObj_heap_same (Array.getElem?_eq_some_iff.1 L5).1]
        exact HJ.out.loop.1.symm
      · exact OZ.block k (FLT.out k hk) he
  have hW1 := HW1.out
  have hSZ := HSZ.out
  have HT2 := Lib.hid HT
  clear HT
  refine (tries_in 4 (by omega) (u2.heap.size + 1) a len cap e _ (jt_firm _ _ _ _ _ _ _ _) HT2.out w0 ((u2.alloc (.deferred (some []))).alloc (.loop rec)) HL.out HRT.out HLEN.out (fun k => (w.heap.size ≤ k ∧ k < u2.heap.size + 2) ∨ ∃ x ∈ Cap, x.1 = k)
    ⟨none, 0, ⟨(BT.out.alloc _).alloc _, World.ownsRow_nil _ _ _ _, by simp, (BW2.out.alloc _).alloc _, ⟨?_, ?_⟩, .inl ⟨by omega, by omega⟩, .inl ⟨by omega, by omega⟩, .inl ⟨by omega, by omega⟩, .inl ⟨by omega, by omega⟩, (by intro k e; cases e), (by simp), fun x hx => ⟨((HC.out x hx).2.2.grown (gb_alloc (gb_alloc G2.out _) _) (by simp)), .inr ⟨x, hx, rfl⟩⟩⟩⟩ ?_ ?_).mono ?_
  · have := World.alloc_heap_new (u2.alloc (.deferred (some []))) (.loop rec)
    rwa [World.size_alloc] at this
  · exact (Below.heap_alloc _ _ _ (by simp)).trans (World.alloc_heap_new u2 _)
  · rintro k (hk | ⟨x, hx, rfl⟩)
    · have := HB.out.size
      simp
      omega
    · have h1 := (HC.out x hx).2.2.lt
      exact ⟨(HC.out x hx).2.1, by simp; omega⟩
  · exact bl_none HB.out (gb_alloc (gb_alloc G2.out _) _)
  rintro r W' ⟨rfl, xs, Fc, rest, ⟨ya, yc, J⟩, hFc, hBel, hnd, hrest, hxs⟩
  refine ⟨⟨_, rfl⟩, J.loop, fun o' => ?_⟩
  have hperm : (xs.map Prod.fst).Perm (tries e len) := by
    rw [hxs]
    exact (all_perm e len HRT.out rest hnd hrest).map _
  obtain ⟨ys, hys⟩ : ∃ ys, ys = xs.filter fun x => p x.1 := ⟨_, rfl⟩
  have hp2 : (ys.map Prod.fst).Perm ((tries e len).filter p) := by
    rw [hys]
    have h3 := hperm.filter p
    rw [List.filter_map] at h3
    exact h3
  rw [← hys] at J
  have HPERM := Lib.hid hp2
  obtain ⟨W5, hW5⟩ : ∃ W5, W5 = W'.putObj (u2.heap.size + 1) o' := ⟨_, rfl⟩
  rw [← hW5]
  have hl5 : u2.heap.size + 1 < W'.heap.size := (Array.getElem?_eq_some_iff.1 J.loop.1).1
  have ncl : ∀ (k : Nat) (ty : TypeId) (cs : Array Value), W'.heap[k]? = some (.cells cs ty (0, 0)) → W5.heap[k]? = W'.heap[k]? := fun k ty cs hk => by
    rw [hW5]
    refine World.putObj_heap_other (fun e => ?_)
    have := J.loop.1
    rw [← e, hk] at this
    cases this
  have BT5 := Lib.hid (J.box.keep (ncl _ _ _ J.box))
  have RO5 := Lib.hid (ownsRow_keep J.row (fun k e => by obtain ⟨cs, hc⟩ := ownsRow_type J.row e; exact ncl _ _ _ hc))
  have AC5 : Hid (∀ x ∈ ys, W5.ownsRow 0 54 6 x.2 x.1.ac.length (rows accC x.1.ac)) := Lib.hid (fun x hx => ownsRow_keep (J.acc x hx) (fun k e => by obtain ⟨cs, hc⟩ := ownsRow_type (J.acc x hx) e; exact ncl _ _ _ hc))
  have BE5 : Hid (Below w0.heap.size w0 W5) := Lib.hid (by rw [hW5]; exact (only_put W' _ o').below hBel hBel.size (fun k hk => by rw [hk]; have := HB.out.size; omega))
  have HGB : Hid (∀ k, (Value.slice ya ys.length yc).ownBlock = some k → w0.heap.size ≤ k) := Lib.hid (fun k e => (hFc k (J.frow k e)).1)
  have HGA : Hid (∀ x ∈ ys, ∀ k, x.2.ownBlock = some k → w0.heap.size ≤ k) := Lib.hid (fun x hx k e => (hFc k (J.facc x hx k e)).1)
  have D5 : Hid (W5.heap[u2.heap.size]? = some (.deferred (some []))) := Lib.hid (by rw [hW5, World.putObj_heap_other (by omega)]; exact J.loop.2)
  have hlen2 : ys.length ≤ 10000 := by
    have h4 := hp2.length_eq
    rw [List.length_map] at h4
    rw [h4]
    refine Nat.le_trans (List.length_filter_le _ _) ?_
    unfold tries begins
    rw [List.length_map]
    refine Nat.le_trans (List.length_filter_le _ _) ?_
    rw [List.length_range]
    exact HLEN.out
  have t0 : W5.cell? ⟨bt, 0, none⟩ = some (.slice ya ys.length yc) := BT5.out.cell 0
  clear J hxs hrest hnd hperm hys hp2 hW5 ncl HT2 HREC
  have ldef : ∀ (k : Nat) (ty : TypeId) (cs : Array Value), W5.heap[k]? = some (.cells cs ty (0, 0)) → k ≠ u2.heap.size := fun k ty cs hk e => by
    have := D5.out
    rw [← e, hk] at this
    cases this
  have LDEF := Lib.hid ldef
  clear ldef
  cases hys : ys with
  | nil =>
    subst hys
    have hnil := fun fv W => AnyF.slices_SortFunc_none sortTryLaid ya yc fv W
    change ∀ fv W, Calls Try.prog 51 _ _ _ at hnil
    have t0' : W5.cell? ⟨bt, 0, none⟩ = some (.slice ya 0 yc) := t0
    have HNIL := Lib.hid hnil
    clear hnil t0
    gi_wp2_with (first | (refine ⟨trivial, ?_⟩; gi_at_call 51; refine (callsIn_wide.2 (HNIL.out _ _)).mono ?_; rintro r u7 ⟨rfl, rfl⟩) | gi_in)
    refine ⟨by simp, .inl ⟨_, _, rfl, run_takeDeferred D5.out, ?_⟩⟩
    exact ⟨_, results_tmp rfl _ _ _, ya, yc, [], rfl, ⟨.inl rfl, by simp⟩, HPERM.out, Lib.hid List.Pairwise.nil, (only_put _ _ _).below BE5.out BE5.out.size (fun k hk => by rw [hk]; have := HB.out.size; omega), ⟨fun b off e => HGB.out b (by rw [e]; rfl), by simp⟩⟩
  | cons y0 yt =>
    obtain ⟨g, rfl⟩ : ∃ g, ya = some ⟨g, 0, none⟩ := by
      rcases RO5.out.2 with ⟨_, h⟩ | ⟨g, _, _, h, _⟩
      · rw [hys] at h; cases h
      · injection h with h; exact ⟨g, h⟩
    have HH := holdsK_of (fun x hx => by obtain ⟨a, c, h⟩ := owns_slice (AC5.out x hx); exact ⟨a, _, c, h⟩) rfl RO5.out
    have hgl := (RO5.out.lt g rfl).2
    have hcon := AnyQ.slices_SortFunc sortTryLaid 9 aggTry sizeTry encT encT_len encT_one (fun x y : Tr × Value => Lib.compareInt (f x.1) (f y.1)) (swo_cmp (fun x : Tr × Value => f x.1)) go #[] g 0 yc ys.toArray W5 HGO.out.1 (HGO.out.2 _ _ _ _) HH hgl (by simp; omega)
    change Calls Try.prog 51 _ _ _ at hcon
    rw [List.size_toArray] at hcon
    have HCON := Lib.hid hcon
    have HHH := Lib.hid HH
    clear hcon HH hys
    gi_wp2_with (first | (refine ⟨trivial, ?_⟩; gi_at_call 51; refine (callsIn_wide.2 HCON.out).mono ?_; rintro r u7 ⟨rfl, d', nn, os, hpi, hso, rfl⟩; have hq := sortW_only (w := W5) (g := g) (n := nn) (d := d') (os := os); have t1 := (BT5.out.keep (hq.block bt BT5.out.lt (fun e => by obtain ⟨cs, hc⟩ := ownsRow_type RO5.out (k := g) rfl; have h9 := BT5.out; unfold Blk at h9; rw [e, hc] at h9; injection h9 with h9; injection h9 with _ h9; exact absurd h9 (by decide)))).cell 0; have t1' : (sortWorldK encT 9 W5 g 0 nn d' os).cell? ⟨bt, 0, none⟩ = some (.slice (some ⟨g, 0, none⟩) ys.length yc) := t1; have HPI := Lib.hid hpi; have HSO := Lib.hid hso; have HQ := Lib.hid hq; clear hpi hso hq t1) | gi_in)
    have hgd : g ≠ u2.heap.size := by
      obtain ⟨cs, hc⟩ := ownsRow_type RO5.out (k := g) rfl
      exact LDEF.out _ _ _ hc
    have hDl : u2.heap.size < W5.heap.size := (Array.getElem?_eq_some_iff.1 D5.out).1
    have hD7 : (sortWorldK encT 9 W5 g 0 nn d' os).heap[u2.heap.size]? = some (.deferred (some [])) := (HQ.out.block _ hDl (fun e => hgd e.symm)).trans D5.out
    refine ⟨by simp, .inl ⟨_, _, rfl, run_takeDeferred hD7, ?_⟩⟩
    have hsz : d'.size = ys.length := by rw [HPI.out.1, List.size_toArray]
    have hperm : d'.toList.Perm ys := by
      have h := HPI.out.2.2
      have e1 : d'.extract 0 ys.length = d' := by rw [← hsz, Array.extract_size]
      have e2 : ys.toArray.extract 0 ys.toArray.size = ys.toArray := Array.extract_size
      rw [List.size_toArray] at e2
      have h' : (d'.extract 0 ys.length).toList.Perm (ys.toArray.extract 0 ys.length).toList := h
      rw [e1, e2] at h'
      exact h'
    have hsl : ∀ x ∈ d'.toList, W5.ownsRow 0 54 6 x.2 x.1.ac.length (rows accC x.1.ac) := fun x hx => AC5.out x (hperm.mem_iff.1 hx)
    have hO7 : Only (fun k => k = g ∨ k = u2.heap.size) W5 ((sortWorldK encT 9 W5 g 0 nn d' os).putObj u2.heap.size (.deferred none)) := (HQ.out.mono (fun k _ h => .inl h)).trans ((only_put _ _ _).mono (fun k _ h => .inr h))
    have hK := holdsK_sortWorldK_c encT 9 W5 g 0 ys.toArray d' nn os HHH.out hgl HPI.out.1
    refine ⟨_, results_tmp rfl _ _ _, some ⟨g, 0, none⟩, yc, d'.toList, ?_, ⟨.inr ⟨g, rfl, ?_, fun i x hx j u hu => ?_⟩, fun x hx => ?_⟩, ?_, ?_, ?_, ⟨fun b off e => by cases e; exact HGB.out _ rfl, fun x hx => HGA.out x (hperm.mem_iff.1 hx)⟩⟩
    · show Ending.returned (Value.slice (some ⟨g, 0, none⟩) ys.toArray.size yc) = _
      rw [Array.length_toList, hsz, List.size_toArray]
    · have := hO7.size
      omega
    · have hi : i < d'.size := by
        have := (List.getElem?_eq_some_iff.1 hx).1
        rwa [Array.length_toList] at this
      have hj : j < 9 := by
        have := (List.getElem?_eq_some_iff.1 hu).1
        rwa [tvC_len] at this
      have hc := HoldsK.cell hK hi hj
      have hx2 : d'[i]! = x := by
        rw [getElem!_pos d' i hi]
        have := (List.getElem?_eq_some_iff.1 hx).2
        simpa using this
      have hmem : x ∈ d'.toList := List.mem_of_getElem? hx
      obtain ⟨va, vc, hv⟩ := owns_slice (hsl x hmem)
      have hen : encT x = tvC x := by
        obtain ⟨tt, v⟩ := x
        dsimp only at hv
        rw [hv]
        rfl
      have hu2 : (encT d'[i]!)[j]! = u := by
        rw [hx2, hen, getElem!_pos _ j (by rw [tvC_len]; exact hj)]
        exact (List.getElem?_eq_some_iff.1 hu).2
      have hb : ((sortWorldK encT 9 W5 g 0 nn d' os).putObj u2.heap.size (.deferred none)).heap[g]? = (sortWorldK encT 9 W5 g 0 nn d' os).heap[g]? := World.putObj_heap_other hgd
      rw [World.cell?_of_block (w := sortWorldK encT 9 W5 g 0 nn d' os) hb]
      have h8 := hc.1
      rw [hu2, Nat.zero_add] at h8
      exact h8
    · refine ownsRow_keep (hsl x hx) (fun k e => hO7.block k ((hsl x hx).lt k e).2 ?_)
      obtain ⟨cs, hc⟩ := ownsRow_type (hsl x hx) e
      rintro (h | h)
      · obtain ⟨ds, hd⟩ := ownsRow_type RO5.out (k := g) rfl
        rw [h, hd] at hc
        injection hc with hc
        injection hc with _ hc
        exact absurd hc (by decide)
      · exact LDEF.out _ _ _ hc h
    · exact (hperm.map Prod.fst).trans HPERM.out
    · rw [List.pairwise_map]
      refine List.pairwise_iff_getElem.2 fun i j hi hj hij => ?_
      rw [Array.length_toList] at hi hj
      have h := HSO.out i j (Nat.zero_le _) hij (by rw [← hsz]; exact hj)
      rw [ltOf_cmp (fun x : Tr × Value => f x.1), getElem!_pos d' j hj, getElem!_pos d' i hi] at h
      simpa using h
    · exact hO7.below BE5.out BE5.out.size (fun k hk => by
        have hB := HB.out.size
        rcases hk with rfl | rfl
        · exact HGB.out _ rfl
        · omega)
end Go.Proofs.Ytdohepenmejcaaa.hs
