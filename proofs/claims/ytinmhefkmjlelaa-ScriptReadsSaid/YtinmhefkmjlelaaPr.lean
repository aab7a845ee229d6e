/- Texts of one's own, one behind the other: ScQ, ScI. -/
import Derived.Test.YtinmhefkmjlelaaPz
import Derived.BigRegion
import Derived.BigQuiet
/- The document's own answer for package script: plain facts for quarrelref20.Get. -/
namespace Go.Proofs.Ytinmhefkmjlelaa.sc
open Go Go.RowKit Go.Proofs.Ytinmhefkmjlelaa.base Go.Proofs.Ytinmhefkmjlelaa.lg Go.Proofs.Ytinmhefkmjlelaa.md Go.Proofs.Ytinmhefkmjlelaa.fl
set_option linter.unusedVariables false
set_option linter.unusedSimpArgs false
set_option maxRecDepth 100000

theorem rep_err_ne {α : Type} {p : Part α} (hp : ∀ (L : List Int) (i pl : Nat) (er : Int), p L i = .error (pl, er) → er ≠ 0) {L : List Int} {i : Nat} : ∀ {m pl : Nat} {er : Int}, rep p m L i = .error (pl, er) → er ≠ 0
  | 0, pl, er, h => by
    rw [rep] at h
    cases h
  | m + 1, pl, er, h => by
    rw [rep] at h
    split at h
    · next e h1 =>
      cases h
      exact rep_err_ne hp h1
    · next l j h1 =>
      split at h
      · next e h2 =>
        cases h
        exact hp _ _ _ _ h2
      · cases h

theorem tx_err_ne {n : Int} {L : List Int} {i pl : Nat} {er : Int} (h : txP n L i = .error (pl, er)) : er ≠ 0 := by
  unfold txP at h
  split at h
  · cases h
    decide
  · split at h
    · cases h
      decide
    · refine rep_err_ne (p := opP n) ?_ h
      intro L i pl er h
      unfold opP at h
      split at h
      · cases h
        decide
      · split at h
        · cases h
        · cases h
          decide

theorem th_of_rep {co : Int} {L : List Int} {j n : Nat} (hj : j < L.length) (hx : ¬ 6 < at0 L j) (hn : at0 L j = n) : thP co L j = rep (txP co) n L (j + 1) := by
  unfold thP
  rw [if_neg (by omega), if_neg hx, hn, Int.toNat_natCast]

theorem dr_of_rep {L : List Int} {j n : Nat} (hj : j < L.length) (hn : at0 L j = n) : drP L j = rep byteP n L (j + 1) := by
  unfold drP
  rw [if_neg (by omega), hn, Int.toNat_natCast]

theorem rep_short (L : List Int) (i : Nat) (hi : i ≤ L.length) : ∀ m : Nat, L.length < i + m → rep byteP m L i = .error (L.length, 9)
  | 0, h => by omega
  | m + 1, h => by
    by_cases hm : L.length < i + m
    · rw [rep, rep_short L i hi m hm]
    · rw [rep, rep_bytes L i m (by omega)]
      dsimp only
      unfold byteP
      rw [if_pos (by omega)]

theorem dropTake_succ {L : List Int} {i k : Nat} (h : i + k < L.length) : (L.drop i).take (k + 1) = (L.drop i).take k ++ [at0 L (i + k)] := by
  have e : (L.drop i)[k]? = some (at0 L (i + k)) := by
    rw [List.getElem?_drop]
    exact at0_get h
  rw [List.take_add_one, e]
  rfl

theorem own_setQ {base : Nat} {u : World} {s : Scr} {fv dv av pv : Value} (h : OwnScr base u s fv dv av pv) {ob : Nat} {cs : Array Value} (hb : Blk 34 u ob cs) (v0 v1 v2 v3 v4 v5 v6 v7 v8 v9 : Value) : OwnScr base ((((((((((u.setCell ⟨ob, 0, none⟩ v0).setCell ⟨ob, 1, none⟩ v1).setCell ⟨ob, 2, none⟩ v2).setCell ⟨ob, 3, none⟩ v3).setCell ⟨ob, 4, none⟩ v4).setCell ⟨ob, 5, none⟩ v5).setCell ⟨ob, 6, none⟩ v6).setCell ⟨ob, 7, none⟩ v7).setCell ⟨ob, 8, none⟩ v8).setCell ⟨ob, 9, none⟩ v9) s fv dv av pv := by
  have st : ∀ (w : World) (c : Array Value) (j : Nat) (v : Value), Blk 34 w ob c → OwnScr base w s fv dv av pv → OwnScr base (w.setCell ⟨ob, j, none⟩ v) s fv dv av pv := fun w c j v hb h => h.keep (KeepT.set hb j v) (by decide)
  have b0 := hb.set 0 v0
  have b1 := b0.set 1 v1
  have b2 := b1.set 2 v2
  have b3 := b2.set 3 v3
  have b4 := b3.set 4 v4
  have b5 := b4.set 5 v5
  have b6 := b5.set 6 v6
  have b7 := b6.set 7 v7
  have b8 := b7.set 8 v8
  exact st _ _ 9 v9 b8 (st _ _ 8 v8 b7 (st _ _ 7 v7 b6 (st _ _ 6 v6 b5 (st _ _ 5 v5 b4 (st _ _ 4 v4 b3 (st _ _ 3 v3 b2 (st _ _ 2 v2 b1 (st _ _ 1 v1 b0 (st _ _ 0 v0 hb h)))))))))
end Go.Proofs.Ytinmhefkmjlelaa.sc

/- The document's own answer for package script: quarrelref20.Get. -/
namespace Go.Proofs.Ytinmhefkmjlelaa.sc
open Go Go.RowKit Go.Proofs.Ytinmhefkmjlelaa.base Go.Proofs.Ytinmhefkmjlelaa.lg Go.Proofs.Ytinmhefkmjlelaa.md Go.Proofs.Ytinmhefkmjlelaa.fl
set_option linter.unusedVariables false
set_option linter.unusedSimpArgs false
set_option maxRecDepth 100000

set_option maxHeartbeats 1000000 in
theorem refget_short (a : Option Addr) (cap : Nat) (L : List Int) (w : World) (h7 : L.length < 7) : Calls Try.prog 11 #[.slice a L.length cap] w (GotA w L) := by
  have E := Lib.hid (show getS L = .error (L.length, 9) by unfold getS; rw [if_pos h7])
  have h7' : (L.length : Int) < 7 := by omega
  have O0 := Lib.hid ((Own.start w).alloc 34 [.int .i64 0, .int .i64 0, .int .i64 0, .int .i64 0, .int .i64 0, .int .i64 0, .slice none 0 0, .slice none 0 0, .slice none 0 0, .slice none 0 0])
  clear h7
  go_enter Try.func11, Try.ntmps11
  go_wp2
  refine bodyPost_ret (v := .tuple #[.agg #[.int .i64 0, .int .i64 0, .int .i64 0, .int .i64 0, .int .i64 0, .int .i64 0, .slice none 0 0, .slice none 0 0, .slice none 0 0, .slice none 0 0], .int .i64 L.length, .int .i64 9]) (by simp [results, Try.results11, go_sem]) rfl ⟨O0.out.grow, .inr ⟨L.length, 9, rfl, by decide, E⟩⟩

/-- Where a transaction ends. -/
theorem tx_at {n : Int} {L : List Int} {i j : Nat} {l : List Op3} (h : txP n L i = .ok (l, j)) : True ∧ (i ≤ L.length → j ≤ L.length) := by
  refine ⟨trivial, fun hi => ?_⟩
  unfold txP at h
  split at h
  · cases h
  · split at h
    · cases h
    · exact (rep_op_at h).2 (by omega)

theorem cfOf_bytes {L : List Int} (hb : Bytes L) (h7 : 7 ≤ L.length) : (0 ≤ at0 L 0 ∧ at0 L 0 ≤ 255) ∧ (0 ≤ at0 L 1 ∧ at0 L 1 ≤ 255) ∧ (0 ≤ at0 L 2 ∧ at0 L 2 ≤ 255) ∧ (0 ≤ at0 L 3 ∧ at0 L 3 ≤ 255) ∧ (0 ≤ at0 L 4 ∧ at0 L 4 ≤ 255) ∧ (0 ≤ at0 L 5 ∧ at0 L 5 ≤ 255) ∧ (0 ≤ at0 L 6 ∧ at0 L 6 ≤ 255) :=
  ⟨at0_byte hb (by omega), at0_byte hb (by omega), at0_byte hb (by omega), at0_byte hb (by omega), at0_byte hb (by omega), at0_byte hb (by omega), at0_byte hb (by omega)⟩
theorem okC_cfg (c : Cfg) : okC c.ob c.th c.re c.ti c.ma c.wa = c.ok := by
  unfold okC inB Cfg.ok
  simp only [Bool.decide_and, Bool.and_assoc]

set_option maxHeartbeats 40000000 in
theorem refget_any (a : Option Addr) (cap : Nat) (L : List Int) (w : World) (hb : IsB w a L) (hL : L.length ≤ 100000) : Calls Try.prog 11 #[.slice a L.length cap] w (GotA w L) := by
  by_cases h7 : L.length < 7
  · exact refget_short a cap L w h7
  have HB := Lib.hid hb
  have h7' : ¬ (L.length : Int) < 7 := by omega
  have hL6 : (L.length : Int) ≤ 100000 := by omega
  obtain ⟨b, off, rfl, hbl, c0⟩ := hb.1.at1 (show 0 < L.length by omega)
  obtain ⟨_, _, e1, _, c1⟩ := hb.1.at1 (show 1 < L.length by omega)
  cases e1
  obtain ⟨_, _, e1, _, c2⟩ := hb.1.at1 (show 2 < L.length by omega)
  cases e1
  obtain ⟨_, _, e1, _, c3⟩ := hb.1.at1 (show 3 < L.length by omega)
  cases e1
  obtain ⟨_, _, e1, _, c4⟩ := hb.1.at1 (show 4 < L.length by omega)
  cases e1
  obtain ⟨_, _, e1, _, c5⟩ := hb.1.at1 (show 5 < L.length by omega)
  cases e1
  obtain ⟨_, _, e1, _, c6⟩ := hb.1.at1 (show 6 < L.length by omega)
  cases e1
  obtain ⟨⟨l0, m0⟩, ⟨l1, m1⟩, ⟨l2, m2⟩, ⟨l3, m3⟩, ⟨l4, m4⟩, ⟨l5, m5⟩, ⟨l6, m6⟩⟩ := cfOf_bytes hb.2 (by omega)
  have HG1 := Lib.hid (fun h => get_range (L := L) (by omega) h)
  have HG2 := Lib.hid (fun h k => get_full (L := L) (by omega) h k)
  have HG3 := Lib.hid (fun h k (e : Nat × Int) => get_first_err (L := L) (e := e) (by omega) h k)
  replace HG4 := Lib.hid (fun h k (f : List Int) (i : Nat) (e : Nat × Int) => get_all_err (L := L) (f := f) (i := i) (e := e) (by omega) h k)
  replace HG5 := Lib.hid (fun h k (f : List Int) (i j : Nat) (A : List (List (List Op3))) (e : Nat × Int) => get_dr_err (L := L) (f := f) (i := i) (j := j) (A := A) (e := e) (by omega) h k)
  replace HG6 := Lib.hid (fun h k (f d : List Int) (i j m : Nat) (A : List (List (List Op3))) => get_all_ok (L := L) (f := f) (d := d) (i := i) (j := j) (k := m) (A := A) (by omega) h k)
  obtain ⟨co, hco⟩ : ∃ q, q = at0 L 0 := ⟨_, rfl⟩
  obtain ⟨ct, hct⟩ : ∃ q, q = at0 L 1 := ⟨_, rfl⟩
  obtain ⟨r1, hr1⟩ : ∃ q, q = at0 L 2 := ⟨_, rfl⟩
  obtain ⟨r2, hr2⟩ : ∃ q, q = at0 L 3 := ⟨_, rfl⟩
  obtain ⟨ck, hck⟩ : ∃ q, q = at0 L 4 := ⟨_, rfl⟩
  obtain ⟨cm, hcm⟩ : ∃ q, q = at0 L 5 := ⟨_, rfl⟩
  obtain ⟨cw, hcw⟩ : ∃ q, q = at0 L 6 := ⟨_, rfl⟩
  have hcf : cfOf L = ⟨co, ct, r1 * 256 + r2, ck, cm, cw⟩ := by unfold cfOf; rw [hco, hct, hr1, hr2, hck, hcm, hcw]
  rw [hcf] at HG1 HG2 HG3 HG4 HG5 HG6
  rw [← hco, Nat.add_zero] at c0
  rw [← hco] at l0 m0
  rw [← hct] at c1 l1 m1
  rw [← hr1] at c2 l2 m2
  rw [← hr2] at c3 l3 m3
  rw [← hck] at c4 l4 m4
  rw [← hcm] at c5 l5 m5
  rw [← hcw] at c6 l6 m6
  clear hco hct hr1 hr2 hck hcm hcw hcf hb h7
  have i0 : (0 : Int) < (L.length : Int) := by omega
  have n0 : 0 < L.length := by omega
  have k0 : IntKind.i64.wrap co = co := IntWalk.i64_in _ (by omega)
  have k1 : IntKind.i64.wrap ct = ct := IntWalk.i64_in _ (by omega)
  have k2 : IntKind.i64.wrap r1 = r1 := IntWalk.i64_in _ (by omega)
  have k3 : IntKind.i64.wrap r2 = r2 := IntWalk.i64_in _ (by omega)
  have k4 : IntKind.i64.wrap ck = ck := IntWalk.i64_in _ (by omega)
  have k5 : IntKind.i64.wrap cm = cm := IntWalk.i64_in _ (by omega)
  have k6 : IntKind.i64.wrap cw = cw := IntWalk.i64_in _ (by omega)
  have k7 : IntKind.i64.wrap (r1 * 256) = r1 * 256 := IntWalk.i64_in _ (by omega)
  have k8 : IntKind.i64.wrap (r1 * 256 + r2) = r1 * 256 + r2 := IntWalk.i64_in _ (by omega)
  have i1 : (1 : Int) < (L.length : Int) := by omega
  have i2 : (2 : Int) < (L.length : Int) := by omega
  have i3 : (3 : Int) < (L.length : Int) := by omega
  have i4 : (4 : Int) < (L.length : Int) := by omega
  have i5 : (5 : Int) < (L.length : Int) := by omega
  have i6 : (6 : Int) < (L.length : Int) := by omega
  have O1 : Hid (Own w (((w.alloc (.cells #[.int .i64 0, .int .i64 0, .int .i64 0, .int .i64 0, .int .i64 0, .int .i64 0, .slice none 0 0, .slice none 0 0, .slice none 0 0, .slice none 0 0] 34)).alloc (.cells #[.int .i64 co, .int .i64 ct, .int .i64 (r1 * 256 + r2), .int .i64 ck, .int .i64 cm, .int .i64 cw] 25)).drew) [(w.heap.size + 1, 25, [.int .i64 co, .int .i64 ct, .int .i64 (r1 * 256 + r2), .int .i64 ck, .int .i64 cm, .int .i64 cw]), (w.heap.size, 34, zsC)]) := by
    have X := (((Own.start w).alloc 34 [.int .i64 0, .int .i64 0, .int .i64 0, .int .i64 0, .int .i64 0, .int .i64 0, .slice none 0 0, .slice none 0 0, .slice none 0 0, .slice none 0 0]).alloc 25 [.int .i64 co, .int .i64 ct, .int .i64 (r1 * 256 + r2), .int .i64 ck, .int .i64 cm, .int .i64 cw]).drew
    simp only [size_alloc] at X
    exact X
  go_enter Try.func11, Try.ntmps11
  go_upto_region 3 with fail
  go_region_held3 (fun w' => w'.cell? ⟨b, off, none⟩ = some (.int .u8 co) ∧ w'.cell? ⟨b, off + 1, none⟩ = some (.int .u8 ct) ∧ w'.cell? ⟨b, off + 2, none⟩ = some (.int .u8 r1) ∧ w'.cell? ⟨b, off + 3, none⟩ = some (.int .u8 r2) ∧ w'.cell? ⟨b, off + 4, none⟩ = some (.int .u8 ck) ∧ w'.cell? ⟨b, off + 5, none⟩ = some (.int .u8 cm) ∧ w'.cell? ⟨b, off + 6, none⟩ = some (.int .u8 cw)) (go_keep) (fail)
  generalize (((w.alloc _).alloc _).drew) = u at *
  clear k0 k1 k2 k3 k4 k5 k6 k7 k8 c0 c1 c2 c3 c4 c5 c6 i0 i1 i2 i3 i4 i5 i6 n0
  obtain ⟨cr, hcr⟩ : ∃ q, q = r1 * 256 + r2 := ⟨_, rfl⟩
  have lr : 0 ≤ cr ∧ cr ≤ 65535 := by omega
  rw [← hcr] at HG1 HG2 HG3 HG4 HG5 HG6 O1 ⊢
  clear hcr
  have bwl := O1.out.lt 1 rfl
  generalize w.heap.size + 1 = cb at *
  obtain ⟨rb, hrb⟩ : ∃ rb, rb = w.heap.size := ⟨_, rfl⟩
  rw [← hrb] at O1 bwl ⊢
  have HRB := Lib.hid hrb
  clear hrb
  have d0 := O1.out.cell 0 0 rfl rfl; have d1 := O1.out.cell 0 1 rfl rfl; have d2 := O1.out.cell 0 2 rfl rfl; have d3 := O1.out.cell 0 3 rfl rfl; have d4 := O1.out.cell 0 4 rfl rfl; have d5 := O1.out.cell 0 5 rfl rfl
  go_wp2_with fail
  refine (refcheck_any co ct cr ck cm cw _).mono ?_
  rw [okC_cfg ⟨co, ct, cr, ck, cm, cw⟩]
  rintro r u1 ⟨rfl, g1⟩
  have O2 := Lib.hid (O1.out.grown g1.out)
  clear d0 d1 d2 d3 d4 d5 g1 O1 bwl
  cases hok : Cfg.ok ⟨co, ct, cr, ck, cm, cw⟩ with
  | false =>
    have EE := Lib.hid (HG1.out hok)
    clear hok HG1 HG2 HG3 HG4 HG5 HG6
    have z0 := O2.out.cell 1 0 rfl rfl; have z1 := O2.out.cell 1 1 rfl rfl; have z2 := O2.out.cell 1 2 rfl rfl; have z3 := O2.out.cell 1 3 rfl rfl; have z4 := O2.out.cell 1 4 rfl rfl; have z5 := O2.out.cell 1 5 rfl rfl; have z6 := O2.out.cell 1 6 rfl rfl; have z7 := O2.out.cell 1 7 rfl rfl; have z8 := O2.out.cell 1 8 rfl rfl; have z9 := O2.out.cell 1 9 rfl rfl; have fz0 := O2.out.free 1 0 rfl; have fz1 := O2.out.free 1 1 rfl; have fz2 := O2.out.free 1 2 rfl; have fz3 := O2.out.free 1 3 rfl; have fz4 := O2.out.free 1 4 rfl; have fz5 := O2.out.free 1 5 rfl; have fz6 := O2.out.free 1 6 rfl; have fz7 := O2.out.free 1 7 rfl; have fz8 := O2.out.free 1 8 rfl; have fz9 := O2.out.free 1 9 rfl; have bz := O2.out.lt 1 rfl
    go_wp2
    have e0 := set_same (O2.out.get 1 rfl) (j := 0) rfl; have e1 := set_same (O2.out.get 1 rfl) (j := 1) rfl; have e2 := set_same (O2.out.get 1 rfl) (j := 2) rfl; have e3 := set_same (O2.out.get 1 rfl) (j := 3) rfl; have e4 := set_same (O2.out.get 1 rfl) (j := 4) rfl; have e5 := set_same (O2.out.get 1 rfl) (j := 5) rfl; have e6 := set_same (O2.out.get 1 rfl) (j := 6) rfl; have e7 := set_same (O2.out.get 1 rfl) (j := 7) rfl; have e8 := set_same (O2.out.get 1 rfl) (j := 8) rfl; have e9 := set_same (O2.out.get 1 rfl) (j := 9) rfl; simp only [e0, e1, e2, e3, e4, e5, e6, e7, e8, e9]
    refine bodyPost_ret (v := .tuple #[.agg #[.int .i64 0, .int .i64 0, .int .i64 0, .int .i64 0, .int .i64 0, .int .i64 0, .slice none 0 0, .slice none 0 0, .slice none 0 0, .slice none 0 0], .int .i64 0, .int .i64 2]) (by simp [results, Try.results11, go_sem, z0, z1, z2, z3, z4, z5, z6, z7, z8, z9]) rfl ⟨O2.out.grow, .inr ⟨0, 2, rfl, by decide, EE⟩⟩
  | true =>
    have HOK := Lib.hid hok
    have hcc := Cfg.ok_iff.1 hok
    replace HG2 := Lib.hid (HG2.out hok)
    replace HG3 := Lib.hid (HG3.out hok)
    replace HG4 := Lib.hid (HG4.out hok)
    replace HG5 := Lib.hid (HG5.out hok)
    replace HG6 := Lib.hid (HG6.out hok)
    obtain ⟨⟨a1, a2⟩, ⟨a3, a4⟩, ⟨a5, a6⟩, ⟨a7, a8⟩, ⟨a9, a10⟩, a11, a12⟩ := hcc
    clear hok HG1
    have d0 := O2.out.cell 0 0 rfl rfl; have d1 := O2.out.cell 0 1 rfl rfl; have d2 := O2.out.cell 0 2 rfl rfl; have d3 := O2.out.cell 0 3 rfl rfl; have d4 := O2.out.cell 0 4 rfl rfl; have d5 := O2.out.cell 0 5 rfl rfl
    by_cases hfull : cr < co + co
    · have EE := Lib.hid (HG2.out (by omega))
      clear HG2 HG3 HG4 HG5 HG6
      have z0 := O2.out.cell 1 0 rfl rfl; have z1 := O2.out.cell 1 1 rfl rfl; have z2 := O2.out.cell 1 2 rfl rfl; have z3 := O2.out.cell 1 3 rfl rfl; have z4 := O2.out.cell 1 4 rfl rfl; have z5 := O2.out.cell 1 5 rfl rfl; have z6 := O2.out.cell 1 6 rfl rfl; have z7 := O2.out.cell 1 7 rfl rfl; have z8 := O2.out.cell 1 8 rfl rfl; have z9 := O2.out.cell 1 9 rfl rfl; have fz0 := O2.out.free 1 0 rfl; have fz1 := O2.out.free 1 1 rfl; have fz2 := O2.out.free 1 2 rfl; have fz3 := O2.out.free 1 3 rfl; have fz4 := O2.out.free 1 4 rfl; have fz5 := O2.out.free 1 5 rfl; have fz6 := O2.out.free 1 6 rfl; have fz7 := O2.out.free 1 7 rfl; have fz8 := O2.out.free 1 8 rfl; have fz9 := O2.out.free 1 9 rfl; have bz := O2.out.lt 1 rfl
      go_wp2
      have e0 := set_same (O2.out.get 1 rfl) (j := 0) rfl; have e1 := set_same (O2.out.get 1 rfl) (j := 1) rfl; have e2 := set_same (O2.out.get 1 rfl) (j := 2) rfl; have e3 := set_same (O2.out.get 1 rfl) (j := 3) rfl; have e4 := set_same (O2.out.get 1 rfl) (j := 4) rfl; have e5 := set_same (O2.out.get 1 rfl) (j := 5) rfl; have e6 := set_same (O2.out.get 1 rfl) (j := 6) rfl; have e7 := set_same (O2.out.get 1 rfl) (j := 7) rfl; have e8 := set_same (O2.out.get 1 rfl) (j := 8) rfl; have e9 := set_same (O2.out.get 1 rfl) (j := 9) rfl; simp only [e0, e1, e2, e3, e4, e5, e6, e7, e8, e9]
      refine bodyPost_ret (v := .tuple #[.agg #[.int .i64 0, .int .i64 0, .int .i64 0, .int .i64 0, .int .i64 0, .int .i64 0, .slice none 0 0, .slice none 0 0, .slice none 0 0, .slice none 0 0], .int .i64 2, .int .i64 4]) (by simp [results, Try.results11, go_sem, z0, z1, z2, z3, z4, z5, z6, z7, z8, z9]) rfl ⟨O2.out.grow, .inr ⟨2, 4, rfl, by decide, EE⟩⟩
    have hf0 : 2 * co ≤ cr := by omega
    replace HG3 := Lib.hid (HG3.out hf0)
    replace HG4 := Lib.hid (HG4.out hf0)
    replace HG5 := Lib.hid (HG5.out hf0)
    replace HG6 := Lib.hid (HG6.out hf0)
    have hfd : decide (cr < co + co) = false := by simp; omega
    clear HG2 hf0 hfull
    have S0 : Hid (GS w (u1.alloc (.cells #[.int .i64 co, .int .i64 ct, .int .i64 cr, .int .i64 ck, .int .i64 cm, .int .i64 cw, .slice none 0 0, .slice none 0 0, .slice none 0 0, .slice none 0 0] 34)) rb cb u1.heap.size ⟨co, ct, cr, ck, cm, cw⟩ [] [] [] [] (.slice none 0 0) (.slice none 0 0) (.slice none 0 0) (.slice none 0 0)) :=
      ⟨O2.out.alloc 34 [.int .i64 co, .int .i64 ct, .int .i64 cr, .int .i64 ck, .int .i64 cm, .int .i64 cw, .slice none 0 0, .slice none 0 0, .slice none 0 0, .slice none 0 0], World.ownsRow_nil _ _ _ _, World.ownsRow_nil _ _ _ _, OwnAll.nil _ _, World.ownsRow_nil _ _ _ _⟩
    go_wp2_with fail
    generalize u1.alloc _ = u2 at *
    generalize u1.heap.size = sb at *
    clear d0 d1 d2 d3 d4 d5 O2 hfd
    obtain ⟨i1, ia, iax, iay, iaz⟩ := info_parts infoTx
    have ia9 := Lib.hid ia
    have ia0 := Lib.hid iax
    have ia1 := Lib.hid iay
    have ia2 := Lib.hid iaz
    clear ia iax iay iaz
    obtain ⟨i2, ib, ibx, iby, ibz⟩ := info_parts infoTh
    have ib9 := Lib.hid ib
    have ib0 := Lib.hid ibx
    have ib1 := Lib.hid iby
    have ib2 := Lib.hid ibz
    clear ib ibx iby ibz
    obtain ⟨i3, ic, icx, icy, icz⟩ := info_parts infoU8
    have ic9 := Lib.hid ic
    have ic0 := Lib.hid icx
    have ic1 := Lib.hid icy
    have ic2 := Lib.hid icz
    clear ic icx icy icz
    obtain ⟨i4, id, idx, idy, idz⟩ := info_parts infoI
    have id9 := Lib.hid id
    have id0 := Lib.hid idx
    have id1 := Lib.hid idy
    have id2 := Lib.hid idz
    clear id idx idy idz
    obtain ⟨j0, hj0, hz00, hz10, hz20⟩ := info_parts info64
    have hj9 := Lib.hid hj0
    have hz0 := Lib.hid hz00
    have hz1 := Lib.hid hz10
    have hz2 := Lib.hid hz20
    clear hj0 hz00 hz10 hz20
    have U0 : Hid (GS w u2 rb cb sb ⟨co, ct, cr, ck, cm, cw⟩ [] [] [] [] (.slice none 0 0) (.slice none 0 0) (.slice none 0 0) (.slice none 0 0)) := S0
    clear S0
    go_loopw [7, 8] (fun av iv wr => ∃ (k : Nat) (f : List Int) (fa : Option Addr) (fc : Nat), (k : Int) ≤ co ∧ 7 + k ≤ L.length ∧ iv = .int .i64 k ∧ av = .int .i64 ((7 + k : Nat) : Int) ∧ Hid (f.length = k) ∧ Hid (rep sgP k L 7 = .ok (f, 7 + k)) ∧ Hid (GS w wr rb cb sb ⟨co, ct, cr, ck, cm, cw⟩ f [] [] [] (.slice fa f.length fc) (.slice none 0 0) (.slice none 0 0) (.slice none 0 0))) (fun _ iv _ => (co - intOf iv).toNat)
    case atStart => exact ⟨0, [], none, 0, by omega, by omega, rfl, rfl, rfl, rfl, U0⟩
    case round =>
      clear U0
      obtain ⟨k, f, fa, fc, hk, hkL, rfl, rfl, HFL, HR, S⟩ := hrel
      have d0 := S.out.own.cell 1 0 rfl rfl
      have dl := S.out.own.lt 1 rfl
      by_cases hkc : (k : Int) < co
      · by_cases hs : L.length ≤ 7 + k
        · have EE := Lib.hid (HG3.out (L.length, 9) (rep_err_le (rep_bad HR.out (show sgP L (7 + k) = .error (L.length, 9) by unfold sgP; rw [if_pos hs])) (by omega)))
          have hsI : (L.length : Int) ≤ ((7 + k : Nat) : Int) := by omega
          have SO := Lib.hid S.out.own
          clear HG3 HG4 HG5 HG6 hs
          have z0 := SO.out.cell 2 0 rfl rfl; have z1 := SO.out.cell 2 1 rfl rfl; have z2 := SO.out.cell 2 2 rfl rfl; have z3 := SO.out.cell 2 3 rfl rfl; have z4 := SO.out.cell 2 4 rfl rfl; have z5 := SO.out.cell 2 5 rfl rfl; have z6 := SO.out.cell 2 6 rfl rfl; have z7 := SO.out.cell 2 7 rfl rfl; have z8 := SO.out.cell 2 8 rfl rfl; have z9 := SO.out.cell 2 9 rfl rfl; have fz0 := SO.out.free 2 0 rfl; have fz1 := SO.out.free 2 1 rfl; have fz2 := SO.out.free 2 2 rfl; have fz3 := SO.out.free 2 3 rfl; have fz4 := SO.out.free 2 4 rfl; have fz5 := SO.out.free 2 5 rfl; have fz6 := SO.out.free 2 6 rfl; have fz7 := SO.out.free 2 7 rfl; have fz8 := SO.out.free 2 8 rfl; have fz9 := SO.out.free 2 9 rfl; have bz := SO.out.lt 2 rfl
          go_wp2
          have e0 := set_same (SO.out.get 2 rfl) (j := 0) rfl; have e1 := set_same (SO.out.get 2 rfl) (j := 1) rfl; have e2 := set_same (SO.out.get 2 rfl) (j := 2) rfl; have e3 := set_same (SO.out.get 2 rfl) (j := 3) rfl; have e4 := set_same (SO.out.get 2 rfl) (j := 4) rfl; have e5 := set_same (SO.out.get 2 rfl) (j := 5) rfl; have e6 := set_same (SO.out.get 2 rfl) (j := 6) rfl; have e7 := set_same (SO.out.get 2 rfl) (j := 7) rfl; have e8 := set_same (SO.out.get 2 rfl) (j := 8) rfl; have e9 := set_same (SO.out.get 2 rfl) (j := 9) rfl; simp only [e0, e1, e2, e3, e4, e5, e6, e7, e8, e9]
          refine bodyPost_ret (v := .tuple #[.agg #[.int .i64 0, .int .i64 0, .int .i64 0, .int .i64 0, .int .i64 0, .int .i64 0, .slice none 0 0, .slice none 0 0, .slice none 0 0, .slice none 0 0], .int .i64 L.length, .int .i64 9]) (by simp [results, Try.results11, go_sem, z0, z1, z2, z3, z4, z5, z6, z7, z8, z9]) rfl ⟨SO.out.grow, .inr ⟨L.length, 9, rfl, by decide, EE⟩⟩
        · have hlt : 7 + k < L.length := by omega
          have hltI : ((7 + k : Nat) : Int) < (L.length : Int) := by omega
          obtain ⟨_, _, e1, _, cb0⟩ := (HB.out.grown S.out.own.grow).1.at1 hlt
          cases e1
          have lx := at0_byte HB.out.2 hlt
          have HX := Lib.hid (show sgP L (7 + k) = .ok (sg (at0 L (7 + k)), 7 + k + 1) by unfold sgP; rw [if_neg hs])
          generalize at0 L (7 + k) = x at *
          have SG := Lib.hid (fun u => signed_any x lx u)
          obtain ⟨x2, hx2⟩ : ∃ x2, x2 = sg x := ⟨_, rfl⟩
          rw [← hx2] at SG HX
          have f6 := S.out.own.cell 0 6 rfl rfl
          have r6 := S.out.own.free 0 6 rfl
          have l6 := S.out.own.lt 0 rfl
          have SD := Lib.hid (S.out.grown (gb_drew (gb_refl wr none)))
          have hf6 : (f.length : Int) ≤ 8 := by have := HFL.out; omega
          have hsz := S.out.own.grow.size
          obtain ⟨ai, hai⟩ : ∃ ai : Nat, ai = 7 + k := ⟨_, rfl⟩
          rw [← hai] at hlt hltI cb0 HX hs ⊢
          have HAI := Lib.hid hai
          have hai6 : (ai : Int) ≤ 100000 := by omega
          clear hx2 lx hai HG3 HG4 HG5 HG6
          go_wp2_with fail
          go_region_law (first | (refine step_call rfl 22 #[.int .u8 x] (by simp [Act.eval, go_sem]) (SG.out wr.drew) ?_; rintro r u3 ⟨rfl, rfl⟩; refine ⟨_, rfl, ?_⟩) | (refine step_append_at rfl (.tmp 84) (.tmp 90) 26 rfl w.heap.size 2 j0 (.int .i64 0) 1 8 Try.underlying26 hj9.out hz0.out hz1.out hz2.out rfl (by decide) (.slice fa f.length fc) f.length (numsC .i64 f) (by simp [Act.eval]) (SD.out.rf.alloc _) ⟨wr.heap.size, 0, none⟩ 1 1 [.int .i64 x2] (by simp [Act.eval]) rfl (new_cells wr.drew _ _) (by intro u hu; simp at hu; subst hu; rfl) (by unfold maxLen; omega) (by omega) (by simp; omega) (by decide) ?_; intro g' c' w1 ho1 hg1 hv1; have HO1 := Lib.hid ho1; have HH1 := Lib.hid hg1; have OW := own_row (e := 2) (SD.out.own.skip (.cells #[.int .i64 x2] 2)) (by intro y hy; simp at hy; rcases hy with rfl | rfl | rfl <;> simp) (SD.out.rf.alloc _) hg1; have c6' := OW.cell 0 6 rfl rfl; have f6' := OW.free 0 6 rfl; have l6' := OW.lt 0 rfl; clear ho1 hg1 hv1 OW))
          all_goals
            have PF := Lib.hid (SD.out.put_first (gb_alloc (gb_refl wr.drew none) _) HO1.out HH1.out)
            clear c6' f6' l6'
            go_wp2
            go_roundw
            case rel => exact ⟨k + 1, f ++ [x2], _, _, by omega, by have := HAI.out; omega, by go_num, by have := HAI.out; go_num, by have := HFL.out; show _ = _; rw [List.length_append, this]; rfl, by have := rep_next HR.out (HAI.out ▸ HX.out); show _ = _; rw [this]; rfl, by rw [List.length_append]; exact PF.out⟩
            case measure => simp [intOf]; (try omega)
      · have hke : co = (k : Int) := by omega
        have HR1 := Lib.hid (show rep sgP co.toNat L 7 = .ok (f, 7 + k) by have := HR.out; rw [hke, Int.toNat_natCast]; exact this)
        replace HG4 := Lib.hid (fun e => HG4.out f (7 + k) e HR1.out)
        replace HG5 := Lib.hid (fun j A e => HG5.out f (7 + k) j A e HR1.out)
        replace HG6 := Lib.hid (fun d j m A => HG6.out f d (7 + k) j m A HR1.out)
        obtain ⟨ai, hai⟩ : ∃ ai : Nat, ai = 7 + k := ⟨_, rfl⟩
        rw [← hai] at hkL HG4 HG5 HG6 ⊢
        have hkcd : decide ((k : Int) < co) = false := by simp; omega
        clear hai HR HR1 HG3 hke hk hkc
        go_wp2_with fail
        clear hkcd d0 dl
        have S1 := S
        go_loopw [7, 9] (fun av tv wr => ∃ (t : Nat) (A : List (List (List Op3))) (aa : Option Addr) (ac j : Nat), (t : Int) ≤ ct ∧ j ≤ L.length ∧ tv = .int .i64 t ∧ av = .int .i64 j ∧ Hid (A.length = t) ∧ Hid (rep (thP co) t L ai = .ok (A, j)) ∧ Hid (GS w wr rb cb sb ⟨co, ct, cr, ck, cm, cw⟩ f [] A [] (.slice fa f.length fc) (.slice none 0 0) (.slice aa A.length ac) (.slice none 0 0))) (fun _ tv _ => (ct - intOf tv).toNat)
        case atStart => exact ⟨0, [], none, 0, ai, by omega, by omega, rfl, rfl, rfl, rfl, S1⟩
        case round =>
          clear S1 S HFL
          obtain ⟨t, A, aa, ac, j, ht, hjl, rfl, rfl, HAL, HR, S⟩ := hrel
          have d1 := S.out.own.cell 1 1 rfl rfl
          have d0 := S.out.own.cell 1 0 rfl rfl
          have dl := S.out.own.lt 1 rfl
          have SO := Lib.hid S.out.own
          have hj6 : (j : Int) ≤ 100000 := by omega
          by_cases htc : (t : Int) < ct
          · by_cases hs : L.length ≤ j
            · have EE := Lib.hid (HG4.out (L.length, 9) (rep_err_le (rep_bad HR.out (show thP co L j = .error (L.length, 9) by unfold thP; rw [if_pos hs])) (by omega)))
              have hsI : (L.length : Int) ≤ (j : Int) := by omega
              clear HG4 HG5 HG6 hs S HR HAL
              have z0 := SO.out.cell 2 0 rfl rfl; have z1 := SO.out.cell 2 1 rfl rfl; have z2 := SO.out.cell 2 2 rfl rfl; have z3 := SO.out.cell 2 3 rfl rfl; have z4 := SO.out.cell 2 4 rfl rfl; have z5 := SO.out.cell 2 5 rfl rfl; have z6 := SO.out.cell 2 6 rfl rfl; have z7 := SO.out.cell 2 7 rfl rfl; have z8 := SO.out.cell 2 8 rfl rfl; have z9 := SO.out.cell 2 9 rfl rfl; have fz0 := SO.out.free 2 0 rfl; have fz1 := SO.out.free 2 1 rfl; have fz2 := SO.out.free 2 2 rfl; have fz3 := SO.out.free 2 3 rfl; have fz4 := SO.out.free 2 4 rfl; have fz5 := SO.out.free 2 5 rfl; have fz6 := SO.out.free 2 6 rfl; have fz7 := SO.out.free 2 7 rfl; have fz8 := SO.out.free 2 8 rfl; have fz9 := SO.out.free 2 9 rfl; have bz := SO.out.lt 2 rfl
              go_wp2
              have e0 := set_same (SO.out.get 2 rfl) (j := 0) rfl; have e1 := set_same (SO.out.get 2 rfl) (j := 1) rfl; have e2 := set_same (SO.out.get 2 rfl) (j := 2) rfl; have e3 := set_same (SO.out.get 2 rfl) (j := 3) rfl; have e4 := set_same (SO.out.get 2 rfl) (j := 4) rfl; have e5 := set_same (SO.out.get 2 rfl) (j := 5) rfl; have e6 := set_same (SO.out.get 2 rfl) (j := 6) rfl; have e7 := set_same (SO.out.get 2 rfl) (j := 7) rfl; have e8 := set_same (SO.out.get 2 rfl) (j := 8) rfl; have e9 := set_same (SO.out.get 2 rfl) (j := 9) rfl; simp only [e0, e1, e2, e3, e4, e5, e6, e7, e8, e9]
              refine bodyPost_ret (v := .tuple #[.agg #[.int .i64 0, .int .i64 0, .int .i64 0, .int .i64 0, .int .i64 0, .int .i64 0, .slice none 0 0, .slice none 0 0, .slice none 0 0, .slice none 0 0], .int .i64 L.length, .int .i64 9]) (by simp [results, Try.results11, go_sem, z0, z1, z2, z3, z4, z5, z6, z7, z8, z9]) rfl ⟨SO.out.grow, .inr ⟨L.length, 9, rfl, by decide, EE⟩⟩
            · have hlt : j < L.length := by omega
              have hltI : (j : Int) < (L.length : Int) := by omega
              obtain ⟨_, _, e1, _, cb0⟩ := (HB.out.grown SO.out.grow).1.at1 hlt
              cases e1
              have lx := at0_byte HB.out.2 hlt
              by_cases hx6 : 6 < at0 L j
              · have EE := Lib.hid (HG4.out (j, 3) (rep_err_le (rep_bad HR.out (show thP co L j = .error (j, 3) by unfold thP; rw [if_neg hs, if_pos hx6])) (by omega)))
                generalize at0 L j = x at *
                clear HG4 HG5 HG6 hs lx S HR HAL
                have z0 := SO.out.cell 2 0 rfl rfl; have z1 := SO.out.cell 2 1 rfl rfl; have z2 := SO.out.cell 2 2 rfl rfl; have z3 := SO.out.cell 2 3 rfl rfl; have z4 := SO.out.cell 2 4 rfl rfl; have z5 := SO.out.cell 2 5 rfl rfl; have z6 := SO.out.cell 2 6 rfl rfl; have z7 := SO.out.cell 2 7 rfl rfl; have z8 := SO.out.cell 2 8 rfl rfl; have z9 := SO.out.cell 2 9 rfl rfl; have fz0 := SO.out.free 2 0 rfl; have fz1 := SO.out.free 2 1 rfl; have fz2 := SO.out.free 2 2 rfl; have fz3 := SO.out.free 2 3 rfl; have fz4 := SO.out.free 2 4 rfl; have fz5 := SO.out.free 2 5 rfl; have fz6 := SO.out.free 2 6 rfl; have fz7 := SO.out.free 2 7 rfl; have fz8 := SO.out.free 2 8 rfl; have fz9 := SO.out.free 2 9 rfl; have bz := SO.out.lt 2 rfl
                go_wp2
                have e0 := set_same (SO.out.get 2 rfl) (j := 0) rfl; have e1 := set_same (SO.out.get 2 rfl) (j := 1) rfl; have e2 := set_same (SO.out.get 2 rfl) (j := 2) rfl; have e3 := set_same (SO.out.get 2 rfl) (j := 3) rfl; have e4 := set_same (SO.out.get 2 rfl) (j := 4) rfl; have e5 := set_same (SO.out.get 2 rfl) (j := 5) rfl; have e6 := set_same (SO.out.get 2 rfl) (j := 6) rfl; have e7 := set_same (SO.out.get 2 rfl) (j := 7) rfl; have e8 := set_same (SO.out.get 2 rfl) (j := 8) rfl; have e9 := set_same (SO.out.get 2 rfl) (j := 9) rfl; simp only [e0, e1, e2, e3, e4, e5, e6, e7, e8, e9]
                refine bodyPost_ret (v := .tuple #[.agg #[.int .i64 0, .int .i64 0, .int .i64 0, .int .i64 0, .int .i64 0, .int .i64 0, .slice none 0 0, .slice none 0 0, .slice none 0 0, .slice none 0 0], .int .i64 j, .int .i64 3]) (by simp [results, Try.results11, go_sem, z0, z1, z2, z3, z4, z5, z6, z7, z8, z9]) rfl ⟨SO.out.grow, .inr ⟨j, 3, rfl, by decide, EE⟩⟩
              · obtain ⟨n, hn⟩ : ∃ n : Nat, at0 L j = n := ⟨(at0 L j).toNat, by omega⟩
                have HTH := Lib.hid (th_of_rep (co := co) hlt hx6 hn)
                rw [hn] at cb0
                have hn6 : n ≤ 6 := by omega
                have hn6I : (n : Int) ≤ 6 := by omega
                have hnw : IntKind.i64.wrap (n : Int) = (n : Int) := IntWalk.i64_in _ (by omega)
                have hnd : decide ((6 : Int) < (n : Int)) = false := by simp; omega
                have hjd : decide ((L.length : Int) ≤ (j : Int)) = false := by simp; omega
                clear hx6 lx hn hs
                go_wp2_with fail
                have HTC := Lib.hid htc
                clear cb0 hnw hnd hjd d0 d1 dl SO htc
                obtain ⟨u0, hu0⟩ : ∃ u0 : World, u0 = wr := ⟨_, rfl⟩
                subst hu0
                go_loopw [7, 11, 12] (fun av lv kv wx => ∃ (k : Nat) (l : List (List Op3)) (vs : List Value) (la : Option Addr) (lc aj : Nat), k ≤ n ∧ aj ≤ L.length ∧ kv = .int .i64 k ∧ av = .int .i64 aj ∧ lv = .slice la k lc ∧ Hid (l.length = k) ∧ Hid (rep (txP co) k L (j + 1) = .ok (l, aj)) ∧ Hid (u0.grownBy wx none) ∧ Hid (wx.ownsRow u0.heap.size 60 1 (.slice la k lc) k vs) ∧ Hid (vs.length = k) ∧ Hid (∀ (m : Nat) (x : List Op3) (y : Value), l[m]? = some x → vs[m]? = some y → OwnTx u0.heap.size wx x y)) (fun _ _ kv _ => (n - intOf kv).toNat)
                case atStart => exact ⟨0, [], [], none, 0, j + 1, by omega, by omega, rfl, by go_num, rfl, rfl, rfl, gb_refl _ _, World.ownsRow_nil _ _ _ _, rfl, fun m x y hx => by simp at hx⟩
                case round =>
                  obtain ⟨k3, l, vs, la, lc, aj, hk3, haj, rfl, rfl, rfl, HLL, HRX, G, O, VL, EL⟩ := hrel
                  have S1 := Lib.hid (S.out.grown G.out)
                  have d0 := S1.out.own.cell 1 0 rfl rfl
                  have dl := S1.out.own.lt 1 rfl
                  by_cases hkn : k3 < n
                  · have hknI : (k3 : Int) < (n : Int) := by omega
                    have TX := Lib.hid (reftxn_any (some ⟨b, off, none⟩) cap L aj co wr (HB.out.grown S1.out.own.grow) hL haj)
                    go_wp2_with fail
                    refine TX.out.mono ?_
                    rintro r u ⟨g, ⟨x, j2, oa, oc, rfl, E, RX⟩ | ⟨pl, er, rfl, E⟩⟩
                    · have K1 := Lib.hid (KeepT.grown (P := fun _ => True) g.out)
                      have O2 := Lib.hid (K1.out.own O.out trivial)
                      have G2 := Lib.hid (gb_trans G.out g.out)
                      have HN := Lib.hid (rep_next HRX.out E.out)
                      have HX := Lib.hid (show OwnTx u0.heap.size u x (.slice oa x.length oc) from owns_lower RX.out G.out.size)
                      have EL2 := Lib.hid (show ∀ (m : Nat) (x : List Op3) (y : Value), l[m]? = some x → vs[m]? = some y → OwnTx u0.heap.size u x y from fun m x y hx hy => (EL.out m x y hx hy).keep K1.out trivial)
                      have hj2 := (tx_at E.out).2 haj
                      have hk1 : k3 + 1 ≤ 1000000 := by omega
                      have hsz := Lib.hid (show u0.heap.size ≤ u.heap.size from G2.out.size)
                      clear E HRX O G RX K1 g TX S1 d0 dl EL
                      go_wp2_with (at_builtin; go_loud (refine wpList_append_any _ rfl (.tmp 141) (.tmp 143) 59 rfl u0.heap.size 60 i1 (.slice none 0 0) 1 24 Try.underlying59 ia9.out ia0.out ia1.out ia2.out rfl (by decide) _ k3 vs rfl (ownsRow_keep O2.out (fun b e => Below.heap_alloc _ _ b (O2.out.lt b e).2)) (some ⟨u.heap.size, 0, none⟩) 1 1 [.slice oa x.length oc] rfl rfl (new_src _ _ _ _ rfl) (by intro u hu; simp at hu; subst hu; rfl) (by unfold maxLen; omega) (by omega) (by have := hsz.out; simp; omega) ?_); intro b2 c2' w3 ho hg hv; clear hv)
                      have KR := Lib.hid (KeepT.row (ownsRow_keep O2.out (fun b e => Below.heap_alloc _ (.cells #[.slice oa x.length oc] 60) b (O2.out.lt b e).2)) hg)
                      have G3 := Lib.hid (gb_overO (gb_alloc G2.out _) hg (fun i hi => (O2.out.lt i hi).1))
                      have HL2 := Lib.hid (show (l ++ [x]).length = k3 + 1 by rw [List.length_append, HLL.out]; rfl)
                      have O3 := Lib.hid ho
                      have VL2 := Lib.hid (show (vs ++ [Value.slice oa x.length oc]).length = k3 + 1 by rw [List.length_append, VL.out]; rfl)
                      have KA := Lib.hid (show KeepT (fun t => t ≠ 60) u w3 from (KeepT.trans (KeepT.grown (World.grownBy_alloc u (.cells #[.slice oa x.length oc] 60) none)) KR.out))
                      have EL3 := Lib.hid (show ∀ (m : Nat) (y : List Op3) (z : Value), (l ++ [x])[m]? = some y → (vs ++ [Value.slice oa x.length oc])[m]? = some z → OwnTx u0.heap.size w3 y z from fun m y z hy hz => by
                        by_cases hm : m < l.length
                        · rw [List.getElem?_append_left hm] at hy
                          rw [List.getElem?_append_left (by have := HLL.out; have := VL.out; omega)] at hz
                          exact (EL2.out m y z hy hz).keep KA.out (by decide)
                        · have hml : m = l.length := by
                            have := (List.getElem?_eq_some_iff.1 hy).1
                            simp at this
                            omega
                          have hmv : m = vs.length := by have := HLL.out; have := VL.out; omega
                          rw [List.getElem?_append_right (by omega), hml, Nat.sub_self] at hy
                          rw [List.getElem?_append_right (by omega), hmv, Nat.sub_self] at hz
                          cases hy
                          cases hz
                          exact HX.out.keep KA.out (by decide))
                      clear ho hg O2 G2 KR KA EL2 HX HLL VL hsz
                      go_wp2
                      go_roundw
                      case rel => exact ⟨k3 + 1, l ++ [x], vs ++ [Value.slice oa x.length oc], b2, c2', j2, by omega, hj2, by go_num, rfl, rfl, HL2, HN, G3, O3, VL2, EL3⟩
                      case measure => simp [intOf]; omega
                    · have hne := tx_err_ne E.out
                      have he' : (er != 0) = true := by simp [hne]
                      have NE := Lib.hid hne
                      have EE := Lib.hid (HG4.out (pl, er) (rep_err_le (rep_bad HR.out (HTH.out.trans (rep_err_le (rep_bad HRX.out E.out) (show k3 + 1 ≤ n by omega)))) (by have := HTC.out; omega)))
                      have SO := Lib.hid (S1.out.own.grown g.out)
                      clear hne HG4 HG5 HG6 E HRX O G g TX S1 S d0 dl EL HLL VL HTH HR HAL
                      have z0 := SO.out.cell 2 0 rfl rfl; have z1 := SO.out.cell 2 1 rfl rfl; have z2 := SO.out.cell 2 2 rfl rfl; have z3 := SO.out.cell 2 3 rfl rfl; have z4 := SO.out.cell 2 4 rfl rfl; have z5 := SO.out.cell 2 5 rfl rfl; have z6 := SO.out.cell 2 6 rfl rfl; have z7 := SO.out.cell 2 7 rfl rfl; have z8 := SO.out.cell 2 8 rfl rfl; have z9 := SO.out.cell 2 9 rfl rfl; have fz0 := SO.out.free 2 0 rfl; have fz1 := SO.out.free 2 1 rfl; have fz2 := SO.out.free 2 2 rfl; have fz3 := SO.out.free 2 3 rfl; have fz4 := SO.out.free 2 4 rfl; have fz5 := SO.out.free 2 5 rfl; have fz6 := SO.out.free 2 6 rfl; have fz7 := SO.out.free 2 7 rfl; have fz8 := SO.out.free 2 8 rfl; have fz9 := SO.out.free 2 9 rfl; have bz := SO.out.lt 2 rfl
                      go_wp2
                      have e0 := set_same (SO.out.get 2 rfl) (j := 0) rfl; have e1 := set_same (SO.out.get 2 rfl) (j := 1) rfl; have e2 := set_same (SO.out.get 2 rfl) (j := 2) rfl; have e3 := set_same (SO.out.get 2 rfl) (j := 3) rfl; have e4 := set_same (SO.out.get 2 rfl) (j := 4) rfl; have e5 := set_same (SO.out.get 2 rfl) (j := 5) rfl; have e6 := set_same (SO.out.get 2 rfl) (j := 6) rfl; have e7 := set_same (SO.out.get 2 rfl) (j := 7) rfl; have e8 := set_same (SO.out.get 2 rfl) (j := 8) rfl; have e9 := set_same (SO.out.get 2 rfl) (j := 9) rfl; simp only [e0, e1, e2, e3, e4, e5, e6, e7, e8, e9]
                      refine bodyPost_ret (v := .tuple #[.agg #[.int .i64 0, .int .i64 0, .int .i64 0, .int .i64 0, .int .i64 0, .int .i64 0, .slice none 0 0, .slice none 0 0, .slice none 0 0, .slice none 0 0], .int .i64 pl, .int .i64 er]) (by simp [results, Try.results11, go_sem, z0, z1, z2, z3, z4, z5, z6, z7, z8, z9]) rfl ⟨SO.out.grow, .inr ⟨pl, er, rfl, NE.out, EE⟩⟩
                  · obtain rfl : k3 = n := by omega
                    have HN := Lib.hid (rep_next HR.out (HTH.out.trans HRX.out))
                    have OT := Lib.hid (show OwnTh w.heap.size wr l (.slice la k3 lc) from ⟨vs, by rw [HLL.out]; exact owns_lower O.out S.out.own.grow.size, by rw [HLL.out]; exact VL.out, fun m x y hx hy => owns_lower (EL.out m x y hx hy) S.out.own.grow.size⟩)
                    obtain ⟨vs2, ra1, ra2, ra3⟩ := S1.out.ra
                    have RA1 := Lib.hid ra1
                    have RA2 := Lib.hid ra2
                    have RA3 := Lib.hid ra3
                    have c8 := S1.out.own.cell 0 8 rfl rfl
                    have r8 := S1.out.own.free 0 8 rfl
                    have l8 := S1.out.own.lt 0 rfl
                    have hA9 : A.length + 1 ≤ 1000000 := by have := HAL.out; have := HTC.out; have h := (Cfg.ok_iff.1 HOK.out).2.1.2; dsimp only at h; omega
                    have hsz := Lib.hid S1.out.own.grow.size
                    clear ra1 ra2 ra3 O EL VL HLL HRX HTH HR G S d0 dl
                    go_wp2_with (at_builtin; go_loud (refine wpList_append_any _ rfl (.tmp 147) (.tmp 149) 27 rfl w.heap.size 59 i2 (.slice none 0 0) 1 24 Try.underlying27 ib9.out ib0.out ib1.out ib2.out rfl (by decide) _ A.length vs2 rfl (ownsRow_keep RA1.out (fun b e => Below.heap_alloc _ _ b (RA1.out.lt b e).2)) (some ⟨wr.heap.size, 0, none⟩) 1 1 [.slice la k3 lc] rfl rfl (new_src _ _ _ _ rfl) (by intro u hu; simp at hu; subst hu; rfl) (by unfold maxLen; omega) (by omega) (by have := hsz.out; simp; omega) ?_); intro b2 c2' w3 ho hg hv; have HO := Lib.hid ho; have HH := Lib.hid hg; have OW := own_row (e := 59) (S1.out.own.skip (.cells #[.slice la k3 lc] 59)) (by intro y hy; simp at hy; rcases hy with rfl | rfl | rfl <;> simp) (ownsRow_keep RA1.out (fun b e => Below.heap_alloc _ (.cells #[.slice la k3 lc] 59) b (RA1.out.lt b e).2)) hg; have c8' := OW.cell 0 8 rfl rfl; have f8' := OW.free 0 8 rfl; have l8' := OW.lt 0 rfl; clear ho hg hv OW)
                    have PF := Lib.hid (S1.out.put_all (World.grownBy_alloc wr (.cells #[.slice la k3 lc] 59) none) RA1.out RA2.out RA3.out (OT.out.keep (KeepT.grown (P := fun _ => True) (World.grownBy_alloc wr (.cells #[.slice la k3 lc] 59) none)) trivial trivial) HO.out HH.out)
                    clear c8 r8 l8 c8' f8' l8' HO HH RA1 RA2 RA3 OT S1 hsz
                    go_wp2
                    go_roundw
                    case rel => exact ⟨t + 1, A ++ [l], b2, c2', aj, by have := HTC.out; omega, haj, by go_num, rfl, by have := HAL.out; show _ = _; rw [List.length_append, this]; rfl, HN, by rw [List.length_append]; exact PF⟩
                    case measure => have h := HTC.out; clear HTC; simp [intOf]; omega
          · have htq : ct = (t : Int) := by omega
            replace HG5 := Lib.hid (fun e => HG5.out j A e (show rep (thP co) ct.toNat L ai = .ok (A, j) by have := HR.out; rw [htq, Int.toNat_natCast]; exact this))
            replace HG6 := Lib.hid (fun d m => HG6.out d j m A (show rep (thP co) ct.toNat L ai = .ok (A, j) by have := HR.out; rw [htq, Int.toNat_natCast]; exact this))
            have htd : decide ((t : Int) < ct) = false := by simp; omega
            clear HG4 HR htq ht HAL d0
            by_cases hs : L.length ≤ j
            · have EE := Lib.hid (HG5.out (L.length, 9) (show drP L j = .error (L.length, 9) by unfold drP; rw [if_pos hs]))
              have hsI : (L.length : Int) ≤ (j : Int) := by omega
              clear HG5 HG6 hs S
              have z0 := SO.out.cell 2 0 rfl rfl; have z1 := SO.out.cell 2 1 rfl rfl; have z2 := SO.out.cell 2 2 rfl rfl; have z3 := SO.out.cell 2 3 rfl rfl; have z4 := SO.out.cell 2 4 rfl rfl; have z5 := SO.out.cell 2 5 rfl rfl; have z6 := SO.out.cell 2 6 rfl rfl; have z7 := SO.out.cell 2 7 rfl rfl; have z8 := SO.out.cell 2 8 rfl rfl; have z9 := SO.out.cell 2 9 rfl rfl; have fz0 := SO.out.free 2 0 rfl; have fz1 := SO.out.free 2 1 rfl; have fz2 := SO.out.free 2 2 rfl; have fz3 := SO.out.free 2 3 rfl; have fz4 := SO.out.free 2 4 rfl; have fz5 := SO.out.free 2 5 rfl; have fz6 := SO.out.free 2 6 rfl; have fz7 := SO.out.free 2 7 rfl; have fz8 := SO.out.free 2 8 rfl; have fz9 := SO.out.free 2 9 rfl; have bz := SO.out.lt 2 rfl
              go_wp2
              have e0 := set_same (SO.out.get 2 rfl) (j := 0) rfl; have e1 := set_same (SO.out.get 2 rfl) (j := 1) rfl; have e2 := set_same (SO.out.get 2 rfl) (j := 2) rfl; have e3 := set_same (SO.out.get 2 rfl) (j := 3) rfl; have e4 := set_same (SO.out.get 2 rfl) (j := 4) rfl; have e5 := set_same (SO.out.get 2 rfl) (j := 5) rfl; have e6 := set_same (SO.out.get 2 rfl) (j := 6) rfl; have e7 := set_same (SO.out.get 2 rfl) (j := 7) rfl; have e8 := set_same (SO.out.get 2 rfl) (j := 8) rfl; have e9 := set_same (SO.out.get 2 rfl) (j := 9) rfl; simp only [e0, e1, e2, e3, e4, e5, e6, e7, e8, e9]
              refine bodyPost_ret (v := .tuple #[.agg #[.int .i64 0, .int .i64 0, .int .i64 0, .int .i64 0, .int .i64 0, .int .i64 0, .slice none 0 0, .slice none 0 0, .slice none 0 0, .slice none 0 0], .int .i64 L.length, .int .i64 9]) (by simp [results, Try.results11, go_sem, z0, z1, z2, z3, z4, z5, z6, z7, z8, z9]) rfl ⟨SO.out.grow, .inr ⟨L.length, 9, rfl, by decide, EE⟩⟩
            have hlt : j < L.length := by omega
            have hltI : (j : Int) < (L.length : Int) := by omega
            have hsd : decide ((L.length : Int) ≤ (j : Int)) = false := by simp; omega
            obtain ⟨_, _, e1, _, cb0⟩ := (HB.out.grown SO.out.grow).1.at1 hlt
            cases e1
            have lx := at0_byte HB.out.2 hlt
            obtain ⟨n, hn⟩ : ∃ n : Nat, at0 L j = n := ⟨(at0 L j).toNat, by omega⟩
            have HDR := Lib.hid (dr_of_rep hlt hn)
            rw [hn] at cb0
            have hn255 : n ≤ 255 := by omega
            have hnw : IntKind.i64.wrap (n : Int) = (n : Int) := IntWalk.i64_in _ (by omega)
            by_cases hs2 : L.length < j + 1 + n
            · have EE := Lib.hid (HG5.out (L.length, 9) (HDR.out.trans (rep_short L (j + 1) (by omega) n hs2)))
              have hd2 : decide ((L.length : Int) - (j : Int) - 1 < (n : Int)) = true := by simp; omega
              have hd3 : ((L.length : Int) - (j : Int) - 1 < (n : Int)) := by omega
              clear HG5 HG6 hs2 S hs lx hn HDR
              have z0 := SO.out.cell 2 0 rfl rfl; have z1 := SO.out.cell 2 1 rfl rfl; have z2 := SO.out.cell 2 2 rfl rfl; have z3 := SO.out.cell 2 3 rfl rfl; have z4 := SO.out.cell 2 4 rfl rfl; have z5 := SO.out.cell 2 5 rfl rfl; have z6 := SO.out.cell 2 6 rfl rfl; have z7 := SO.out.cell 2 7 rfl rfl; have z8 := SO.out.cell 2 8 rfl rfl; have z9 := SO.out.cell 2 9 rfl rfl; have fz0 := SO.out.free 2 0 rfl; have fz1 := SO.out.free 2 1 rfl; have fz2 := SO.out.free 2 2 rfl; have fz3 := SO.out.free 2 3 rfl; have fz4 := SO.out.free 2 4 rfl; have fz5 := SO.out.free 2 5 rfl; have fz6 := SO.out.free 2 6 rfl; have fz7 := SO.out.free 2 7 rfl; have fz8 := SO.out.free 2 8 rfl; have fz9 := SO.out.free 2 9 rfl; have bz := SO.out.lt 2 rfl
              go_wp2
              have e0 := set_same (SO.out.get 2 rfl) (j := 0) rfl; have e1 := set_same (SO.out.get 2 rfl) (j := 1) rfl; have e2 := set_same (SO.out.get 2 rfl) (j := 2) rfl; have e3 := set_same (SO.out.get 2 rfl) (j := 3) rfl; have e4 := set_same (SO.out.get 2 rfl) (j := 4) rfl; have e5 := set_same (SO.out.get 2 rfl) (j := 5) rfl; have e6 := set_same (SO.out.get 2 rfl) (j := 6) rfl; have e7 := set_same (SO.out.get 2 rfl) (j := 7) rfl; have e8 := set_same (SO.out.get 2 rfl) (j := 8) rfl; have e9 := set_same (SO.out.get 2 rfl) (j := 9) rfl; simp only [e0, e1, e2, e3, e4, e5, e6, e7, e8, e9]
              refine bodyPost_ret (v := .tuple #[.agg #[.int .i64 0, .int .i64 0, .int .i64 0, .int .i64 0, .int .i64 0, .int .i64 0, .slice none 0 0, .slice none 0 0, .slice none 0 0, .slice none 0 0], .int .i64 L.length, .int .i64 9]) (by simp [results, Try.results11, go_sem, z0, z1, z2, z3, z4, z5, z6, z7, z8, z9]) rfl ⟨SO.out.grow, .inr ⟨L.length, 9, rfl, by decide, EE⟩⟩
            have hd2 : decide ((L.length : Int) - (j : Int) - 1 < (n : Int)) = false := by simp; omega
            replace HG6 := Lib.hid (fun d m h => HG6.out d m (HDR.out.trans h))
            have hjn : j + 1 + n ≤ L.length := by omega
            clear HG5 hs lx hn HDR hs2
            go_wp2_with fail
            clear hd2 hsd hnw cb0 htd d1 dl htc
            obtain ⟨j1, hj1⟩ : ∃ j1, j1 = j + 1 := ⟨_, rfl⟩
            rw [← hj1] at HG6 hjn
            have hj1I : (j : Int) + 1 = (j1 : Int) := by omega
            rw [hj1I]
            have S2 := S
            clear hj1 hj1I hjl hj6 hltI hlt
            go_loopw [7, 17] (fun av iv wx => ∃ (k : Nat) (d : List Int) (da : Option Addr) (dc : Nat), k ≤ n ∧ iv = .int .i64 k ∧ av = .int .i64 ((j1 + k : Nat) : Int) ∧ Hid (d = (L.drop j1).take k) ∧ Hid (d.length = k) ∧ Hid (GS w wx rb cb sb ⟨co, ct, cr, ck, cm, cw⟩ f d A [] (.slice fa f.length fc) (.slice da d.length dc) (.slice aa A.length ac) (.slice none 0 0))) (fun _ iv _ => (n - intOf iv).toNat)
            case atStart => exact ⟨0, [], none, 0, by omega, rfl, rfl, rfl, rfl, S2⟩
            case round =>
              clear S2 S SO
              obtain ⟨k, d, da, dc, hk, rfl, rfl, HDL, HDN, S⟩ := hrel
              by_cases hkn : k < n
              · have hknI : (k : Int) < (n : Int) := by omega
                have hltk : j1 + k < L.length := by omega
                obtain ⟨_, _, e1, _, cb0⟩ := (HB.out.grown S.out.own.grow).1.at1 hltk
                cases e1
                have HF := Lib.hid (dropTake_succ hltk)
                generalize at0 L (j1 + k) = x at *
                have c7 := S.out.own.cell 0 7 rfl rfl
                have r7 := S.out.own.free 0 7 rfl
                have l7 := S.out.own.lt 0 rfl
                have SD := Lib.hid (S.out.grown (gb_drew (gb_refl wr none)))
                have hd9 : (d.length : Int) ≤ 255 := by have := HDN.out; omega
                have hsz := S.out.own.grow.size
                obtain ⟨ak, hak⟩ : ∃ ak : Nat, ak = j1 + k := ⟨_, rfl⟩
                rw [← hak] at hltk cb0 ⊢
                have hltkI : (ak : Int) < (L.length : Int) := by omega
                have HAK := Lib.hid hak
                have hak6 : (ak : Int) ≤ 100000 := by omega
                clear hak HG6
                go_wp2_with fail
                go_region_law (first | (refine step_append_at rfl (.tmp 185) (.tmp 190) 22 rfl w.heap.size 5 i3 (.int .u8 0) 1 1 Try.underlying22 ic9.out ic0.out ic1.out ic2.out rfl (by decide) (.slice da d.length dc) d.length (numsC .u8 d) (by simp [Act.eval]) (SD.out.rd.alloc _) ⟨wr.heap.size, 0, none⟩ 1 1 [.int .u8 x] (by simp [Act.eval]) rfl (new_cells wr.drew _ _) (by intro u hu; simp at hu; subst hu; rfl) (by unfold maxLen; omega) (by omega) (by simp; omega) (by decide) ?_; intro g' c' w1 ho1 hg1 hv1; have HO1 := Lib.hid ho1; have HH1 := Lib.hid hg1; have OW := own_row (e := 5) (SD.out.own.skip (.cells #[.int .u8 x] 5)) (by intro y hy; simp at hy; rcases hy with rfl | rfl | rfl <;> simp) (SD.out.rd.alloc _) hg1; have c7' := OW.cell 0 7 rfl rfl; have f7' := OW.free 0 7 rfl; have l7' := OW.lt 0 rfl; clear ho1 hg1 hv1 OW))
                all_goals
                  have PF := Lib.hid (SD.out.put_draws (gb_alloc (gb_refl wr.drew none) _) HO1.out HH1.out)
                  clear c7' f7' l7'
                  go_wp2
                  go_roundw
                  case rel => exact ⟨k + 1, d ++ [x], _, _, by omega, by go_num, by have := HAK.out; go_num, by have h1 := HF.out; have h2 := HDL.out; show _ = _; rw [h1, h2], by have := HDN.out; show _ = _; rw [List.length_append, this]; rfl, by rw [List.length_append]; exact PF.out⟩
                  case measure => simp [intOf]; (try omega)
              · obtain rfl : k = n := by omega
                have HG6 := Lib.hid (HG6.out d (j1 + k) (by rw [rep_bytes L j1 k hjn, HDL.out]))
                obtain ⟨m0, hm0⟩ : ∃ m0, m0 = j1 + k := ⟨_, rfl⟩
                rw [← hm0] at HG6 hjn ⊢
                clear hm0 hk HDL HDN
                go_wp2_with fail
                have S2 := S
                go_loopw [7] (fun av wx => ∃ (k : Nat) (p : List Int) (pa : Option Addr) (pc : Nat), m0 + k ≤ L.length ∧ av = .int .i64 ((m0 + k : Nat) : Int) ∧ Hid (p = (L.drop m0).take k) ∧ Hid (p.length = k) ∧ Hid (GS w wx rb cb sb ⟨co, ct, cr, ck, cm, cw⟩ f d A p (.slice fa f.length fc) (.slice da d.length dc) (.slice aa A.length ac) (.slice pa p.length pc))) (fun av _ => (L.length - intOf av).toNat)
                case atStart => exact ⟨0, [], none, 0, by omega, rfl, rfl, rfl, S2⟩
                case round =>
                  clear S2 S
                  obtain ⟨k9, p, pa, pc, hk9, rfl, HPL, HPN, S⟩ := hrel
                  by_cases hkn : m0 + k9 < L.length
                  · obtain ⟨_, _, e1, _, cb0⟩ := (HB.out.grown S.out.own.grow).1.at1 hkn
                    cases e1
                    have lx := at0_byte HB.out.2 hkn
                    have HF := Lib.hid (dropTake_succ hkn)
                    generalize at0 L (m0 + k9) = x at *
                    have hxw : IntKind.i64.wrap x = x := IntWalk.i64_in _ (by omega)
                    have c9 := S.out.own.cell 0 9 rfl rfl
                    have r9 := S.out.own.free 0 9 rfl
                    have l9 := S.out.own.lt 0 rfl
                    have SD := Lib.hid (S.out.grown (gb_drew (gb_refl wr none)))
                    have hp9 : (p.length : Int) ≤ 100000 := by have := HPN.out; omega
                    have hsz := S.out.own.grow.size
                    obtain ⟨ak, hak⟩ : ∃ ak : Nat, ak = m0 + k9 := ⟨_, rfl⟩
                    rw [← hak] at hkn cb0 ⊢
                    have hltkI : (ak : Int) < (L.length : Int) := by omega
                    have HAK := Lib.hid hak
                    have hak6 : (ak : Int) ≤ 100000 := by omega
                    clear hak HG6 lx
                    go_wp2_with fail
                    go_region_law (first | (refine step_append_at rfl (.tmp 200) (.tmp 206) 28 rfl w.heap.size 3 i4 (.int .i64 0) 1 8 Try.underlying28 id9.out id0.out id1.out id2.out rfl (by decide) (.slice pa p.length pc) p.length (numsC .i64 p) (by simp [Act.eval]) (SD.out.rp.alloc _) ⟨wr.heap.size, 0, none⟩ 1 1 [.int .i64 x] (by simp [Act.eval]) rfl (new_cells wr.drew _ _) (by intro u hu; simp at hu; subst hu; rfl) (by unfold maxLen; omega) (by omega) (by simp; omega) (by decide) ?_; intro g' c' w1 ho1 hg1 hv1; have HO1 := Lib.hid ho1; have HH1 := Lib.hid hg1; have OW := own_row (e := 3) (SD.out.own.skip (.cells #[.int .i64 x] 3)) (by intro y hy; simp at hy; rcases hy with rfl | rfl | rfl <;> simp) (SD.out.rp.alloc _) hg1; have c9' := OW.cell 0 9 rfl rfl; have f9' := OW.free 0 9 rfl; have l9' := OW.lt 0 rfl; clear ho1 hg1 hv1 OW))
                    all_goals
                      have PF := Lib.hid (SD.out.put_picks (gb_alloc (gb_refl wr.drew none) _) HO1.out HH1.out)
                      clear c9' f9' l9'
                      go_wp2
                      go_roundw
                      case rel => exact ⟨k9 + 1, p ++ [x], _, _, by have := HAK.out; omega, by have := HAK.out; go_num, by have h1 := HF.out; have h2 := HPL.out; show _ = _; rw [h1, h2], by have := HPN.out; show _ = _; rw [List.length_append, this]; rfl, by rw [List.length_append]; exact PF.out⟩
                      case measure => simp [intOf]; (try omega)
                  · have hke : m0 + k9 = L.length := by omega
                    have EE := Lib.hid HG6.out
                    have HPP := Lib.hid (show L.drop m0 = p by rw [HPL.out, List.take_of_length_le (by rw [List.length_drop]; omega)])
                    have E9 := Lib.hid (show getS L = .ok ⟨⟨co, ct, cr, ck, cm, cw⟩, f, d, A, p⟩ by rw [EE.out, HPP.out])
                    have OS := Lib.hid (show OwnScr w.heap.size wr ⟨⟨co, ct, cr, ck, cm, cw⟩, f, d, A, p⟩ (.slice fa f.length fc) (.slice da d.length dc) (.slice aa A.length ac) (.slice pa p.length pc) from ⟨S.out.rf, S.out.rd, S.out.ra, S.out.rp⟩)
                    have SO := Lib.hid S.out.own
                    have hrb := SO.out.base 2 rfl
                    have GG := Lib.hid (fun v0 v1 v2 v3 v4 v5 v6 v7 v8 v9 => gb_set10 SO.out.grow rb hrb v0 v1 v2 v3 v4 v5 v6 v7 v8 v9)
                    have OO := Lib.hid (fun v0 v1 v2 v3 v4 v5 v6 v7 v8 v9 => own_setQ OS.out (SO.out.get 2 rfl) v0 v1 v2 v3 v4 v5 v6 v7 v8 v9)
                    have hkd : decide (((m0 + k9 : Nat) : Int) < (L.length : Int)) = false := by simp; omega
                    have s0 := SO.out.cell 0 0 rfl rfl
                    have s1 := SO.out.cell 0 1 rfl rfl
                    have s2 := SO.out.cell 0 2 rfl rfl
                    have s3 := SO.out.cell 0 3 rfl rfl
                    have s4 := SO.out.cell 0 4 rfl rfl
                    have s5 := SO.out.cell 0 5 rfl rfl
                    have s6 := SO.out.cell 0 6 rfl rfl
                    have s7 := SO.out.cell 0 7 rfl rfl
                    have s8 := SO.out.cell 0 8 rfl rfl
                    have s9 := SO.out.cell 0 9 rfl rfl
                    obtain ⟨nsr, nrs⟩ := SO.out.ne' 0 2 rfl rfl (by decide)
                    clear HG6 EE HPP HPL HPN S OS hrb hke
                    have z0 := SO.out.cell 2 0 rfl rfl; have z1 := SO.out.cell 2 1 rfl rfl; have z2 := SO.out.cell 2 2 rfl rfl; have z3 := SO.out.cell 2 3 rfl rfl; have z4 := SO.out.cell 2 4 rfl rfl; have z5 := SO.out.cell 2 5 rfl rfl; have z6 := SO.out.cell 2 6 rfl rfl; have z7 := SO.out.cell 2 7 rfl rfl; have z8 := SO.out.cell 2 8 rfl rfl; have z9 := SO.out.cell 2 9 rfl rfl; have fz0 := SO.out.free 2 0 rfl; have fz1 := SO.out.free 2 1 rfl; have fz2 := SO.out.free 2 2 rfl; have fz3 := SO.out.free 2 3 rfl; have fz4 := SO.out.free 2 4 rfl; have fz5 := SO.out.free 2 5 rfl; have fz6 := SO.out.free 2 6 rfl; have fz7 := SO.out.free 2 7 rfl; have fz8 := SO.out.free 2 8 rfl; have fz9 := SO.out.free 2 9 rfl; have bz := SO.out.lt 2 rfl
                    go_wp2
                    refine bodyPost_ret (v := .tuple #[.agg #[.int .i64 co, .int .i64 ct, .int .i64 cr, .int .i64 ck, .int .i64 cm, .int .i64 cw, .slice fa f.length fc, .slice da d.length dc, .slice aa A.length ac, .slice pa p.length pc], .int .i64 (-1), .int .i64 0]) ?_ rfl ⟨GG.out _ _ _ _ _ _ _ _ _ _, .inl ⟨_, _, _, _, _, rfl, E9, OO.out _ _ _ _ _ _ _ _ _ _⟩⟩
                    simp [results, Try.results11, go_sem, z0, z1, z2, z3, z4, z5, z6, z7, z8, z9]
end Go.Proofs.Ytinmhefkmjlelaa.sc
