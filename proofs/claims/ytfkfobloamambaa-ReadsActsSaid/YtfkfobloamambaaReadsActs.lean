/-
  ReadsActs: whatever is added, released and put, each answer, and all that the set has, are the document's all along; for any list of acts and any object.
  Conditions: none (of more than 100 acts the law says nothing by itself).
-/
import Derived.Test.YtfkfobloamambaaRows
import Derived.Test.YtfkfobloamambaaRdL
import Derived.Test.YtfkfobloamambaaActL
import Derived.Deep.CutRange
import Derived.Deep.CutBlock
import Derived.Deep.DeepCutAuto
namespace Go.Proofs.Ytfkfobloamambaa.readsActs
open Go.ChangeShapes Go.WideShapes Go.ChangeAt Go.RowKit Go.Proofs.Ytfkfobloamambaa.base Go.Proofs.Ytfkfobloamambaa.lg Go.Proofs.Ytfkfobloamambaa.rd
set_option linter.unusedVariables false

/-- At the head of a round: both sets have the same readings and own ones. -/
def Rel (w : World) (s v len : Nat) (iv : Value) (wr : World) : Prop :=
  ∃ (k : Nat) (l : List Rd) (m : List Ow), k ≤ len ∧ iv = .int .i64 k ∧ Hid (l.length ≤ k ∧ m.length ≤ k ∧ Uniq l) ∧ Hid (Has (Both (SA s l m) (SB v l m)) w wr [])
/-- Behind the act. -/
def Acted (w : World) (s v ab k : Nat) (K : Int) (y : Ac) (wr : World) : Prop :=
  ∃ (l : List Rd) (m : List Ow), Hid (l.length ≤ k + 1 ∧ m.length ≤ k + 1 ∧ Uniq l) ∧ Hid (Has (Both (SA s l m) (SB v l m)) w wr [(ab, 36, [.int .i64 K, .int .i64 y.r.o, .int .i64 y.r.n, .int .i64 y.r.v, .int .i64 y.x.o, .int .i64 y.x.c, .int .i64 y.x.n, .int .i64 y.x.v, .bool y.x.b])])

set_option maxRecDepth 100000 in
theorem walk_out (a1 : Option Addr) (len1 cap1 : Nat) (o : Int) (w : World) (h : 100 < (len1 : Int)) : Calls Try.prog 3 #[.slice a1 len1 cap1, .int .i64 o] w fun e w' => e = .returned (.bool true) ∧ Below w.heap.size w w' := by
  go_enter Try.func3, Try.ntmps3
  go_wp2_with fail
  refine (alive_any _).mono ?_
  rintro e v1 ⟨rfl, g1⟩
  go_wp2
  go_ret
  exact ⟨rfl, gb_below g1.out⟩

set_option maxRecDepth 100000 in
set_option maxHeartbeats 4000000 in
theorem walkIn (a1 : Option Addr) (len1 cap1 : Nat) (l1 : List Ac) (o : Int) (w : World) (n1 : len1 = l1.length) (w1 : IsL Ac.cells w a1 l1) (h : ¬ 100 < (len1 : Int)) : Calls Try.prog 3 #[.slice a1 len1 cap1, .int .i64 o] w fun e w' => e = .returned (.bool true) ∧ Below w.heap.size w w' := by
  have W1 := Lib.hid w1
  have HL := Lib.hid n1
  have hn := Lib.hid (show len1 ≤ 100 by omega)
  clear w1 n1
  go_enter Try.func3, Try.ntmps3
  go_wp2_with fail
  refine (alive_any _).mono ?_
  rintro e v1 ⟨rfl, g1⟩
  have M1 := Lib.hid ((Own.start w).grown g1.out)
  clear g1
  go_wp2_with fail
  refine (new_any w [] _ M1.out).mono ?_
  rintro e v2 ⟨rfl, M2⟩
  generalize v1.heap.size = s at *
  clear M1
  go_upto_region 9 with fail
  obtain ⟨X, hX, o2⟩ := M2.out
  have M3 := Lib.hid (Has.ofRight (R := []) hX (by simpa using SetS.made (T := 30) (e1 := 32) (e2 := 34) o2))
  clear hX o2 M2
  generalize v2.alloc _ = v3 at *
  generalize v2.heap.size = v at *
  go_wp2_with fail
  go_loopw [7] (fun iv wr => Rel w s v len1 iv wr) (fun iv _ => (len1 - intOf iv).toNat)
  case atStart => exact ⟨0, [], [], by omega, rfl, ⟨by simp, by simp, List.Pairwise.nil⟩, M3⟩
  case round =>
    obtain ⟨k, l, m, hk, rfl, HZ, M⟩ := hrel
    clear M3
    by_cases hlt : k < len1
    · obtain ⟨y, hy⟩ : ∃ y, l1[k]? = some y := ⟨_, List.getElem?_eq_getElem (by rw [← HL.out]; exact hlt)⟩
      obtain ⟨b1, off1, rfl, hb1, c0, c1, c2, c3, c4, c5, c6, c7, c8⟩ := at9 (W1.out.below M.out.below) hy
      have hlt' : (k : Int) < (len1 : Int) := by omega
      clear hy
      generalize y.k = K at *
      go_upto_region 13 with fail
      have M4 := Lib.hid (M.out.alloc 36 [.int .i64 K, .int .i64 y.r.o, .int .i64 y.r.n, .int .i64 y.r.v, .int .i64 y.x.o, .int .i64 y.x.c, .int .i64 y.x.n, .int .i64 y.x.v, .bool y.x.b])
      generalize wr.heap.size = ab at *
      generalize wr.alloc _ = v4 at *
      clear c0 c1 c2 c3 c4 c5 c6 c7 c8 M
      have a0 := M4.out.cell 0 0 rfl rfl; have a1 := M4.out.cell 0 1 rfl rfl; have a2 := M4.out.cell 0 2 rfl rfl; have a3 := M4.out.cell 0 3 rfl rfl; have a4 := M4.out.cell 0 4 rfl rfl; have a5 := M4.out.cell 0 5 rfl rfl; have a6 := M4.out.cell 0 6 rfl rfl; have a7 := M4.out.cell 0 7 rfl rfl; have a8 := M4.out.cell 0 8 rfl rfl
      obtain ⟨XA, hXA, MB4⟩ := M4.out.right
      have F := Lib.hid (refR w _ v l m y.r.o v4 MB4 (by have := HZ.out.1; have := hn.out; omega))
      clear hXA MB4 XA
      go_wp2_with fail
      refine F.out.mono ?_
      rintro e u ⟨rfl, rfl⟩
      clear F
      obtain ⟨hb, hhb⟩ : ∃ hb, hb = (pl Rd.o y.r.o l).isSome := ⟨_, rfl⟩
      have hpv : decide (0 ≤ pv (pl Rd.o y.r.o l)) = hb := by
        rw [hhb]
        cases pl Rd.o y.r.o l with
        | none => rfl
        | some q => simp [pv]
      generalize pv (pl Rd.o y.r.o l) = PV at *
      have HHB := Lib.hid hhb
      clear hhb
      go_upto_block 2 with fail
      go_cut [] from 27 to 211 (fun wx => Acted w s v ab k K y wx)
      case first =>
        by_cases hK : K = 0
        · subst hK
          cases hb with
          | true =>
            as_aux_lemma =>
              obtain ⟨q, hq⟩ : ∃ q, pl Rd.o y.r.o l = some q := Option.isSome_iff_exists.1 HHB.out.symm
              obtain ⟨XB, hXB, MA4⟩ := M4.out.left
              have A := Lib.hid (add_has w _ s l m y.r q v4 MA4 (by have := HZ.out.1; have := hn.out; omega) hq)
              clear hq hXB MA4 XB
              go_wp2_with fail
              refine A.out.mono ?_
              rintro e v5 ⟨rfl, g⟩
              have M5 := Lib.hid (M4.out.grown g.out)
              clear A g
              go_wp2
              go_meet
              exact ⟨l, m, ⟨by have := HZ.out.1; omega, by have := HZ.out.2.1; omega, HZ.out.2.2⟩, M5⟩
          | false =>
            as_aux_lemma =>
              have hq : pl Rd.o y.r.o l = none := Option.isNone_iff_eq_none.1 (by have := HHB.out; cases h9 : pl Rd.o y.r.o l with | none => rfl | some q => rw [h9] at this; cases this)
              obtain ⟨XB, hXB, MA4⟩ := M4.out.left
              have A := Lib.hid (add_new w _ s l m y.r v4 MA4 (by have := HZ.out.1; have := hn.out; omega) hq)
              have HZ2 := Lib.hid (show (l ++ [y.r]).length ≤ k + 1 ∧ m.length ≤ k + 1 ∧ Uniq (l ++ [y.r]) from ⟨by have := HZ.out.1; simp; omega, by have := HZ.out.2.1; omega, Uniq.add HZ.out.2.2 hq⟩)
              have HXB := Lib.hid hXB
              obtain ⟨i0, hi0, hz00, hz10, hz20⟩ := info_parts infoRefR
              have hi := Lib.hid hi0
              have hz0 := Lib.hid hz00
              have hz1 := Lib.hid hz10
              have hz2 := Lib.hid hz20
              clear hq hXB MA4 hi0 hz00 hz10 hz20
              go_wp2_with fail
              refine A.out.mono ?_
              rintro e v5 ⟨rfl, MA5⟩
              have M5 := Lib.hid (Has.ofLeft HXB.out MA5.out)
              clear A MA5 HXB a0 a1 a2 a3 a4 a5 a6 a7 a8
              have a0 := M5.out.cell 0 0 rfl rfl; have a1 := M5.out.cell 0 1 rfl rfl; have a2 := M5.out.cell 0 2 rfl rfl; have a3 := M5.out.cell 0 3 rfl rfl; have a4 := M5.out.cell 0 4 rfl rfl; have a5 := M5.out.cell 0 5 rfl rfl; have a6 := M5.out.cell 0 6 rfl rfl; have a7 := M5.out.cell 0 7 rfl rfl; have a8 := M5.out.cell 0 8 rfl rfl
              go_upto_region 20 with fail
              obtain ⟨XA, hXA, MB5⟩ := M5.out.right
              obtain ⟨V, U, L, Mm, h1, h2, o3⟩ := SetS.openR MB5
              obtain ⟨ao, cap, rfl⟩ := h1.slice
              have ho := Lib.hid (h1.owns rlen o3)
              have h1 := Lib.hid h1
              have h2 := Lib.hid h2
              have O3 := Lib.hid o3
              have O3' := Lib.hid (Own.mid.2 o3)
              have HXA := Lib.hid hXA
              have c0 := O3'.out.cell 0 0 rfl rfl
              have hsv := O3'.out.lt 0 rfl
              have hvs := M5.out.size
              have hal := M5.out.lt 0 rfl
              have hll : l.length ≤ 100 := by have := HZ.out.1; have := hn.out; omega
              clear hXA MB5 o3
              go_region_law (refine step_append_at rfl (.tmp 78) (.tmp 81) 27 rfl w.heap.size 32 i0 (.agg #[.int .i64 0, .int .i64 0, .int .i64 0]) 3 24 Try.underlying27 hi.out hz0.out hz1.out hz2.out rfl (by decide) (.slice ao l.length cap) l.length (rows Rd.cells l) (by simp [Act.eval]) ((ho.out.alloc _).drew) ⟨v5.heap.size, 0, none⟩ 1 1 [.int .i64 y.r.o, .int .i64 y.r.n, .int .i64 y.r.v] (by simp [Act.eval]) rfl (new_cells v5.drew _ _) (rone y.r) (by unfold maxLen; omega) (by omega) (by simp; omega) (by decide) ?_; intro g' c' w1 ho1 hg1 hv1; obtain ⟨L', hr, o4⟩ := Row.snoc (x := y.r) h1.out O3.out (by repeat (first | exact gb_refl _ _ | refine gb_drewN ?_ _ | refine gb_drew ?_ | refine gb_alloc ?_ _)) ho1 hg1 hv1; have c2 := (Own.mid.2 o4).cell 0 0 rfl rfl; have f2 := (Own.mid.2 o4).free 0 0 rfl; have HR := Lib.hid hr; have O4 := Lib.hid o4; clear ho1 hg1 hv1 hr o4)
              all_goals
                go_wp2
                go_meet
                exact ⟨l ++ [y.r], m, HZ2, Has.ofRight HXA.out (SetS.putR HR.out h2.out O4.out)⟩
        by_cases hK1 : K = 1
        · as_aux_lemma =>
            subst hK1
            obtain ⟨XB, hXB, MA4⟩ := M4.out.left
            have D := Lib.hid (drop_any y.r.o hb MA4 (by have := HZ.out.1; have := hn.out; omega) HHB.out)
            have HXB := Lib.hid hXB
            clear hXB MA4
            go_wp2_with fail
            refine D.out.mono ?_
            rintro e v5 ⟨rfl, MA5⟩
            have M5 := Lib.hid (Has.ofLeft HXB.out MA5.out)
            clear D MA5 HXB a0 a1 a2 a3 a4 a5 a6 a7 a8
            obtain ⟨XA, hXA, MB5⟩ := M5.out.right
            have E := Lib.hid (refdrop w _ v l m y.r.o v5 MB5 (by have := HZ.out.1; have := hn.out; omega))
            rw [dropL_flt HZ.out.2.2] at E
            have HXA := Lib.hid hXA
            have HZ2 := Lib.hid (show (dropL y.r.o l).length ≤ k + 1 ∧ m.length ≤ k + 1 ∧ Uniq (dropL y.r.o l) from ⟨by have := HZ.out.1; have := dropL_len y.r.o l; omega, by have := HZ.out.2.1; omega, HZ.out.2.2.drop _⟩)
            have a0 := M5.out.cell 0 0 rfl rfl; have a1 := M5.out.cell 0 1 rfl rfl; have a2 := M5.out.cell 0 2 rfl rfl; have a3 := M5.out.cell 0 3 rfl rfl; have a4 := M5.out.cell 0 4 rfl rfl; have a5 := M5.out.cell 0 5 rfl rfl; have a6 := M5.out.cell 0 6 rfl rfl; have a7 := M5.out.cell 0 7 rfl rfl; have a8 := M5.out.cell 0 8 rfl rfl
            clear hXA MB5
            go_wp2_with fail
            refine E.out.mono ?_
            rintro e v6 ⟨rfl, MB6⟩
            have M6 := Lib.hid (Has.ofRight HXA.out MB6.out)
            clear E MB6 HXA M5
            go_wp2
            go_meet
            exact ⟨_, m, HZ2, M6⟩
        by_cases hK2 : K = 2
        · as_aux_lemma =>
            subst hK2
            have G := Lib.hid (fun u => own_any y.x u)
            go_wp2_with fail
            refine (G.out _).mono ?_
            rintro e v5 ⟨rfl, g⟩
            have M5 := Lib.hid (M4.out.grown g.out)
            clear G g M4 a0 a1 a2 a3 a4 a5 a6 a7 a8
            obtain ⟨XB, hXB, MA5⟩ := M5.out.left
            have P := Lib.hid (put_any y.x MA5 (by have := HZ.out.2.1; have := hn.out; omega))
            have HXB := Lib.hid hXB
            clear hXB MA5 M5
            go_wp2_with fail
            refine P.out.mono ?_
            rintro e v6 ⟨rfl, MA6⟩
            have M6 := Lib.hid (Has.ofLeft HXB.out MA6.out)
            clear P MA6 HXB
            obtain ⟨XA, hXA, MB6⟩ := M6.out.right
            have E := Lib.hid (refput_any y.x MB6 (by have := HZ.out.2.1; have := hn.out; omega))
            have HXA := Lib.hid hXA
            have HZ2 := Lib.hid (show l.length ≤ k + 1 ∧ (putL y.x m).length ≤ k + 1 ∧ Uniq l from ⟨by have := HZ.out.1; omega, by have := HZ.out.2.1; have := putL_len y.x m; omega, HZ.out.2.2⟩)
            have a0 := M6.out.cell 0 0 rfl rfl; have a1 := M6.out.cell 0 1 rfl rfl; have a2 := M6.out.cell 0 2 rfl rfl; have a3 := M6.out.cell 0 3 rfl rfl; have a4 := M6.out.cell 0 4 rfl rfl; have a5 := M6.out.cell 0 5 rfl rfl; have a6 := M6.out.cell 0 6 rfl rfl; have a7 := M6.out.cell 0 7 rfl rfl; have a8 := M6.out.cell 0 8 rfl rfl
            clear hXA MB6
            go_wp2_with fail
            refine E.out.mono ?_
            rintro e v7 ⟨rfl, MB7⟩
            have M7 := Lib.hid (Has.ofRight HXA.out MB7.out)
            clear E MB7 HXA M6
            go_wp2
            go_meet
            exact ⟨l, _, HZ2, M7⟩
        have k0 : (K == 0) = false := by simpa using hK
        have k1 : (K == 1) = false := by simpa using hK1
        have k2 : (K == 2) = false := by simpa using hK2
        clear hK hK1 hK2
        go_wp2
        go_meet
        exact ⟨l, m, ⟨by have := HZ.out.1; omega, by have := HZ.out.2.1; omega, HZ.out.2.2⟩, M4⟩
      case rest =>
      clear M4 HZ HHB hpv a0 a1 a2 a3 a4 a5 a6 a7 a8
      obtain ⟨l2, m2, HZ, M5⟩ := hcut
      have hll : l2.length ≤ 101 := by have := HZ.out.1; have := hn.out; omega
      have hmm : m2.length ≤ 101 := by have := HZ.out.2.1; have := hn.out; omega
      obtain ⟨r, hr⟩ : ∃ r, r = gt Rz Rd.o o l2 := ⟨_, rfl⟩
      obtain ⟨bi, hbi⟩ : ∃ bi, bi = (pl Rd.o o l2).isSome := ⟨_, rfl⟩
      obtain ⟨x, hx⟩ : ∃ x, x = gt Oz Ow.o o m2 := ⟨_, rfl⟩
      obtain ⟨bm, hbm⟩ : ∃ bm, bm = (pl Ow.o o m2).isSome := ⟨_, rfl⟩
      obtain ⟨kk, hkk⟩ : ∃ kk, kk = pv (pl Rd.o o l2) := ⟨_, rfl⟩
      obtain ⟨nn, hnn⟩ : ∃ nn, nn = pv (pl Ow.o o m2) := ⟨_, rfl⟩
      have HI : Hid ((bi = false ∧ r = Rz ∧ kk = -1) ∨ ∃ p : Nat, bi = true ∧ kk = (p : Int) ∧ l2[p]? = some r) := by
        rcases pl_spec Rd.o o l2 with ⟨h1, _⟩ | ⟨p, x1, h1, h2, _⟩
        · exact .inl ⟨by rw [hbi, h1]; rfl, by rw [hr, gt_none h1], by rw [hkk, h1]; rfl⟩
        · exact .inr ⟨p, by rw [hbi, h1]; rfl, by rw [hkk, h1]; rfl, by rw [hr, gt_some h1 h2]; exact h2⟩
      have HM : Hid ((bm = false ∧ x = Oz ∧ nn = -1) ∨ ∃ p : Nat, bm = true ∧ nn = (p : Int) ∧ m2[p]? = some x) := by
        rcases pl_spec Ow.o o m2 with ⟨h1, _⟩ | ⟨p, x1, h1, h2, _⟩
        · exact .inl ⟨by rw [hbm, h1]; rfl, by rw [hx, gt_none h1], by rw [hnn, h1]; rfl⟩
        · exact .inr ⟨p, by rw [hbm, h1]; rfl, by rw [hnn, h1]; rfl, by rw [hx, gt_some h1 h2]; exact h2⟩
      have F1 := Lib.hid (fun u (hu : Has (Both (SA s l2 m2) (SB v l2 m2)) w u [(ab, 36, [.int .i64 K, .int .i64 y.r.o, .int .i64 y.r.n, .int .i64 y.r.v, .int .i64 y.x.o, .int .i64 y.x.c, .int .i64 y.x.n, .int .i64 y.x.v, .bool y.x.b])]) => (by
        obtain ⟨XB, hXB, MA⟩ := hu.left
        exact hasR w _ s l2 m2 o r bi u MA (by omega) hr hbi : Calls Try.prog 16 #[.pointer (some ⟨s, 0, none⟩), .int .i64 o] u fun e w' => e = .returned (.tuple #[.agg #[.int .i64 r.o, .int .i64 r.n, .int .i64 r.v], .bool bi]) ∧ Hid (u.grownBy w' none)))
      have F2 := Lib.hid (fun u R (hu : Has (Both (SA s l2 m2) (SB v l2 m2)) w u R) => (by
        obtain ⟨XB, hXB, MA⟩ := hu.left
        exact hasO w _ s l2 m2 o x bm u MA (by omega) hx hbm : Calls Try.prog 17 #[.pointer (some ⟨s, 0, none⟩), .int .i64 o] u fun e w' => e = .returned (.tuple #[.agg #[.int .i64 x.o, .int .i64 x.c, .int .i64 x.n, .int .i64 x.v, .bool x.b], .bool bm]) ∧ Hid (u.grownBy w' none)))
      have F3 := Lib.hid (fun u R (hu : Has (Both (SA s l2 m2) (SB v l2 m2)) w u R) => (by
        obtain ⟨XA, hXA, MB⟩ := hu.right
        rw [hkk]
        exact refR w _ v l2 m2 o u MB (by omega) : Calls Try.prog 9 #[.pointer (some ⟨v, 0, none⟩), .int .i64 o] u fun e w' => e = .returned (.int .i64 kk) ∧ u = w'))
      have F4 := Lib.hid (fun u R (hu : Has (Both (SA s l2 m2) (SB v l2 m2)) w u R) => (by
        obtain ⟨XA, hXA, MB⟩ := hu.right
        rw [hnn]
        exact refO w _ v l2 m2 o u MB (by omega) : Calls Try.prog 18 #[.pointer (some ⟨v, 0, none⟩), .int .i64 o] u fun e w' => e = .returned (.int .i64 nn) ∧ u = w'))
      clear hr hbi hx hbm hkk hnn
      go_wp2_with fail
      refine (F1.out _ M5.out).mono ?_
      rintro e v6 ⟨rfl, g⟩
      have M6 := Lib.hid (M5.out.grown g.out)
      clear F1 g M5
      go_upto_region 29 with fail
      have M7 := Lib.hid (M6.out.alloc 40 [.int .i64 r.o, .int .i64 r.n, .int .i64 r.v])
      generalize v6.heap.size = rb at *
      generalize v6.alloc _ = v7 at *
      clear M6
      go_wp2_with fail
      refine (F2.out _ _ M7.out).mono ?_
      rintro e v8 ⟨rfl, g⟩
      have M8 := Lib.hid (M7.out.grown g.out)
      clear F2 g M7
      go_upto_region 30 with fail
      have M9 := Lib.hid (M8.out.alloc 44 [.int .i64 x.o, .int .i64 x.c, .int .i64 x.n, .int .i64 x.v, .bool x.b])
      generalize v8.heap.size = xb at *
      generalize v8.alloc _ = v9 at *
      clear M8
      go_wp2_with fail
      refine (F3.out _ _ M9.out).mono ?_
      rintro e v10 ⟨rfl, rfl⟩
      go_wp2_with fail
      refine (F4.out _ _ M9.out).mono ?_
      rintro e v10 ⟨rfl, rfl⟩
      clear F3 F4
      go_upto_region 31 with fail
      go_cut [155] from 27 to 211 (fun tv wx => tv = .bool false ∧ wx = v9)
      case first =>
        have d0 := M9.out.cell 1 0 rfl rfl; have d1 := M9.out.cell 1 1 rfl rfl; have d2 := M9.out.cell 1 2 rfl rfl
        have c0 := M9.out.cell 0 0 rfl rfl; have c1 := M9.out.cell 0 1 rfl rfl; have c2 := M9.out.cell 0 2 rfl rfl; have c3 := M9.out.cell 0 3 rfl rfl; have c4 := M9.out.cell 0 4 rfl rfl
        have z0 : Rz.o = 0 := rfl
        have z1 : Rz.n = 0 := rfl
        have z2 : Rz.v = 0 := rfl
        have q0 : Oz.o = 0 := rfl
        have q1 : Oz.c = 0 := rfl
        have q2 : Oz.n = 0 := rfl
        have q3 : Oz.v = 0 := rfl
        have q4 : Oz.b = false := rfl
        rcases HI.out with ⟨rfl, rfl, rfl⟩ | ⟨p, rfl, rfl, hp⟩
        · rcases HM.out with ⟨rfl, rfl, rfl⟩ | ⟨p2, rfl, rfl, hp2⟩
          · as_aux_lemma =>
              go_wp2
              go_meet
              exact ⟨rfl, rfl⟩
          · as_aux_lemma =>
              clear hp2
              go_wp2
              go_meet
              exact ⟨rfl, rfl⟩
        · rcases HM.out with ⟨rfl, rfl, rfl⟩ | ⟨p2, rfl, rfl, hp2⟩
          · as_aux_lemma =>
              clear hp
              go_wp2
              go_meet
              exact ⟨rfl, rfl⟩
          · as_aux_lemma =>
              clear hp hp2
              go_wp2
              go_meet
              exact ⟨rfl, rfl⟩
      case rest =>
      obtain ⟨rfl, rfl⟩ := hcut
      go_upto_region 33 with fail
      go_cut [185] from 27 to 211 (fun tv wx => tv = .bool false ∧ Hid (Has (Both (SA s l2 m2) (SB v l2 m2)) w wx []))
      case first =>
        have d0 := M9.out.cell 1 0 rfl rfl; have d1 := M9.out.cell 1 1 rfl rfl; have d2 := M9.out.cell 1 2 rfl rfl
        have c0 := M9.out.cell 0 0 rfl rfl; have c1 := M9.out.cell 0 1 rfl rfl; have c2 := M9.out.cell 0 2 rfl rfl; have c3 := M9.out.cell 0 3 rfl rfl; have c4 := M9.out.cell 0 4 rfl rfl
        obtain ⟨XA, hXA, MB⟩ := M9.out.right
        have hvl := SetS.lt MB
        have hrl := M9.out.lt 1 rfl
        have hxl := M9.out.lt 0 rfl
        have GA := Lib.hid (gb_alloc (gb_drew (gb_refl wc none)) (.cells #[.int .i64 r.o, .int .i64 r.n, .int .i64 r.v] 40))
        have NB := Blk.made wc 40 #[.int .i64 r.o, .int .i64 r.n, .int .i64 r.v]
        have NA := Lib.hid (isL_one (x := r) (NB.cell 0) (NB.cell 1) (NB.cell 2))
        clear NB
        obtain ⟨nl, hnl⟩ : ∃ nl, nl = l2.length := ⟨_, rfl⟩
        obtain ⟨nm, hnm⟩ : ∃ nm, nm = m2.length := ⟨_, rfl⟩
        rcases HI.out with ⟨rfl, rfl, rfl⟩ | ⟨p, rfl, rfl, hp⟩
        · rcases HM.out with ⟨rfl, rfl, rfl⟩ | ⟨p2, rfl, rfl, hp2⟩
          · as_aux_lemma =>
              clear hXA MB
              go_quiet (fail)
              go_wp2
              go_meet
              exact ⟨rfl, (M9.out.drop (List.nil_sublist _)).drewN _⟩
          · as_aux_lemma =>
              obtain ⟨gm, cm, cv1, hgm, k0, k1, k2, k3, k4⟩ := SetS.readO MB hp2
              rw [← hnm] at cv1
              have hpl2 : (p2 : Int) < (nm : Int) := by have := (List.getElem?_eq_some_iff.1 hp2).1; omega
              clear hXA MB hp2 hnm hnl
              refine wp_region_noPanic ?_
              refine wp_region_held_drew (S := (fun w' => w'.cell? ⟨xb, 0, none⟩ = some (.int .i64 x.o) ∧ w'.cell? ⟨xb, 1, none⟩ = some (.int .i64 x.c) ∧ w'.cell? ⟨xb, 2, none⟩ = some (.int .i64 x.n) ∧ w'.cell? ⟨xb, 3, none⟩ = some (.int .i64 x.v) ∧ w'.cell? ⟨xb, 4, none⟩ = some (.bool x.b) ∧ w'.cell? ⟨v, 1, none⟩ = some (.slice (some ⟨gm, 0, none⟩) nm cm) ∧ w'.cell? ⟨gm, p2 * 5, none⟩ = some (.int .i64 x.o) ∧ w'.cell? ⟨gm, p2 * 5 + 1, none⟩ = some (.int .i64 x.c) ∧ w'.cell? ⟨gm, p2 * 5 + 2, none⟩ = some (.int .i64 x.n) ∧ w'.cell? ⟨gm, p2 * 5 + 3, none⟩ = some (.int .i64 x.v) ∧ w'.cell? ⟨gm, p2 * 5 + 4, none⟩ = some (.bool x.b))) (by kernel_rfl) ?_ (fun hHeld => ?_)
              · go_keep
              refine wpAnyH_take (i := 0) (oi := { dst := some 156, op := _, type := _, pos := _, after := _, guard := _ }) (v := ?_) rfl (by kernel_rfl) (by kernel_rfl) (by kernel_rfl) (fun _ _ _ h => h) (Or.inl ⟨by rfl, ?_⟩) (by assumption) ?_
              rotate_left
              · intro w hSw; (try dsimp only at hSw); go_simp; (try with_reducible rfl)
              simp only [Act.put, List.setIfInBounds_toArray, List.set_cons_zero, List.set_cons_succ]
              refine wpAnyH_take (i := 1) (oi := { dst := some 157, op := _, type := _, pos := _, after := _, guard := _ }) (v := ?_) rfl (by kernel_rfl) (by kernel_rfl) (by kernel_rfl) (fun _ _ _ h => h) (Or.inl ⟨by rfl, ?_⟩) (by assumption) ?_
              rotate_left
              · intro w hSw; (try dsimp only at hSw); go_simp; (try with_reducible rfl)
              simp only [Act.put, List.setIfInBounds_toArray, List.set_cons_zero, List.set_cons_succ]
              refine wpAnyH_take (i := 2) (oi := { dst := some 158, op := _, type := _, pos := _, after := _, guard := _ }) rfl (by kernel_rfl) (by kernel_rfl) (by kernel_rfl) (fun _ _ _ h => h) (Or.inr ⟨by kernel_rfl, rfl⟩) (by assumption) ?_
              simp only [Act.put, List.setIfInBounds_toArray, List.set_cons_zero, List.set_cons_succ]
              refine wpAnyH_take (i := 3) (oi := { dst := some 159, op := _, type := _, pos := _, after := _, guard := _ }) rfl (by kernel_rfl) (by kernel_rfl) (by kernel_rfl) (fun _ _ _ h => h) (Or.inr ⟨by kernel_rfl, rfl⟩) (by assumption) ?_
              simp only [Act.put, List.setIfInBounds_toArray, List.set_cons_zero, List.set_cons_succ]
              refine wpAnyH_take (i := 4) (oi := { dst := some 160, op := _, type := _, pos := _, after := _, guard := _ }) rfl (by kernel_rfl) (by kernel_rfl) (by kernel_rfl) (fun _ _ _ h => h) (Or.inr ⟨by kernel_rfl, rfl⟩) (by assumption) ?_
              simp only [Act.put, List.setIfInBounds_toArray, List.set_cons_zero, List.set_cons_succ]
              refine wpAnyH_take (i := 5) (oi := { dst := some 161, op := _, type := _, pos := _, after := _, guard := _ }) rfl (by kernel_rfl) (by kernel_rfl) (by kernel_rfl) (fun _ _ _ h => h) (Or.inr ⟨by kernel_rfl, rfl⟩) (by assumption) ?_
              simp only [Act.put, List.setIfInBounds_toArray, List.set_cons_zero, List.set_cons_succ]
              refine wpAnyH_take (i := 6) (oi := { dst := some 162, op := _, type := _, pos := _, after := _, guard := _ }) rfl (by kernel_rfl) (by kernel_rfl) (by kernel_rfl) (fun _ _ _ h => h) (Or.inr ⟨by kernel_rfl, rfl⟩) (by assumption) ?_
              simp only [Act.put, List.setIfInBounds_toArray, List.set_cons_zero, List.set_cons_succ]
              refine wpAnyH_take (i := 7) (oi := { dst := some 163, op := _, type := _, pos := _, after := _, guard := _ }) rfl (by kernel_rfl) (by kernel_rfl) (by kernel_rfl) (fun _ _ _ h => h) (Or.inr ⟨by kernel_rfl, rfl⟩) (by assumption) ?_
              simp only [Act.put, List.setIfInBounds_toArray, List.set_cons_zero, List.set_cons_succ]
              refine wpAnyH_take (i := 8) (oi := { dst := some 164, op := _, type := _, pos := _, after := _, guard := _ }) rfl (by kernel_rfl) (by kernel_rfl) (by kernel_rfl) (fun _ _ _ h => h) (Or.inr ⟨by kernel_rfl, rfl⟩) (by assumption) ?_
              simp only [Act.put, List.setIfInBounds_toArray, List.set_cons_zero, List.set_cons_succ]
              refine wpAnyH_take (i := 9) (oi := { dst := some 165, op := _, type := _, pos := _, after := _, guard := _ }) rfl (by kernel_rfl) (by kernel_rfl) (by kernel_rfl) (fun _ _ _ h => h) (Or.inr ⟨by kernel_rfl, rfl⟩) (by assumption) ?_
              simp only [Act.put, List.setIfInBounds_toArray, List.set_cons_zero, List.set_cons_succ]
              refine wpAnyH_take (i := 10) (oi := { dst := some 166, op := _, type := _, pos := _, after := _, guard := _ }) rfl (by kernel_rfl) (by kernel_rfl) (by kernel_rfl) (fun _ _ _ h => h) (Or.inr ⟨by kernel_rfl, rfl⟩) (by assumption) ?_
              simp only [Act.put, List.setIfInBounds_toArray, List.set_cons_zero, List.set_cons_succ]
              refine wpAnyH_take (i := 11) (oi := { dst := some 167, op := _, type := _, pos := _, after := _, guard := _ }) rfl (by kernel_rfl) (by kernel_rfl) (by kernel_rfl) (fun _ _ _ h => h) (Or.inr ⟨by kernel_rfl, rfl⟩) (by assumption) ?_
              simp only [Act.put, List.setIfInBounds_toArray, List.set_cons_zero, List.set_cons_succ]
              refine wpAnyH_take (i := 12) (oi := { dst := some 168, op := _, type := _, pos := _, after := _, guard := _ }) rfl (by kernel_rfl) (by kernel_rfl) (by kernel_rfl) (fun _ _ _ h => h) (Or.inr ⟨by kernel_rfl, rfl⟩) (by assumption) ?_
              simp only [Act.put, List.setIfInBounds_toArray, List.set_cons_zero, List.set_cons_succ]
              refine wpAnyH_take (i := 13) (oi := { dst := some 169, op := _, type := _, pos := _, after := _, guard := _ }) rfl (by kernel_rfl) (by kernel_rfl) (by kernel_rfl) (fun _ _ _ h => h) (Or.inr ⟨by kernel_rfl, rfl⟩) (by assumption) ?_
              simp only [Act.put, List.setIfInBounds_toArray, List.set_cons_zero, List.set_cons_succ]
              refine wpAnyH_take (i := 14) (oi := { dst := some 170, op := _, type := _, pos := _, after := _, guard := _ }) (v := ?_) rfl (by kernel_rfl) (by kernel_rfl) (by kernel_rfl) (fun _ _ _ h => h) (Or.inl ⟨by rfl, ?_⟩) (by assumption) ?_
              rotate_left
              · intro w hSw; (try dsimp only at hSw); go_simp; (try with_reducible rfl)
              simp only [Act.put, List.setIfInBounds_toArray, List.set_cons_zero, List.set_cons_succ]
              refine wpAnyH_take (i := 15) (oi := { dst := some 171, op := _, type := _, pos := _, after := _, guard := _ }) (v := ?_) rfl (by kernel_rfl) (by kernel_rfl) (by kernel_rfl) (fun _ _ _ h => h) (Or.inl ⟨by rfl, ?_⟩) (by assumption) ?_
              rotate_left
              · intro w hSw; (try dsimp only at hSw); go_simp; (try with_reducible rfl)
              simp only [Act.put, List.setIfInBounds_toArray, List.set_cons_zero, List.set_cons_succ]
              refine wpAnyH_take (i := 16) (oi := { dst := some 172, op := _, type := _, pos := _, after := _, guard := _ }) (v := ?_) rfl (by kernel_rfl) (by kernel_rfl) (by kernel_rfl) (fun _ _ _ h => h) (Or.inl ⟨by rfl, ?_⟩) (by assumption) ?_
              rotate_left
              · intro w hSw; (try dsimp only at hSw); go_simp; (try with_reducible rfl)
              simp only [Act.put, List.setIfInBounds_toArray, List.set_cons_zero, List.set_cons_succ]
              refine wpAnyH_take (i := 17) (oi := { dst := some 173, op := _, type := _, pos := _, after := _, guard := _ }) (v := ?_) rfl (by kernel_rfl) (by kernel_rfl) (by kernel_rfl) (fun _ _ _ h => h) (Or.inl ⟨by rfl, ?_⟩) (by assumption) ?_
              rotate_left
              · intro w hSw; (try dsimp only at hSw); go_simp; (try with_reducible rfl)
              simp only [Act.put, List.setIfInBounds_toArray, List.set_cons_zero, List.set_cons_succ]
              refine wpAnyH_take (i := 18) (oi := { dst := some 174, op := _, type := _, pos := _, after := _, guard := _ }) (v := ?_) rfl (by kernel_rfl) (by kernel_rfl) (by kernel_rfl) (fun _ _ _ h => h) (Or.inl ⟨by rfl, ?_⟩) (by assumption) ?_
              rotate_left
              · intro w hSw; (try dsimp only at hSw); go_simp; (try with_reducible rfl)
              simp only [Act.put, List.setIfInBounds_toArray, List.set_cons_zero, List.set_cons_succ]
              refine wpAnyH_take (i := 19) (oi := { dst := some 175, op := _, type := _, pos := _, after := _, guard := _ }) (v := ?_) rfl (by kernel_rfl) (by kernel_rfl) (by kernel_rfl) (fun _ _ _ h => h) (Or.inl ⟨by rfl, ?_⟩) (by assumption) ?_
              rotate_left
              · intro w hSw; (try dsimp only at hSw); go_simp; (try with_reducible rfl)
              simp only [Act.put, List.setIfInBounds_toArray, List.set_cons_zero, List.set_cons_succ]
              refine wpAnyH_take (i := 20) (oi := { dst := some 176, op := _, type := _, pos := _, after := _, guard := _ }) (v := ?_) rfl (by kernel_rfl) (by kernel_rfl) (by kernel_rfl) (fun _ _ _ h => h) (Or.inl ⟨by rfl, ?_⟩) (by assumption) ?_
              rotate_left
              · intro w hSw; (try dsimp only at hSw); go_simp; (try with_reducible rfl)
              simp only [Act.put, List.setIfInBounds_toArray, List.set_cons_zero, List.set_cons_succ]
              refine wpAnyH_take (i := 21) (oi := { dst := some 177, op := _, type := _, pos := _, after := _, guard := _ }) (v := ?_) rfl (by kernel_rfl) (by kernel_rfl) (by kernel_rfl) (fun _ _ _ h => h) (Or.inl ⟨by rfl, ?_⟩) (by assumption) ?_
              rotate_left
              · intro w hSw; (try dsimp only at hSw); go_simp; (try with_reducible rfl)
              simp only [Act.put, List.setIfInBounds_toArray, List.set_cons_zero, List.set_cons_succ]
              refine wpAnyH_take (i := 22) (oi := { dst := some 178, op := _, type := _, pos := _, after := _, guard := _ }) (v := ?_) rfl (by kernel_rfl) (by kernel_rfl) (by kernel_rfl) (fun _ _ _ h => h) (Or.inl ⟨by rfl, ?_⟩) (by assumption) ?_
              rotate_left
              · intro w hSw; (try dsimp only at hSw); go_simp; (try with_reducible rfl)
              simp only [Act.put, List.setIfInBounds_toArray, List.set_cons_zero, List.set_cons_succ]
              refine wpAnyH_take (i := 23) (oi := { dst := some 179, op := _, type := _, pos := _, after := _, guard := _ }) (v := ?_) rfl (by kernel_rfl) (by kernel_rfl) (by kernel_rfl) (fun _ _ _ h => h) (Or.inl ⟨by rfl, ?_⟩) (by assumption) ?_
              rotate_left
              · intro w hSw; (try dsimp only at hSw); go_simp; (try with_reducible rfl)
              simp only [Act.put, List.setIfInBounds_toArray, List.set_cons_zero, List.set_cons_succ]
              refine wpAnyH_take (i := 24) (oi := { dst := some 180, op := _, type := _, pos := _, after := _, guard := _ }) (v := ?_) rfl (by kernel_rfl) (by kernel_rfl) (by kernel_rfl) (fun _ _ _ h => h) (Or.inl ⟨by rfl, ?_⟩) (by assumption) ?_
              rotate_left
              · intro w hSw; (try dsimp only at hSw); go_simp; (try with_reducible rfl)
              simp only [Act.put, List.setIfInBounds_toArray, List.set_cons_zero, List.set_cons_succ]
              refine wpAnyH_take (i := 25) (oi := { dst := some 181, op := _, type := _, pos := _, after := _, guard := _ }) (v := ?_) rfl (by kernel_rfl) (by kernel_rfl) (by kernel_rfl) (fun _ _ _ h => h) (Or.inl ⟨by rfl, ?_⟩) (by assumption) ?_
              rotate_left
              · intro w hSw; (try dsimp only at hSw); go_simp; (try with_reducible rfl)
              simp only [Act.put, List.setIfInBounds_toArray, List.set_cons_zero, List.set_cons_succ]
              refine wpAnyH_ready (rs := [26]) (by kernel_rfl) (by simp) ?_
              refine AllReadyH.cons (o := { dst := some 182, op := _, type := _, pos := _, after := _, guard := _ }) rfl (fun KK hKK => ?_) AllReadyH.nil
              go_simp
              go_at_call 14
              refine (own_any x _).mono ?_
              rintro e u2 ⟨rfl, g2⟩
              dsimp only
              refine hKK.out _ _ ⟨(gb_trans (gb_drew (gb_refl wc none)) g2.out).cell c0 (by simp), (gb_trans (gb_drew (gb_refl wc none)) g2.out).cell c1 (by simp), (gb_trans (gb_drew (gb_refl wc none)) g2.out).cell c2 (by simp), (gb_trans (gb_drew (gb_refl wc none)) g2.out).cell c3 (by simp), (gb_trans (gb_drew (gb_refl wc none)) g2.out).cell c4 (by simp), (gb_trans (gb_drew (gb_refl wc none)) g2.out).cell cv1 (by simp), (gb_trans (gb_drew (gb_refl wc none)) g2.out).cell k0 (by simp), (gb_trans (gb_drew (gb_refl wc none)) g2.out).cell k1 (by simp), (gb_trans (gb_drew (gb_refl wc none)) g2.out).cell k2 (by simp), (gb_trans (gb_drew (gb_refl wc none)) g2.out).cell k3 (by simp), (gb_trans (gb_drew (gb_refl wc none)) g2.out).cell k4 (by simp)⟩ (fun hHeld => ?_)
              clear hKK KK
              try simp only [Act.put, List.setIfInBounds_toArray, List.set_cons_zero, List.set_cons_succ]
              refine wpAnyH_take (i := 27) (oi := { dst := some 183, op := _, type := _, pos := _, after := _, guard := _ }) (v := ?_) rfl (by kernel_rfl) (by kernel_rfl) (by kernel_rfl) (fun _ _ _ h => h) (Or.inl ⟨by rfl, ?_⟩) (by assumption) ?_
              rotate_left
              · intro w hSw; (try dsimp only at hSw); go_simp; (try with_reducible rfl)
              simp only [Act.put, List.setIfInBounds_toArray, List.set_cons_zero, List.set_cons_succ]
              refine wpAnyH_take (i := 28) (oi := { dst := some 184, op := _, type := _, pos := _, after := _, guard := _ }) (v := ?_) rfl (by kernel_rfl) (by kernel_rfl) (by kernel_rfl) (fun _ _ _ h => h) (Or.inl ⟨by rfl, ?_⟩) (by assumption) ?_
              rotate_left
              · intro w hSw; (try dsimp only at hSw); go_simp; (try with_reducible rfl)
              simp only [Act.put, List.setIfInBounds_toArray, List.set_cons_zero, List.set_cons_succ]
              refine wpAnyH_take (i := 29) (oi := { dst := some 185, op := _, type := _, pos := _, after := _, guard := _ }) (v := ?_) rfl (by kernel_rfl) (by kernel_rfl) (by kernel_rfl) (fun _ _ _ h => h) (Or.inl ⟨by rfl, ?_⟩) (by assumption) ?_
              rotate_left
              · intro w hSw; (try dsimp only at hSw); go_simp; (try with_reducible rfl)
              simp only [Act.put, List.setIfInBounds_toArray, List.set_cons_zero, List.set_cons_succ]
              refine wpAnyH_done (by kernel_rfl) ?_ _
              refine NoPanic.normal ?_
              go_wp2
              go_meet
              exact ⟨rfl, (((M9.out.grown (by repeat (first | exact gb_refl _ _ | refine gb_drewN ?_ _ | refine gb_drew ?_ | refine gb_alloc ?_ _))).grown g2.out).drop (List.nil_sublist _))⟩
        · obtain ⟨g, c, cv0, hlc, hcm, hg, e0, e1, e2⟩ := SetS.readR MB hp
          unfold maxLen at hcm
          have hpl := (List.getElem?_eq_some_iff.1 hp).1
          rw [← hnl] at cv0
          have hpl1 : (p : Int) + 1 ≤ (c : Int) := by omega
          have hpl2 : (p : Int) ≤ (p : Int) + 1 := by omega
          have hpl0 : (0 : Int) ≤ (p : Int) := by omega
          have hpl3 : p ≤ 101 := by omega
          have hpc : ¬ c = p := by omega
          have hwp : IntKind.i64.wrap ((p : Int) + 1) = (p : Int) + 1 := IntWalk.i64_in _ (by omega)
          have hpl4 : (0 : Int) ≤ (p : Int) + 1 := by omega
          have hlcn : c ≤ 9223372036854775807 := by omega
          have IB := Lib.hid (isL_one e0 e1 e2)
          rcases HM.out with ⟨rfl, rfl, rfl⟩ | ⟨p2, rfl, rfl, hp2⟩
          · as_aux_lemma =>
              clear hXA MB hp
              refine wp_region_noPanic ?_
              refine wp_region_held_drew (S := (fun w' => w'.cell? ⟨rb, 0, none⟩ = some (.int .i64 r.o) ∧ w'.cell? ⟨rb, 1, none⟩ = some (.int .i64 r.n) ∧ w'.cell? ⟨rb, 2, none⟩ = some (.int .i64 r.v) ∧ w'.cell? ⟨v, 0, none⟩ = some (.slice (some ⟨g, 0, none⟩) nl c))) (by kernel_rfl) ?_ (fun hHeld => ?_)
              · go_keep
              refine wpAnyH_take (i := 0) (oi := { dst := some 156, op := _, type := _, pos := _, after := _, guard := _ }) (v := ?_) rfl (by kernel_rfl) (by kernel_rfl) (by kernel_rfl) (fun _ _ _ h => h) (Or.inl ⟨by rfl, ?_⟩) (by assumption) ?_
              rotate_left
              · intro w hSw; (try dsimp only at hSw); go_simp; (try with_reducible rfl)
              simp only [Act.put, List.setIfInBounds_toArray, List.set_cons_zero, List.set_cons_succ]
              refine wpAnyH_take (i := 1) (oi := { dst := some 157, op := _, type := _, pos := _, after := _, guard := _ }) (v := ?_) rfl (by kernel_rfl) (by kernel_rfl) (by kernel_rfl) (fun _ _ _ h => h) (Or.inl ⟨by rfl, ?_⟩) (by assumption) ?_
              rotate_left
              · intro w hSw; (try dsimp only at hSw); go_simp; (try with_reducible rfl)
              simp only [Act.put, List.setIfInBounds_toArray, List.set_cons_zero, List.set_cons_succ]
              refine wpAnyH_take (i := 2) (oi := { dst := some 158, op := _, type := _, pos := _, after := _, guard := _ }) (v := ?_) rfl (by kernel_rfl) (by kernel_rfl) (by kernel_rfl) (fun _ _ _ h => h) (Or.inl ⟨by rfl, ?_⟩) (by assumption) ?_
              rotate_left
              · intro w hSw; (try dsimp only at hSw); go_simp; (try with_reducible rfl)
              simp only [Act.put, List.setIfInBounds_toArray, List.set_cons_zero, List.set_cons_succ]
              refine wpAnyH_take (i := 4) (oi := { dst := some 160, op := _, type := _, pos := _, after := _, guard := _ }) (v := ?_) rfl (by kernel_rfl) (by kernel_rfl) (by kernel_rfl) (fun _ _ _ h => h) (Or.inl ⟨by rfl, ?_⟩) (by assumption) ?_
              rotate_left
              · intro w hSw; (try dsimp only at hSw); go_simp; (try with_reducible rfl)
              simp only [Act.put, List.setIfInBounds_toArray, List.set_cons_zero, List.set_cons_succ]
              refine wpAnyH_take (i := 5) (oi := { dst := some 161, op := _, type := _, pos := _, after := _, guard := _ }) (v := ?_) rfl (by kernel_rfl) (by kernel_rfl) (by kernel_rfl) (fun _ _ _ h => h) (Or.inl ⟨by rfl, ?_⟩) (by assumption) ?_
              rotate_left
              · intro w hSw; (try dsimp only at hSw); go_simp; (try with_reducible rfl)
              simp only [Act.put, List.setIfInBounds_toArray, List.set_cons_zero, List.set_cons_succ]
              refine wpAnyH_take (i := 6) (oi := { dst := some 162, op := _, type := _, pos := _, after := _, guard := _ }) (v := ?_) rfl (by kernel_rfl) (by kernel_rfl) (by kernel_rfl) (fun _ _ _ h => h) (Or.inl ⟨by rfl, ?_⟩) (by assumption) ?_
              rotate_left
              · intro w hSw; (try dsimp only at hSw); go_simp; (try with_reducible rfl)
              simp only [Act.put, List.setIfInBounds_toArray, List.set_cons_zero, List.set_cons_succ]
              refine wpAnyH_take (i := 7) (oi := { dst := some 163, op := _, type := _, pos := _, after := _, guard := _ }) (v := ?_) rfl (by kernel_rfl) (by kernel_rfl) (by kernel_rfl) (fun _ _ _ h => h) (Or.inl ⟨by rfl, ?_⟩) (by assumption) ?_
              rotate_left
              · intro w hSw; (try dsimp only at hSw); go_simp; (try with_reducible rfl)
              simp only [Act.put, List.setIfInBounds_toArray, List.set_cons_zero, List.set_cons_succ]
              refine wpAnyH_take (i := 8) (oi := { dst := some 164, op := _, type := _, pos := _, after := _, guard := _ }) (v := ?_) rfl (by kernel_rfl) (by kernel_rfl) (by kernel_rfl) (fun _ _ _ h => h) (Or.inl ⟨by rfl, ?_⟩) (by assumption) ?_
              rotate_left
              · intro w hSw; (try dsimp only at hSw); go_simp; (try with_reducible rfl)
              simp only [Act.put, List.setIfInBounds_toArray, List.set_cons_zero, List.set_cons_succ]
              refine wpAnyH_take (i := 9) (oi := { dst := some 165, op := _, type := _, pos := _, after := _, guard := _ }) (v := ?_) rfl (by kernel_rfl) (by kernel_rfl) (by kernel_rfl) (fun _ _ _ h => h) (Or.inl ⟨by rfl, ?_⟩) (by assumption) ?_
              rotate_left
              · intro w hSw; (try dsimp only at hSw); go_simp; (try with_reducible rfl)
              simp only [Act.put, List.setIfInBounds_toArray, List.set_cons_zero, List.set_cons_succ]
              refine wpAnyH_take (i := 10) (oi := { dst := some 166, op := _, type := _, pos := _, after := _, guard := _ }) (v := ?_) rfl (by kernel_rfl) (by kernel_rfl) (by kernel_rfl) (fun _ _ _ h => h) (Or.inl ⟨by rfl, ?_⟩) (by assumption) ?_
              rotate_left
              · intro w hSw; (try dsimp only at hSw); go_simp; (try with_reducible rfl)
              simp only [Act.put, List.setIfInBounds_toArray, List.set_cons_zero, List.set_cons_succ]
              refine wpAnyH_take (i := 11) (oi := { dst := some 167, op := _, type := _, pos := _, after := _, guard := _ }) (v := ?_) rfl (by kernel_rfl) (by kernel_rfl) (by kernel_rfl) (fun _ _ _ h => h) (Or.inl ⟨by rfl, ?_⟩) (by assumption) ?_
              rotate_left
              · intro w hSw; (try dsimp only at hSw); go_simp; (try with_reducible rfl)
              simp only [Act.put, List.setIfInBounds_toArray, List.set_cons_zero, List.set_cons_succ]
              refine wpAnyH_ready (rs := [3]) (by kernel_rfl) (by simp) ?_
              refine AllReadyH.cons (o := { dst := some 159, op := _, type := _, pos := _, after := _, guard := _ }) rfl (fun KK hKK => ?_) AllReadyH.nil
              go_simp
              refine hKK.out _ _ ⟨(GA.out).cell d0 (by simp), (GA.out).cell d1 (by simp), (GA.out).cell d2 (by simp), (GA.out).cell cv0 (by simp)⟩ (fun hHeld => ?_)
              clear hKK KK
              try simp only [Act.put, List.setIfInBounds_toArray, List.set_cons_zero, List.set_cons_succ]
              refine wpAnyH_ready (rs := [12]) (by kernel_rfl) (by simp) ?_
              refine AllReadyH.cons (o := { dst := some 168, op := _, type := _, pos := _, after := _, guard := _ }) rfl (fun KK hKK => ?_) AllReadyH.nil
              go_simp
              go_at_call 19
              refine (readings_eq _ _ 1 1 (c - p) [r] _ (NA.out.grown (by repeat (first | exact gb_refl _ _ | refine gb_drewN ?_ _ | refine gb_drew ?_ | refine gb_alloc ?_ _))) (IB.out.grown (by repeat (first | exact gb_refl _ _ | refine gb_drewN ?_ _ | refine gb_drew ?_ | refine gb_alloc ?_ _))) rfl (by decide)).mono ?_
              rintro e u1 ⟨q, rfl, rfl⟩
              dsimp only
              refine hKK.out _ _ ⟨(gb_drewN GA.out _).cell d0 (by simp), (gb_drewN GA.out _).cell d1 (by simp), (gb_drewN GA.out _).cell d2 (by simp), (gb_drewN GA.out _).cell cv0 (by simp)⟩ (fun hHeld => ?_)
              clear hKK KK
              try simp only [Act.put, List.setIfInBounds_toArray, List.set_cons_zero, List.set_cons_succ]
              refine wpAnyH_take (i := 13) (oi := { dst := some 169, op := _, type := _, pos := _, after := _, guard := _ }) (v := ?_) rfl (by kernel_rfl) (by kernel_rfl) (by kernel_rfl) (fun _ _ _ h => h) (Or.inl ⟨by rfl, ?_⟩) (by assumption) ?_
              rotate_left
              · intro w hSw; (try dsimp only at hSw); go_simp; (try with_reducible rfl)
              simp only [Act.put, List.setIfInBounds_toArray, List.set_cons_zero, List.set_cons_succ]
              refine wpAnyH_take (i := 14) (oi := { dst := some 170, op := _, type := _, pos := _, after := _, guard := _ }) (v := ?_) rfl (by kernel_rfl) (by kernel_rfl) (by kernel_rfl) (fun _ _ _ h => h) (Or.inl ⟨by rfl, ?_⟩) (by assumption) ?_
              rotate_left
              · intro w hSw; (try dsimp only at hSw); go_simp; (try with_reducible rfl)
              simp only [Act.put, List.setIfInBounds_toArray, List.set_cons_zero, List.set_cons_succ]
              refine wpAnyH_take (i := 15) (oi := { dst := some 171, op := _, type := _, pos := _, after := _, guard := _ }) (v := ?_) rfl (by kernel_rfl) (by kernel_rfl) (by kernel_rfl) (fun _ _ _ h => h) (Or.inl ⟨by rfl, ?_⟩) (by assumption) ?_
              rotate_left
              · intro w hSw; (try dsimp only at hSw); go_simp; (try with_reducible rfl)
              simp only [Act.put, List.setIfInBounds_toArray, List.set_cons_zero, List.set_cons_succ]
              refine wpAnyH_take (i := 16) (oi := { dst := some 172, op := _, type := _, pos := _, after := _, guard := _ }) (v := ?_) rfl (by kernel_rfl) (by kernel_rfl) (by kernel_rfl) (fun _ _ _ h => h) (Or.inl ⟨by rfl, ?_⟩) (by assumption) ?_
              rotate_left
              · intro w hSw; (try dsimp only at hSw); go_simp; (try with_reducible rfl)
              simp only [Act.put, List.setIfInBounds_toArray, List.set_cons_zero, List.set_cons_succ]
              refine wpAnyH_take (i := 17) (oi := { dst := some 173, op := _, type := _, pos := _, after := _, guard := _ }) (v := ?_) rfl (by kernel_rfl) (by kernel_rfl) (by kernel_rfl) (fun _ _ _ h => h) (Or.inl ⟨by rfl, ?_⟩) (by assumption) ?_
              rotate_left
              · intro w hSw; (try dsimp only at hSw); go_simp; (try with_reducible rfl)
              simp only [Act.put, List.setIfInBounds_toArray, List.set_cons_zero, List.set_cons_succ]
              refine wpAnyH_take (i := 18) (oi := { dst := some 174, op := _, type := _, pos := _, after := _, guard := _ }) rfl (by kernel_rfl) (by kernel_rfl) (by kernel_rfl) (fun _ _ _ h => h) (Or.inr ⟨by kernel_rfl, rfl⟩) (by assumption) ?_
              simp only [Act.put, List.setIfInBounds_toArray, List.set_cons_zero, List.set_cons_succ]
              refine wpAnyH_take (i := 19) (oi := { dst := some 175, op := _, type := _, pos := _, after := _, guard := _ }) rfl (by kernel_rfl) (by kernel_rfl) (by kernel_rfl) (fun _ _ _ h => h) (Or.inr ⟨by kernel_rfl, rfl⟩) (by assumption) ?_
              simp only [Act.put, List.setIfInBounds_toArray, List.set_cons_zero, List.set_cons_succ]
              refine wpAnyH_take (i := 20) (oi := { dst := some 176, op := _, type := _, pos := _, after := _, guard := _ }) rfl (by kernel_rfl) (by kernel_rfl) (by kernel_rfl) (fun _ _ _ h => h) (Or.inr ⟨by kernel_rfl, rfl⟩) (by assumption) ?_
              simp only [Act.put, List.setIfInBounds_toArray, List.set_cons_zero, List.set_cons_succ]
              refine wpAnyH_take (i := 21) (oi := { dst := some 177, op := _, type := _, pos := _, after := _, guard := _ }) rfl (by kernel_rfl) (by kernel_rfl) (by kernel_rfl) (fun _ _ _ h => h) (Or.inr ⟨by kernel_rfl, rfl⟩) (by assumption) ?_
              simp only [Act.put, List.setIfInBounds_toArray, List.set_cons_zero, List.set_cons_succ]
              refine wpAnyH_take (i := 22) (oi := { dst := some 178, op := _, type := _, pos := _, after := _, guard := _ }) rfl (by kernel_rfl) (by kernel_rfl) (by kernel_rfl) (fun _ _ _ h => h) (Or.inr ⟨by kernel_rfl, rfl⟩) (by assumption) ?_
              simp only [Act.put, List.setIfInBounds_toArray, List.set_cons_zero, List.set_cons_succ]
              refine wpAnyH_take (i := 23) (oi := { dst := some 179, op := _, type := _, pos := _, after := _, guard := _ }) rfl (by kernel_rfl) (by kernel_rfl) (by kernel_rfl) (fun _ _ _ h => h) (Or.inr ⟨by kernel_rfl, rfl⟩) (by assumption) ?_
              simp only [Act.put, List.setIfInBounds_toArray, List.set_cons_zero, List.set_cons_succ]
              refine wpAnyH_take (i := 24) (oi := { dst := some 180, op := _, type := _, pos := _, after := _, guard := _ }) rfl (by kernel_rfl) (by kernel_rfl) (by kernel_rfl) (fun _ _ _ h => h) (Or.inr ⟨by kernel_rfl, rfl⟩) (by assumption) ?_
              simp only [Act.put, List.setIfInBounds_toArray, List.set_cons_zero, List.set_cons_succ]
              refine wpAnyH_take (i := 25) (oi := { dst := some 181, op := _, type := _, pos := _, after := _, guard := _ }) rfl (by kernel_rfl) (by kernel_rfl) (by kernel_rfl) (fun _ _ _ h => h) (Or.inr ⟨by kernel_rfl, rfl⟩) (by assumption) ?_
              simp only [Act.put, List.setIfInBounds_toArray, List.set_cons_zero, List.set_cons_succ]
              refine wpAnyH_take (i := 26) (oi := { dst := some 182, op := _, type := _, pos := _, after := _, guard := _ }) rfl (by kernel_rfl) (by kernel_rfl) (by kernel_rfl) (fun _ _ _ h => h) (Or.inr ⟨by kernel_rfl, rfl⟩) (by assumption) ?_
              simp only [Act.put, List.setIfInBounds_toArray, List.set_cons_zero, List.set_cons_succ]
              refine wpAnyH_take (i := 27) (oi := { dst := some 183, op := _, type := _, pos := _, after := _, guard := _ }) rfl (by kernel_rfl) (by kernel_rfl) (by kernel_rfl) (fun _ _ _ h => h) (Or.inr ⟨by kernel_rfl, rfl⟩) (by assumption) ?_
              simp only [Act.put, List.setIfInBounds_toArray, List.set_cons_zero, List.set_cons_succ]
              refine wpAnyH_take (i := 28) (oi := { dst := some 184, op := _, type := _, pos := _, after := _, guard := _ }) (v := ?_) rfl (by kernel_rfl) (by kernel_rfl) (by kernel_rfl) (fun _ _ _ h => h) (Or.inl ⟨by rfl, ?_⟩) (by assumption) ?_
              rotate_left
              · intro w hSw; (try dsimp only at hSw); go_simp; (try with_reducible rfl)
              simp only [Act.put, List.setIfInBounds_toArray, List.set_cons_zero, List.set_cons_succ]
              refine wpAnyH_take (i := 29) (oi := { dst := some 185, op := _, type := _, pos := _, after := _, guard := _ }) (v := ?_) rfl (by kernel_rfl) (by kernel_rfl) (by kernel_rfl) (fun _ _ _ h => h) (Or.inl ⟨by rfl, ?_⟩) (by assumption) ?_
              rotate_left
              · intro w hSw; (try dsimp only at hSw); go_simp; (try with_reducible rfl)
              simp only [Act.put, List.setIfInBounds_toArray, List.set_cons_zero, List.set_cons_succ]
              refine wpAnyH_done (by kernel_rfl) ?_ _
              refine NoPanic.normal ?_
              go_wp2
              go_meet
              exact ⟨rfl, ((M9.out.grown (by repeat (first | exact gb_refl _ _ | refine gb_drewN ?_ _ | refine gb_drew ?_ | refine gb_alloc ?_ _))).drop (List.nil_sublist _))⟩
          · as_aux_lemma =>
              obtain ⟨gm, cm, cv1, hgm, k0, k1, k2, k3, k4⟩ := SetS.readO MB hp2
              rw [← hnm] at cv1
              have hpl2 : (p2 : Int) < (nm : Int) := by have := (List.getElem?_eq_some_iff.1 hp2).1; omega
              clear hXA MB hp hp2 hnl hnm hpl
              refine wp_region_noPanic ?_
              refine wp_region_held_drew (S := (fun w' => w'.cell? ⟨rb, 0, none⟩ = some (.int .i64 r.o) ∧ w'.cell? ⟨rb, 1, none⟩ = some (.int .i64 r.n) ∧ w'.cell? ⟨rb, 2, none⟩ = some (.int .i64 r.v) ∧ w'.cell? ⟨v, 0, none⟩ = some (.slice (some ⟨g, 0, none⟩) nl c) ∧ w'.cell? ⟨xb, 0, none⟩ = some (.int .i64 x.o) ∧ w'.cell? ⟨xb, 1, none⟩ = some (.int .i64 x.c) ∧ w'.cell? ⟨xb, 2, none⟩ = some (.int .i64 x.n) ∧ w'.cell? ⟨xb, 3, none⟩ = some (.int .i64 x.v) ∧ w'.cell? ⟨xb, 4, none⟩ = some (.bool x.b) ∧ w'.cell? ⟨v, 1, none⟩ = some (.slice (some ⟨gm, 0, none⟩) nm cm) ∧ w'.cell? ⟨gm, p2 * 5, none⟩ = some (.int .i64 x.o) ∧ w'.cell? ⟨gm, p2 * 5 + 1, none⟩ = some (.int .i64 x.c) ∧ w'.cell? ⟨gm, p2 * 5 + 2, none⟩ = some (.int .i64 x.n) ∧ w'.cell? ⟨gm, p2 * 5 + 3, none⟩ = some (.int .i64 x.v) ∧ w'.cell? ⟨gm, p2 * 5 + 4, none⟩ = some (.bool x.b))) (by kernel_rfl) ?_ (fun hHeld => ?_)
              · go_keep
              refine wpAnyH_take (i := 0) (oi := { dst := some 156, op := _, type := _, pos := _, after := _, guard := _ }) (v := ?_) rfl (by kernel_rfl) (by kernel_rfl) (by kernel_rfl) (fun _ _ _ h => h) (Or.inl ⟨by rfl, ?_⟩) (by assumption) ?_
              rotate_left
              · intro w hSw; (try dsimp only at hSw); go_simp; (try with_reducible rfl)
              simp only [Act.put, List.setIfInBounds_toArray, List.set_cons_zero, List.set_cons_succ]
              refine wpAnyH_take (i := 1) (oi := { dst := some 157, op := _, type := _, pos := _, after := _, guard := _ }) (v := ?_) rfl (by kernel_rfl) (by kernel_rfl) (by kernel_rfl) (fun _ _ _ h => h) (Or.inl ⟨by rfl, ?_⟩) (by assumption) ?_
              rotate_left
              · intro w hSw; (try dsimp only at hSw); go_simp; (try with_reducible rfl)
              simp only [Act.put, List.setIfInBounds_toArray, List.set_cons_zero, List.set_cons_succ]
              refine wpAnyH_take (i := 2) (oi := { dst := some 158, op := _, type := _, pos := _, after := _, guard := _ }) (v := ?_) rfl (by kernel_rfl) (by kernel_rfl) (by kernel_rfl) (fun _ _ _ h => h) (Or.inl ⟨by rfl, ?_⟩) (by assumption) ?_
              rotate_left
              · intro w hSw; (try dsimp only at hSw); go_simp; (try with_reducible rfl)
              simp only [Act.put, List.setIfInBounds_toArray, List.set_cons_zero, List.set_cons_succ]
              refine wpAnyH_take (i := 4) (oi := { dst := some 160, op := _, type := _, pos := _, after := _, guard := _ }) (v := ?_) rfl (by kernel_rfl) (by kernel_rfl) (by kernel_rfl) (fun _ _ _ h => h) (Or.inl ⟨by rfl, ?_⟩) (by assumption) ?_
              rotate_left
              · intro w hSw; (try dsimp only at hSw); go_simp; (try with_reducible rfl)
              simp only [Act.put, List.setIfInBounds_toArray, List.set_cons_zero, List.set_cons_succ]
              refine wpAnyH_take (i := 5) (oi := { dst := some 161, op := _, type := _, pos := _, after := _, guard := _ }) (v := ?_) rfl (by kernel_rfl) (by kernel_rfl) (by kernel_rfl) (fun _ _ _ h => h) (Or.inl ⟨by rfl, ?_⟩) (by assumption) ?_
              rotate_left
              · intro w hSw; (try dsimp only at hSw); go_simp; (try with_reducible rfl)
              simp only [Act.put, List.setIfInBounds_toArray, List.set_cons_zero, List.set_cons_succ]
              refine wpAnyH_take (i := 6) (oi := { dst := some 162, op := _, type := _, pos := _, after := _, guard := _ }) (v := ?_) rfl (by kernel_rfl) (by kernel_rfl) (by kernel_rfl) (fun _ _ _ h => h) (Or.inl ⟨by rfl, ?_⟩) (by assumption) ?_
              rotate_left
              · intro w hSw; (try dsimp only at hSw); go_simp; (try with_reducible rfl)
              simp only [Act.put, List.setIfInBounds_toArray, List.set_cons_zero, List.set_cons_succ]
              refine wpAnyH_take (i := 7) (oi := { dst := some 163, op := _, type := _, pos := _, after := _, guard := _ }) (v := ?_) rfl (by kernel_rfl) (by kernel_rfl) (by kernel_rfl) (fun _ _ _ h => h) (Or.inl ⟨by rfl, ?_⟩) (by assumption) ?_
              rotate_left
              · intro w hSw; (try dsimp only at hSw); go_simp; (try with_reducible rfl)
              simp only [Act.put, List.setIfInBounds_toArray, List.set_cons_zero, List.set_cons_succ]
              refine wpAnyH_take (i := 8) (oi := { dst := some 164, op := _, type := _, pos := _, after := _, guard := _ }) (v := ?_) rfl (by kernel_rfl) (by kernel_rfl) (by kernel_rfl) (fun _ _ _ h => h) (Or.inl ⟨by rfl, ?_⟩) (by assumption) ?_
              rotate_left
              · intro w hSw; (try dsimp only at hSw); go_simp; (try with_reducible rfl)
              simp only [Act.put, List.setIfInBounds_toArray, List.set_cons_zero, List.set_cons_succ]
              refine wpAnyH_take (i := 9) (oi := { dst := some 165, op := _, type := _, pos := _, after := _, guard := _ }) (v := ?_) rfl (by kernel_rfl) (by kernel_rfl) (by kernel_rfl) (fun _ _ _ h => h) (Or.inl ⟨by rfl, ?_⟩) (by assumption) ?_
              rotate_left
              · intro w hSw; (try dsimp only at hSw); go_simp; (try with_reducible rfl)
              simp only [Act.put, List.setIfInBounds_toArray, List.set_cons_zero, List.set_cons_succ]
              refine wpAnyH_take (i := 10) (oi := { dst := some 166, op := _, type := _, pos := _, after := _, guard := _ }) (v := ?_) rfl (by kernel_rfl) (by kernel_rfl) (by kernel_rfl) (fun _ _ _ h => h) (Or.inl ⟨by rfl, ?_⟩) (by assumption) ?_
              rotate_left
              · intro w hSw; (try dsimp only at hSw); go_simp; (try with_reducible rfl)
              simp only [Act.put, List.setIfInBounds_toArray, List.set_cons_zero, List.set_cons_succ]
              refine wpAnyH_take (i := 11) (oi := { dst := some 167, op := _, type := _, pos := _, after := _, guard := _ }) (v := ?_) rfl (by kernel_rfl) (by kernel_rfl) (by kernel_rfl) (fun _ _ _ h => h) (Or.inl ⟨by rfl, ?_⟩) (by assumption) ?_
              rotate_left
              · intro w hSw; (try dsimp only at hSw); go_simp; (try with_reducible rfl)
              simp only [Act.put, List.setIfInBounds_toArray, List.set_cons_zero, List.set_cons_succ]
              refine wpAnyH_ready (rs := [3]) (by kernel_rfl) (by simp) ?_
              refine AllReadyH.cons (o := { dst := some 159, op := _, type := _, pos := _, after := _, guard := _ }) rfl (fun KK hKK => ?_) AllReadyH.nil
              go_simp
              refine hKK.out _ _ ⟨(GA.out).cell d0 (by simp), (GA.out).cell d1 (by simp), (GA.out).cell d2 (by simp), (GA.out).cell cv0 (by simp), (GA.out).cell c0 (by simp), (GA.out).cell c1 (by simp), (GA.out).cell c2 (by simp), (GA.out).cell c3 (by simp), (GA.out).cell c4 (by simp), (GA.out).cell cv1 (by simp), (GA.out).cell k0 (by simp), (GA.out).cell k1 (by simp), (GA.out).cell k2 (by simp), (GA.out).cell k3 (by simp), (GA.out).cell k4 (by simp)⟩ (fun hHeld => ?_)
              clear hKK KK
              try simp only [Act.put, List.setIfInBounds_toArray, List.set_cons_zero, List.set_cons_succ]
              refine wpAnyH_ready (rs := [12]) (by kernel_rfl) (by simp) ?_
              refine AllReadyH.cons (o := { dst := some 168, op := _, type := _, pos := _, after := _, guard := _ }) rfl (fun KK hKK => ?_) AllReadyH.nil
              go_simp
              go_at_call 19
              refine (readings_eq _ _ 1 1 (c - p) [r] _ (NA.out.grown (by repeat (first | exact gb_refl _ _ | refine gb_drewN ?_ _ | refine gb_drew ?_ | refine gb_alloc ?_ _))) (IB.out.grown (by repeat (first | exact gb_refl _ _ | refine gb_drewN ?_ _ | refine gb_drew ?_ | refine gb_alloc ?_ _))) rfl (by decide)).mono ?_
              rintro e u1 ⟨q, rfl, rfl⟩
              dsimp only
              refine hKK.out _ _ ⟨(gb_drewN GA.out _).cell d0 (by simp), (gb_drewN GA.out _).cell d1 (by simp), (gb_drewN GA.out _).cell d2 (by simp), (gb_drewN GA.out _).cell cv0 (by simp), (gb_drewN GA.out _).cell c0 (by simp), (gb_drewN GA.out _).cell c1 (by simp), (gb_drewN GA.out _).cell c2 (by simp), (gb_drewN GA.out _).cell c3 (by simp), (gb_drewN GA.out _).cell c4 (by simp), (gb_drewN GA.out _).cell cv1 (by simp), (gb_drewN GA.out _).cell k0 (by simp), (gb_drewN GA.out _).cell k1 (by simp), (gb_drewN GA.out _).cell k2 (by simp), (gb_drewN GA.out _).cell k3 (by simp), (gb_drewN GA.out _).cell k4 (by simp)⟩ (fun hHeld => ?_)
              clear hKK KK
              try simp only [Act.put, List.setIfInBounds_toArray, List.set_cons_zero, List.set_cons_succ]
              refine wpAnyH_take (i := 13) (oi := { dst := some 169, op := _, type := _, pos := _, after := _, guard := _ }) (v := ?_) rfl (by kernel_rfl) (by kernel_rfl) (by kernel_rfl) (fun _ _ _ h => h) (Or.inl ⟨by rfl, ?_⟩) (by assumption) ?_
              rotate_left
              · intro w hSw; (try dsimp only at hSw); go_simp; (try with_reducible rfl)
              simp only [Act.put, List.setIfInBounds_toArray, List.set_cons_zero, List.set_cons_succ]
              refine wpAnyH_take (i := 14) (oi := { dst := some 170, op := _, type := _, pos := _, after := _, guard := _ }) (v := ?_) rfl (by kernel_rfl) (by kernel_rfl) (by kernel_rfl) (fun _ _ _ h => h) (Or.inl ⟨by rfl, ?_⟩) (by assumption) ?_
              rotate_left
              · intro w hSw; (try dsimp only at hSw); go_simp; (try with_reducible rfl)
              simp only [Act.put, List.setIfInBounds_toArray, List.set_cons_zero, List.set_cons_succ]
              refine wpAnyH_take (i := 15) (oi := { dst := some 171, op := _, type := _, pos := _, after := _, guard := _ }) (v := ?_) rfl (by kernel_rfl) (by kernel_rfl) (by kernel_rfl) (fun _ _ _ h => h) (Or.inl ⟨by rfl, ?_⟩) (by assumption) ?_
              rotate_left
              · intro w hSw; (try dsimp only at hSw); go_simp; (try with_reducible rfl)
              simp only [Act.put, List.setIfInBounds_toArray, List.set_cons_zero, List.set_cons_succ]
              refine wpAnyH_take (i := 16) (oi := { dst := some 172, op := _, type := _, pos := _, after := _, guard := _ }) (v := ?_) rfl (by kernel_rfl) (by kernel_rfl) (by kernel_rfl) (fun _ _ _ h => h) (Or.inl ⟨by rfl, ?_⟩) (by assumption) ?_
              rotate_left
              · intro w hSw; (try dsimp only at hSw); go_simp; (try with_reducible rfl)
              simp only [Act.put, List.setIfInBounds_toArray, List.set_cons_zero, List.set_cons_succ]
              refine wpAnyH_take (i := 17) (oi := { dst := some 173, op := _, type := _, pos := _, after := _, guard := _ }) (v := ?_) rfl (by kernel_rfl) (by kernel_rfl) (by kernel_rfl) (fun _ _ _ h => h) (Or.inl ⟨by rfl, ?_⟩) (by assumption) ?_
              rotate_left
              · intro w hSw; (try dsimp only at hSw); go_simp; (try with_reducible rfl)
              simp only [Act.put, List.setIfInBounds_toArray, List.set_cons_zero, List.set_cons_succ]
              refine wpAnyH_take (i := 18) (oi := { dst := some 174, op := _, type := _, pos := _, after := _, guard := _ }) (v := ?_) rfl (by kernel_rfl) (by kernel_rfl) (by kernel_rfl) (fun _ _ _ h => h) (Or.inl ⟨by rfl, ?_⟩) (by assumption) ?_
              rotate_left
              · intro w hSw; (try dsimp only at hSw); go_simp; (try with_reducible rfl)
              simp only [Act.put, List.setIfInBounds_toArray, List.set_cons_zero, List.set_cons_succ]
              refine wpAnyH_take (i := 19) (oi := { dst := some 175, op := _, type := _, pos := _, after := _, guard := _ }) (v := ?_) rfl (by kernel_rfl) (by kernel_rfl) (by kernel_rfl) (fun _ _ _ h => h) (Or.inl ⟨by rfl, ?_⟩) (by assumption) ?_
              rotate_left
              · intro w hSw; (try dsimp only at hSw); go_simp; (try with_reducible rfl)
              simp only [Act.put, List.setIfInBounds_toArray, List.set_cons_zero, List.set_cons_succ]
              refine wpAnyH_take (i := 20) (oi := { dst := some 176, op := _, type := _, pos := _, after := _, guard := _ }) (v := ?_) rfl (by kernel_rfl) (by kernel_rfl) (by kernel_rfl) (fun _ _ _ h => h) (Or.inl ⟨by rfl, ?_⟩) (by assumption) ?_
              rotate_left
              · intro w hSw; (try dsimp only at hSw); go_simp; (try with_reducible rfl)
              simp only [Act.put, List.setIfInBounds_toArray, List.set_cons_zero, List.set_cons_succ]
              refine wpAnyH_take (i := 21) (oi := { dst := some 177, op := _, type := _, pos := _, after := _, guard := _ }) (v := ?_) rfl (by kernel_rfl) (by kernel_rfl) (by kernel_rfl) (fun _ _ _ h => h) (Or.inl ⟨by rfl, ?_⟩) (by assumption) ?_
              rotate_left
              · intro w hSw; (try dsimp only at hSw); go_simp; (try with_reducible rfl)
              simp only [Act.put, List.setIfInBounds_toArray, List.set_cons_zero, List.set_cons_succ]
              refine wpAnyH_take (i := 22) (oi := { dst := some 178, op := _, type := _, pos := _, after := _, guard := _ }) (v := ?_) rfl (by kernel_rfl) (by kernel_rfl) (by kernel_rfl) (fun _ _ _ h => h) (Or.inl ⟨by rfl, ?_⟩) (by assumption) ?_
              rotate_left
              · intro w hSw; (try dsimp only at hSw); go_simp; (try with_reducible rfl)
              simp only [Act.put, List.setIfInBounds_toArray, List.set_cons_zero, List.set_cons_succ]
              refine wpAnyH_take (i := 23) (oi := { dst := some 179, op := _, type := _, pos := _, after := _, guard := _ }) (v := ?_) rfl (by kernel_rfl) (by kernel_rfl) (by kernel_rfl) (fun _ _ _ h => h) (Or.inl ⟨by rfl, ?_⟩) (by assumption) ?_
              rotate_left
              · intro w hSw; (try dsimp only at hSw); go_simp; (try with_reducible rfl)
              simp only [Act.put, List.setIfInBounds_toArray, List.set_cons_zero, List.set_cons_succ]
              refine wpAnyH_take (i := 24) (oi := { dst := some 180, op := _, type := _, pos := _, after := _, guard := _ }) (v := ?_) rfl (by kernel_rfl) (by kernel_rfl) (by kernel_rfl) (fun _ _ _ h => h) (Or.inl ⟨by rfl, ?_⟩) (by assumption) ?_
              rotate_left
              · intro w hSw; (try dsimp only at hSw); go_simp; (try with_reducible rfl)
              simp only [Act.put, List.setIfInBounds_toArray, List.set_cons_zero, List.set_cons_succ]
              refine wpAnyH_take (i := 25) (oi := { dst := some 181, op := _, type := _, pos := _, after := _, guard := _ }) (v := ?_) rfl (by kernel_rfl) (by kernel_rfl) (by kernel_rfl) (fun _ _ _ h => h) (Or.inl ⟨by rfl, ?_⟩) (by assumption) ?_
              rotate_left
              · intro w hSw; (try dsimp only at hSw); go_simp; (try with_reducible rfl)
              simp only [Act.put, List.setIfInBounds_toArray, List.set_cons_zero, List.set_cons_succ]
              refine wpAnyH_ready (rs := [26]) (by kernel_rfl) (by simp) ?_
              refine AllReadyH.cons (o := { dst := some 182, op := _, type := _, pos := _, after := _, guard := _ }) rfl (fun KK hKK => ?_) AllReadyH.nil
              go_simp
              go_at_call 14
              refine (own_any x _).mono ?_
              rintro e u2 ⟨rfl, g2⟩
              dsimp only
              refine hKK.out _ _ ⟨(gb_trans (by repeat (first | exact gb_refl _ _ | refine gb_drewN ?_ _ | refine gb_drew ?_ | refine gb_alloc ?_ _)) g2.out).cell d0 (by simp), (gb_trans (by repeat (first | exact gb_refl _ _ | refine gb_drewN ?_ _ | refine gb_drew ?_ | refine gb_alloc ?_ _)) g2.out).cell d1 (by simp), (gb_trans (by repeat (first | exact gb_refl _ _ | refine gb_drewN ?_ _ | refine gb_drew ?_ | refine gb_alloc ?_ _)) g2.out).cell d2 (by simp), (gb_trans (by repeat (first | exact gb_refl _ _ | refine gb_drewN ?_ _ | refine gb_drew ?_ | refine gb_alloc ?_ _)) g2.out).cell cv0 (by simp), (gb_trans (by repeat (first | exact gb_refl _ _ | refine gb_drewN ?_ _ | refine gb_drew ?_ | refine gb_alloc ?_ _)) g2.out).cell c0 (by simp), (gb_trans (by repeat (first | exact gb_refl _ _ | refine gb_drewN ?_ _ | refine gb_drew ?_ | refine gb_alloc ?_ _)) g2.out).cell c1 (by simp), (gb_trans (by repeat (first | exact gb_refl _ _ | refine gb_drewN ?_ _ | refine gb_drew ?_ | refine gb_alloc ?_ _)) g2.out).cell c2 (by simp), (gb_trans (by repeat (first | exact gb_refl _ _ | refine gb_drewN ?_ _ | refine gb_drew ?_ | refine gb_alloc ?_ _)) g2.out).cell c3 (by simp), (gb_trans (by repeat (first | exact gb_refl _ _ | refine gb_drewN ?_ _ | refine gb_drew ?_ | refine gb_alloc ?_ _)) g2.out).cell c4 (by simp), (gb_trans (by repeat (first | exact gb_refl _ _ | refine gb_drewN ?_ _ | refine gb_drew ?_ | refine gb_alloc ?_ _)) g2.out).cell cv1 (by simp), (gb_trans (by repeat (first | exact gb_refl _ _ | refine gb_drewN ?_ _ | refine gb_drew ?_ | refine gb_alloc ?_ _)) g2.out).cell k0 (by simp), (gb_trans (by repeat (first | exact gb_refl _ _ | refine gb_drewN ?_ _ | refine gb_drew ?_ | refine gb_alloc ?_ _)) g2.out).cell k1 (by simp), (gb_trans (by repeat (first | exact gb_refl _ _ | refine gb_drewN ?_ _ | refine gb_drew ?_ | refine gb_alloc ?_ _)) g2.out).cell k2 (by simp), (gb_trans (by repeat (first | exact gb_refl _ _ | refine gb_drewN ?_ _ | refine gb_drew ?_ | refine gb_alloc ?_ _)) g2.out).cell k3 (by simp), (gb_trans (by repeat (first | exact gb_refl _ _ | refine gb_drewN ?_ _ | refine gb_drew ?_ | refine gb_alloc ?_ _)) g2.out).cell k4 (by simp)⟩ (fun hHeld => ?_)
              clear hKK KK
              try simp only [Act.put, List.setIfInBounds_toArray, List.set_cons_zero, List.set_cons_succ]
              refine wpAnyH_take (i := 27) (oi := { dst := some 183, op := _, type := _, pos := _, after := _, guard := _ }) (v := ?_) rfl (by kernel_rfl) (by kernel_rfl) (by kernel_rfl) (fun _ _ _ h => h) (Or.inl ⟨by rfl, ?_⟩) (by assumption) ?_
              rotate_left
              · intro w hSw; (try dsimp only at hSw); go_simp; (try with_reducible rfl)
              simp only [Act.put, List.setIfInBounds_toArray, List.set_cons_zero, List.set_cons_succ]
              refine wpAnyH_take (i := 28) (oi := { dst := some 184, op := _, type := _, pos := _, after := _, guard := _ }) (v := ?_) rfl (by kernel_rfl) (by kernel_rfl) (by kernel_rfl) (fun _ _ _ h => h) (Or.inl ⟨by rfl, ?_⟩) (by assumption) ?_
              rotate_left
              · intro w hSw; (try dsimp only at hSw); go_simp; (try with_reducible rfl)
              simp only [Act.put, List.setIfInBounds_toArray, List.set_cons_zero, List.set_cons_succ]
              refine wpAnyH_take (i := 29) (oi := { dst := some 185, op := _, type := _, pos := _, after := _, guard := _ }) (v := ?_) rfl (by kernel_rfl) (by kernel_rfl) (by kernel_rfl) (fun _ _ _ h => h) (Or.inl ⟨by rfl, ?_⟩) (by assumption) ?_
              rotate_left
              · intro w hSw; (try dsimp only at hSw); go_simp; (try with_reducible rfl)
              simp only [Act.put, List.setIfInBounds_toArray, List.set_cons_zero, List.set_cons_succ]
              refine wpAnyH_done (by kernel_rfl) ?_ _
              refine NoPanic.normal ?_
              go_wp2
              go_meet
              exact ⟨rfl, (((M9.out.grown (by repeat (first | exact gb_refl _ _ | refine gb_drewN ?_ _ | refine gb_drew ?_ | refine gb_alloc ?_ _))).grown g2.out).drop (List.nil_sublist _))⟩
      case rest =>
      obtain ⟨rfl, M10⟩ := hcut
      have HZ2 := HZ
      clear M9 HI HM
      obtain ⟨nl, hnl⟩ : ∃ nl, nl = l2.length := ⟨_, rfl⟩
      obtain ⟨nm, hnm⟩ : ∃ nm, nm = m2.length := ⟨_, rfl⟩
      obtain ⟨nu, hnu⟩ : ∃ nu, nu = (unc m2 l2).length := ⟨_, rfl⟩
      obtain ⟨XA, hXA, MB⟩ := M10.out.right
      obtain ⟨aR, cR, aO, cO, cv0, cv1, iR, iO⟩ := SetS.read MB
      rw [← hnl] at cv0
      rw [← hnm] at cv1
      have IR := Lib.hid iR
      have IO := Lib.hid iO
      have C1 := Lib.hid (fun u (hu : Has (Both (SA s l2 m2) (SB v l2 m2)) w u []) => (by
        obtain ⟨XB, hXB, MA⟩ := hu.left
        have := allR w _ s l2 m2 u MA (by omega)
        rw [← hnl] at this
        exact this.mono fun e w' ⟨a, c, h1, h2, h3⟩ => ⟨a, c, h1, IsL.of_own h2.out rlen hnl, h3⟩ : Calls Try.prog 20 #[.pointer (some ⟨s, 0, none⟩)] u fun e w' => ∃ a c, e = .returned (.slice a nl c) ∧ Hid (IsL Rd.cells w' a l2) ∧ Hid (u.grownBy w' none)))
      have C3 := Lib.hid (fun u (hu : Has (Both (SA s l2 m2) (SB v l2 m2)) w u []) => (by
        obtain ⟨XB, hXB, MA⟩ := hu.left
        have := allO w _ s l2 m2 u MA (by omega)
        rw [← hnm] at this
        exact this.mono fun e w' ⟨a, c, h1, h2, h3⟩ => ⟨a, c, h1, IsL.of_own h2.out olen hnm, h3⟩ : Calls Try.prog 22 #[.pointer (some ⟨s, 0, none⟩)] u fun e w' => ∃ a c, e = .returned (.slice a nm c) ∧ Hid (IsL Ow.cells w' a m2) ∧ Hid (u.grownBy w' none)))
      have C5 := Lib.hid (fun u (hu : Has (Both (SA s l2 m2) (SB v l2 m2)) w u []) => (by
        obtain ⟨XB, hXB, MA⟩ := hu.left
        exact (unc_any w _ s l2 m2 u MA (by omega) (by omega)).mono fun e w' ⟨N, a, c, h1, h2, h3, h4⟩ => ⟨a, c, by rw [h1, h2.out, hnu], IsL.of_own h3.out rlen h2.out, h4⟩ : Calls Try.prog 23 #[.pointer (some ⟨s, 0, none⟩)] u fun e w' => ∃ a c, e = .returned (.slice a nu c) ∧ Hid (IsL Rd.cells w' a (unc m2 l2)) ∧ Hid (u.grownBy w' none)))
      have C6 := Lib.hid (fun u (hu : Has (Both (SA s l2 m2) (SB v l2 m2)) w u []) => (by
        obtain ⟨XA, hXA, MB⟩ := hu.right
        exact (refunc w _ v l2 m2 u MB (by omega) (by omega)).mono fun e w' ⟨N, a, c, h1, h2, h3, h4⟩ => ⟨a, c, by rw [h1, h2.out, hnu], IsL.of_own h3.out rlen h2.out, h4⟩ : Calls Try.prog 24 #[.pointer (some ⟨v, 0, none⟩)] u fun e w' => ∃ a c, e = .returned (.slice a nu c) ∧ Hid (IsL Rd.cells w' a (unc m2 l2)) ∧ Hid (u.grownBy w' none)))
      have HNL := Lib.hid hnl
      have HNM := Lib.hid hnm
      have HNU := Lib.hid hnu
      have bl : nl ≤ 1000 := by omega
      have bm : nm ≤ 1000 := by omega
      have bu : nu ≤ 1000 := by have := unc_len m2 l2; omega
      clear hXA MB iR iO hnl hnm hnu
      generalize unc m2 l2 = u2 at *
      go_upto_region 35 with fail
      go_region_held3 (fun w' => w'.cell? ⟨v, 0, none⟩ = some (.slice aR nl cR) ∧ w'.cell? ⟨v, 1, none⟩ = some (.slice aO nm cO)) (go_keep) (first | (go_at_call 19; refine (readings_eq a6 a7 nu c6 c7 u2 _ (I6.out.grown (gb_trans K7.out (by repeat (first | exact gb_refl _ _ | refine gb_drewN ?_ _ | refine gb_drew ?_ | refine gb_alloc ?_ _)))) (I7.out.grown (by repeat (first | exact gb_refl _ _ | refine gb_drewN ?_ _ | refine gb_drew ?_ | refine gb_alloc ?_ _))) HNU.out (by omega)).mono ?_; rintro e v8 ⟨q8, rfl, rfl⟩; have G8 := Lib.hid (gb_drewN G7.out q8); have y0 := G8.out.cell cv0 (by simp); have y1 := G8.out.cell cv1 (by simp)) | (go_at_call 24; refine (C6.out _ (M10.out.grown (gb_trans G6.out (by repeat (first | exact gb_refl _ _ | refine gb_drewN ?_ _ | refine gb_drew ?_ | refine gb_alloc ?_ _))))).mono ?_; rintro e v7 ⟨a7, c7, rfl, I7, K7⟩; have G7 := Lib.hid (gb_trans (gb_trans G6.out (by repeat (first | exact gb_refl _ _ | refine gb_drewN ?_ _ | refine gb_drew ?_ | refine gb_alloc ?_ _))) K7.out); have x0 := G7.out.cell cv0 (by simp); have x1 := G7.out.cell cv1 (by simp)) | (go_at_call 23; refine (C5.out _ (M10.out.grown (gb_trans G5.out (by repeat (first | exact gb_refl _ _ | refine gb_drewN ?_ _ | refine gb_drew ?_ | refine gb_alloc ?_ _))))).mono ?_; rintro e v6 ⟨a6, c6, rfl, I6, K6⟩; have G6 := Lib.hid (gb_trans (gb_trans G5.out (by repeat (first | exact gb_refl _ _ | refine gb_drewN ?_ _ | refine gb_drew ?_ | refine gb_alloc ?_ _))) K6.out); have w0 := G6.out.cell cv0 (by simp); have w1 := G6.out.cell cv1 (by simp)) | (go_at_call 21; refine (owns_eq a4 aO nm c4 cO m2 _ (I4.out.grown (by repeat (first | exact gb_refl _ _ | refine gb_drewN ?_ _ | refine gb_drew ?_ | refine gb_alloc ?_ _))) (IO.out.grown (gb_trans G4.out (by repeat (first | exact gb_refl _ _ | refine gb_drewN ?_ _ | refine gb_drew ?_ | refine gb_alloc ?_ _)))) HNM.out (by omega)).mono ?_; rintro e v5 ⟨rfl, K5⟩; have G5 := Lib.hid (gb_trans (gb_trans G4.out (by repeat (first | exact gb_refl _ _ | refine gb_drewN ?_ _ | refine gb_drew ?_ | refine gb_alloc ?_ _))) K5.out); have z0 := G5.out.cell cv0 (by simp); have z1 := G5.out.cell cv1 (by simp)) | (go_at_call 22; refine (C3.out _ (M10.out.grown (gb_trans G3.out (by repeat (first | exact gb_refl _ _ | refine gb_drewN ?_ _ | refine gb_drew ?_ | refine gb_alloc ?_ _))))).mono ?_; rintro e v4 ⟨a4, c4, rfl, I4, K4⟩; have G4 := Lib.hid (gb_trans (gb_trans G3.out (by repeat (first | exact gb_refl _ _ | refine gb_drewN ?_ _ | refine gb_drew ?_ | refine gb_alloc ?_ _))) K4.out); have t0 := G4.out.cell cv0 (by simp); have t1 := G4.out.cell cv1 (by simp)) | (go_at_call 19; refine (readings_eq a2 aR nl c2 cR l2 _ (I2.out.grown (by repeat (first | exact gb_refl _ _ | refine gb_drewN ?_ _ | refine gb_drew ?_ | refine gb_alloc ?_ _))) (IR.out.grown (gb_trans G2.out (by repeat (first | exact gb_refl _ _ | refine gb_drewN ?_ _ | refine gb_drew ?_ | refine gb_alloc ?_ _)))) HNL.out (by omega)).mono ?_; rintro e v3 ⟨q3, rfl, rfl⟩; have G3 := Lib.hid (gb_drewN G2.out q3); have s0 := G3.out.cell cv0 (by simp); have s1 := G3.out.cell cv1 (by simp)) | (go_at_call 20; refine (C1.out _ (M10.out.grown (by repeat (first | exact gb_refl _ _ | refine gb_drewN ?_ _ | refine gb_drew ?_ | refine gb_alloc ?_ _)))).mono ?_; rintro e v2 ⟨a2, c2, rfl, I2, K2⟩; have G2 := Lib.hid (gb_trans (show wc.grownBy _ none from (by repeat (first | exact gb_refl _ _ | refine gb_drewN ?_ _ | refine gb_drew ?_ | refine gb_alloc ?_ _))) K2.out); have r0 := G2.out.cell cv0 (by simp); have r1 := G2.out.cell cv1 (by simp)) | fail)
      go_wp2
      go_roundw
      case rel => exact ⟨k + 1, l2, m2, by omega, by go_num, HZ, M10.out.grown G8.out⟩
      case measure => simp [intOf]; omega
    · go_wp2
      go_ret
      exact ⟨rfl, M.out.below⟩

theorem walk (a1 : Option Addr) (len1 cap1 : Nat) (l1 : List Ac) (o : Int) (w : World) (n1 : len1 = l1.length) (w1 : IsL Ac.cells w a1 l1) (w2 : (Lit.int .i64 o).wf = true) : Calls Try.prog 3 #[.slice a1 len1 cap1, .int .i64 o] w fun e w' => e = .returned (.bool true) ∧ Below w.heap.size w w' := by
  by_cases h : 100 < (len1 : Int)
  · exact walk_out _ _ _ _ w h
  · exact walkIn _ _ _ l1 o w n1 w1 h

theorem own : ownKnob Try.prog.godebug = none := by kernel_rfl
theorem laidOut : laidOutB Try.prog = true := by kernel_rfl

/-! ### THE ROW's STEP, as the guide has it -/
set_option maxRecDepth 100000 in
theorem lifted (os : Os) (started : os.Started) (H : Type) (enc : TypeId × Value → H) :
    ReturnsInHanded {} Try.checked os 3 .any (Rows.readsActsSpec.pre6 enc Try.prog Try.f3 Rows.readsActsRow.domain false) (Rows.readsActsSpec.post enc Try.prog Try.f3 false true false false) := by
  refine returnsInHanded_of_change (C := Try.checked) own started (by kernel_rfl) Try.func3
    (ChangeSpec.witness6 (enc := enc) (C := Try.checked) false ⟨#[], #[.slice none 0 0, .int .i64 0], []⟩ 8 (by kernel_rfl) (by kernel_rfl) (by kernel_rfl) (by kernel_rfl)) ?_
  intro W base args ds gs before hval0 hW hcnd _
  have hval : ∀ (j : Nat) t v, Try.f3.params[j]? = some t → args[j]? = some v → Value.okWide Try.prog W .any base t v := hval0
  have hW' := hW
  obtain ⟨p, q, hA0, hV, rfl, hfz, hnd⟩ := hW
  have hA : DataW.TrodAll enc Try.prog W 0 (fun _ => true) true Try.f3.params.toList args.toList ds p := hA0
  rw [Try.params3] at hA hval
  obtain ⟨v0, vs0, d0, ds0, p0, q0, hargs, rfl, rfl, h0, r0⟩ := trodAll_cons hA
  obtain ⟨v1, vs1, d1, ds1, p1, q1, rfl, rfl, rfl, h1, r1⟩ := trodAll_cons r0
  obtain ⟨rfl, rfl, rfl⟩ := trodAll_nil r1
  obtain rfl : args = #[v0, v1] := by cases args; simp_all
  obtain ⟨rfl, rfl⟩ := trodVars_none hV
  obtain ⟨a0, len0, cap0, rfl⟩ := okWide_slice Try.underlying22 (hval 0 22 v0 rfl rfl)
  have k0 := h0
  have lt0 : ∀ x ∈ p0, x.block < W.heap.size := by obtain ⟨m, hm⟩ := k0; exact DataW.trod_lt m _ _ _ hm
  obtain ⟨l0, n0, w0⟩ : ∃ l : List Ac, len0 = l.length ∧ IsL Ac.cells W a0 l := by
    obtain ⟨fuel, hf⟩ := h0
    exact isActs_of hf
  obtain ⟨a1, rfl, rfl, rfl, w1⟩ := open_int Try.underlying3 (hval 1 3 v1 rfl rfl) h1
  clear hA0 hval0
  refine (walk a0 len0 cap0 l0 a1 W n0 w0 w1).mono fun e W' ⟨he, bel⟩ => ?_
  subst he
  exact ⟨_, rfl, _, _, _, [], _, [], hW', trodAll_mk1 (shut_bool Try.underlying4 _), (trodAll_cons_mk (Below.trod laidOut (by kernel_rfl) (of_decide_eq_true (by kernel_rfl)) k0 bel lt0) (trodAll_cons_mk (shut_int Try.underlying3 w1) trodAll_mk0)), rfl, bel.frame _, fun h => by cases h⟩

theorem over : Rows.readsActsRow.holds Try.pinned (OpenSpec.ofChange Rows.readsActsSpec) :=
  OpenClaim.holds_of_wide 3 Try.f3 rfl rfl rfl rfl rfl rfl rfl ⟨rfl, rfl, rfl, rfl, rfl⟩ rfl rfl rfl rfl rfl (by kernel_rfl) Try.func3 (by kernel_rfl)
    (of_decide_eq_true (by kernel_rfl)) (by unfold Func.isWrapper; first | (rw [if_pos (by decide +kernel)]; kernel_rfl) | (rw [if_neg (by decide +kernel)]; exact ⟨rfl, rfl⟩))
    (fun os started H enc _ => lifted os started H enc)

theorem proved : Rows.ReadsActsSaid := over
#print axioms proved
end Go.Proofs.Ytfkfobloamambaa.readsActs
