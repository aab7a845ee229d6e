/-
  ReadsOne: each object has one reading, and one own one, at most, and what was told, and changed, changes nothing; for any list of acts.
  Conditions: none (of more than 100 acts the law says nothing by itself).
-/
import Derived.Test.YtfkfobloamambaaRows
import Derived.Test.YtfkfobloamambaaRdL
import Derived.Test.YtfkfobloamambaaActL
import Derived.Deep.CutRange
import Derived.Deep.CutBlock
import Derived.Deep.DeepCutAuto
namespace Go.Proofs.Ytfkfobloamambaa.readsOne
open Go.ChangeShapes Go.WideShapes Go.ChangeAt Go.RowKit Go.Proofs.Ytfkfobloamambaa.base Go.Proofs.Ytfkfobloamambaa.lg Go.Proofs.Ytfkfobloamambaa.rd
set_option linter.unusedVariables false

/-- No object twice. -/
def UniqO (m : List Ow) : Prop := m.Pairwise fun a b => a.o ≠ b.o
theorem UniqO.put {m : List Ow} (h : UniqO m) (x : Ow) : UniqO (putL x m) := by
  unfold putL
  rcases pl_spec Ow.o x.o m with ⟨h1, h2⟩ | ⟨k, y, h1, h2, h3, _⟩
  · rw [h1]
    refine List.pairwise_append.2 ⟨h, List.pairwise_singleton _ _, fun a ha b hb => ?_⟩
    rw [List.mem_singleton] at hb
    subst hb
    obtain ⟨j, hj⟩ := List.getElem?_of_mem ha
    exact h2 j a hj
  · rw [h1]
    show (m.set k x).Pairwise fun a b => a.o ≠ b.o
    have hd := List.pairwise_iff_getElem.1 h
    obtain ⟨hk1, hk2⟩ := List.getElem?_eq_some_iff.1 h2
    refine List.pairwise_iff_getElem.2 fun i j hi hj hij => ?_
    have hi' : i < m.length := by simpa using hi
    have hj' : j < m.length := by simpa using hj
    have key : ∀ q (hq : q < m.length) (hq2 : q < (m.set k x).length), ((m.set k x)[q]).o = (m[q]).o := by
      intro q hq hq2
      by_cases e : k = q
      · subst e
        rw [List.getElem_set_self, hk2, h3]
      · rw [List.getElem_set_ne e]
    rw [key i hi' hi, key j hj' hj]
    exact hd i j hi' hj' hij
theorem pl_uniqR {l : List Rd} (h : Uniq l) {k : Nat} {x : Rd} (hx : l[k]? = some x) : pl Rd.o x.o l = some k := by
  refine pl_some hx rfl fun j y hj hy => ?_
  obtain ⟨h1, h2⟩ := List.getElem?_eq_some_iff.1 hx
  obtain ⟨h3, h4⟩ := List.getElem?_eq_some_iff.1 hy
  have := List.pairwise_iff_getElem.1 h j k h3 h1 hj
  rw [h2, h4] at this
  exact this
theorem pl_uniqO {l : List Ow} (h : UniqO l) {k : Nat} {x : Ow} (hx : l[k]? = some x) : pl Ow.o x.o l = some k := by
  refine pl_some hx rfl fun j y hj hy => ?_
  obtain ⟨h1, h2⟩ := List.getElem?_eq_some_iff.1 hx
  obtain ⟨h3, h4⟩ := List.getElem?_eq_some_iff.1 hy
  have := List.pairwise_iff_getElem.1 h j k h3 h1 hj
  rw [h2, h4] at this
  exact this
theorem has_row {S : Blks → Prop} {w0 w w' : World} {R : Blks} {e : TypeId} {k base n : Nat} {α : Type} {f : α → List Value} {l : List α} {v : Value} (h : Has S w0 w R) (g : w.grownBy w' none) (ho : w'.ownsRow base e k v n (rows f l)) (hb : w.heap.size ≤ base) (hn : n = l.length) : ∃ L, Row f k e l v L ∧ Has S w0 w' (L ++ R) := by
  obtain ⟨X, hX, o⟩ := h
  obtain ⟨L, hL, o2⟩ := Row.of_own o g ho hb hn
  exact ⟨L, hL, X, hX, o2.comm⟩

/-- At the head of a round. -/
def Rel (w : World) (s len : Nat) (iv : Value) (wr : World) : Prop :=
  ∃ (k : Nat) (l : List Rd) (m : List Ow), k ≤ len ∧ iv = .int .i64 k ∧ Hid (l.length ≤ k ∧ m.length ≤ k ∧ Uniq l ∧ UniqO m) ∧ Hid (Has (SA s l m) w wr [])
/-- Behind the act. -/
def Acted (w : World) (s ab k : Nat) (K : Int) (y : Ac) (wr : World) : Prop :=
  ∃ (l : List Rd) (m : List Ow), Hid (l.length ≤ k + 1 ∧ m.length ≤ k + 1 ∧ Uniq l ∧ UniqO m) ∧ Hid (Has (SA s l m) w wr [(ab, 36, [.int .i64 K, .int .i64 y.r.o, .int .i64 y.r.n, .int .i64 y.r.v, .int .i64 y.x.o, .int .i64 y.x.c, .int .i64 y.x.n, .int .i64 y.x.v, .bool y.x.b])])

set_option maxRecDepth 100000 in
theorem walk_out (a1 : Option Addr) (len1 cap1 : Nat) (w : World) (h : 100 < (len1 : Int)) : Calls Try.prog 4 #[.slice a1 len1 cap1] w fun e w' => e = .returned (.bool true) ∧ Below w.heap.size w w' := by
  go_enter Try.func4, Try.ntmps4
  go_wp2_with fail
  refine (alive_any _).mono ?_
  rintro e v1 ⟨rfl, g1⟩
  go_wp2
  go_ret
  exact ⟨rfl, gb_below g1.out⟩

set_option maxRecDepth 100000 in
set_option maxHeartbeats 4000000 in
theorem walkIn (a1 : Option Addr) (len1 cap1 : Nat) (l1 : List Ac) (w : World) (n1 : len1 = l1.length) (w1 : IsL Ac.cells w a1 l1) (h : ¬ 100 < (len1 : Int)) : Calls Try.prog 4 #[.slice a1 len1 cap1] w fun e w' => e = .returned (.bool true) ∧ Below w.heap.size w w' := by
  have W1 := Lib.hid w1
  have HL := Lib.hid n1
  have hn := Lib.hid (show len1 ≤ 100 by omega)
  clear w1 n1
  go_enter Try.func4, Try.ntmps4
  go_wp2_with fail
  refine (alive_any _).mono ?_
  rintro e v1 ⟨rfl, g1⟩
  have M1 := Lib.hid ((Own.start w).grown g1.out)
  clear g1
  go_wp2_with fail
  refine (new_any w [] _ M1.out).mono ?_
  rintro e v2 ⟨rfl, M2⟩
  generalize v1.heap.size = s at *
  clear M1
  go_wp2_with fail
  go_loopw [4] (fun iv wr => Rel w s len1 iv wr) (fun iv _ => (len1 - intOf iv).toNat)
  case atStart => exact ⟨0, [], [], by omega, rfl, ⟨by simp, by simp, List.Pairwise.nil, List.Pairwise.nil⟩, M2⟩
  case round =>
    obtain ⟨k, l, m, hk, rfl, HZ, M⟩ := hrel
    clear M2
    by_cases hlt : k < len1
    · obtain ⟨y, hy⟩ : ∃ y, l1[k]? = some y := ⟨_, List.getElem?_eq_getElem (by rw [← HL.out]; exact hlt)⟩
      obtain ⟨b1, off1, rfl, hb1, c0, c1, c2, c3, c4, c5, c6, c7, c8⟩ := at9 (W1.out.below M.out.below) hy
      have hlt' : (k : Int) < (len1 : Int) := by omega
      clear hy
      generalize y.k = K at *
      go_upto_region 12 with fail
      have M4 := Lib.hid (M.out.alloc 36 [.int .i64 K, .int .i64 y.r.o, .int .i64 y.r.n, .int .i64 y.r.v, .int .i64 y.x.o, .int .i64 y.x.c, .int .i64 y.x.n, .int .i64 y.x.v, .bool y.x.b])
      generalize wr.heap.size = ab at *
      generalize wr.alloc _ = v4 at *
      clear c0 c1 c2 c3 c4 c5 c6 c7 c8 M
      have a0 := M4.out.cell 0 0 rfl rfl; have a1 := M4.out.cell 0 1 rfl rfl; have a2 := M4.out.cell 0 2 rfl rfl; have a3 := M4.out.cell 0 3 rfl rfl; have a4 := M4.out.cell 0 4 rfl rfl; have a5 := M4.out.cell 0 5 rfl rfl; have a6 := M4.out.cell 0 6 rfl rfl; have a7 := M4.out.cell 0 7 rfl rfl; have a8 := M4.out.cell 0 8 rfl rfl
      go_upto_block 2 with fail
      go_cut [] from 27 to 178 (fun wx => Acted w s ab k K y wx)
      case first =>
        by_cases hK : K = 0
        · subst hK
          cases hq : pl Rd.o y.r.o l with
          | some q =>
            have A := Lib.hid (show Calls Try.prog 10 #[.pointer (some ⟨s, 0, none⟩), .agg #[.int .i64 y.r.o, .int .i64 y.r.n, .int .i64 0]] v4 fun e w' => e = .returned (.int .i64 7) ∧ Hid (v4.grownBy w' none) from add_has w _ s l m ⟨y.r.o, y.r.n, 0⟩ q v4 M4.out (by have := HZ.out.1; have := hn.out; omega) hq)
            clear hq
            go_wp2_with fail
            refine A.out.mono ?_
            rintro e v5 ⟨rfl, g⟩
            have M5 := Lib.hid (M4.out.grown g.out)
            clear A g
            go_wp2
            go_meet
            exact ⟨l, m, ⟨by have := HZ.out.1; omega, by have := HZ.out.2.1; omega, HZ.out.2.2⟩, M5⟩
          | none =>
            have A := Lib.hid (show Calls Try.prog 10 #[.pointer (some ⟨s, 0, none⟩), .agg #[.int .i64 y.r.o, .int .i64 y.r.n, .int .i64 0]] v4 fun e w' => e = .returned (.int .i64 0) ∧ Hid (Has (SA s (l ++ [⟨y.r.o, y.r.n, 0⟩]) m) w w' [(ab, 36, [.int .i64 0, .int .i64 y.r.o, .int .i64 y.r.n, .int .i64 y.r.v, .int .i64 y.x.o, .int .i64 y.x.c, .int .i64 y.x.n, .int .i64 y.x.v, .bool y.x.b])]) from add_new w _ s l m ⟨y.r.o, y.r.n, 0⟩ v4 M4.out (by have := HZ.out.1; have := hn.out; omega) hq)
            have HZ2 := Lib.hid (show (l ++ [(⟨y.r.o, y.r.n, 0⟩ : Rd)]).length ≤ k + 1 ∧ m.length ≤ k + 1 ∧ Uniq (l ++ [⟨y.r.o, y.r.n, 0⟩]) ∧ UniqO m from ⟨by have := HZ.out.1; simp; omega, by have := HZ.out.2.1; omega, Uniq.add (x := ⟨y.r.o, y.r.n, 0⟩) HZ.out.2.2.1 hq, HZ.out.2.2.2⟩)
            clear hq
            go_wp2_with fail
            refine A.out.mono ?_
            rintro e v5 ⟨rfl, M5⟩
            clear A
            go_wp2
            go_meet
            exact ⟨_, m, HZ2, M5⟩
        by_cases hK1 : K = 1
        · subst hK1
          have D := Lib.hid (drop_any y.r.o _ M4.out (by have := HZ.out.1; have := hn.out; omega) rfl)
          generalize (pl Rd.o y.r.o l).isSome = hb at D
          have HZ2 := Lib.hid (show (dropL y.r.o l).length ≤ k + 1 ∧ m.length ≤ k + 1 ∧ Uniq (dropL y.r.o l) ∧ UniqO m from ⟨by have := HZ.out.1; have := dropL_len y.r.o l; omega, by have := HZ.out.2.1; omega, HZ.out.2.2.1.drop _, HZ.out.2.2.2⟩)
          go_wp2_with fail
          refine D.out.mono ?_
          rintro e v5 ⟨rfl, M5⟩
          clear D
          go_wp2
          go_meet
          exact ⟨_, m, HZ2, M5⟩
        by_cases hK2 : K = 2
        · subst hK2
          have G := Lib.hid (fun u => own_any y.x u)
          go_wp2_with fail
          refine (G.out _).mono ?_
          rintro e v5 ⟨rfl, g⟩
          have P := Lib.hid (put_any y.x (M4.out.grown g.out) (by have := HZ.out.2.1; have := hn.out; omega))
          have HZ2 := Lib.hid (show l.length ≤ k + 1 ∧ (putL y.x m).length ≤ k + 1 ∧ Uniq l ∧ UniqO (putL y.x m) from ⟨by have := HZ.out.1; omega, by have := HZ.out.2.1; have := putL_len y.x m; omega, HZ.out.2.2.1, HZ.out.2.2.2.put _⟩)
          clear G g M4 a0 a1 a2 a3 a4 a5 a6 a7 a8
          go_wp2_with fail
          refine P.out.mono ?_
          rintro e v6 ⟨rfl, M6⟩
          clear P
          go_wp2
          go_meet
          exact ⟨l, _, HZ2, M6⟩
        have k0 : (K == 0) = false := by simpa using hK
        have k1 : (K == 1) = false := by simpa using hK1
        have k2 : (K == 2) = false := by simpa using hK2
        clear hK hK1 hK2
        go_wp2
        go_meet
        exact ⟨l, m, ⟨by have := HZ.out.1; omega, by have := HZ.out.2.1; omega, HZ.out.2.2⟩, M4⟩
      case rest =>
      clear M4 HZ a0 a1 a2 a3 a4 a5 a6 a7 a8
      obtain ⟨l2, m2, HZ, M5⟩ := hcut
      obtain ⟨nl, hnl⟩ : ∃ nl, nl = l2.length := ⟨_, rfl⟩
      obtain ⟨nm, hnm⟩ : ∃ nm, nm = m2.length := ⟨_, rfl⟩
      have C1 := Lib.hid (allR w _ s l2 m2 wc M5.out (by have := HZ.out.1; have := hn.out; omega))
      rw [← hnl] at C1
      have HNL := Lib.hid hnl
      have HNM := Lib.hid hnm
      have bl : nl ≤ 1000 := by have := HZ.out.1; have := hn.out; omega
      have bm : nm ≤ 1000 := by have := HZ.out.2.1; have := hn.out; omega
      clear hnl hnm
      go_wp2_with fail
      refine C1.out.mono ?_
      rintro e v6 ⟨aR, cR, rfl, OR, g⟩
      obtain ⟨LR, hLR, M6'⟩ := has_row M5.out g.out OR.out (Nat.le_refl _) HNL.out
      have M6 := Lib.hid M6'
      have HLR := Lib.hid hLR
      have IR := Lib.hid (IsL.of_own OR.out rlen HNL.out)
      have C2 := Lib.hid (allO w _ s l2 m2 v6 M6' (by have := HNM.out; omega))
      rw [← HNM.out] at C2
      clear C1 g OR M5 M6' hLR
      go_wp2_with fail
      refine C2.out.mono ?_
      rintro e v7 ⟨aO, cO, rfl, OO, g⟩
      have M7 := Lib.hid (M6.out.grown g.out)
      have IO := Lib.hid (IsL.of_own OO.out olen HNM.out)
      have IR2 := Lib.hid (IR.out.grown g.out)
      have FH := Lib.hid (fun (p : Nat) (x : Rd) (hp : l2[p]? = some x) (u : World) (hu : v7.grownBy u none) => hasR w _ s l2 m2 x.o x true u (M7.out.grown hu) (by have := HNL.out; omega) (gt_some (pl_uniqR HZ.out.2.2.1 hp) hp).symm (by rw [pl_uniqR HZ.out.2.2.1 hp]; rfl))
      have FM := Lib.hid (fun (p : Nat) (x : Ow) (hp : m2[p]? = some x) (u : World) (hu : v7.grownBy u none) => hasO w _ s l2 m2 x.o x true u (M7.out.grown hu) (by have := HNM.out; omega) (gt_some (pl_uniqO HZ.out.2.2.2 hp) hp).symm (by rw [pl_uniqO HZ.out.2.2.2 hp]; rfl))
      clear C2 g OO M6 IR
      go_wp2_with fail
      go_loopw [8] (fun iv wr => ∃ p : Nat, p ≤ nl ∧ iv = .int .i64 p ∧ Hid (v7.grownBy wr none)) (fun iv _ => (nl - intOf iv).toNat)
      case atStart => exact ⟨0, by omega, rfl, gb_refl _ _⟩
      case round =>
        obtain ⟨p, hp, rfl, G⟩ := hrel
        by_cases hlp : p < nl
        · as_aux_lemma =>
            obtain ⟨x, hx⟩ : ∃ x, l2[p]? = some x := ⟨_, List.getElem?_eq_getElem (by rw [← HNL.out]; exact hlp)⟩
            obtain ⟨br, or_, rfl, hbr, c0, c1, c2⟩ := at3 (IR2.out.grown G.out) hx
            have hlp' : (p : Int) < (nl : Int) := by omega
            have F := Lib.hid (FH.out p x hx wr G.out)
            have HX := Lib.hid hx
            clear hx
            go_wp2_with fail
            refine F.out.mono ?_
            rintro e u ⟨rfl, g⟩
            have NB := Blk.made u 40 #[.int .i64 x.o, .int .i64 x.n, .int .i64 x.v]
            have G2 := Lib.hid (gb_alloc (gb_trans G.out g.out) (.cells #[.int .i64 x.o, .int .i64 x.n, .int .i64 x.v] 40))
            clear F g c0 c1 c2
            go_upto_region 24 with fail
            generalize u.heap.size = xb at *
            generalize u.alloc _ = u2 at *
            obtain ⟨br', or', e1, hbr', c0, c1, c2⟩ := at3 (IR2.out.grown G2.out) HX.out
            cases e1
            have d0 : u2.cell? ⟨xb, 0, none⟩ = some (.int .i64 x.o) := NB.cell 0
            have d1 : u2.cell? ⟨xb, 1, none⟩ = some (.int .i64 x.n) := NB.cell 1
            have d2 : u2.cell? ⟨xb, 2, none⟩ = some (.int .i64 x.v) := NB.cell 2
            clear NB G
            go_quiet (fail)
            have G3 := Lib.hid (gb_drewN G2.out nq)
            generalize u2.drewN nq = u3 at *
            clear G2 c0 c1 c2 d0 d1 d2
            go_wp2_with fail
            go_loopw [11] (fun iv wr => ∃ q : Nat, q ≤ p ∧ iv = .int .i64 q ∧ Hid (v7.grownBy wr none)) (fun iv _ => (p - intOf iv).toNat)
            case atStart => exact ⟨0, by omega, rfl, G3⟩
            case round =>
              obtain ⟨q, hq, rfl, G4⟩ := hrel
              clear G3
              by_cases hlq : q < p
              · obtain ⟨x', hx'⟩ : ∃ x', l2[q]? = some x' := ⟨_, List.getElem?_eq_getElem (by rw [← HNL.out]; omega)⟩
                have hne : (x'.o == x.o) = false := by
                  obtain ⟨h1, h2⟩ := List.getElem?_eq_some_iff.1 HX.out
                  obtain ⟨h3, h4⟩ := List.getElem?_eq_some_iff.1 hx'
                  have := List.pairwise_iff_getElem.1 HZ.out.2.2.1 q p h3 h1 hlq
                  rw [h2, h4] at this
                  simpa using this
                obtain ⟨_, _, e1, _, c0, c1, c2⟩ := at3 (IR2.out.grown G4.out) HX.out
                cases e1
                obtain ⟨_, _, e1, _, d0, d1, d2⟩ := at3 (IR2.out.grown G4.out) hx'
                cases e1
                have hlq' : (q : Int) < (p : Int) := by omega
                have hlq2 : (q : Int) < (nl : Int) := by omega
                clear hx'
                go_wp2_with fail
                go_quiet (fail)
                go_wp2
                go_roundw
                case rel => exact ⟨q + 1, by omega, by go_num, gb_drewN G4.out _⟩
                case measure => simp [intOf]; omega
              · obtain rfl : q = p := by omega
                go_wp2
                go_roundw
                case rel => exact ⟨q + 1, by omega, by go_num, G4⟩
                case measure => simp [intOf]; omega
        · obtain rfl : p = nl := by omega
          go_wp2_with fail
          go_loopw [12] (fun iv wr => ∃ p : Nat, p ≤ nm ∧ iv = .int .i64 p ∧ Hid (v7.grownBy wr none)) (fun iv _ => (nm - intOf iv).toNat)
          case atStart => exact ⟨0, by omega, rfl, G⟩
          case round =>
            clear G
            obtain ⟨t, ht, rfl, G⟩ := hrel
            by_cases hlt2 : t < nm
            · as_aux_lemma =>
                obtain ⟨x, hx⟩ : ∃ x, m2[t]? = some x := ⟨_, List.getElem?_eq_getElem (by rw [← HNM.out]; exact hlt2)⟩
                obtain ⟨br, or_, rfl, hbr, c0, c1, c2, c3, c4⟩ := at5 (IO.out.grown G.out) hx
                have hlp' : (t : Int) < (nm : Int) := by omega
                have F := Lib.hid (FM.out t x hx wr G.out)
                have HX := Lib.hid hx
                clear hx
                go_wp2_with fail
                refine F.out.mono ?_
                rintro e u ⟨rfl, g⟩
                have NB := Blk.made u 44 #[.int .i64 x.o, .int .i64 x.c, .int .i64 x.n, .int .i64 x.v, .bool x.b]
                have G2 := Lib.hid (gb_alloc (gb_trans G.out g.out) (.cells #[.int .i64 x.o, .int .i64 x.c, .int .i64 x.n, .int .i64 x.v, .bool x.b] 44))
                clear F g c0 c1 c2 c3 c4
                go_upto_region 35 with fail
                generalize u.heap.size = xb at *
                generalize u.alloc _ = u2 at *
                obtain ⟨br', or', e1, hbr', c0, c1, c2, c3, c4⟩ := at5 (IO.out.grown G2.out) HX.out
                cases e1
                have d0 : u2.cell? ⟨xb, 0, none⟩ = some (.int .i64 x.o) := NB.cell 0
                have d1 : u2.cell? ⟨xb, 1, none⟩ = some (.int .i64 x.c) := NB.cell 1
                have d2 : u2.cell? ⟨xb, 2, none⟩ = some (.int .i64 x.n) := NB.cell 2
                have d3 : u2.cell? ⟨xb, 3, none⟩ = some (.int .i64 x.v) := NB.cell 3
                have d4 : u2.cell? ⟨xb, 4, none⟩ = some (.bool x.b) := NB.cell 4
                clear NB G
                go_quiet (fail)
                have G3 := Lib.hid (gb_drewN G2.out nq)
                generalize u2.drewN nq = u3 at *
                clear G2 c0 c1 c2 c3 c4 d0 d1 d2 d3 d4
                go_wp2_with fail
                go_loopw [15] (fun iv wr => ∃ q : Nat, q ≤ t ∧ iv = .int .i64 q ∧ Hid (v7.grownBy wr none)) (fun iv _ => (t - intOf iv).toNat)
                case atStart => exact ⟨0, by omega, rfl, G3⟩
                case round =>
                  obtain ⟨q, hq, rfl, G4⟩ := hrel
                  clear G3
                  by_cases hlq : q < t
                  · obtain ⟨x', hx'⟩ : ∃ x', m2[q]? = some x' := ⟨_, List.getElem?_eq_getElem (by rw [← HNM.out]; omega)⟩
                    have hne : (x'.o == x.o) = false := by
                      obtain ⟨h1, h2⟩ := List.getElem?_eq_some_iff.1 HX.out
                      obtain ⟨h3, h4⟩ := List.getElem?_eq_some_iff.1 hx'
                      have := List.pairwise_iff_getElem.1 HZ.out.2.2.2 q t h3 h1 hlq
                      rw [h2, h4] at this
                      simpa using this
                    obtain ⟨_, _, e1, _, c0, c1, c2, c3, c4⟩ := at5 (IO.out.grown G4.out) HX.out
                    cases e1
                    obtain ⟨_, _, e1, _, d0, d1, d2, d3, d4⟩ := at5 (IO.out.grown G4.out) hx'
                    cases e1
                    have hlq' : (q : Int) < (t : Int) := by omega
                    have hlq2 : (q : Int) < (nm : Int) := by omega
                    clear hx'
                    go_wp2_with fail
                    go_quiet (fail)
                    go_wp2
                    go_roundw
                    case rel => exact ⟨q + 1, by omega, by go_num, gb_drewN G4.out _⟩
                    case measure => simp [intOf]; omega
                  · obtain rfl : q = t := by omega
                    go_wp2
                    go_roundw
                    case rel => exact ⟨q + 1, by omega, by go_num, G4⟩
                    case measure => simp [intOf]; omega
            · obtain rfl : t = nm := by omega
              by_cases h0 : p = 0
              · as_aux_lemma =>
                  have hp0 : decide (0 < p) = false := by simp; omega
                  have hp1 : decide ((0 : Int) < (p : Int)) = false := by simp; omega
                  clear h0
                  go_wp2
                  go_roundw
                  case rel => exact ⟨k + 1, l2, m2, by omega, by go_num, HZ, (M7.out.grown G.out).drop (List.nil_sublist _)⟩
                  case measure => simp [intOf]; omega
              · as_aux_lemma =>
                  obtain ⟨x, hx⟩ : ∃ x, l2[0]? = some x := ⟨_, List.getElem?_eq_getElem (by rw [← HNL.out]; omega)⟩
                  have hlp' : (0 : Int) < (p : Int) := by omega
                  have hlp2 : 0 < p := by omega
                  have hp0 : decide (0 < p) = true := by simp; omega
                  have hp1 : decide ((0 : Int) < (p : Int)) = true := by simp; omega
                  have M8 := Lib.hid (M7.out.grown G.out)
                  rcases HLR.out with ⟨e1, _, _⟩ | ⟨gr, cap, cur, e1, e2, hc1, hc2, hc3, hc4⟩
                  · rw [e1] at hx; simp at hx
                  cases e1
                  subst e2
                  obtain ⟨_, _, e1, hgr, c0, c1, c2⟩ := at3 (IR2.out.grown G.out) hx
                  cases e1
                  simp only [Nat.zero_mul, Nat.add_zero, Nat.zero_add] at c0 c1 c2
                  have F := Lib.hid (pl_uniqR HZ.out.2.2.1 hx)
                  have HX := Lib.hid hx
                  clear hx hc1 hc2 hc3 hc4 G FH FM IR2 IO HLR h0
                  go_upto_region 44 with fail
                  have M9 := Lib.hid (M8.out.alloc 40 [.int .i64 x.o, .int .i64 x.n, .int .i64 x.v])
                  have e1 := (World.grownBy_alloc wr (.cells #[.int .i64 x.o, .int .i64 x.n, .int .i64 x.v] 40) none).cell c1 (by simp)
                  clear c0 c1 c2 M8
                  generalize wr.heap.size = wb at *
                  generalize wr.alloc _ = v9 at *
                  have f1 := M9.out.free 1 1 rfl
                  have MS := Lib.hid (fun u => M9.out.set 1 1 u rfl)
                  clear M9
                  go_upto_region 45 with fail
                  generalize hv : v9.setCell _ _ = v10 at *
                  obtain ⟨R', M10⟩ : ∃ R', Hid (Has (SA s l2 m2) w v10 ((wb, 40, [.int .i64 x.o, .int .i64 x.n, .int .i64 x.v]) :: R')) := ⟨_, by rw [← hv]; exact MS.out _⟩
                  have C := Lib.hid (hasR w _ s l2 m2 x.o x true v10 M10.out (by have := HZ.out.1; have := hn.out; omega) (gt_some F.out HX.out).symm (by rw [F.out]; rfl))
                  clear hv MS e1 f1
                  have d0 := M10.out.cell 0 0 rfl rfl; have d1 := M10.out.cell 0 1 rfl rfl; have d2 := M10.out.cell 0 2 rfl rfl
                  go_wp2_with fail
                  refine C.out.mono ?_
                  rintro e v11 ⟨rfl, g⟩
                  have M11 := Lib.hid ((M10.out.grown g.out).alloc 40 [.int .i64 x.o, .int .i64 x.n, .int .i64 x.v])
                  clear C g d0 d1 d2 M10
                  go_upto_region 46 with fail
                  generalize v11.heap.size = xb at *
                  generalize v11.alloc _ = v12 at *
                  have d0 := M11.out.cell 1 0 rfl rfl; have d1 := M11.out.cell 1 1 rfl rfl; have d2 := M11.out.cell 1 2 rfl rfl
                  have q0 := M11.out.cell 0 0 rfl rfl; have q1 := M11.out.cell 0 1 rfl rfl; have q2 := M11.out.cell 0 2 rfl rfl
                  go_wp2
                  go_roundw
                  case rel => exact ⟨k + 1, l2, m2, by omega, by go_num, HZ, M11.out.drop (List.nil_sublist _)⟩
                  case measure => simp [intOf]; omega
    · go_wp2
      go_ret
      exact ⟨rfl, M.out.below⟩

theorem walk (a1 : Option Addr) (len1 cap1 : Nat) (l1 : List Ac) (w : World) (n1 : len1 = l1.length) (w1 : IsL Ac.cells w a1 l1) : Calls Try.prog 4 #[.slice a1 len1 cap1] w fun e w' => e = .returned (.bool true) ∧ Below w.heap.size w w' := by
  by_cases h : 100 < (len1 : Int)
  · exact walk_out _ _ _ w h
  · exact walkIn _ _ _ l1 w n1 w1 h

theorem own : ownKnob Try.prog.godebug = none := by kernel_rfl
theorem laidOut : laidOutB Try.prog = true := by kernel_rfl

/-! ### THE ROW's STEP, as the guide has it -/
set_option maxRecDepth 100000 in
theorem lifted (os : Os) (started : os.Started) (H : Type) (enc : TypeId × Value → H) :
    ReturnsInHanded {} Try.checked os 4 .any (Rows.readsOneSpec.pre6 enc Try.prog Try.f4 Rows.readsOneRow.domain false) (Rows.readsOneSpec.post enc Try.prog Try.f4 false true false false) := by
  refine returnsInHanded_of_change (C := Try.checked) own started (by kernel_rfl) Try.func4
    (ChangeSpec.witness6 (enc := enc) (C := Try.checked) false ⟨#[], #[.slice none 0 0], []⟩ 8 (by kernel_rfl) (by kernel_rfl) (by kernel_rfl) (by kernel_rfl)) ?_
  intro W base args ds gs before hval0 hW hcnd _
  have hval : ∀ (j : Nat) t v, Try.f4.params[j]? = some t → args[j]? = some v → Value.okWide Try.prog W .any base t v := hval0
  have hW' := hW
  obtain ⟨p, q, hA0, hV, rfl, hfz, hnd⟩ := hW
  have hA : DataW.TrodAll enc Try.prog W 0 (fun _ => true) true Try.f4.params.toList args.toList ds p := hA0
  rw [Try.params4] at hA hval
  obtain ⟨v0, vs0, d0, ds0, p0, q0, hargs, rfl, rfl, h0, r0⟩ := trodAll_cons hA
  obtain ⟨rfl, rfl, rfl⟩ := trodAll_nil r0
  obtain rfl : args = #[v0] := by cases args; simp_all
  obtain ⟨rfl, rfl⟩ := trodVars_none hV
  obtain ⟨a0, len0, cap0, rfl⟩ := okWide_slice Try.underlying22 (hval 0 22 v0 rfl rfl)
  have k0 := h0
  have lt0 : ∀ x ∈ p0, x.block < W.heap.size := by obtain ⟨m, hm⟩ := k0; exact DataW.trod_lt m _ _ _ hm
  obtain ⟨l0, n0, w0⟩ : ∃ l : List Ac, len0 = l.length ∧ IsL Ac.cells W a0 l := by
    obtain ⟨fuel, hf⟩ := h0
    exact isActs_of hf
  clear hA0 hval0
  refine (walk a0 len0 cap0 l0 W n0 w0).mono fun e W' ⟨he, bel⟩ => ?_
  subst he
  exact ⟨_, rfl, _, _, _, [], _, [], hW', trodAll_mk1 (shut_bool Try.underlying4 _), (trodAll_cons_mk (Below.trod laidOut (by kernel_rfl) (of_decide_eq_true (by kernel_rfl)) k0 bel lt0) trodAll_mk0), rfl, bel.frame _, fun h => by cases h⟩

theorem over : Rows.readsOneRow.holds Try.pinned (OpenSpec.ofChange Rows.readsOneSpec) :=
  OpenClaim.holds_of_wide 4 Try.f4 rfl rfl rfl rfl rfl rfl rfl ⟨rfl, rfl, rfl, rfl, rfl⟩ rfl rfl rfl rfl rfl (by kernel_rfl) Try.func4 (by kernel_rfl)
    (of_decide_eq_true (by kernel_rfl)) (by unfold Func.isWrapper; first | (rw [if_pos (by decide +kernel)]; kernel_rfl) | (rw [if_neg (by decide +kernel)]; exact ⟨rfl, rfl⟩))
    (fun os started H enc _ => lifted os started H enc)

theorem proved : Rows.ReadsOneSaid := over
#print axioms proved
end Go.Proofs.Ytfkfobloamambaa.readsOne
