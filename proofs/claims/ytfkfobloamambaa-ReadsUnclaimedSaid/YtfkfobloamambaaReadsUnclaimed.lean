/-
  ReadsUnclaimed: the readings of objects that aren't one's own are the readings, in order, without those of objects of which something was put, and releasing one leaves all others; for any lists of bytes.
  Conditions: none (of more than 100 objects the law says nothing by itself).
-/
import Derived.Test.YtfkfobloamambaaRows
import Derived.Test.YtfkfobloamambaaRdL
import Derived.Deep.CutRange
import Derived.Deep.CutBlock
import Derived.Deep.DeepCutAuto
namespace Go.Proofs.Ytfkfobloamambaa.readsUnclaimed
open Go.ChangeShapes Go.WideShapes Go.ChangeAt Go.RowKit Go.Proofs.Ytfkfobloamambaa.base Go.Proofs.Ytfkfobloamambaa.rd
set_option linter.unusedVariables false

/-- The readings that were added: of objects below 256, their versions rise, and are below k. -/
structure Rise (l : List Rd) (k : Nat) : Prop where
  uniq : Uniq l
  asc : l.Pairwise fun a b => a.n < b.n
  low : ∀ x ∈ l, x.n < (k : Int) ∧ ∃ j : Nat, x.o = j ∧ j < 256

theorem Rise.add {l : List Rd} {k : Nat} (h : Rise l k) {j : Nat} (hj : j < 256) (hp : pl Rd.o (j : Int) l = none) : Rise (l ++ [⟨j, k, 0⟩]) (k + 1) := by
  refine ⟨Uniq.add (x := ⟨j, k, 0⟩) h.uniq hp, ?_, ?_⟩
  · refine List.pairwise_append.2 ⟨h.asc, List.pairwise_singleton _ _, fun a ha b hb => ?_⟩
    rw [List.mem_singleton] at hb
    subst hb
    exact (h.low a ha).1
  · intro x hx
    rcases List.mem_append.1 hx with hx | hx
    · exact ⟨by have := (h.low x hx).1; omega, (h.low x hx).2⟩
    · rw [List.mem_singleton] at hx
      subst hx
      exact ⟨by show (k : Int) < ((k + 1 : Nat) : Int); omega, j, rfl, hj⟩
theorem Rise.less {l : List Rd} {k : Nat} (h : Rise l k) : Rise l (k + 1) := ⟨h.uniq, h.asc, fun x hx => ⟨by have := (h.low x hx).1; omega, (h.low x hx).2⟩⟩
theorem Rise.drop {l : List Rd} {k : Nat} (h : Rise l k) (o : Int) : Rise (dropL o l) k := ⟨h.uniq.drop o, h.asc.sublist (dropL_sub o l), fun x hx => h.low x ((dropL_sub o l).mem hx)⟩

/-- At the head of a round of the first loop. -/
def Rel1 (w : World) (s hb mb len : Nat) (nv iv : Value) (wr : World) : Prop :=
  ∃ (k n : Nat) (l : List Rd) (H : Nat → Bool), k ≤ len ∧ iv = .int .i64 k ∧ nv = .int .i64 n ∧ Hid (n = l.length) ∧ Hid (Rise l k) ∧ n ≤ k ∧ Hid (∀ j : Nat, j < 256 → H j = (pl Rd.o (j : Int) l).isSome) ∧ Hid (Has (SA s l []) w wr [(mb, 61, bls (fun _ => false) 256), (hb, 61, bls H 256)])
/-- .. of the second one. -/
def Rel2 (w : World) (s hb mb len : Nat) (l : List Rd) (H : Nat → Bool) (iv : Value) (wr : World) : Prop :=
  ∃ (k : Nat) (m : List Ow) (N : Nat → Bool), k ≤ len ∧ iv = .int .i64 k ∧ Hid (m.length ≤ k) ∧ Hid (∀ j : Nat, j < 256 → N j = (pl Ow.o (j : Int) m).isSome) ∧ Hid (Has (SA s l m) w wr [(mb, 61, bls N 256), (hb, 61, bls H 256)])

theorem byte_at {w : World} {a : Option Addr} {n cap : Nat} {z : Nat → Int} (h : IsRow .u8 w a n cap z) {k : Nat} (hk : k < n) : ∃ (b off j : Nat), a = some ⟨b, off, none⟩ ∧ b < w.heap.size ∧ w.cell? ⟨b, off + k, none⟩ = some (.int .u8 (j : Int)) ∧ j < 256 := by
  obtain ⟨_, _, h0 | ⟨b, off, rfl, hb, hz⟩⟩ := h
  · omega
  · obtain ⟨hc, hw⟩ := hz k hk
    have := bounds_u8 hw
    refine ⟨b, off, (z k).toNat, rfl, hb, ?_, by omega⟩
    rw [hc, Int.toNat_of_nonneg this.1]

set_option maxRecDepth 100000 in
set_option maxHeartbeats 4000000 in
theorem walkIn (a1 : Option Addr) (len1 cap1 : Nat) (z1 : Nat → Int) (a2 : Option Addr) (len2 cap2 : Nat) (z2 : Nat → Int) (d : Nat) (w : World) (w1 : IsRow .u8 w a1 len1 cap1 z1) (w2 : IsRow .u8 w a2 len2 cap2 z2) (hd : d < 256) (hl1 : ¬ 100 < (len1 : Int)) (hl2 : ¬ 100 < (len2 : Int)) : Calls Try.prog 6 #[.slice a1 len1 cap1, .slice a2 len2 cap2, .int .u8 (d : Int)] w fun e w' => e = .returned (.bool true) ∧ Below w.heap.size w w' := by
  have W1 := Lib.hid w1
  have W2 := Lib.hid w2
  have HD := Lib.hid hd
  have zz := zero256
  clear w1 w2 hd
  go_enter Try.func6, Try.ntmps6
  go_wp2_with fail
  refine (alive_any _).mono ?_
  rintro e v1 ⟨rfl, g1⟩
  have M1 := Lib.hid ((Own.start w).grown g1.out)
  clear g1
  go_wp2_with fail
  refine (new_any w [] _ M1.out).mono ?_
  rintro e v2 ⟨rfl, M2⟩
  generalize v1.heap.size = s at *
  clear M1
  go_upto_region 9 with fail
  have M3 := Lib.hid ((M2.out.alloc 61 (bls (fun _ => false) 256)).alloc 61 (bls (fun _ => false) 256))
  simp only [size_alloc] at M3
  generalize v2.heap.size + 1 = mb at *
  generalize v2.heap.size = hb at *
  generalize (v2.alloc _).alloc _ = v3 at *
  clear M2 zz
  go_wp2_with fail
  go_loopw [10, 11] (fun nv iv wr => Rel1 w s hb mb len1 nv iv wr) (fun _ iv _ => (len1 - intOf iv).toNat)
  case atStart => exact ⟨0, 0, [], fun _ => false, by omega, rfl, rfl, rfl, ⟨List.Pairwise.nil, List.Pairwise.nil, fun x hx => by cases hx⟩, by omega, fun j _ => rfl, M3⟩
  case round =>
    obtain ⟨k, n, l, H, hk, rfl, rfl, HN, HR, hnk, HH, M⟩ := hrel
    clear M3
    by_cases hlt : k < len1
    · obtain ⟨b1, off1, j, rfl, hb1, c0', hj⟩ := byte_at W1.out hlt
      have c0 := M.out.old c0'
      have hlt' : (k : Int) < (len1 : Int) := by omega
      have hj' : (j : Int) < 256 := by omega
      have hj0 : (0 : Int) ≤ (j : Int) := by omega
      have hw1 : IntKind.i64.wrap (j : Int) = (j : Int) := IntWalk.i64_in _ (by omega)
      have hn1 : IntKind.i64.wrap ((n : Int) + 1) = (n : Int) + 1 := IntWalk.i64_in _ (by omega)
      have HJ := HH.out j hj
      have C0 := Lib.hid c0'
      clear c0'
      cases hp : pl Rd.o (j : Int) l with
      | none =>
        have A := Lib.hid (show Calls Try.prog 10 #[.pointer (some ⟨s, 0, none⟩), .agg #[.int .i64 (j : Int), .int .i64 (k : Int), .int .i64 0]] wr fun e w' => e = .returned (.int .i64 0) ∧ Hid (Has (SA s (l ++ [⟨j, k, 0⟩]) []) w w' [(mb, 61, bls (fun _ => false) 256), (hb, 61, bls H 256)]) from add_new w _ s l [] ⟨j, k, 0⟩ wr M.out (by have := HN.out; omega) hp)
        have HR2 := Lib.hid (HR.out.add hj hp)
        have HH2 := Lib.hid (show ∀ i : Nat, i < 256 → (if i = j then true else H i) = (pl Rd.o (i : Int) (l ++ [⟨j, k, 0⟩])).isSome from fun i hi => by
          rw [pl_snoc, ← HH.out i hi]
          by_cases e : i = j
          · simp [e]
          · have : ¬ (j : Int) = (i : Int) := by omega
            simp [e, this])
        rw [hp] at HJ
        clear hp
        go_wp2_with fail
        refine A.out.mono ?_
        rintro e v4 ⟨rfl, M4⟩
        have cb : v4.cell? ⟨hb, j, none⟩ = some (.bool (H j)) := M4.out.cell 1 j rfl (bls_get H 256 j hj)
        rw [HJ] at cb
        have fb := M4.out.free 1 j rfl
        have c1 := M4.out.old C0.out
        clear A c0
        have X := M4.out.set 1 j (.bool true) rfl
        rw [bls_set] at X
        have M5 := Lib.hid X
        have HN2 := Lib.hid (show n + 1 = (l ++ [(⟨j, k, 0⟩ : Rd)]).length by rw [List.length_append, HN.out]; rfl)
        clear X M4 M
        go_wp2
        go_roundw
        case rel => exact ⟨k + 1, n + 1, l ++ [⟨j, k, 0⟩], fun i => if i = j then true else H i, by omega, by go_num, by go_num, HN2, HR2, by omega, HH2, M5⟩
        case measure => simp [intOf]; omega
      | some p =>
        have A := Lib.hid (show Calls Try.prog 10 #[.pointer (some ⟨s, 0, none⟩), .agg #[.int .i64 (j : Int), .int .i64 (k : Int), .int .i64 0]] wr fun e w' => e = .returned (.int .i64 7) ∧ Hid (wr.grownBy w' none) from add_has w _ s l [] ⟨j, k, 0⟩ p wr M.out (by have := HN.out; omega) hp)
        have HH2 := Lib.hid (show ∀ i : Nat, i < 256 → (if i = j then true else H i) = (pl Rd.o (i : Int) l).isSome from fun i hi => by
          by_cases e : i = j
          · subst e; rw [if_pos rfl, hp]; rfl
          · rw [if_neg e]; exact HH.out i hi)
        rw [hp] at HJ
        clear hp
        go_wp2_with fail
        refine A.out.mono ?_
        rintro e v4 ⟨rfl, g⟩
        have M4 := Lib.hid (M.out.grown g.out)
        have cb : v4.cell? ⟨hb, j, none⟩ = some (.bool (H j)) := M4.out.cell 1 j rfl (bls_get H 256 j hj)
        rw [HJ] at cb
        have fb := M4.out.free 1 j rfl
        have c1 := M4.out.old C0.out
        clear A c0 g
        have X := M4.out.set 1 j (.bool true) rfl
        rw [bls_set] at X
        have M5 := Lib.hid X
        clear X M4 M
        go_wp2
        go_roundw
        case rel => exact ⟨k + 1, n, l, fun i => if i = j then true else H i, by omega, by go_num, rfl, HN, Lib.hid HR.out.less, by omega, HH2, M5⟩
        case measure => simp [intOf]; omega
    · obtain rfl : k = len1 := by omega
      go_wp2_with fail
      go_loopw [13] (fun iv wr => Rel2 w s hb mb len2 l H iv wr) (fun iv _ => (len2 - intOf iv).toNat)
      case atStart => exact ⟨0, [], fun _ => false, by omega, rfl, Nat.le_refl _, fun j _ => rfl, M⟩
      case round =>
        obtain ⟨i, m, N, hi, rfl, HM, HNN, M1⟩ := hrel
        clear M
        by_cases hlt2 : i < len2
        · obtain ⟨b1, off1, j, rfl, hb1, c0', hj⟩ := byte_at W2.out hlt2
          have c0 := M1.out.old c0'
          have C0 := Lib.hid c0'
          have hlt' : (i : Int) < (len2 : Int) := by omega
          have hj' : (j : Int) < 256 := by omega
          have hj0 : (0 : Int) ≤ (j : Int) := by omega
          have hw1 : IntKind.i64.wrap (j : Int) = (j : Int) := IntWalk.i64_in _ (by omega)
          have P := Lib.hid (show Calls Try.prog 13 #[.pointer (some ⟨s, 0, none⟩), .agg #[.int .i64 (j : Int), .int .i64 0, .int .i64 0, .int .i64 0, .bool false]] wr fun e w' => e = .returned (.tuple #[]) ∧ Hid (Has (SA s l (putL ⟨j, 0, 0, 0, false⟩ m)) w w' [(mb, 61, bls N 256), (hb, 61, bls H 256)]) from put_any ⟨j, 0, 0, 0, false⟩ M1.out (by have := HM.out; omega))
          have HM2 := Lib.hid (show (putL ⟨j, 0, 0, 0, false⟩ m).length ≤ i + 1 from Nat.le_trans (putL_len _ _) (by have := HM.out; omega))
          have HN2 := Lib.hid (show ∀ q : Nat, q < 256 → (if q = j then true else N q) = (pl Ow.o (q : Int) (putL ⟨j, 0, 0, 0, false⟩ m)).isSome from fun q hq => by
            rw [putL_has, ← HNN.out q hq]
            by_cases e : q = j
            · simp [e]
            · have : ¬ (j : Int) = (q : Int) := by omega
              simp [e, this])
          clear c0'
          go_wp2_with fail
          refine P.out.mono ?_
          rintro e v4 ⟨rfl, M4⟩
          have cb : v4.cell? ⟨mb, j, none⟩ = some (.bool (N j)) := M4.out.cell 0 j rfl (bls_get N 256 j hj)
          have fb := M4.out.free 0 j rfl
          have c1 := M4.out.old C0.out
          clear P c0
          have X := M4.out.set 0 j (.bool true) rfl
          rw [bls_set] at X
          have M5 := Lib.hid X
          clear X M4 M1
          go_wp2
          go_roundw
          case rel => exact ⟨i + 1, _, fun q => if q = j then true else N q, by omega, by go_num, HM2, HN2, M5⟩
          case measure => simp [intOf]; omega
        · obtain rfl : i = len2 := by omega
          have hd' : (d : Int) < 256 := by have := HD.out; omega
          have hd0 : (0 : Int) ≤ (d : Int) := by omega
          have hw1 : IntKind.i64.wrap (d : Int) = (d : Int) := IntWalk.i64_in _ (by omega)
          obtain ⟨B, hB⟩ : ∃ B, B = H d := ⟨_, rfl⟩
          have HBB := Lib.hid hB
          have D := Lib.hid (fun u hu => drop_any (w0 := w) (R := [(mb, 61, bls N 256), (hb, 61, bls H 256)]) (s := s) (l := l) (m := m) (w := u) (d : Int) B hu (by have := HN.out; omega) (hB.trans (HH.out d HD.out)))
          have cb : wr.cell? ⟨hb, d, none⟩ = some (.bool B) := by rw [hB]; exact M1.out.cell 1 d rfl (bls_get H 256 d HD.out)
          clear hB
          go_wp2_with fail
          go_region_held3 (fun w' => w'.cell? ⟨hb, d, none⟩ = some (.bool B)) (go_keep) ((go_at_call 11; refine (D.out _ (M1.out.grown (by repeat (first | exact gb_refl _ _ | refine gb_drewN ?_ _ | refine gb_drew ?_ | refine gb_alloc ?_ _)))).mono ?_; rintro e v5 ⟨rfl, M5⟩; have cb5 : v5.cell? ⟨hb, d, none⟩ = some (.bool B) := (by rw [HBB.out]; exact M5.out.cell 1 d rfl (bls_get H 256 d HD.out))))
          have HC := Lib.hid (dropL_count (l := l) (d : Int))
          have HBP := Lib.hid (show B = (pl Rd.o (d : Int) l).isSome from HBB.out.trans (HH.out d HD.out))
          have HL2 := Lib.hid (HR.out.drop (d : Int))
          have HG := Lib.hid (dropL_gone HR.out.uniq (d : Int))
          have HLL := Lib.hid (dropL_len (d : Int) l)
          have HSub := Lib.hid (dropL_sub (d : Int) l)
          generalize dropL (d : Int) l = L at *
          have fb := M5.out.free 1 d rfl
          clear D M1 cb
          go_upto_if 93 with fail
          go_cut [10] (fun nv wx => ∃ (n2 : Nat) (H2 : Nat → Bool), nv = .int .i64 n2 ∧ Hid (n2 = L.length) ∧ Hid (∀ x ∈ L, ∃ q : Nat, x.o = q ∧ q < 256 ∧ H2 q = true) ∧ Hid (Has (SA s L m) w wx [(mb, 61, bls N 256), (hb, 61, bls H2 256)]))
          case first =>
            cases B with
            | true =>
              have hn2 : (n : Int) - 1 = (L.length : Int) := by
                have := HC.out
                have h2 := HN.out
                rw [← HBP.out, if_pos rfl] at this
                omega
              have hw2 : IntKind.i64.wrap ((n : Int) - 1) = (n : Int) - 1 := IntWalk.i64_in _ (by have := HN.out; omega)
              have X := M5.out.set 1 d (.bool false) rfl
              rw [bls_set] at X
              have M6 := Lib.hid X
              have HX := Lib.hid (show ∀ x ∈ L, ∃ q : Nat, x.o = q ∧ q < 256 ∧ (if q = d then false else H q) = true from fun x hx => by
                obtain ⟨q, hq, hlt⟩ := (HL2.out.low x hx).2
                refine ⟨q, hq, hlt, ?_⟩
                have hne : q ≠ d := fun e => HG.out x hx (by rw [hq, e])
                rw [if_neg hne, HH.out q hlt]
                exact pl_of_mem (HSub.out.mem hx) hq)
              have HNE := Lib.hid hn2
              clear X M5 hn2
              go_wp2
              go_meet
              exact ⟨L.length, _, by rw [HNE.out], rfl, HX, M6⟩
            | false =>
              have hn2 : n = L.length := by
                have := HC.out
                have h2 := HN.out
                rw [← HBP.out] at this
                simp at this
                omega
              have HX := Lib.hid (show ∀ x ∈ L, ∃ q : Nat, x.o = q ∧ q < 256 ∧ H q = true from fun x hx => by
                obtain ⟨q, hq, hlt⟩ := (HL2.out.low x hx).2
                refine ⟨q, hq, hlt, ?_⟩
                rw [HH.out q hlt]
                exact pl_of_mem (HSub.out.mem hx) hq)
              have HNE := Lib.hid hn2
              clear hn2
              go_wp2
              go_meet
              exact ⟨n, _, rfl, HNE, HX, M5⟩
          case rest =>
          obtain ⟨n2, H2, rfl, HN2, HX, M6⟩ := hcut
          have hL1 := Lib.hid (show L.length ≤ 100 by have := HLL.out; have := HN.out; omega)
          have FA := Lib.hid (allR w _ s L m wc M6.out (by have := hL1.out; omega))
          rw [← HN2.out] at FA
          have HMl := Lib.hid (show m.length ≤ 1000000 by have := HM.out; omega)
          clear HC HBP HG HLL HSub HBB HR HH M5 fb cb5 hw1 hd' hd0
          go_wp2_with fail
          refine FA.out.mono ?_
          rintro e v6 ⟨al, cl, rfl, OA, GA⟩
          have IA := Lib.hid (IsL.of_own OA.out rlen HN2.out)
          have M7 := Lib.hid (M6.out.grown GA.out)
          have FU := Lib.hid (unc_any w _ s L m v6 M7.out (by have := hL1.out; omega) HMl.out)
          clear FA OA GA M6
          go_wp2_with fail
          refine FU.out.mono ?_
          rintro e v7 ⟨nu, au, cu, rfl, HNU, OU, GU⟩
          have IU := Lib.hid (IsL.of_own OU.out rlen HNU.out)
          have IA2 := Lib.hid (IA.out.grown GU.out)
          have M8 := Lib.hid (M7.out.grown GU.out)
          have hnu := Lib.hid (show nu ≤ 100 by have := HNU.out; have := unc_len m L; have := hL1.out; omega)
          have hn2 := Lib.hid (show n2 ≤ 100 by have := HN2.out; have := hL1.out; omega)
          clear FU OU GU M7 IA
          go_wp2_with fail
          go_loopw [16, 17] (fun kv iv wr => ∃ p q : Nat, p ≤ n2 ∧ iv = .int .i64 p ∧ kv = .int .i64 q ∧ Hid (q = (unc m (L.take p)).length) ∧ Hid (v7.grownBy wr none)) (fun _ iv _ => (n2 - intOf iv).toNat)
          case atStart => exact ⟨0, 0, by omega, rfl, rfl, rfl, gb_refl _ _⟩
          case round =>
            obtain ⟨p, q, hp, rfl, rfl, HQ, G⟩ := hrel
            have M9 := Lib.hid (M8.out.grown G.out)
            by_cases hlt3 : p < n2
            · obtain ⟨x, hx⟩ : ∃ x, L[p]? = some x := ⟨_, List.getElem?_eq_getElem (by rw [← HN2.out]; exact hlt3)⟩
              obtain ⟨j, hxo, hj, hH⟩ := HX.out x (List.mem_of_getElem? hx)
              obtain ⟨bl, ol, rfl, hbl, c0, c1, c2⟩ := at3 (IA2.out.grown G.out) hx
              rw [hxo] at c0
              have hlt' : (p : Int) < (n2 : Int) := by omega
              have hj' : (j : Int) < 256 := by omega
              have hj1 : decide ((255 : Int) < (j : Int)) = false := by simp; omega
              have hj0 : decide ((j : Int) < 0) = false := by simp
              have chb : wr.cell? ⟨hb, j, none⟩ = some (.bool true) := by rw [← hH]; exact M9.out.cell 1 j rfl (bls_get H2 256 j hj)
              have cmb : wr.cell? ⟨mb, j, none⟩ = some (.bool (N j)) := M9.out.cell 0 j rfl (bls_get N 256 j hj)
              have HNJ := HNN.out j hj
              have HUn := Lib.hid (unc_next (m := m) hx)
              have HUa := Lib.hid (fun h => unc_at (m := m) hx h)
              rw [hxo] at HUn HUa
              have HXX := Lib.hid hx
              have hp100 : p ≤ 100 := by have := hn2.out; omega
              have HJ := Lib.hid hj
              clear hx hH
              go_upto_region 34 with fail
              go_cut [149] from 102 to 174 (fun tv wx => tv = .bool false ∧ Hid (v7.grownBy wx none))
              case first =>
                by_cases hp0 : p = 0
                · have hpd : decide (0 < p) = false := by simp; omega
                  have hpd2 : decide ((0 : Int) < (p : Int)) = false := by simp; omega
                  clear hp0
                  go_quiet (fail)
                  go_wp2
                  go_meet
                  exact ⟨rfl, gb_drewN G.out _⟩
                · obtain ⟨y, hy⟩ : ∃ y, L[p - 1]? = some y := ⟨_, List.getElem?_eq_getElem (by rw [← HN2.out]; omega)⟩
                  have hyx : y.n < x.n := by
                    have ha := List.pairwise_iff_getElem.1 HL2.out.asc
                    obtain ⟨h1, h2⟩ := List.getElem?_eq_some_iff.1 hy
                    obtain ⟨h3, h4⟩ := List.getElem?_eq_some_iff.1 HXX.out
                    have := ha (p - 1) p h1 h3 (by omega)
                    rw [h2, h4] at this
                    exact this
                  obtain ⟨bl', ol', e1, hbl', d0, d1, d2⟩ := at3 (IA2.out.grown G.out) hy
                  cases e1
                  have hle : decide (x.n ≤ y.n) = false := by simp; omega
                  have hp1 : decide ((0 : Int) < (p : Int)) = true := by simp; omega
                  have hp2 : decide (0 < p) = true := by simp; omega
                  have hp3 : 0 < p := by omega
                  have hpz : (p : Int) - 1 = ((p - 1 : Nat) : Int) := by omega
                  have hw3 : IntKind.i64.wrap ((p : Int) - 1) = ((p - 1 : Nat) : Int) := by rw [IntWalk.i64_in _ (by have := hn2.out; omega)]; omega
                  have hpl : ((p - 1 : Nat) : Int) < (n2 : Int) := by omega
                  have hw4 : IntKind.i64.wrap ((p - 1 : Nat) : Int) = ((p - 1 : Nat) : Int) := IntWalk.i64_in _ (by have := hn2.out; omega)
                  clear hy hyx
                  generalize p - 1 = pp at *
                  go_quiet (fail)
                  go_wp2
                  go_meet
                  exact ⟨rfl, gb_drewN G.out _⟩
              case rest =>
              obtain ⟨rfl, G2⟩ := hcut
              clear c0 c1 c2 chb cmb G M9 hj1 hj0
              obtain ⟨bl', ol', e1, hbl', c0, c1, c2⟩ := at3 (IA2.out.grown G2.out) HXX.out
              cases e1
              rw [hxo] at c0
              have M10 := Lib.hid (M8.out.grown G2.out)
              have cmb : wc.cell? ⟨mb, j, none⟩ = some (.bool (N j)) := M10.out.cell 0 j rfl (bls_get N 256 j HJ.out)
              cases hpo : pl Ow.o (j : Int) m with
              | some t =>
                have hNj : N j = true := by rw [HNJ, hpo]; rfl
                rw [hNj] at cmb
                have HQ2 := Lib.hid (show q = (unc m (L.take (p + 1))).length by rw [HUn.out, hpo]; exact HQ.out)
                clear hpo hNj HNJ HUn HUa
                go_wp2
                go_roundw
                case rel => exact ⟨p + 1, q, by omega, by go_num, rfl, HQ2, G2⟩
                case measure => simp [intOf]; omega
              | none =>
                have hNj : N j = false := by rw [HNJ, hpo]; rfl
                rw [hNj] at cmb
                have hu := HUa.out hpo
                rw [← HQ.out] at hu
                have hqu : q < nu := by rw [HNU.out]; exact (List.getElem?_eq_some_iff.1 hu).1
                obtain ⟨b2, off2, rfl, hb2, d0, d1, d2⟩ := at3 (IU.out.grown G2.out) hu
                rw [hxo] at d0
                have hqd : decide ((nu : Int) ≤ (q : Int)) = false := by simp; omega
                have hqe : decide (nu ≤ q) = false := by simp; omega
                have hql : (q : Int) < (nu : Int) := by omega
                have hnl : ¬ nu ≤ q := by omega
                have HQ2 := Lib.hid (show q + 1 = (unc m (L.take (p + 1))).length by rw [HUn.out, hpo, HQ.out]; simp)
                have hq100 : q ≤ 100 := by have := hnu.out; omega
                clear hpo hNj HNJ HUn HUa hu
                go_wp2_with fail
                go_quiet (fail)
                go_wp2
                go_roundw
                case rel => exact ⟨p + 1, q + 1, by omega, by go_num, by go_num, HQ2, gb_drewN G2.out _⟩
                case measure => simp [intOf]; omega
            · obtain rfl : p = n2 := by omega
              have hqn : q = nu := by rw [HQ.out, HNU.out, HN2.out, List.take_length]
              subst hqn
              go_wp2
              go_ret
              exact ⟨rfl, M9.out.below⟩

set_option maxRecDepth 100000 in
theorem walk_out (a1 : Option Addr) (len1 cap1 : Nat) (a2 : Option Addr) (len2 cap2 : Nat) (d : Int) (w : World) (h : 100 < (len1 : Int) ∨ 100 < (len2 : Int)) : Calls Try.prog 6 #[.slice a1 len1 cap1, .slice a2 len2 cap2, .int .u8 d] w fun e w' => e = .returned (.bool true) ∧ Below w.heap.size w w' := by
  have hd : (decide (100 < (len1 : Int)) || decide (100 < (len2 : Int))) = true := by simpa using h
  by_cases h1 : 100 < (len1 : Int)
  · clear h hd
    go_enter Try.func6, Try.ntmps6
    go_wp2_with fail
    refine (alive_any _).mono ?_
    rintro e v1 ⟨rfl, g1⟩
    go_wp2
    go_ret
    exact ⟨rfl, gb_below g1.out⟩
  · have h2 : 100 < (len2 : Int) := by omega
    clear h hd
    go_enter Try.func6, Try.ntmps6
    go_wp2_with fail
    refine (alive_any _).mono ?_
    rintro e v1 ⟨rfl, g1⟩
    go_wp2
    go_ret
    exact ⟨rfl, gb_below g1.out⟩

theorem walk (a1 : Option Addr) (len1 cap1 : Nat) (z1 : Nat → Int) (a2 : Option Addr) (len2 cap2 : Nat) (z2 : Nat → Int) (d : Int) (w : World) (w1 : IsRow .u8 w a1 len1 cap1 z1) (w2 : IsRow .u8 w a2 len2 cap2 z2) (w3 : (Lit.int .u8 d).wf = true) : Calls Try.prog 6 #[.slice a1 len1 cap1, .slice a2 len2 cap2, .int .u8 d] w fun e w' => e = .returned (.bool true) ∧ Below w.heap.size w w' := by
  by_cases h : 100 < (len1 : Int) ∨ 100 < (len2 : Int)
  · exact walk_out _ _ _ _ _ _ _ w h
  · have hb := bounds_u8 w3
    obtain ⟨k, rfl⟩ : ∃ k : Nat, d = (k : Int) := ⟨d.toNat, by omega⟩
    exact walkIn _ _ _ z1 _ _ _ z2 k w w1 w2 (by omega) (fun h1 => h (.inl h1)) (fun h2 => h (.inr h2))

theorem own : ownKnob Try.prog.godebug = none := by kernel_rfl
theorem laidOut : laidOutB Try.prog = true := by kernel_rfl

/-! ### THE ROW's STEP, as the guide has it -/
set_option maxRecDepth 100000 in
theorem lifted (os : Os) (started : os.Started) (H : Type) (enc : TypeId × Value → H) :
    ReturnsInHanded {} Try.checked os 6 .any (Rows.readsUnclaimedSpec.pre6 enc Try.prog Try.f6 Rows.readsUnclaimedRow.domain false) (Rows.readsUnclaimedSpec.post enc Try.prog Try.f6 false true false false) := by
  refine returnsInHanded_of_change (C := Try.checked) own started (by kernel_rfl) Try.func6
    (ChangeSpec.witness6 (enc := enc) (C := Try.checked) false ⟨#[], #[.slice none 0 0, .slice none 0 0, .int .u8 0], []⟩ 8 (by kernel_rfl) (by kernel_rfl) (by kernel_rfl) (by kernel_rfl)) ?_
  intro W base args ds gs before hval0 hW hcnd _
  have hval : ∀ (j : Nat) t v, Try.f6.params[j]? = some t → args[j]? = some v → Value.okWide Try.prog W .any base t v := hval0
  have hW' := hW
  obtain ⟨p, q, hA0, hV, rfl, hfz, hnd⟩ := hW
  have hA : DataW.TrodAll enc Try.prog W 0 (fun _ => true) true Try.f6.params.toList args.toList ds p := hA0
  rw [Try.params6] at hA hval
  obtain ⟨v0, vs0, d0, ds0, p0, q0, hargs, rfl, rfl, h0, r0⟩ := trodAll_cons hA
  obtain ⟨v1, vs1, d1, ds1, p1, q1, rfl, rfl, rfl, h1, r1⟩ := trodAll_cons r0
  obtain ⟨v2, vs2, d2, ds2, p2, q2, rfl, rfl, rfl, h2, r2⟩ := trodAll_cons r1
  obtain ⟨rfl, rfl, rfl⟩ := trodAll_nil r2
  obtain rfl : args = #[v0, v1, v2] := by cases args; simp_all
  obtain ⟨rfl, rfl⟩ := trodVars_none hV
  obtain ⟨a0, len0, cap0, rfl⟩ := okWide_slice Try.underlying60 (hval 0 60 v0 rfl rfl)
  have k0 := h0
  have lt0 : ∀ x ∈ p0, x.block < W.heap.size := by obtain ⟨m, hm⟩ := k0; exact DataW.trod_lt m _ _ _ hm
  obtain ⟨z0, w0⟩ : ∃ z, IsRow .u8 W a0 len0 cap0 z := by
    obtain ⟨fuel, hf⟩ := h0
    exact isRow_of Try.underlying60 Try.underlying5 (by kernel_rfl) hf
  obtain ⟨a1, len1, cap1, rfl⟩ := okWide_slice Try.underlying60 (hval 1 60 v1 rfl rfl)
  have k1 := h1
  have lt1 : ∀ x ∈ p1, x.block < W.heap.size := by obtain ⟨m, hm⟩ := k1; exact DataW.trod_lt m _ _ _ hm
  obtain ⟨z1, w1⟩ : ∃ z, IsRow .u8 W a1 len1 cap1 z := by
    obtain ⟨fuel, hf⟩ := h1
    exact isRow_of Try.underlying60 Try.underlying5 (by kernel_rfl) hf
  obtain ⟨a2, rfl, rfl, rfl, w2⟩ := open_int Try.underlying5 (hval 2 5 v2 rfl rfl) h2
  clear hA0 hval0
  refine (walk a0 len0 cap0 z0 a1 len1 cap1 z1 a2 W w0 w1 w2).mono fun e W' ⟨he, bel⟩ => ?_
  subst he
  exact ⟨_, rfl, _, _, _, [], _, [], hW', trodAll_mk1 (shut_bool Try.underlying4 _), (trodAll_cons_mk (Below.trod laidOut (by kernel_rfl) (of_decide_eq_true (by kernel_rfl)) k0 bel lt0) (trodAll_cons_mk (Below.trod laidOut (by kernel_rfl) (of_decide_eq_true (by kernel_rfl)) k1 bel lt1) (trodAll_cons_mk (shut_int Try.underlying5 w2) trodAll_mk0))), rfl, bel.frame _, fun h => by cases h⟩

theorem over : Rows.readsUnclaimedRow.holds Try.pinned (OpenSpec.ofChange Rows.readsUnclaimedSpec) :=
  OpenClaim.holds_of_wide 6 Try.f6 rfl rfl rfl rfl rfl rfl rfl ⟨rfl, rfl, rfl, rfl, rfl⟩ rfl rfl rfl rfl rfl (by kernel_rfl) Try.func6 (by kernel_rfl)
    (of_decide_eq_true (by kernel_rfl)) (by unfold Func.isWrapper; first | (rw [if_pos (by decide +kernel)]; kernel_rfl) | (rw [if_neg (by decide +kernel)]; exact ⟨rfl, rfl⟩))
    (fun os started H enc _ => lifted os started H enc)

theorem proved : Rows.ReadsUnclaimedSaid := over
#print axioms proved
end Go.Proofs.Ytfkfobloamambaa.readsUnclaimed
