/- Texts of one's own, one behind the other: Nb, Mf, Ne, CrsB, Alone, Nf, Ng, Hv, Hw, Hp, Hx, Mc, Nc, Mq, Piece, Hz6, Hz11, Hz3, Hz20, Hz4, Hz2, Hz33, Hy, Hn, Md, Ref. -/
import Derived.Test.YtdohepenmejcaaaProg
import Derived.Test.YtdohepenmejcaaaRuns2
import Derived.Deep.QuietTactic
import Derived.Deep.RegionHeld3
import Derived.BigQuiet
import Derived.Deep.CutRange
import Derived.Deep.DeepCutAuto
import Derived.BigRegion
import Derived.Deep.RegionLaw
/- Whether committed tries are their transactions, in plain numbers; and the law's own limit (quarrellaw16.Great). -/
namespace Go.Proofs.Ytdohepenmejcaaa.md
open Go Go.RowKit Go.Proofs.Ytdohepenmejcaaa.base Go.Proofs.Ytdohepenmejcaaa.hs Go.Proofs.Ytdohepenmejcaaa.lg
set_option linter.unusedVariables false
set_option maxRecDepth 100000

/-- A try's transaction, if there is such a one. -/
def txnOf (A : List (List Txn)) (th tx : Int) : Option Txn := if 0 ≤ th then (A[th.toNat]?).bind fun l => if 0 ≤ tx then l[tx.toNat]? else none else none
theorem txnOf_neg1 {A : List (List Txn)} {th tx : Int} (h : th < 0) : txnOf A th tx = none := by unfold txnOf; rw [if_neg (by omega)]
theorem txnOf_far1 {A : List (List Txn)} {th tx : Int} (h : (A.length : Int) ≤ th) : txnOf A th tx = none := by
  unfold txnOf
  split
  · rw [List.getElem?_eq_none (by omega)]; rfl
  · rfl
theorem txnOf_in1 {A : List (List Txn)} {i : Nat} {l : List Txn} (h : A[i]? = some l) (tx : Int) : txnOf A i tx = if 0 ≤ tx then l[tx.toNat]? else none := by
  unfold txnOf
  rw [if_pos (by omega), Int.toNat_natCast, h]
  rfl

/-- Did the try release something? -/
def relN (e : Evs) (t : Tr) : Nat → Bool
  | 0 => false
  | k + 1 => relN e t k || (decide ((e k).k = 4) && decide ((e k).th = t.th) && decide ((e k).tx = t.tx) && decide ((e k).at_ = t.at_))
theorem relN_iff {e : Evs} {t : Tr} : ∀ {n : Nat}, relN e t n = true ↔ ∃ k, k < n ∧ (e k).k = 4 ∧ (e k).th = t.th ∧ (e k).tx = t.tx ∧ (e k).at_ = t.at_
  | 0 => by
    constructor
    · intro h; cases h
    · rintro ⟨k, h, _⟩; omega
  | n + 1 => by
    rw [relN, Bool.or_eq_true, relN_iff (n := n)]
    constructor
    · rintro (⟨k, h1, h2⟩ | h)
      · exact ⟨k, by omega, h2⟩
      · simp at h
        exact ⟨n, by omega, h.1.1.1, h.1.1.2, h.1.2, h.2⟩
    · rintro ⟨k, h1, h2, h3, h4, h5⟩
      by_cases ek : k = n
      · subst ek; right; simp [h2, h3, h4, h5]
      · exact .inl ⟨k, by omega, h2, h3, h4, h5⟩

/-- Does a try make of s, what comes behind, just what its transaction makes of it alone? -/
def okT (A : List (List Txn)) (e : Evs) (len n : Nat) (s s' : Nat → Int) (t : Tr) : Bool :=
  match txnOf A t.th t.tx with
  | none => false
  | some x => !relN e t len && rightB x.z x.n n && eqTo (run x.z s x.n).2 s' n
def runsN (A : List (List Txn)) (e : Evs) (len n : Nat) (st : Nat → Nat → Int) (ts : List Tr) : Nat → Bool
  | 0 => true
  | k + 1 => runsN A e len n st ts k && (match ts[k]? with | none => true | some t => okT A e len n (st k) (st (k + 1)) t)
theorem runsN_step {A : List (List Txn)} {e : Evs} {len n : Nat} {st : Nat → Nat → Int} {ts : List Tr} {k : Nat} {t : Tr} (h : ts[k]? = some t) : runsN A e len n st ts (k + 1) = (runsN A e len n st ts k && okT A e len n (st k) (st (k + 1)) t) := by rw [runsN, h]
theorem runsN_bad {A : List (List Txn)} {e : Evs} {len n : Nat} {st : Nat → Nat → Int} {ts : List Tr} {k : Nat} {t : Tr} (h : ts[k]? = some t) (hb : okT A e len n (st k) (st (k + 1)) t = false) : runsN A e len n st ts ts.length = false := by
  have hk := (List.getElem?_eq_some_iff.1 h).1
  have key : ∀ j, k < j → runsN A e len n st ts j = false := by
    intro j
    induction j with
    | zero => intro h; omega
    | succ j ih =>
      intro hj
      by_cases e1 : j = k
      · subst e1; rw [runsN_step h, hb]; simp
      · rw [runsN, ih (by omega)]; rfl
  exact key _ hk

theorem eqTo_symm (f g : Nat → Int) : ∀ n, eqTo f g n = eqTo g f n
  | 0 => rfl
  | n + 1 => by
    rw [eqTo, eqTo, eqTo_symm f g n]
    congr 1
    rw [Bool.eq_iff_iff]
    simp only [beq_iff_eq]
    exact eq_comm

/-- The law's limits are kept. -/
def smallA (A : List (List Txn)) : Prop := A.length ≤ 10 ∧ ∀ l ∈ A, l.length ≤ 20 ∧ ∀ x ∈ l, x.n ≤ 20

set_option maxHeartbeats 1000000 in
theorem great_any (a0 : Option Addr) (len0 cap0 : Nat) (a2 : Option Addr) (cap2 : Nat) (A : List (List Txn)) (w : World) (hA : IsAll w a2 A) (h0 : len0 ≤ 20) :
    Calls Try.prog 20 #[.agg #[.int .i64 0, .int .i64 0, .int .i64 0, .int .i64 0, .int .i64 0, .int .i64 0, .slice a0 len0 cap0, .slice none 0 0, .slice a2 A.length cap2]] w fun r w' => ∃ b : Int, r = .returned (.int .i64 b) ∧ Hid (b = 0 ∨ b = 1) ∧ Hid (b = 0 → smallA A) ∧ Hid (w.grownBy w' none) := by
  have HA := Lib.hid hA
  clear hA
  have q0 : (len0 : Int) ≤ 20 := by omega
  have BC := Lib.hid (Blk.made w 48 #[.int .i64 0, .int .i64 0, .int .i64 0, .int .i64 0, .int .i64 0, .int .i64 0, .slice a0 len0 cap0, .slice none 0 0, .slice a2 A.length cap2])
  have GA := Lib.hid (World.grownBy_alloc w (.cells #[.int .i64 0, .int .i64 0, .int .i64 0, .int .i64 0, .int .i64 0, .int .i64 0, .slice a0 len0 cap0, .slice none 0 0, .slice a2 A.length cap2] 48) none)
  by_cases hbig : 10 < (A.length : Int)
  · go_enter Try.func20, Try.ntmps20
    go_wp2
    go_ret
    exact ⟨1, rfl, .inr rfl, fun h => by omega, GA⟩
  have q1 : (A.length : Int) ≤ 10 := by omega
  clear hbig
  go_enter Try.func20, Try.ntmps20
  go_wp2
  generalize w.alloc _ = w1 at *
  generalize hbt : w.heap.size = bt at *
  go_loopw [3] (fun iv wr => ∃ i : Nat, i ≤ A.length ∧ iv = .int .i64 i ∧ Hid (∀ x l, x < i → A[x]? = some l → l.length ≤ 20 ∧ ∀ y ∈ l, y.n ≤ 20) ∧ Hid (w1.grownBy wr none)) (fun iv _ => (A.length - intOf iv).toNat)
  case atStart => exact ⟨0, by omega, rfl, fun x l hx => by omega, gb_refl _ _⟩
  case round =>
    obtain ⟨i, hi, rfl, HS, G⟩ := hrel
    have B1 := Lib.hid (BC.out.grown G.out (by simp))
    have hbl := B1.out.lt
    have q8 := B1.out.at 8 rfl
    by_cases hlt : i < A.length
    · have hlt' : (i : Int) < (A.length : Int) := by omega
      have hgi := List.getElem?_eq_getElem hlt
      obtain ⟨b1, o1, v1, rfl, hb1, d1, a3, c3, rfl, h3⟩ := ((HA.out.grown GA.out).grown G.out).at hgi
      obtain ⟨l, hl9⟩ : ∃ l, l = A[i] := ⟨_, rfl⟩
      rw [← hl9] at hgi d1 h3
      have HGI := Lib.hid hgi
      have H3 := Lib.hid h3
      clear hgi hl9 h3
      by_cases hbl2 : 20 < (l.length : Int)
      · go_wp2
        go_ret
        exact ⟨1, rfl, .inr rfl, fun h => by omega, gb_trans GA.out G.out⟩
      · have q2 : (l.length : Int) ≤ 20 := by omega
        clear hbl2
        go_wp2
        go_loopw [4] (fun kv wr => ∃ k : Nat, k ≤ l.length ∧ kv = .int .i64 k ∧ Hid (∀ x y, x < k → l[x]? = some y → y.n ≤ 20) ∧ Hid (w1.grownBy wr none)) (fun kv _ => (l.length - intOf kv).toNat)
        case atStart => exact ⟨0, by omega, rfl, fun x l hx => by omega, G⟩
        case round =>
          have G0 := Lib.hid G.out
          clear q8 B1 hbl
          obtain ⟨k, hk, rfl, HK, G⟩ := hrel
          have B1 := Lib.hid (BC.out.grown G.out (by simp))
          have hbl := B1.out.lt
          have q8 := B1.out.at 8 rfl
          obtain ⟨b4, o4, v4, hav, hb4, d4, a5, c5, e5, h5⟩ := ((HA.out.grown GA.out).grown G.out).at HGI.out
          cases hav
          subst e5
          by_cases hltk : k < l.length
          · have hltk' : (k : Int) < (l.length : Int) := by omega
            have hgk := List.getElem?_eq_getElem hltk
            obtain ⟨b6, o6, v6, rfl, hb6, d6, a7, c7, rfl, h7⟩ := h5.at hgk
            obtain ⟨x, hx⟩ : ∃ x, x = l[k] := ⟨_, rfl⟩
            rw [← hx] at hgk d6
            have HGK := Lib.hid hgk
            clear hgk hx h7 h5
            by_cases hxn : 20 < (x.n : Int)
            · go_wp2
              go_ret
              exact ⟨1, rfl, .inr rfl, fun h => by omega, gb_trans GA.out G.out⟩
            · have q3 : (x.n : Int) ≤ 20 := by omega
              clear hxn
              go_wp2
              go_roundw
              case rel => exact ⟨k + 1, by omega, by go_num, fun m y hm hy => (by
                by_cases e1 : m = k
                · subst e1
                  rw [HGK.out] at hy
                  cases hy
                  omega
                · exact HK.out m y (by omega) hy), G⟩
              case measure => simp [intOf]; omega
          · obtain rfl : k = l.length := by omega
            clear h5
            go_wp2
            go_roundw
            case rel => exact ⟨i + 1, by omega, by go_num, fun m y hm hy => (by
              by_cases e1 : m = i
              · subst e1
                rw [HGI.out] at hy
                cases hy
                refine ⟨by omega, fun y hy => ?_⟩
                obtain ⟨j, hj⟩ := List.getElem?_of_mem hy
                exact HK.out j y (List.getElem?_eq_some_iff.1 hj).1 hj
              · exact HS.out m y (by omega) hy), G⟩
            case measure => simp [intOf]; omega
    · obtain rfl : i = A.length := by omega
      go_wp2
      go_ret
      exact ⟨0, rfl, .inl rfl, fun _ => ⟨by omega, fun l hl => (by
        obtain ⟨j, hj⟩ := List.getElem?_of_mem hl
        exact HS.out j l (List.getElem?_eq_some_iff.1 hj).1 hj)⟩, gb_trans GA.out G.out⟩
end Go.Proofs.Ytdohepenmejcaaa.md

/- Package model's Fits: did a try read what it should? -/
namespace Go.Proofs.Ytdohepenmejcaaa.md
open Go Go.RowKit Go.Proofs.Ytdohepenmejcaaa.base Go.Proofs.Ytdohepenmejcaaa.hs Go.Proofs.Ytdohepenmejcaaa.lg Go.Maps
set_option linter.unusedVariables false
set_option maxRecDepth 100000

theorem zero64 (w : World) : (zeroValue 2).run Try.prog w = .ok (.int .i64 0) w := by kernel_rfl
def lwV (W : Int → Option Int) : Int → Option Value := fun o => (W o).map (Value.int .i64)

set_option maxHeartbeats 1000000 in
theorem tells_any (y : Acc) (a : Option Addr) (n c : Nat) (z : Nat → Int) (mb N : Nat) (W : Int → Option Int) (w : World) (hy : AccWf y) (hz : IsNums .i64 w a n z) (hm : MapG Try.prog 3 (Value.int .i64) w mb N (lwV W)) :
    Calls Try.prog 30 #[.agg ⟨accC y⟩, .slice a n c, .map (some mb)] w fun r w' => r = .returned (.bool (tellsB n z (W y.ob) y)) ∧ Hid (w.grownBy w' none) := by
  have HY := Lib.hid hy
  have HZ := Lib.hid hz
  have HM := Lib.hid hm
  clear hy hz hm
  obtain ⟨pl, k, ob, va, own, rel⟩ := y
  show Calls Try.prog 30 #[.agg #[.int .i64 pl, .int .i64 k, .int .i64 ob, .int .i64 va, .bool own, .bool rel], .slice a n c, .map (some mb)] w fun r w' => r = .returned (.bool (tellsB n z (W ob) ⟨pl, k, ob, va, own, rel⟩)) ∧ _
  cases hW : W ob with
  | some v =>
    have HW := Lib.hid hW
    clear hW
    cases own with
    | true =>
      by_cases hv : va = v
      · have f1 : (va == v) = true := by simp [hv]
        have HB := Lib.hid (show tellsB n z (some v) ⟨pl, k, ob, va, true, rel⟩ = true by simp [tellsB, hv])
        rw [HB.out]
        clear hv
        go_enter Try.func30, Try.ntmps30
        go_wp2_with (first | (at_lookup; refine wpList_look_mapG rfl _ _ 67 rfl 3 2 kInt Try.underlying67 _ (zero64 _) (Value.int .i64) mb N (lwV W) rfl (HM.out.grown (show World.grownBy w _ none from (by repeat (first | exact gb_refl _ _ | refine gb_drewN ?_ _ | refine gb_drew ?_ | refine gb_alloc ?_ _))) (by simp)) _ _ rfl (keyInt HY.out.ob) (.int .i64 v) true (by unfold lwV; rw [HW.out]; rfl) (by unfold lwV; rw [HW.out]; rfl) ?_) | go_in)
        go_ret
        exact ⟨rfl, (by repeat (first | exact gb_refl _ _ | refine gb_drewN ?_ _ | refine gb_drew ?_ | refine gb_alloc ?_ _))⟩
      · have f1 : (va == v) = false := by simp [hv]
        have HB := Lib.hid (show tellsB n z (some v) ⟨pl, k, ob, va, true, rel⟩ = false by simp [tellsB, hv])
        rw [HB.out]
        clear hv
        go_enter Try.func30, Try.ntmps30
        go_wp2_with (first | (at_lookup; refine wpList_look_mapG rfl _ _ 67 rfl 3 2 kInt Try.underlying67 _ (zero64 _) (Value.int .i64) mb N (lwV W) rfl (HM.out.grown (show World.grownBy w _ none from (by repeat (first | exact gb_refl _ _ | refine gb_drewN ?_ _ | refine gb_drew ?_ | refine gb_alloc ?_ _))) (by simp)) _ _ rfl (keyInt HY.out.ob) (.int .i64 v) true (by unfold lwV; rw [HW.out]; rfl) (by unfold lwV; rw [HW.out]; rfl) ?_) | go_in)
        go_ret
        exact ⟨rfl, (by repeat (first | exact gb_refl _ _ | refine gb_drewN ?_ _ | refine gb_drew ?_ | refine gb_alloc ?_ _))⟩
    | false =>
      have HB := Lib.hid (show tellsB n z (some v) ⟨pl, k, ob, va, false, rel⟩ = false by simp [tellsB])
      rw [HB.out]
      go_enter Try.func30, Try.ntmps30
      go_wp2_with (first | (at_lookup; refine wpList_look_mapG rfl _ _ 67 rfl 3 2 kInt Try.underlying67 _ (zero64 _) (Value.int .i64) mb N (lwV W) rfl (HM.out.grown (show World.grownBy w _ none from (by repeat (first | exact gb_refl _ _ | refine gb_drewN ?_ _ | refine gb_drew ?_ | refine gb_alloc ?_ _))) (by simp)) _ _ rfl (keyInt HY.out.ob) (.int .i64 v) true (by unfold lwV; rw [HW.out]; rfl) (by unfold lwV; rw [HW.out]; rfl) ?_) | go_in)
      go_ret
      exact ⟨rfl, (by repeat (first | exact gb_refl _ _ | refine gb_drewN ?_ _ | refine gb_drew ?_ | refine gb_alloc ?_ _))⟩
  | none =>
    have HW := Lib.hid hW
    clear hW
    cases own with
    | true =>
      have HB := Lib.hid (show tellsB n z none ⟨pl, k, ob, va, true, rel⟩ = false by simp [tellsB])
      rw [HB.out]
      go_enter Try.func30, Try.ntmps30
      go_wp2_with (first | (at_lookup; refine wpList_look_mapG rfl _ _ 67 rfl 3 2 kInt Try.underlying67 _ (zero64 _) (Value.int .i64) mb N (lwV W) rfl (HM.out.grown (show World.grownBy w _ none from (by repeat (first | exact gb_refl _ _ | refine gb_drewN ?_ _ | refine gb_drew ?_ | refine gb_alloc ?_ _))) (by simp)) _ _ rfl (keyInt HY.out.ob) (.int .i64 0) false (by unfold lwV; rw [HW.out]; rfl) (by unfold lwV; rw [HW.out]; rfl) ?_) | go_in)
      go_quiet (fail)
      go_wp2
      go_ret
      exact ⟨rfl, (by repeat (first | exact gb_refl _ _ | refine gb_drewN ?_ _ | refine gb_drew ?_ | refine gb_alloc ?_ _))⟩
    | false =>
      by_cases hin : 0 ≤ ob ∧ ob < (n : Int)
      · obtain ⟨i, rfl⟩ : ∃ i : Nat, ob = (i : Int) := ⟨ob.toNat, by omega⟩
        have hi : i < n := by omega
        have hi' : (i : Int) < (n : Int) := by omega
        have HB := Lib.hid (show tellsB n z none ⟨pl, k, i, va, false, rel⟩ = (va == z i) by simp [tellsB, hi])
        rw [HB.out]
        obtain ⟨zb, zo, rfl, hzb, cz⟩ := (HZ.out.at1 hi)
        clear hin
        generalize z i = zi at *
        go_enter Try.func30, Try.ntmps30
        go_wp2_with (first | (at_lookup; refine wpList_look_mapG rfl _ _ 67 rfl 3 2 kInt Try.underlying67 _ (zero64 _) (Value.int .i64) mb N (lwV W) rfl (HM.out.grown (show World.grownBy w _ none from (by repeat (first | exact gb_refl _ _ | refine gb_drewN ?_ _ | refine gb_drew ?_ | refine gb_alloc ?_ _))) (by simp)) _ _ rfl (keyInt HY.out.ob) (.int .i64 0) false (by unfold lwV; rw [HW.out]; rfl) (by unfold lwV; rw [HW.out]; rfl) ?_) | go_in)
        go_quiet ((go_at_call 44; refine Calls.quiet_of_same ((has_yesq _ n _ i _ hi).mono fun _ _ h => ⟨h.1, h.2⟩)))
        go_wp2
        go_ret
        exact ⟨rfl, (by repeat (first | exact gb_refl _ _ | refine gb_drewN ?_ _ | refine gb_drew ?_ | refine gb_alloc ?_ _))⟩
      · have HNO := Lib.hid (show ob < 0 ∨ (n : Int) ≤ ob by omega)
        have HB := Lib.hid (show tellsB n z none ⟨pl, k, ob, va, false, rel⟩ = false by simp [tellsB]; intro h1 h2; omega)
        rw [HB.out]
        clear hin
        go_enter Try.func30, Try.ntmps30
        go_wp2_with (first | (at_lookup; refine wpList_look_mapG rfl _ _ 67 rfl 3 2 kInt Try.underlying67 _ (zero64 _) (Value.int .i64) mb N (lwV W) rfl (HM.out.grown (show World.grownBy w _ none from (by repeat (first | exact gb_refl _ _ | refine gb_drewN ?_ _ | refine gb_drew ?_ | refine gb_alloc ?_ _))) (by simp)) _ _ rfl (keyInt HY.out.ob) (.int .i64 0) false (by unfold lwV; rw [HW.out]; rfl) (by unfold lwV; rw [HW.out]; rfl) ?_) | go_in)
        go_quiet ((go_at_call 44; refine Calls.quiet_of_same ((has_noq _ n _ ob _ HNO.out).mono fun _ _ h => ⟨h.1, h.2⟩)))
        go_wp2
        go_ret
        exact ⟨rfl, (by repeat (first | exact gb_refl _ _ | refine gb_drewN ?_ _ | refine gb_drew ?_ | refine gb_alloc ?_ _))⟩

theorem lwV_put {l : List Acc} {k : Nat} {y : Acc} (h : l[k]? = some y) (h3 : y.k = 3) : lwV (lastW (l.take (k + 1))) = upd (lwV (lastW (l.take k))) y.ob (some (.int .i64 y.va)) := by
  funext o
  unfold lwV
  rw [lastW_take h]
  by_cases e : o = y.ob
  · subst e; rw [upd_same, if_pos ⟨h3, rfl⟩]; rfl
  · rw [upd_other _ _ e, if_neg (fun h => e h.2.symm)]
theorem lwV_same {l : List Acc} {k : Nat} {y : Acc} (h : l[k]? = some y) (h3 : y.k ≠ 3) : lwV (lastW (l.take (k + 1))) = lwV (lastW (l.take k)) := by
  funext o
  unfold lwV
  rw [lastW_take h, if_neg (fun h => h3 h.1)]

set_option maxHeartbeats 2000000 in
theorem fits_any (a : Option Addr) (n c : Nat) (z : Nat → Int) (t : Tr) (av : Option Addr) (vc : Nat) (w : World) (hz : IsNums .i64 w a n z) (hl : IsL accC w av t.ac) (hy : ∀ y ∈ t.ac, AccWf y) (hm : t.ac.length ≤ 1000000) :
    Calls Try.prog 18 #[.slice a n c, .agg ⟨trC t (.slice av t.ac.length vc)⟩] w fun r w' => r = .returned (.bool (fits n z t.ac)) ∧ Hid (w.grownBy w' none) := by
  obtain ⟨xth, xtx, xat, xst, xb, xen, xre, xco, ac⟩ := t
  dsimp only at hl hm hy
  show Calls Try.prog 18 #[.slice a n c, .agg #[.int .i64 xth, .int .i64 xtx, .int .i64 xat, .int .i64 xst, .int .i64 xb, .int .i64 xen, .int .i64 xre, .bool xco, .slice av ac.length vc]] w fun r w' => r = .returned (.bool (fits n z ac)) ∧ _
  have HL := Lib.hid hl
  have HZ := Lib.hid hz
  have HY := Lib.hid hy
  have hmm := @run_makeMap Try.prog
  have GA := Lib.hid (show World.grownBy w ((w.alloc (.cells #[.int .i64 xth, .int .i64 xtx, .int .i64 xat, .int .i64 xst, .int .i64 xb, .int .i64 xen, .int .i64 xre, .bool xco, .slice av ac.length vc] 33)).alloc (.map #[] 0)) none from (by repeat (first | exact gb_refl _ _ | refine gb_drewN ?_ _ | refine gb_drew ?_ | refine gb_alloc ?_ _)))
  have MA : Hid (MapG Try.prog 3 (Value.int .i64) ((w.alloc (.cells #[.int .i64 xth, .int .i64 xtx, .int .i64 xat, .int .i64 xst, .int .i64 xb, .int .i64 xen, .int .i64 xre, .bool xco, .slice av ac.length vc] 33)).alloc (.map #[] 0)) (w.heap.size + 1) 0 (lwV (lastW (ac.take 0)))) := Lib.hid (by have := MapG.made (w.alloc (.cells #[.int .i64 xth, .int .i64 xtx, .int .i64 xat, .int .i64 xst, .int .i64 xb, .int .i64 xen, .int .i64 xre, .bool xco, .slice av ac.length vc] 33)) Try.prog 3 (Value.int .i64); rw [World.size_alloc] at this; exact this)
  clear hl hz hy
  go_enter Try.func18, Try.ntmps18
  go_wp2
  have HMB := Lib.hid (show w.heap.size ≤ w.heap.size + 1 by omega)
  generalize (w.alloc _).alloc _ = w1 at *
  generalize w.heap.size + 1 = mb at *
  go_loopw [12] (fun iv wr => ∃ k : Nat, k ≤ ac.length ∧ iv = .int .i64 k ∧ Hid (fitsN n z ac k = true) ∧ Hid (MapG Try.prog 3 (Value.int .i64) wr mb k (lwV (lastW (ac.take k)))) ∧ Hid (w.grownBy wr none)) (fun iv _ => (ac.length - intOf iv).toNat)
  case atStart => exact ⟨0, by omega, rfl, rfl, MA, GA⟩
  case round =>
    obtain ⟨k, hk, rfl, HF, M, G⟩ := hrel
    clear MA GA
    by_cases hlt : k < ac.length
    · have hlt' : (k : Int) < (ac.length : Int) := by omega
      have hk6 : (k : Int) < 1000000 := by omega
      have hget := List.getElem?_eq_getElem hlt
      obtain ⟨b, off, rfl, hb, c0, c1, c2, c3, c4, c5⟩ := acc6 (HL.out.grown G.out) hget
      have WY := Lib.hid (HY.out ac[k] (List.getElem_mem hlt))
      have HS3 := Lib.hid (lwV_put (l := ac) hget)
      have HSN := Lib.hid (lwV_same (l := ac) hget)
      have HST := Lib.hid (fitsN_step (n := n) (z := z) hget)
      have HBAD := Lib.hid (fun h => fits_bad (n := n) (z := z) hget h)
      clear hget
      generalize ac[k] = y at *
      have mlt := M.out.lt
      by_cases h3 : y.k = 3
      · have HS := Lib.hid (HS3.out h3)
        have HB := Lib.hid (show fitsN n z ac (k + 1) = true by rw [HST.out, HF.out]; unfold readOk; rw [if_neg (by omega)]; rfl)
        clear HS3 HSN HST HBAD
        obtain ⟨pl, ak, ob, va, own, rel⟩ := y
        dsimp only at h3 HS c0 c1 c2 c3 c4 c5
        subst h3
        have G1 := Lib.hid (World.grownBy_alloc wr (.cells #[.int .i64 pl, .int .i64 3, .int .i64 ob, .int .i64 va, .bool own, .bool rel] 54) none)
        have M1 := Lib.hid (M.out.grown G1.out (by simp))
        go_wp2_with (first | (at_mapUpdate; refine wpList_set_mapG rfl _ _ _ 67 rfl 3 2 kInt (Value.int .i64) vint_inj Try.underlying67 mb k (lwV (lastW (ac.take k))) rfl M1.out (by unfold maxLen; omega) ob _ rfl (keyInt WY.out.ob) (.int .i64 va) rfl ?_; intro u2 m2 g2; have M2 := Lib.hid m2; have G2 := Lib.hid g2; clear m2 g2) | go_in)
        go_roundw
        case rel => exact ⟨k + 1, by omega, by go_num, HB.out, M2.out.congr (fun _ _ _ => by rw [HS.out]), gb_over (gb_trans G.out G1.out) G2.out HMB.out⟩
        case measure => simp [intOf]; omega
      · have f3 : (y.k == 3) = false := by simp [h3]
        have HS := Lib.hid (HSN.out h3)
        clear HS3 HSN h3
        by_cases h2 : y.k = 2
        · cases hrel2 : y.rel with
          | true =>
            have HB := Lib.hid (show fitsN n z ac (k + 1) = true by rw [HST.out, HF.out]; unfold readOk; rw [if_neg (by rw [hrel2]; simp)]; rfl)
            clear HST HBAD
            obtain ⟨pl, ak, ob, va, own, rel⟩ := y
            dsimp only at h2 hrel2 f3 c0 c1 c2 c3 c4 c5
            subst h2 hrel2
            have G1 := Lib.hid (World.grownBy_alloc wr (.cells #[.int .i64 pl, .int .i64 2, .int .i64 ob, .int .i64 va, .bool own, .bool true] 54) none)
            go_wp2
            go_roundw
            case rel => exact ⟨k + 1, by omega, by go_num, HB.out, ((M.out.grown G1.out (by simp)).more (Nat.le_succ _)).congr (fun _ _ _ => by rw [HS.out]), gb_trans G.out G1.out⟩
            case measure => simp [intOf]; omega
          | false =>
            have HOK := Lib.hid (show readOk n z (lastW (ac.take k) y.ob) y = tellsB n z (lastW (ac.take k) y.ob) y by unfold readOk; rw [if_pos ⟨h2, hrel2⟩])
            obtain ⟨pl, ak, ob, va, own, rel⟩ := y
            dsimp only at h2 hrel2 f3 c0 c1 c2 c3 c4 c5
            subst h2 hrel2
            have G1 := Lib.hid (World.grownBy_alloc wr (.cells #[.int .i64 pl, .int .i64 2, .int .i64 ob, .int .i64 va, .bool own, .bool false] 54) none)
            have M1 := Lib.hid (M.out.grown G1.out (by simp))
            cases hT : tellsB n z (lastW (ac.take k) ob) ⟨pl, 2, ob, va, own, false⟩ with
            | true =>
              have HB := Lib.hid (show fitsN n z ac (k + 1) = true by rw [HST.out, HF.out, HOK.out]; exact hT)
              have HTT := Lib.hid hT
              clear HST HBAD HOK hT
              go_wp2_with (first | (go_at_call 30; refine (tells_any ⟨pl, 2, ob, va, own, false⟩ _ n _ z mb k _ _ WY.out (HZ.out.grown (gb_trans G.out G1.out)) M1.out).mono ?_; dsimp only; rw [HTT.out]; rintro r u2 ⟨rfl, g2⟩) | go_in)
              go_roundw
              case rel => exact ⟨k + 1, by omega, by go_num, HB.out, ((M1.out.grown g2.out (by simp)).more (Nat.le_succ _)).congr (fun _ _ _ => by rw [HS.out]), gb_trans (gb_trans G.out G1.out) g2.out⟩
              case measure => simp [intOf]; omega
            | false =>
              have HB := Lib.hid (show fits n z ac = false from HBAD.out (by rw [HOK.out]; exact hT))
              have HTT := Lib.hid hT
              clear HST HBAD HOK hT
              go_wp2_with (first | (go_at_call 30; refine (tells_any ⟨pl, 2, ob, va, own, false⟩ _ n _ z mb k _ _ WY.out (HZ.out.grown (gb_trans G.out G1.out)) M1.out).mono ?_; dsimp only; rw [HTT.out]; rintro r u2 ⟨rfl, g2⟩) | go_in)
              go_ret
              exact ⟨by rw [HB.out]; rfl, gb_trans (gb_trans G.out G1.out) g2.out⟩
        · have f2 : (y.k == 2) = false := by simp [h2]
          have HB := Lib.hid (show fitsN n z ac (k + 1) = true by rw [HST.out, HF.out]; unfold readOk; rw [if_neg (fun h => h2 h.1)]; rfl)
          clear HST HBAD h2
          obtain ⟨pl, ak, ob, va, own, rel⟩ := y
          dsimp only at f2 f3 c0 c1 c2 c3 c4 c5
          have G1 := Lib.hid (World.grownBy_alloc wr (.cells #[.int .i64 pl, .int .i64 ak, .int .i64 ob, .int .i64 va, .bool own, .bool rel] 54) none)
          go_wp2
          go_roundw
          case rel => exact ⟨k + 1, by omega, by go_num, HB.out, ((M.out.grown G1.out (by simp)).more (Nat.le_succ _)).congr (fun _ _ _ => by rw [HS.out]), gb_trans G.out G1.out⟩
          case measure => simp [intOf]; omega
    · obtain rfl : k = ac.length := by omega
      go_wp2
      go_ret
      exact ⟨by rw [show fits n z ac = true from HF.out]; rfl, G⟩
end Go.Proofs.Ytdohepenmejcaaa.md

/- Package model's released: which tries released something. -/
namespace Go.Proofs.Ytdohepenmejcaaa.md
open Go Go.RowKit Go.Proofs.Ytdohepenmejcaaa.base Go.Proofs.Ytdohepenmejcaaa.hs Go.Proofs.Ytdohepenmejcaaa.lg Go.Maps
set_option linter.unusedVariables false
set_option maxRecDepth 100000

/-- A struct of three numbers. -/
def three (x : Int × Int × Int) : Value := .agg #[.int .i64 x.1, .int .i64 x.2.1, .int .i64 x.2.2]
theorem three_inj (x y : Int × Int × Int) (h : three x = three y) : x = y := by
  obtain ⟨a, b, c⟩ := x
  obtain ⟨d, e, f⟩ := y
  unfold three at h
  simp at h
  rw [h.1, h.2.1, h.2.2]
theorem rowAtt : (78 : TypeId) < Try.prog.types.size := of_decide_eq_true (by kernel_rfl)
theorem kAtt : Keyed Try.prog 78 := Keyed.of_law (deep_law_laid laidOut17 (m := 2) (by omega) rowAtt (by kernel_rfl) (by rw [Try.underlying78]))
theorem keyAtt {x : Int × Int × Int} (h1 : (Lit.int .i64 x.1).wf = true) (h2 : (Lit.int .i64 x.2.1).wf = true) (h3 : (Lit.int .i64 x.2.2).wf = true) : ∃ kl, keyOf Try.prog 78 (three x) = some kl := by
  have hkt : Try.prog.keyType 78 = true := by kernel_rfl
  have hc : Try.prog.cellsOf 78 = 3 := by kernel_rfl
  have hci : Try.prog.cellsOf 3 = 1 := by kernel_rfl
  have hs : Try.prog.types.size = (Try.prog.types.size - 1) + 1 := by kernel_rfl
  refine ⟨.string (keyBytes [.int .i64 x.1, .int .i64 x.2.1, .int .i64 x.2.2]), ?_⟩
  unfold keyOf three
  simp only [Try.underlying78]
  rw [if_pos (by simp [hkt, Value.formed, Try.underlying78, hc]), hs]
  unfold Program.keyLits
  simp only [Try.underlying78, Value.cells]
  have hk : ∀ (m : Nat) (v : Int), (Lit.int .i64 v).wf = true → Try.prog.keyLits (m + 1) 3 [.int .i64 v] = some [.int .i64 v] := fun m v h => by
    unfold Program.keyLits
    simp only [Try.underlying3]
    rw [if_pos ⟨trivial, h⟩]
  obtain ⟨m, hm⟩ : ∃ m, Try.prog.types.size - 1 + 1 = m + 1 + 1 := ⟨Try.prog.types.size - 2, by kernel_rfl⟩
  rw [if_pos (by rw [hc]; exact ⟨rfl, by kernel_rfl⟩)]
  simp only [List.mapM_cons, List.mapM_nil, hci]
  have e1 : Try.prog.types.size - 1 = m + 1 := by omega
  rw [e1]
  simp [hk, h1, h2, h3]

theorem zeroBool (w : World) : (zeroValue 4).run Try.prog w = .ok (.bool false) w := by kernel_rfl

def trOf (x : Int × Int × Int) : Tr := ⟨x.1, x.2.1, x.2.2, 0, 0, 0, 0, false, []⟩
theorem relN_trOf (e : Evs) (t : Tr) : ∀ n, md.relN e (trOf (t.th, t.tx, t.at_)) n = md.relN e t n
  | 0 => rfl
  | n + 1 => by rw [md.relN, md.relN, relN_trOf e t n]; rfl
/-- What the map has of the first n events. -/
def relV (e : Evs) (n : Nat) : Int × Int × Int → Option Value := fun x => if md.relN e (trOf x) n = true then some (.bool true) else none
theorem relV_put {e : Evs} {k : Nat} (h : (e k).k = 4) : relV e (k + 1) = upd (relV e k) ((e k).th, (e k).tx, (e k).at_) (some (.bool true)) := by
  funext x
  unfold relV
  rw [md.relN]
  by_cases hx : x = ((e k).th, (e k).tx, (e k).at_)
  · subst hx
    rw [upd_same]
    simp [h, trOf]
  · rw [upd_other _ _ hx]
    have : (decide ((e k).k = 4) && decide ((e k).th = (trOf x).th) && decide ((e k).tx = (trOf x).tx) && decide ((e k).at_ = (trOf x).at_)) = false := by
      rw [Bool.eq_false_iff]
      intro hh
      simp [trOf] at hh
      obtain ⟨a, b, c⟩ := x
      dsimp only at hh
      exact hx (by rw [of_decide_eq_true hh.1.1.2, of_decide_eq_true hh.1.2, of_decide_eq_true hh.2])
    rw [this, Bool.or_false]
theorem relV_same {e : Evs} {k : Nat} (h : (e k).k ≠ 4) : relV e (k + 1) = relV e k := by
  funext x
  unfold relV
  rw [md.relN]
  simp [h]

set_option maxHeartbeats 2000000 in
theorem released_any (a : Option Addr) (len cap : Nat) (e : Evs) (w : World) (hl : IsEvs w a len e) (hlen : len ≤ 100000) :
    Calls Try.prog 31 #[.slice a len cap] w fun r w' => ∃ mb N, r = .returned (.map (some mb)) ∧ Hid (MapG Try.prog 78 three w' mb N (relV e len)) ∧ Hid (w.grownBy w' none) := by
  have HL := Lib.hid hl
  clear hl
  have hmm := @run_makeMap Try.prog
  have GA := Lib.hid (World.grownBy_alloc w (.map #[] 0) none)
  have MA : Hid (MapG Try.prog 78 three (w.alloc (.map #[] 0)) w.heap.size 0 (relV e 0)) := Lib.hid (MapG.made w Try.prog 78 three)
  go_enter Try.func31, Try.ntmps31
  go_wp2
  have HMB := Lib.hid (show w.heap.size ≤ w.heap.size by omega)
  generalize w.alloc _ = w1 at *
  generalize hmb : w.heap.size = mb at *
  go_loopw [9] (fun iv wr => ∃ k : Nat, k ≤ len ∧ iv = .int .i64 k ∧ Hid (MapG Try.prog 78 three wr mb k (relV e k)) ∧ Hid (w.grownBy wr none)) (fun iv _ => (len - intOf iv).toNat)
  case atStart => exact ⟨0, by omega, rfl, MA, GA⟩
  case round =>
    obtain ⟨k, hk, rfl, M, G⟩ := hrel
    clear MA GA
    by_cases hlt : k < len
    · have hlt' : (k : Int) < (len : Int) := by omega
      have hk6 : (k : Int) < 1000000 := by omega
      obtain ⟨b, off, rfl, hb, c0, c1, c2, c3, c4, c5, c6, hwf⟩ := (HL.out.grown G.out).at7 hlt
      have HWF := Lib.hid hwf
      have HP := Lib.hid (relV_put (e := e) (k := k))
      have HS := Lib.hid (relV_same (e := e) (k := k))
      clear hwf
      generalize e k = y at *
      have mlt := M.out.lt
      have G1 := Lib.hid (World.grownBy_alloc wr (.cells #[.int .i64 y.k, .int .i64 y.th, .int .i64 y.tx, .int .i64 y.at_, .int .i64 y.ob, .int .i64 y.va, .int .i64 y.re] 58) none)
      have M1 := Lib.hid (M.out.grown G1.out (by simp))
      by_cases h4 : y.k = 4
      · have f4 : (y.k == 4) = true := by simp [h4]
        have HN := Lib.hid (HP.out h4)
        clear h4 HP HS
        obtain ⟨kl, hkl⟩ := keyAtt (x := (y.th, y.tx, y.at_)) HWF.out.th HWF.out.tx HWF.out.at_
        have HKL := Lib.hid hkl
        clear hkl
        go_wp2_with (first | (at_mapUpdate; refine wpList_set_mapG rfl _ _ _ 71 rfl 78 4 kAtt three three_inj Try.underlying71 mb k (relV e k) rfl M1.out (by unfold maxLen; omega) (y.th, y.tx, y.at_) kl rfl HKL.out (.bool true) rfl ?_; intro u2 m2 g2; have M2 := Lib.hid m2; have G2 := Lib.hid g2; clear m2 g2) | go_in)
        go_roundw
        case rel => exact ⟨k + 1, by omega, by go_num, by rw [HN.out]; exact M2.out, gb_over (gb_trans G.out G1.out) G2.out (by rw [hmb]; exact Nat.le_refl _)⟩
        case measure => simp [intOf]; omega
      · have f4 : (y.k == 4) = false := by simp [h4]
        have HN := Lib.hid (HS.out h4)
        clear h4 HP HS
        go_wp2
        go_roundw
        case rel => exact ⟨k + 1, by omega, by go_num, by rw [HN.out]; exact M1.out.more (Nat.le_succ _), gb_trans G.out G1.out⟩
        case measure => simp [intOf]; omega
    · obtain rfl : k = len := by omega
      go_wp2
      go_ret
      exact ⟨mb, k, rfl, M, G⟩
end Go.Proofs.Ytdohepenmejcaaa.md

/- Package lang's maps of what operations do, and Sum. -/
namespace Go.Proofs.Ytdohepenmejcaaa.lg
open Go Go.RowKit Go.Proofs.Ytdohepenmejcaaa.base
set_option linter.unusedVariables false

/-- A method value of the course in block c. -/
def bd (F c : Nat) : Value := .func (Fn.func F) #[.pointer (some ⟨c, 0, none⟩)] #[]

/-- What Set and Add do. -/
def sumsF (c : Nat) (i : Int) : Option Value := if i = 4 then some (bd 78 c) else if i = 3 then some (bd 77 c) else none

/-- What all do. -/
def allF (c : Nat) (i : Int) : Option Value := if i = 5 then some (bd 64 c) else if i = 2 then some (bd 63 c) else if i = 1 then some (bd 62 c) else sumsF c i

/-- A store of a map that is written out. -/
theorem wpList_ins_mapF {P : Program} (w : World) {ops : Array Oper} {rest : List Oper} {o : Oper} {a : Act} {Q : Exit → Act → World → Prop}
    (hg : o.guard = none) (m x v : Operand) (t : TypeId) (hop : o.op = Op.insert t m x v ∨ o.op = Op.mapUpdate t m x v)
    (k e : TypeId) (hk : P.underlying k = some (.int .i64)) (ht : P.underlying t = some (.map k e)) (b n : Nat) (f : Int → Option Value)
    (hm : a.eval m = .map (some b)) (h : MapF P k w b n f) (hn : n < maxLen) (j : Int) (hx : a.eval x = .int .i64 j) (hj : (Lit.int .i64 j).wf = true) (hf : f j = none) (val : Value) (hv : a.eval v = val)
    (hK : ∀ w', MapF P k w' b (n + 1) (fun i => if i = j then some val else f i) → w.grownBy w' (some b) → wpList P ops Q rest (a.put o.dst undef) w') :
    wpList P ops Q (o :: rest) a w := by
  refine wpList_plain hg fun K' hK' => ?_
  obtain ⟨w', hrun, r1, r2⟩ := h.put hk ht hn hj hf val
  unfold Oper.wp
  rcases hop with hop | hop <;> simp [execOp, hop, hm, hx, hv, hrun, Result.andThen] <;> exact hK' _ _ (hK w' r1 r2)

/-- A look-up without 'ok'. -/
theorem wpList_get_mapF {P : Program} (w : World) {ops : Array Oper} {rest : List Oper} {o : Oper} {a : Act} {Q : Exit → Act → World → Prop}
    (hg : o.guard = none) (m x : Operand) (t : TypeId) (hop : o.op = Op.lookup t m x false)
    (k e : TypeId) (hk : P.underlying k = some (.int .i64)) (ht : P.underlying t = some (.map k e)) (z : Value) (hz : (zeroValue e).run P w = .ok z w) (b n : Nat) (f : Int → Option Value)
    (hm : a.eval m = .map (some b)) (h : MapF P k w b n f) (j : Int) (hx : a.eval x = .int .i64 j) (hj : (Lit.int .i64 j).wf = true) (v : Value) (hf : f j = some v)
    (hK : wpList P ops Q rest (a.put o.dst v) w) :
    wpList P ops Q (o :: rest) a w := by
  refine wpList_plain hg fun K' hK' => ?_
  have hrun := h.get hk ht hz hj
  rw [hf] at hrun
  unfold Oper.wp
  simp [execOp, hop, hm, hx, hrun, Result.andThen]
  exact hK' _ _ hK

theorem zeroF (w : World) : (zeroValue 115).run Try.prog w = .ok .nilFunc w := by kernel_rfl

theorem mapF_congr {P : Program} {k : TypeId} {w : World} {b n : Nat} {f f' : Int → Option Value} (h : MapF P k w b n f) (e : ∀ i, f i = f' i) : MapF P k w b n f' := by
  rw [← funext e]
  exact h

theorem mk52 (w : World) : (Instr.makeMap 113 none).run Try.prog w = .ok (.map (some w.heap.size)) (w.alloc (.map #[] 0)) := by simp [Instr.makeMap, go_sem]

theorem mf_any (fn : Fn) (first cap : Array Value) (w : World) : (Instr.makeFunc fn first cap).run Try.prog w = .ok (.func fn first cap) w := rfl

set_option maxRecDepth 100000 in
theorem sums_any (c : Nat) (w : World) : Calls Try.prog 61 #[.pointer (some ⟨c, 0, none⟩)] w fun e w' => e = .returned (.map (some w.heap.size)) ∧ Hid (MapF Try.prog 3 w' w.heap.size 2 (sumsF c)) ∧ Hid (w.grownBy w' none) := by
  have hmf := mf_any
  have hmm := mk52
  have N1 := Lib.hid (MapF.made w Try.prog 3)
  have G1 := Lib.hid (World.grownBy_alloc w (.map #[] 0) none)
  generalize hv : w.alloc (.map #[] 0) = v1 at *
  have HV := Lib.hid hv
  generalize hm : w.heap.size = mb at *
  have HM := Lib.hid hm
  have hmm' : (Instr.makeMap 113 none).run Try.prog w = .ok (.map (some mb)) v1 := by rw [hmm, hv, hm]
  clear hv hm hmm
  go_enter Try.func61, Try.ntmps61
  go_wp2_with (first | (refine wpList_ins_mapF _ rfl (.tmp 3) (.const (.int .i64 3)) (.tmp 5) 113 (.inl rfl) 3 115 Try.underlying3 Try.underlying113 mb 0 _ rfl N1.out (by decide) 3 rfl (by decide) rfl (bd 77 c) rfl ?_; intro v2 M2 g2; have N2 := Lib.hid M2; have G2 := Lib.hid (gb_over G1.out g2 (Nat.le_of_eq HM.out)); clear M2 g2) | (refine wpList_ins_mapF _ rfl (.tmp 3) (.const (.int .i64 4)) (.tmp 7) 113 (.inl rfl) 3 115 Try.underlying3 Try.underlying113 mb 1 _ rfl N2.out (by decide) 4 rfl (by decide) rfl (bd 78 c) rfl ?_; intro v3 M3 g3; have N3 := Lib.hid M3; have G3 := Lib.hid (gb_over G2.out g3 (Nat.le_of_eq HM.out)); clear M3 g3))
  go_ret
  exact ⟨rfl, N3, G3⟩

set_option maxRecDepth 100000 in
theorem all_any (c : Nat) (w : World) : Calls Try.prog 54 #[.pointer (some ⟨c, 0, none⟩)] w fun e w' => e = .returned (.map (some w.heap.size)) ∧ Hid (MapF Try.prog 3 w' w.heap.size 5 (allF c)) ∧ Hid (w.grownBy w' none) := by
  have hmf := mf_any
  have hS := sums_any c w
  generalize hm : w.heap.size = mb at *
  have HM := Lib.hid hm
  have HS := Lib.hid hS
  clear hm hS
  go_enter Try.func54, Try.ntmps54
  go_wp2_with fail
  refine HS.out.mono ?_
  rintro e v1 ⟨rfl, N1, G1⟩
  go_wp2_with (first | (refine wpList_ins_mapF _ rfl (.tmp 6) (.const (.int .i64 1)) (.tmp 10) 113 (.inr rfl) 3 115 Try.underlying3 Try.underlying113 mb 2 _ rfl N1.out (by decide) 1 rfl (by decide) rfl (bd 62 c) rfl ?_; intro v2 M2 g2; have N2 := Lib.hid M2; have G2 := Lib.hid (gb_over G1.out g2 (Nat.le_of_eq HM.out)); clear M2 g2) | (refine wpList_ins_mapF _ rfl (.tmp 7) (.const (.int .i64 2)) (.tmp 12) 113 (.inr rfl) 3 115 Try.underlying3 Try.underlying113 mb 3 _ rfl N2.out (by decide) 2 rfl (by decide) rfl (bd 63 c) rfl ?_; intro v3 M3 g3; have N3 := Lib.hid M3; have G3 := Lib.hid (gb_over G2.out g3 (Nat.le_of_eq HM.out)); clear M3 g3) | (refine wpList_ins_mapF _ rfl (.tmp 8) (.const (.int .i64 5)) (.tmp 14) 113 (.inr rfl) 3 115 Try.underlying3 Try.underlying113 mb 4 _ rfl N3.out (by decide) 5 rfl (by decide) rfl (bd 64 c) rfl ?_; intro v4 M4 g4; have N4 := Lib.hid M4; have G4 := Lib.hid (gb_over G3.out g4 (Nat.le_of_eq HM.out)); clear M4 g4))
  go_ret
  exact ⟨rfl, N4, G4⟩

theorem made_crs (w w0 : World) (s : Int) (h : w0.heap.size ≤ w.heap.size) (f : Nat → Int) : Crs w0.heap.size (w.alloc (.cells #[.int .i64 s, .slice none 0 0] 112)) w.heap.size s 0 f none := Fld.made w 112 2 1 h [.int .i64 s] []
theorem ne_map {P : Program} {k : TypeId} {w : World} {b n c : Nat} {f : Int → Option Value} {t : TypeId} {cs : Array Value} (h : MapF P k w b n f) (g : Blk t w c cs) : b ≠ c := fun e => h.not_cells (by rw [e]; exact g)
theorem ret_int {a b : Int} (h : a = b) : Ending.returned (.int .i64 a) = .returned (.int .i64 b) := by rw [h]

end Go.Proofs.Ytdohepenmejcaaa.lg

/- The contracts of package lang's Alone, and of the document's own (quarrelref11.Alone, quarrelref01.Vals). -/
namespace Go.Proofs.Ytdohepenmejcaaa.lg
open Go Go.RowKit Go.Proofs.Ytdohepenmejcaaa.base
set_option linter.unusedVariables false

/-- The values of a list. -/
theorem nums_eq (f : Nat → Int) (n : Nat) : (List.range n).map (fun i => Value.int .i64 (f i)) = vals f n := rfl

theorem alone_bad (a1 : Option Addr) (len cap : Nat) (z : Nat → Nat → Int) (a2 : Option Addr) (n cap2 : Nat) (w : World) (hz : IsOps w a1 len z) (hr : rightB z len n = false) :
    Calls Try.prog 48 #[.slice a1 len cap, .slice a2 n cap2] w fun e w' => e = .returned (.tuple #[.slice none 0 0, .int .i64 3]) ∧ Hid (w.grownBy w' none) := by
  have HR := Lib.hid (hr ▸ right_any a1 len cap z n w hz)
  clear hr hz
  go_enter Try.func48, Try.ntmps48
  go_wp2_with fail
  refine HR.out.mono ?_
  rintro e u ⟨rfl, g⟩
  go_wp2
  go_ret2
  exact ⟨rfl, g⟩

theorem crs_of_row {w u : World} {val : Value} {n : Nat} {f : Nat → Int} (s : Int) (h : u.ownsRow w.heap.size 2 1 val n (vals f n)) (hb : w.heap.size ≤ u.heap.size) : Crs w.heap.size (u.alloc (.cells #[.int .i64 s, val] 112)) u.heap.size s n f val.ownBlock :=
  ⟨hb, fun e => by have := (h.lt _ e).2; omega, val, Blk.made u _ _, ownsRow_keep h (fun k e => Below.heap_alloc u _ k (h.lt k e).2), rfl⟩

/-- What is known at the head of a round. -/
structure AR (w : World) (cb : Nat) (r : Option Nat) (z : Nat → Nat → Int) (v : Nat → Int) (n mb k : Nat) (wr : World) : Prop where
  crs : Crs w.heap.size wr cb (run z v k).1 n (run z v k).2 r
  map : MapF Try.prog 3 wr mb 5 (allF cb)
  grow : w.grownBy wr none

section
variable {w wr w' : World} {cb mb n k : Nat} {r : Option Nat} {z : Nat → Nat → Int} {v : Nat → Int}
theorem AR.grown (h : AR w cb r z v n mb k wr) (g : wr.grownBy w' none) : AR w cb r z v n mb k w' :=
  ⟨h.crs.grown g, h.map.keep (g.block mb h.map.lt (by simp)), gb_trans h.grow g⟩
theorem AR.step (h : AR w cb r z v n mb k wr) {s : Int} {f : Nat → Int} (c : Crs w.heap.size w' cb s n f r) (g : Chg cb r r wr w') (e : run z v (k + 1) = (s, f)) : AR w cb r z v n mb (k + 1) w' := by
  have h1 : mb ≠ cb := by
    obtain ⟨_, _, _, hb, _⟩ := h.crs
    exact ne_map h.map hb
  have h2 : some mb ≠ r := by
    obtain ⟨_, _, val, _, ho, hr⟩ := h.crs
    intro e
    obtain ⟨cs, hcs⟩ := ownsRow_type ho (hr.trans e.symm)
    exact h.map.not_cells hcs
  refine ⟨by rw [e]; exact c, h.map.keep (g.block mb h.map.lt h1 h2), ?_⟩
  refine ⟨g.os.trans h.grow.os, g.tape.trans h.grow.tape, g.output.trans h.grow.output, Nat.le_trans h.grow.size g.size, fun i hi _ => (g.block i (Nat.lt_of_lt_of_le hi h.grow.size) ?_ ?_).trans (h.grow.block i hi (by simp))⟩
  · have := h.crs.base_le; omega
  · intro e2; have := (h.crs.row_lt i e2.symm).1; omega
end

set_option maxHeartbeats 1000000 in
theorem alone_any (a1 : Option Addr) (len cap : Nat) (z : Nat → Nat → Int) (a2 : Option Addr) (n cap2 : Nat) (v : Nat → Int) (w : World) (hz : IsOps w a1 len z) (hv : IsNums .i64 w a2 n v) (hr : rightB z len n = true) (hn : n ≤ 100000) :
    Calls Try.prog 48 #[.slice a1 len cap, .slice a2 n cap2] w fun e w' => ∃ b' c', e = .returned (.tuple #[.slice b' n c', .int .i64 0]) ∧ Hid (w'.ownsRow w.heap.size 2 1 (.slice b' n c') n (vals (run z v len).2 n)) ∧ Hid (w.grownBy w' none) := by
  have HR := Lib.hid (hr ▸ right_any a1 len cap z n w hz)
  have hok : okN z n len = true ∧ len < 9 := by simp only [rightB, Bool.and_eq_true, decide_eq_true_eq] at hr; exact ⟨hr.2, hr.1.2⟩
  have HK := Lib.hid hok.1
  have h9 := hok.2
  have Z := Lib.hid hz
  have V := Lib.hid hv
  clear hr hz hok hv
  go_enter Try.func48, Try.ntmps48
  go_wp2_with fail
  refine HR.out.mono ?_
  rintro e u ⟨rfl, G⟩
  have Vu := Lib.hid (V.out.grown G.out).src
  go_wp2_with (at_builtin; refine append64 _ rfl (.const (.slice none 0 0)) (.tmp 16) rfl w.heap.size _ 0 [] rfl (World.ownsRow_nil _ _ _ _) a2 n cap2 (vals v n) rfl (by simp [vals]) Vu.out (one_nums _ _ _) (by omega) G.out.size ?_; intro b' c' u2 ho hg hv; clear hv)
  simp only [Nat.zero_add, List.nil_append] at ho
  have G2 := Lib.hid (gb_trans G.out (show u.grownBy u2 none from hg))
  have C0 := Lib.hid (crs_of_row 0 ho G2.out.size)
  have G3 := Lib.hid (gb_alloc G2.out (.cells #[.int .i64 0, .slice b' n c'] 112))
  generalize (Value.slice b' n c').ownBlock = r at C0
  clear ho hg Vu G
  generalize u2.alloc _ = u3 at *
  generalize u2.heap.size = cb at *
  refine (all_any cb _).mono ?_
  rintro e u4 ⟨rfl, M4, G4⟩
  generalize u3.heap.size = mb at *
  have A0 : Hid (AR w cb r z v n mb 0 u4) := ⟨C0.out.grown G4.out, M4.out, gb_trans G3.out G4.out⟩
  clear C0 G3 G4 M4 G2 V
  go_wp2_with fail
  go_loopw [24] (fun iv wr => ∃ k : Nat, k ≤ len ∧ iv = .int .i64 k ∧ Hid (AR w cb r z v n mb k wr)) (fun iv _ => (len - intOf iv).toNat)
  case atStart => exact ⟨0, by omega, rfl, A0⟩
  case round =>
    obtain ⟨k, hk, rfl, A⟩ := hrel
    clear A0
    by_cases hlt : k < len
    · obtain ⟨b1, off1, rfl, hb1, c0, c1, c2⟩ := (Z.out.grown A.out.grow).at3 hlt
      have hlt' : (k : Int) < (len : Int) := by omega
      have hB := okN_at HK.out hlt
      have A2 := Lib.hid (A.out.grown (World.grownBy_alloc wr (.cells #[.int .i64 (z k 0), .int .i64 (z k 1), .int .i64 (z k 2)] 102) none))
      have hS : Hid (run z v (k + 1) = if z k 0 = 1 then ((run z v k).2 (z k 1).toNat, (run z v k).2) else if z k 0 = 2 then ((run z v k).1, fun i => if i = (z k 1).toNat then (run z v k).1 else (run z v k).2 i) else (sumI (z k 0) (z k 2) (run z v k).1, (run z v k).2)) := rfl
      clear A
      generalize z k 0 = z0 at *
      generalize z k 1 = z1 at *
      generalize z k 2 = z2 at *
      rcases okB_kind hB with rfl | rfl | rfl | rfl | rfl
      · obtain ⟨i, rfl, hin⟩ := okB_obj hB (.inl rfl)
        have S1 := Lib.hid (show run z v (k + 1) = ((run z v k).2 i, (run z v k).2) by rw [hS.out]; simp)
        clear hB hS
        go_wp2_with (at_lookup; refine wpList_get_mapF _ rfl _ _ 113 rfl 3 115 Try.underlying3 Try.underlying113 .nilFunc (zeroF _) mb 5 _ rfl A2.out.map 1 rfl (by decide) (.func (Fn.func 62) #[.pointer (some ⟨cb, 0, none⟩)] #[]) rfl ?_)
        refine (read_any _ _ cb _ n _ r 1 z2 i hin A2.out.crs).mono ?_
        rintro e u5 ⟨rfl, C5, G5⟩
        have A5 := Lib.hid (A2.out.step C5.out G5.out S1.out)
        clear C5 G5 A2 c0 c1 c2
        go_wp2
        go_roundw
        case rel => exact ⟨k + 1, by omega, by go_num, A5⟩
        case measure => simp [intOf]; omega
      · obtain ⟨i, rfl, hin⟩ := okB_obj hB (.inr rfl)
        have S1 := Lib.hid (show run z v (k + 1) = ((run z v k).1, fun j => if j = i then (run z v k).1 else (run z v k).2 j) by rw [hS.out]; simp)
        clear hB hS
        go_wp2_with (at_lookup; refine wpList_get_mapF _ rfl _ _ 113 rfl 3 115 Try.underlying3 Try.underlying113 .nilFunc (zeroF _) mb 5 _ rfl A2.out.map 2 rfl (by decide) (.func (Fn.func 63) #[.pointer (some ⟨cb, 0, none⟩)] #[]) rfl ?_)
        refine (write_any _ _ cb _ n _ r 2 z2 i hin A2.out.crs).mono ?_
        rintro e u5 ⟨rfl, C5, G5⟩
        have A5 := Lib.hid (A2.out.step C5.out G5.out S1.out)
        clear C5 G5 A2 c0 c1 c2
        go_wp2
        go_roundw
        case rel => exact ⟨k + 1, by omega, by go_num, A5⟩
        case measure => simp [intOf]; omega
      · have S1 := Lib.hid (show run z v (k + 1) = (z2, (run z v k).2) by rw [hS.out]; simp [sumI])
        clear hB hS
        go_wp2_with (at_lookup; refine wpList_get_mapF _ rfl _ _ 113 rfl 3 115 Try.underlying3 Try.underlying113 .nilFunc (zeroF _) mb 5 _ rfl A2.out.map 3 rfl (by decide) (.func (Fn.func 77) #[.pointer (some ⟨cb, 0, none⟩)] #[]) rfl ?_)
        refine (set_any _ _ cb _ n _ r 3 z1 z2 A2.out.crs).mono ?_
        rintro e u5 ⟨rfl, C5, G5⟩
        have A5 := Lib.hid (A2.out.step C5.out G5.out S1.out)
        clear C5 G5 A2 c0 c1 c2
        go_wp2
        go_roundw
        case rel => exact ⟨k + 1, by omega, by go_num, A5⟩
        case measure => simp [intOf]; omega
      · have S1 := Lib.hid (show run z v (k + 1) = (wrap64 ((run z v k).1 + z2), (run z v k).2) by rw [hS.out]; simp [sumI])
        clear hB hS
        go_wp2_with (at_lookup; refine wpList_get_mapF _ rfl _ _ 113 rfl 3 115 Try.underlying3 Try.underlying113 .nilFunc (zeroF _) mb 5 _ rfl A2.out.map 4 rfl (by decide) (.func (Fn.func 78) #[.pointer (some ⟨cb, 0, none⟩)] #[]) rfl ?_)
        refine (add_any _ _ cb _ n _ r 4 z1 z2 A2.out.crs).mono ?_
        rintro e u5 ⟨rfl, C5, G5⟩
        have A5 := Lib.hid (A2.out.step C5.out G5.out S1.out)
        clear C5 G5 A2 c0 c1 c2
        go_wp2
        go_roundw
        case rel => exact ⟨k + 1, by omega, by go_num, A5⟩
        case measure => simp [intOf]; omega
      · have S1 := Lib.hid (show run z v (k + 1) = ((run z v k).1, (run z v k).2) by rw [hS.out]; simp [sumI])
        clear hB hS
        go_wp2_with (at_lookup; refine wpList_get_mapF _ rfl _ _ 113 rfl 3 115 Try.underlying3 Try.underlying113 .nilFunc (zeroF _) mb 5 _ rfl A2.out.map 5 rfl (by decide) (.func (Fn.func 64) #[.pointer (some ⟨cb, 0, none⟩)] #[]) rfl ?_)
        refine (release_any _ _ cb _ n _ r 5 z1 z2 A2.out.crs).mono ?_
        rintro e u5 ⟨rfl, C5, G5⟩
        have A5 := Lib.hid (A2.out.step C5.out G5.out S1.out)
        clear C5 G5 A2 c0 c1 c2
        go_wp2
        go_roundw
        case rel => exact ⟨k + 1, by omega, by go_num, A5⟩
        case measure => simp [intOf]; omega
    · obtain rfl : k = len := by omega
      have AA := Lib.hid A.out
      obtain ⟨_, _, val, hb, ho, _⟩ := A.out.crs
      obtain ⟨b2, c2, rfl⟩ : ∃ b2 c2, val = .slice b2 n c2 := by
        rcases ho.2 with ⟨rfl, h0⟩ | ⟨g, cap, cur, rfl, _⟩
        · exact ⟨none, 0, by rw [h0]⟩
        · exact ⟨_, cap, rfl⟩
      have c1 : wr.cell? ⟨cb, 1, none⟩ = some (.slice b2 n c2) := hb.cell 1
      have HO := Lib.hid ho
      clear hb ho A
      go_wp2
      go_ret2
      exact ⟨b2, c2, rfl, HO.out, AA.out.grow⟩
end Go.Proofs.Ytdohepenmejcaaa.lg

/- Package model's alone: what a try's transaction makes by itself. -/
namespace Go.Proofs.Ytdohepenmejcaaa.md
open Go Go.RowKit Go.Proofs.Ytdohepenmejcaaa.base Go.Proofs.Ytdohepenmejcaaa.hs Go.Proofs.Ytdohepenmejcaaa.lg Go.Maps
set_option linter.unusedVariables false
set_option maxRecDepth 100000

/-- No such thread. -/
theorem malone_th (a : Option Addr) (n c : Nat) (t : Tr) (av : Option Addr) (vc : Nat) (a2 : Option Addr) (cap2 : Nat) (A : List (List Txn)) (w : World) (h : t.th < 0 ∨ (A.length : Int) ≤ t.th) :
    Calls Try.prog 33 #[.slice a n c, .agg ⟨trC t (.slice av t.ac.length vc)⟩, .slice a2 A.length cap2] w fun r w' => r = .returned (.tuple #[.slice none 0 0, .bool false]) ∧ Hid (w.grownBy w' none) := by
  by_cases h1 : t.th < 0
  · clear h
    obtain ⟨xth, xtx, xat, xst, xb, xen, xre, xco, ac⟩ := t; dsimp only at *; show Calls Try.prog 33 #[.slice a n c, .agg #[.int .i64 xth, .int .i64 xtx, .int .i64 xat, .int .i64 xst, .int .i64 xb, .int .i64 xen, .int .i64 xre, .bool xco, .slice av ac.length vc], .slice _ A.length cap2] w _; have GA := Lib.hid (World.grownBy_alloc w (.cells #[.int .i64 xth, .int .i64 xtx, .int .i64 xat, .int .i64 xst, .int .i64 xb, .int .i64 xen, .int .i64 xre, .bool xco, .slice av ac.length vc] 33) none); go_enter Try.func33, Try.ntmps33
    go_wp2
    go_ret2
    exact ⟨rfl, GA⟩
  · have f1 : decide (t.th < 0) = false := by simpa using h1
    have f2 : decide ((A.length : Int) ≤ t.th) = true := by simp; omega
    clear h h1
    obtain ⟨xth, xtx, xat, xst, xb, xen, xre, xco, ac⟩ := t; dsimp only at *; show Calls Try.prog 33 #[.slice a n c, .agg #[.int .i64 xth, .int .i64 xtx, .int .i64 xat, .int .i64 xst, .int .i64 xb, .int .i64 xen, .int .i64 xre, .bool xco, .slice av ac.length vc], .slice _ A.length cap2] w _; have GA := Lib.hid (World.grownBy_alloc w (.cells #[.int .i64 xth, .int .i64 xtx, .int .i64 xat, .int .i64 xst, .int .i64 xb, .int .i64 xen, .int .i64 xre, .bool xco, .slice av ac.length vc] 33) none); go_enter Try.func33, Try.ntmps33
    go_wp2
    go_ret2
    exact ⟨rfl, GA⟩
/-- No such transaction of the thread. -/
theorem malone_tx (a : Option Addr) (n c : Nat) (t : Tr) (av : Option Addr) (vc : Nat) (a2 : Option Addr) (cap2 : Nat) (A : List (List Txn)) (w : World) (hA : IsAll w a2 A) (i : Nat) (l : List Txn) (hi : A[i]? = some l) (ht : t.th = (i : Int)) (h : t.tx < 0 ∨ (l.length : Int) ≤ t.tx) :
    Calls Try.prog 33 #[.slice a n c, .agg ⟨trC t (.slice av t.ac.length vc)⟩, .slice a2 A.length cap2] w fun r w' => r = .returned (.tuple #[.slice none 0 0, .bool false]) ∧ Hid (w.grownBy w' none) := by
  obtain ⟨b1, o1, v1, rfl, hb1, d1, a3, c3, rfl, h3⟩ := hA.at hi
  have hil := (List.getElem?_eq_some_iff.1 hi).1
  have hil' : (i : Int) < (A.length : Int) := by omega
  have HH := Lib.hid h
  clear h3 hA hi
  have f1 : decide (t.th < 0) = false := by simp; omega
  have f2 : decide ((A.length : Int) ≤ t.th) = false := by simp; omega
  have HT := Lib.hid ht
  clear ht h
  obtain ⟨xth, xtx, xat, xst, xb, xen, xre, xco, ac⟩ := t; dsimp only at *; show Calls Try.prog 33 #[.slice a n c, .agg #[.int .i64 xth, .int .i64 xtx, .int .i64 xat, .int .i64 xst, .int .i64 xb, .int .i64 xen, .int .i64 xre, .bool xco, .slice av ac.length vc], .slice _ A.length cap2] w _; have GA := Lib.hid (World.grownBy_alloc w (.cells #[.int .i64 xth, .int .i64 xtx, .int .i64 xat, .int .i64 xst, .int .i64 xb, .int .i64 xen, .int .i64 xre, .bool xco, .slice av ac.length vc] 33) none); go_enter Try.func33, Try.ntmps33
  go_upto_region 3 with fail
  have ht := HT.out
  subst ht
  clear HT f1 f2
  by_cases h1 : xtx < 0
  · clear HH
    go_wp2
    go_ret2
    exact ⟨rfl, GA⟩
  · have g1 : decide (xtx < 0) = false := by simpa using h1
    have g2 : decide ((l.length : Int) ≤ xtx) = true := by have := HH.out; simp; omega
    clear HH h1
    go_wp2
    go_ret2
    exact ⟨rfl, GA⟩
set_option maxHeartbeats 1000000 in
theorem malone_bad (a : Option Addr) (n c : Nat) (z : Nat → Int) (t : Tr) (av : Option Addr) (vc : Nat) (a2 : Option Addr) (cap2 : Nat) (A : List (List Txn)) (w : World) (hz : IsNums .i64 w a n z) (hA : IsAll w a2 A) (i j : Nat) (l : List Txn) (x : Txn) (hi : A[i]? = some l) (hj : l[j]? = some x) (ht : t.th = (i : Int)) (hx : t.tx = (j : Int)) (hr : rightB x.z x.n n = false) :
    Calls Try.prog 33 #[.slice a n c, .agg ⟨trC t (.slice av t.ac.length vc)⟩, .slice a2 A.length cap2] w fun r w' => r = .returned (.tuple #[.slice none 0 0, .bool false]) ∧ Hid (w.grownBy w' none) := by
  obtain ⟨b1, o1, v1, rfl, hb1, d1, a3, c3, rfl, h3⟩ := hA.at hi
  obtain ⟨b4, o4, v4, rfl, hb4, d4, a5, c5, rfl, h5⟩ := h3.at hj
  have H5 := Lib.hid h5
  have HR := Lib.hid hr
  have hil := (List.getElem?_eq_some_iff.1 hi).1
  have hil' : (i : Int) < (A.length : Int) := by omega
  have hjl := (List.getElem?_eq_some_iff.1 hj).1
  have hjl' : (j : Int) < (l.length : Int) := by omega
  clear h3 h5 hA hi hj hz hr
  have f1 : decide (t.th < 0) = false := by simp; omega
  have f2 : decide ((A.length : Int) ≤ t.th) = false := by simp; omega
  have g1 : decide (t.tx < 0) = false := by simp; omega
  have g2 : decide ((l.length : Int) ≤ t.tx) = false := by simp; omega
  have HT := Lib.hid ht
  have HX := Lib.hid hx
  clear ht hx
  obtain ⟨xth, xtx, xat, xst, xb, xen, xre, xco, ac⟩ := t; dsimp only at *; show Calls Try.prog 33 #[.slice a n c, .agg #[.int .i64 xth, .int .i64 xtx, .int .i64 xat, .int .i64 xst, .int .i64 xb, .int .i64 xen, .int .i64 xre, .bool xco, .slice av ac.length vc], .slice _ A.length cap2] w _; have GA := Lib.hid (World.grownBy_alloc w (.cells #[.int .i64 xth, .int .i64 xtx, .int .i64 xat, .int .i64 xst, .int .i64 xb, .int .i64 xen, .int .i64 xre, .bool xco, .slice av ac.length vc] 33) none); go_enter Try.func33, Try.ntmps33
  go_upto_region 3 with fail
  have ht := HT.out
  subst ht
  clear HT f1 f2
  go_upto_region 6 with fail
  have hx := HX.out
  subst hx
  clear HX g1 g2
  go_wp2_with fail
  refine (lg.alone_bad a5 x.n c5 x.z a n c _ (H5.out.grown GA.out) HR.out).mono ?_
  rintro r u ⟨rfl, g⟩
  go_wp2
  go_ret2
  exact ⟨rfl, gb_trans GA.out g.out⟩
set_option maxHeartbeats 1000000 in
theorem malone_yes (a : Option Addr) (n c : Nat) (z : Nat → Int) (t : Tr) (av : Option Addr) (vc : Nat) (a2 : Option Addr) (cap2 : Nat) (A : List (List Txn)) (w : World) (hz : IsNums .i64 w a n z) (hn : n ≤ 100000) (hA : IsAll w a2 A) (i j : Nat) (l : List Txn) (x : Txn) (hi : A[i]? = some l) (hj : l[j]? = some x) (ht : t.th = (i : Int)) (hx : t.tx = (j : Int)) (hr : rightB x.z x.n n = true) :
    Calls Try.prog 33 #[.slice a n c, .agg ⟨trC t (.slice av t.ac.length vc)⟩, .slice a2 A.length cap2] w fun r w' => ∃ b' c', r = .returned (.tuple #[.slice b' n c', .bool true]) ∧ Hid (w'.ownsRow w.heap.size 2 1 (.slice b' n c') n (vals (run x.z z x.n).2 n)) ∧ Hid (w.grownBy w' none) := by
  obtain ⟨b1, o1, v1, rfl, hb1, d1, a3, c3, rfl, h3⟩ := hA.at hi
  obtain ⟨b4, o4, v4, rfl, hb4, d4, a5, c5, rfl, h5⟩ := h3.at hj
  have H5 := Lib.hid h5
  have HR := Lib.hid hr
  have HZ := Lib.hid hz
  have hil := (List.getElem?_eq_some_iff.1 hi).1
  have hil' : (i : Int) < (A.length : Int) := by omega
  have hjl := (List.getElem?_eq_some_iff.1 hj).1
  have hjl' : (j : Int) < (l.length : Int) := by omega
  clear h3 h5 hA hi hj hz hr
  have f1 : decide (t.th < 0) = false := by simp; omega
  have f2 : decide ((A.length : Int) ≤ t.th) = false := by simp; omega
  have g1 : decide (t.tx < 0) = false := by simp; omega
  have g2 : decide ((l.length : Int) ≤ t.tx) = false := by simp; omega
  have HT := Lib.hid ht
  have HX := Lib.hid hx
  clear ht hx
  obtain ⟨xth, xtx, xat, xst, xb, xen, xre, xco, ac⟩ := t; dsimp only at *; show Calls Try.prog 33 #[.slice a n c, .agg #[.int .i64 xth, .int .i64 xtx, .int .i64 xat, .int .i64 xst, .int .i64 xb, .int .i64 xen, .int .i64 xre, .bool xco, .slice av ac.length vc], .slice _ A.length cap2] w _; have GA := Lib.hid (World.grownBy_alloc w (.cells #[.int .i64 xth, .int .i64 xtx, .int .i64 xat, .int .i64 xst, .int .i64 xb, .int .i64 xen, .int .i64 xre, .bool xco, .slice av ac.length vc] 33) none); go_enter Try.func33, Try.ntmps33
  go_upto_region 3 with fail
  have ht := HT.out
  subst ht
  clear HT f1 f2
  go_upto_region 6 with fail
  have hx := HX.out
  subst hx
  clear HX g1 g2
  go_wp2_with fail
  refine (lg.alone_any a5 x.n c5 x.z a n c z _ (H5.out.grown GA.out) (HZ.out.grown GA.out) HR.out hn).mono ?_
  rintro r u ⟨b', c', rfl, ho, g⟩
  go_wp2
  go_ret2
  exact ⟨b', c', rfl, ownsRow_drop ho.out (by simp), gb_trans GA.out g.out⟩
end Go.Proofs.Ytdohepenmejcaaa.md

/- slices.Equal, of numbers. -/
namespace Go.Proofs.Ytdohepenmejcaaa.md
open Go Go.RowKit Go.Proofs.Ytdohepenmejcaaa.base Go.Proofs.Ytdohepenmejcaaa.lg
set_option linter.unusedVariables false
set_option maxRecDepth 100000

set_option maxHeartbeats 1000000 in
theorem equal_any (a b : Option Addr) (n ca cb : Nat) (f g : Nat → Int) (w : World) (ha : IsNums .i64 w a n f) (hb : IsNums .i64 w b n g) (hm : n ≤ 100000) :
    Calls Try.prog 34 #[.slice a n ca, .slice b n cb] w fun e w' => e = .returned (.bool (eqTo f g n)) ∧ Hid (w.grownBy w' none) := by
  have HA := Lib.hid ha
  have HB := Lib.hid hb
  clear ha hb
  go_enter Try.func34, Try.ntmps34
  go_wp2_with fail
  go_loopw [13] (fun i wr => ∃ k : Nat, k ≤ n ∧ i = .int .i64 k ∧ Hid (eqTo f g k = true) ∧ Hid (w.grownBy wr none)) (fun i _ => (n - intOf i).toNat)
  case atStart => exact ⟨0, by omega, rfl, rfl, gb_refl _ _⟩
  case round =>
    obtain ⟨k, hk, rfl, HE, G⟩ := hrel
    by_cases hlt : k < n
    · obtain ⟨b1, o1, rfl, hb1, d1⟩ := (HA.out.grown G.out).at1 hlt
      obtain ⟨b2, o2, rfl, hb2, d2⟩ := (HB.out.grown G.out).at1 hlt
      have hlt' : (k : Int) < (n : Int) := by omega
      by_cases hfg : f k = g k
      · have HE1 := Lib.hid (show eqTo f g (k + 1) = true by rw [eqTo, HE.out, hfg]; simp)
        rw [← hfg] at d2
        clear hfg
        generalize f k = x at *
        go_wp2_with fail
        go_quiet (fail)
        go_wp2
        go_roundw
        case rel => exact ⟨k + 1, by omega, by go_num, HE1, by first | exact gb_drewN G.out _ | exact gb_drew (gb_drewN G.out _)⟩
        case measure => simp [intOf]; omega
      · have HE1 := Lib.hid (eqTo_bad hlt hfg)
        have hne : (f k != g k) = true := by simp [hfg]
        clear hfg
        generalize f k = x at *
        generalize g k = y at *
        go_wp2_with fail
        go_quiet (fail)
        go_wp2
        go_ret
        exact ⟨by rw [HE1.out]; rfl, by first | exact gb_drewN G.out _ | exact gb_drew (gb_drewN G.out _)⟩
    · obtain rfl : k = n := by omega
      go_wp2
      go_ret
      exact ⟨by rw [HE.out]; rfl, G⟩
end Go.Proofs.Ytdohepenmejcaaa.md

/- The document's own answers of chapter 17: last, open, own, Right. -/
namespace Go.Proofs.Ytdohepenmejcaaa.hs
open Go Go.RowKit Go.Proofs.Ytdohepenmejcaaa.base Go.Maps
set_option linter.unusedVariables false
set_option maxRecDepth 100000

/-- Where the events lie. -/
theorem evsAt {w : World} {a : Option Addr} {n : Nat} {e : Evs} (h : IsEvs w a n e) (h0 : 0 < n) : ∃ b off, a = some ⟨b, off, none⟩ ∧ b < w.heap.size ∧ ∀ i, i < n → w.cell? ⟨b, off + i * 7, none⟩ = some (.int .i64 (e i).k) ∧ w.cell? ⟨b, off + i * 7 + 1, none⟩ = some (.int .i64 (e i).th) ∧ w.cell? ⟨b, off + i * 7 + 2, none⟩ = some (.int .i64 (e i).tx) ∧ w.cell? ⟨b, off + i * 7 + 3, none⟩ = some (.int .i64 (e i).at_) ∧ w.cell? ⟨b, off + i * 7 + 4, none⟩ = some (.int .i64 (e i).ob) ∧ w.cell? ⟨b, off + i * 7 + 5, none⟩ = some (.int .i64 (e i).va) ∧ w.cell? ⟨b, off + i * 7 + 6, none⟩ = some (.int .i64 (e i).re) := by
  rcases h with h | ⟨b, off, h1, h2, h3⟩
  · omega
  · refine ⟨b, off, h1, h2, fun i hi => ?_⟩
    have h4 := (h3 i hi).1
    exact ⟨h4 0 (by omega), h4 1 (by omega), h4 2 (by omega), h4 3 (by omega), h4 4 (by omega), h4 5 (by omega), h4 6 (by omega)⟩

theorem evsIn {w : World} {b off : Nat} {n : Nat} {e : Evs} (h : IsEvs w (some ⟨b, off, none⟩) n e) {i : Nat} (hi : i < n) : w.cell? ⟨b, off + i * 7, none⟩ = some (.int .i64 (e i).k) ∧ w.cell? ⟨b, off + i * 7 + 1, none⟩ = some (.int .i64 (e i).th) ∧ w.cell? ⟨b, off + i * 7 + 2, none⟩ = some (.int .i64 (e i).tx) ∧ w.cell? ⟨b, off + i * 7 + 3, none⟩ = some (.int .i64 (e i).at_) ∧ w.cell? ⟨b, off + i * 7 + 4, none⟩ = some (.int .i64 (e i).ob) ∧ w.cell? ⟨b, off + i * 7 + 5, none⟩ = some (.int .i64 (e i).va) ∧ w.cell? ⟨b, off + i * 7 + 6, none⟩ = some (.int .i64 (e i).re) := by
  obtain ⟨b2, off2, h1, _, h2⟩ := evsAt h (show 0 < n by omega)
  cases h1
  exact h2 i hi

set_option maxHeartbeats 1000000 in
theorem last_any (w : World) (a : Option Addr) (len cap : Nat) (e : Evs) (pl : Nat) (th : Int) (hl : IsEvs w a len e) (hp : pl ≤ len) (hlen : len ≤ 1000000) :
    Calls Try.prog 39 #[.slice a len cap, .int .i64 pl, .int .i64 th] w fun r w' => r = .returned (.int .i64 (lastI e pl th)) ∧ Hid (w.grownBy w' none) := by
  have HL := Lib.hid hl
  clear hl
  have hp1 : (pl : Int) ≤ 1000000 := by omega
  go_enter Try.func39, Try.ntmps39
  go_wp2_with fail
  go_loopw [7] (fun iv wr => ∃ i : Int, -1 ≤ i ∧ i < pl ∧ iv = .int .i64 i ∧ Hid (lastI e pl th = lastI e (i + 1).toNat th) ∧ Hid (w.grownBy wr none)) (fun iv _ => (intOf iv + 1).toNat)
  case atStart => exact ⟨(pl : Int) - 1, by omega, by omega, by go_num, by show _ = _; (try (congr 1; omega)), gb_refl _ _⟩
  case round =>
    obtain ⟨i, hi1, hi2, rfl, H, G⟩ := hrel
    by_cases h0 : 0 ≤ i
    · obtain ⟨j, rfl⟩ : ∃ j : Nat, i = j := ⟨i.toNat, by omega⟩
      have hj : j < len := by omega
      obtain ⟨b, off, rfl, hb, c0, c1, c2, c3, c4, c5, c6, we⟩ := (HL.out.grown G.out).at7 hj
      have HJ := Lib.hid (show ((j : Int) + 1).toNat = j + 1 by omega)
      have hj2 : (j : Int) < 1000000 := by omega
      have hj3 : (j : Int) < (len : Int) := by omega
      by_cases h1 : (e j).k = 1
      · have f1 : ((e j).k == 1) = true := by simp [h1]
        by_cases ht : (e j).th = th
        · have ft : ((e j).th == th) = true := by simp [ht]
          have HE := Lib.hid (show lastI e (j + 1) th = (j : Int) by rw [lastI, if_pos ⟨h1, ht⟩])
          clear h1 ht
          go_wp2
          go_ret
          exact ⟨by rw [H.out, HJ.out, HE.out]; rfl, G.out⟩
        · have ft : ((e j).th == th) = false := by simp [ht]
          have HE := Lib.hid (show lastI e (j + 1) th = lastI e j th by rw [lastI, if_neg (fun h => ht h.2)])
          clear h1 ht
          go_wp2
          go_roundw
          case rel => exact ⟨(j : Int) - 1, by omega, by omega, by go_num, by show _ = _; rw [H.out, HJ.out, HE.out]; (try (congr 1; omega)), G⟩
          case measure => simp [intOf] <;> omega
      · have f1 : ((e j).k == 1) = false := by simp [h1]
        have HE := Lib.hid (show lastI e (j + 1) th = lastI e j th by rw [lastI, if_neg (fun h => h1 h.1)])
        clear h1
        go_wp2
        go_roundw
        case rel => exact ⟨(j : Int) - 1, by omega, by omega, by go_num, by show _ = _; rw [H.out, HJ.out, HE.out]; (try (congr 1; omega)), G⟩
        case measure => simp [intOf] <;> omega
    · obtain rfl : i = -1 := by omega
      go_wp2
      go_ret
      exact ⟨by rw [H.out]; rfl, G.out⟩

theorem openB_no (e : Evs) (b k : Nat) (h : openB e b k = false) : ∀ j, openB e b (k + j) = false
  | 0 => h
  | j + 1 => by rw [← Nat.add_assoc, openB, openB_no e b k h j]; rfl
/-- Goes the try that began at a place on, ahead of another one? -/
def opB (e : Evs) (bg : Int) (pl : Nat) : Bool := decide (0 ≤ bg) && openB e bg.toNat pl

set_option maxHeartbeats 1000000 in
theorem open_any (w : World) (a : Option Addr) (len cap : Nat) (e : Evs) (bg : Int) (pl : Nat) (hl : IsEvs w a len e) (hb1 : -1 ≤ bg) (hb2 : bg < pl) (hp : pl ≤ len) (hlen : len ≤ 1000000) :
    Calls Try.prog 40 #[.slice a len cap, .int .i64 bg, .int .i64 pl] w fun r w' => r = .returned (.bool (opB e bg pl)) ∧ Hid (w.grownBy w' none) := by
  have HL := Lib.hid hl
  clear hl
  have hp1 : (pl : Int) ≤ 1000000 := by omega
  by_cases h0 : 0 ≤ bg
  · obtain ⟨b, rfl⟩ : ∃ b : Nat, bg = b := ⟨bg.toNat, by omega⟩
    have hbl : b < len := by omega
    have HS := Lib.hid (openB_self e b (b + 1) (Nat.le_refl _))
    have HO := Lib.hid (show opB e b pl = openB e b pl by unfold opB; simp)
    generalize opB e b pl = res at HO ⊢
    go_enter Try.func40, Try.ntmps40
    go_wp2_with fail
    go_loopw [7] (fun iv wr => ∃ k : Nat, b + 1 ≤ k ∧ k ≤ pl ∧ iv = .int .i64 k ∧ Hid (openB e b k = true) ∧ Hid (w.grownBy wr none)) (fun iv _ => (pl - intOf iv).toNat)
    case atStart => exact ⟨b + 1, by omega, by omega, by go_num, HS, gb_refl _ _⟩
    case round =>
      obtain ⟨k, hk1, hk2, rfl, H, G⟩ := hrel
      have hk3 : (k : Int) ≤ 1000000 := by omega
      by_cases hlt : k < pl
      · have hlt' : (k : Int) < (pl : Int) := by omega
        obtain ⟨eb, off, rfl, heb, fe0⟩ := evsAt (HL.out.grown G.out) (show 0 < len by omega)
        obtain ⟨c0, c1, _⟩ := fe0 k (by omega)
        obtain ⟨_, d1, _⟩ := fe0 b hbl
        have hkl : (k : Int) < (len : Int) := by omega
        have hbl' : (b : Int) < (len : Int) := by omega
        have hbb : (b : Int) < 1000000 := by omega
        clear fe0
        have HE := Lib.hid (show openB e b (k + 1) = !(decide ((e k).th = (e b).th) && (decide ((e k).k = 5) || decide ((e k).k = 6))) by rw [openB, H.out]; simp [show b < k from hk1])
        by_cases ht : (e k).th = (e b).th
        · have ft : ((e k).th == (e b).th) = true := by simp [ht]
          by_cases h5 : (e k).k = 5
          · have f5 : ((e k).k == 5) = true := by simp [h5]
            have HF := Lib.hid (show openB e b pl = false by have := openB_no e b (k + 1) (by rw [HE.out]; simp [ht, h5]) (pl - (k + 1)); rwa [show k + 1 + (pl - (k + 1)) = pl by omega] at this)
            clear ht h5
            go_wp2_with fail
            go_big_quiet (fail)
            go_wp2
            go_ret
            exact ⟨by rw [HO.out, HF.out]; rfl, gb_drewN G.out _⟩
          · have f5 : ((e k).k == 5) = false := by simp [h5]
            by_cases h6 : (e k).k = 6
            · have f6 : ((e k).k == 6) = true := by simp [h6]
              have HF := Lib.hid (show openB e b pl = false by have := openB_no e b (k + 1) (by rw [HE.out]; simp [ht, h6]) (pl - (k + 1)); rwa [show k + 1 + (pl - (k + 1)) = pl by omega] at this)
              clear ht h5 h6
              go_wp2_with fail
              go_big_quiet (fail)
              go_wp2
              go_ret
              exact ⟨by rw [HO.out, HF.out]; rfl, gb_drewN G.out _⟩
            · have f6 : ((e k).k == 6) = false := by simp [h6]
              have HF := Lib.hid (show openB e b (k + 1) = true by rw [HE.out]; simp [h5, h6])
              clear ht h5 h6
              go_wp2_with fail
              go_big_quiet (fail)
              go_wp2
              go_roundw
              case rel => exact ⟨k + 1, by omega, by omega, by go_num, HF, gb_drewN G.out _⟩
              case measure => simp [intOf] <;> omega
        · have ft : ((e k).th == (e b).th) = false := by simp [ht]
          have HF := Lib.hid (show openB e b (k + 1) = true by rw [HE.out]; simp [ht])
          clear ht
          go_wp2_with fail
          go_big_quiet (fail)
          go_wp2
          go_roundw
          case rel => exact ⟨k + 1, by omega, by omega, by go_num, HF, gb_drewN G.out _⟩
          case measure => simp [intOf] <;> omega
      · obtain rfl : k = pl := by omega
        go_wp2
        go_ret
        exact ⟨by rw [HO.out, H.out]; rfl, G.out⟩
  · obtain rfl : bg = -1 := by omega
    go_enter Try.func40, Try.ntmps40
    go_wp2
    go_ret
    exact ⟨by unfold opB; rfl, gb_refl _ _⟩

set_option maxHeartbeats 1000000 in
theorem own_any (x y : Ev) (w : World) : Calls Try.prog 41 #[.agg #[.int .i64 x.k, .int .i64 x.th, .int .i64 x.tx, .int .i64 x.at_, .int .i64 x.ob, .int .i64 x.va, .int .i64 x.re], .agg #[.int .i64 y.k, .int .i64 y.th, .int .i64 y.tx, .int .i64 y.at_, .int .i64 y.ob, .int .i64 y.va, .int .i64 y.re]] w fun r w' => r = .returned (.bool (ownE x y)) ∧ Hid (w.grownBy w' none) := by
  obtain ⟨o, ho⟩ : ∃ o, o = ownE x y := ⟨_, rfl⟩
  have HO := Lib.hid ho
  rw [← ho]
  clear ho
  unfold ownE at HO
  by_cases h1 : x.th = y.th
  · have f1 : (x.th == y.th) = true := by simp [h1]
    by_cases h2 : x.tx = y.tx
    · have f2 : (x.tx == y.tx) = true := by simp [h2]
      by_cases h3 : x.at_ = y.at_
      · have f3 : (x.at_ == y.at_) = true := by simp [h3]
        have HF := Lib.hid (show o = true by rw [HO.out]; simp [h1, h2, h3])
        clear h1 h2 h3 HO
        go_enter Try.func41, Try.ntmps41
        go_wp2
        go_ret
        exact ⟨by rw [HF.out]; rfl, (by repeat (first | exact gb_refl _ _ | refine gb_drewN ?_ _ | refine gb_drew ?_ | refine gb_alloc ?_ _))⟩
      · have f3 : (x.at_ == y.at_) = false := by simp [h3]
        have HF := Lib.hid (show o = false by rw [HO.out]; simp [h3])
        clear h1 h2 h3 HO
        go_enter Try.func41, Try.ntmps41
        go_wp2
        go_ret
        exact ⟨by rw [HF.out]; rfl, (by repeat (first | exact gb_refl _ _ | refine gb_drewN ?_ _ | refine gb_drew ?_ | refine gb_alloc ?_ _))⟩
    · have f2 : (x.tx == y.tx) = false := by simp [h2]
      have HF := Lib.hid (show o = false by rw [HO.out]; simp [h2])
      clear h1 h2 HO
      go_enter Try.func41, Try.ntmps41
      go_wp2
      go_ret
      exact ⟨by rw [HF.out]; rfl, (by repeat (first | exact gb_refl _ _ | refine gb_drewN ?_ _ | refine gb_drew ?_ | refine gb_alloc ?_ _))⟩
  · have f1 : (x.th == y.th) = false := by simp [h1]
    have HF := Lib.hid (show o = false by rw [HO.out]; simp [h1])
    clear h1 HO
    go_enter Try.func41, Try.ntmps41
    go_wp2
    go_ret
    exact ⟨by rw [HF.out]; rfl, (by repeat (first | exact gb_refl _ _ | refine gb_drewN ?_ _ | refine gb_drew ?_ | refine gb_alloc ?_ _))⟩
end Go.Proofs.Ytdohepenmejcaaa.hs

/- The document's own answer of chapter 17: Right. -/
namespace Go.Proofs.Ytdohepenmejcaaa.hs
open Go Go.RowKit Go.Proofs.Ytdohepenmejcaaa.base Go.Maps
set_option linter.unusedVariables false
set_option maxRecDepth 100000

theorem eqb_swap (x y : Int) : (x == y) = decide (y = x) := by
  by_cases h : x = y
  · subst h
    simp
  · have h' : ¬ y = x := fun e => h e.symm
    rw [decide_eq_false h']
    simpa using h
theorem may_open (e : Evs) (k : Nat) (h : opB e (lastI e k (e k).th) k = true) : may e k = (decide (2 ≤ (e k).k) && decide ((e k).k ≤ 6) && ownE (e (lastI e k (e k).th).toNat) (e k)) := by
  unfold opB at h
  rw [Bool.and_eq_true, decide_eq_true_eq] at h
  have ho := opn_ref e k (e k).th
  rw [if_pos h] at ho
  unfold may
  rw [ho]
  have ht := (opn_spec e _ _ _ ho).2.2.1
  generalize (lastI e k (e k).th).toNat = b at *
  unfold ownE
  simp only [ht, decide_true, Bool.true_and]
  rw [eqb_swap (e k).tx, eqb_swap (e k).at_, Bool.and_assoc, Bool.and_assoc]
theorem may_shut (e : Evs) (k : Nat) (h : opB e (lastI e k (e k).th) k = false) : may e k = (((e k).k == 1 && (e k).at_ == IntKind.i64.wrap (cnt e k (e k).th (e k).tx + 1)) || (e k).k == 7) := by
  unfold opB at h
  have ho := opn_ref e k (e k).th
  rw [if_neg (by rintro ⟨h1, h2⟩; simp [h1, h2] at h)] at ho
  unfold may
  rw [ho]

theorem right_no (e : Evs) {k len : Nat} (h : k < len) (hm : may e k = false) : right e len = false := by
  cases hr : right e len with
  | false => rfl
  | true => rw [right_may e hr h] at hm; cases hm

set_option maxHeartbeats 8000000 in
theorem right_doc (a : Option Addr) (len cap : Nat) (e : Evs) (w : World) (hl : IsEvs w a len e) (hlen : len ≤ 1000000) :
    Calls Try.prog 25 #[.slice a len cap] w fun r w' => r = .returned (.bool (right e len)) ∧ Hid (w.grownBy w' none) := by
  have HL := Lib.hid hl
  have HLEN := Lib.hid hlen
  clear hl hlen
  go_enter Try.func25, Try.ntmps25
  go_wp2_with fail
  go_loopw [3] (fun iv wr => ∃ k : Nat, k ≤ len ∧ iv = .int .i64 k ∧ Hid (right e k = true) ∧ Hid (w.grownBy wr none)) (fun iv _ => (len - intOf iv).toNat)
  case atStart => exact ⟨0, by omega, rfl, rfl, gb_refl _ _⟩
  case round =>
    obtain ⟨k, hk, rfl, HR, G⟩ := hrel
    by_cases hlt : k < len
    · obtain ⟨eb, off, rfl, heb, fe0⟩ := evsAt (HL.out.grown G.out) (show 0 < len by omega)
      have FE := Lib.hid fe0
      obtain ⟨c0, c1, c2, c3, c4, c5, c6⟩ := fe0 k hlt
      clear fe0
      have hlt' : (k : Int) < (len : Int) := by omega
      have hlk : (k : Int) < 1000000 := by have := HLEN.out; omega
      have MO := Lib.hid (may_open e k)
      have MS := Lib.hid (may_shut e k)
      have NO := Lib.hid (fun h => right_no e hlt h)
      have YES := Lib.hid (show may e k = true → right e (k + 1) = true from fun h => by rw [right, HR.out, h]; rfl)
      have hL1 := lastI_lt e k (e k).th
      have LA := Lib.hid (fun u h => last_any u (some ⟨eb, off, none⟩) len cap e k (e k).th h (by omega) (by have := HLEN.out; omega))
      generalize lastI e k (e k).th = LI at *
      obtain ⟨hLa, hLb⟩ := hL1
      have OA := Lib.hid (fun u h => open_any u (some ⟨eb, off, none⟩) len cap e LI k h hLa hLb (by omega) (by have := HLEN.out; omega))
      have PO := Lib.hid (show opB e LI k = true → 0 ≤ LI from fun h => by unfold opB at h; rw [Bool.and_eq_true, decide_eq_true_eq] at h; exact h.1)
      generalize opB e LI k = o at *
      have E1 := Lib.hid (Blk.made wr 58 #[.int .i64 ((e k).k), .int .i64 ((e k).th), .int .i64 ((e k).tx), .int .i64 ((e k).at_), .int .i64 ((e k).ob), .int .i64 ((e k).va), .int .i64 ((e k).re)])
      have G1 := Lib.hid (gb_alloc G.out (.cells #[.int .i64 ((e k).k), .int .i64 ((e k).th), .int .i64 ((e k).tx), .int .i64 ((e k).at_), .int .i64 ((e k).ob), .int .i64 ((e k).va), .int .i64 ((e k).re)] 58))
      go_upto_region 5 with fail
      generalize wr.alloc (.cells #[.int .i64 ((e k).k), .int .i64 ((e k).th), .int .i64 ((e k).tx), .int .i64 ((e k).at_), .int .i64 ((e k).ob), .int .i64 ((e k).va), .int .i64 ((e k).re)] 58) = v at *
      generalize wr.heap.size = p at *
      have p_lt := E1.out.lt
      have x0 : v.cell? ⟨p, 0, none⟩ = some (.int .i64 (e k).k) := E1.out.cell 0; have x1 : v.cell? ⟨p, 1, none⟩ = some (.int .i64 (e k).th) := E1.out.cell 1; have x2 : v.cell? ⟨p, 2, none⟩ = some (.int .i64 (e k).tx) := E1.out.cell 2; have x3 : v.cell? ⟨p, 3, none⟩ = some (.int .i64 (e k).at_) := E1.out.cell 3; have x4 : v.cell? ⟨p, 4, none⟩ = some (.int .i64 (e k).ob) := E1.out.cell 4; have x5 : v.cell? ⟨p, 5, none⟩ = some (.int .i64 (e k).va) := E1.out.cell 5; have x6 : v.cell? ⟨p, 6, none⟩ = some (.int .i64 (e k).re) := E1.out.cell 6
      clear c0 c1 c2 c3 c4 c5 c6
      by_cases h1 : (e k).k = 1
      · have f1 : ((e k).k == 1) = true := by simp [h1]
        have W1 := Lib.hid h1
        clear h1
        go_upto_region 10 with (first | (go_at_call 39; refine (LA.out _ (HL.out.grown G1.out)).mono ?_; rintro r u1 ⟨rfl, g1⟩; have E2 := Lib.hid (E1.out.grown g1.out (by simp)); have G2 := Lib.hid (gb_trans G1.out g1.out)) | (go_at_call 40; refine (OA.out _ (HL.out.grown G2.out)).mono ?_; rintro r u2 ⟨rfl, g2⟩; have E3 := Lib.hid (E2.out.grown g2.out (by simp)); have G3 := Lib.hid (gb_trans G2.out g2.out); have p3 := E3.out.lt; have y0 : u2.cell? ⟨p, 0, none⟩ = some (.int .i64 (e k).k) := E3.out.cell 0; have y1 : u2.cell? ⟨p, 1, none⟩ = some (.int .i64 (e k).th) := E3.out.cell 1; have y2 : u2.cell? ⟨p, 2, none⟩ = some (.int .i64 (e k).tx) := E3.out.cell 2; have y3 : u2.cell? ⟨p, 3, none⟩ = some (.int .i64 (e k).at_) := E3.out.cell 3; have y4 : u2.cell? ⟨p, 4, none⟩ = some (.int .i64 (e k).ob) := E3.out.cell 4; have y5 : u2.cell? ⟨p, 5, none⟩ = some (.int .i64 (e k).va) := E3.out.cell 5; have y6 : u2.cell? ⟨p, 6, none⟩ = some (.int .i64 (e k).re) := E3.out.cell 6) | go_in)
        go_wp2
        clear x0 x1 x2 x3 x4 x5 x6 E1 E2 G1 G2 g1 g2 LA OA
        go_loopw [7, 8] (fun nv iv wr => ∃ j : Nat, j ≤ k ∧ iv = .int .i64 j ∧ nv = .int .i64 (cnt e j (e k).th (e k).tx) ∧ Hid (u2.grownBy wr none)) (fun _ iv _ => (k - intOf iv).toNat)
        case atStart => exact ⟨0, by omega, rfl, rfl, gb_refl _ _⟩
        case round =>
          obtain ⟨j, hj, rfl, rfl, GJ⟩ := hrel
          have EJ := Lib.hid (E3.out.grown GJ.out (by simp))
          have z0 : wr.cell? ⟨p, 0, none⟩ = some (.int .i64 (e k).k) := EJ.out.cell 0; have z1 : wr.cell? ⟨p, 1, none⟩ = some (.int .i64 (e k).th) := EJ.out.cell 1; have z2 : wr.cell? ⟨p, 2, none⟩ = some (.int .i64 (e k).tx) := EJ.out.cell 2; have z3 : wr.cell? ⟨p, 3, none⟩ = some (.int .i64 (e k).at_) := EJ.out.cell 3; have z4 : wr.cell? ⟨p, 4, none⟩ = some (.int .i64 (e k).ob) := EJ.out.cell 4; have z5 : wr.cell? ⟨p, 5, none⟩ = some (.int .i64 (e k).va) := EJ.out.cell 5; have z6 : wr.cell? ⟨p, 6, none⟩ = some (.int .i64 (e k).re) := EJ.out.cell 6
          by_cases hjk : j < k
          · have hjk' : (j : Int) < (k : Int) := by omega
            have hjl : (j : Int) < (len : Int) := by omega
            have hj2 : (j : Int) < 1000000 := by omega
            have GG := Lib.hid (gb_trans G3.out GJ.out)
            obtain ⟨c0, c1, c2, c3, c4, c5, c6⟩ := evsIn (HL.out.grown GG.out) (show j < len by omega)
            have hcn := Lib.hid (show cnt e (j + 1) (e k).th (e k).tx = if (e j).k = 1 ∧ (e j).th = (e k).th ∧ (e j).tx = (e k).tx then (e j).at_ else cnt e j (e k).th (e k).tx from rfl)
            generalize cnt e j (e k).th (e k).tx = C0 at *
            by_cases q1 : (e j).k = 1
            · have r1 : ((e j).k == 1) = true := by simp [q1]
              by_cases q2 : (e j).th = (e k).th
              · have r2 : ((e j).th == (e k).th) = true := by simp [q2]
                by_cases q3 : (e j).tx = (e k).tx
                · have r3 : ((e j).tx == (e k).tx) = true := by simp [q3]
                  have HC := Lib.hid (show cnt e (j + 1) (e k).th (e k).tx = (e j).at_ by rw [hcn.out, if_pos ⟨q1, q2, q3⟩])
                  clear q1 q2 q3; go_wp2_with fail; go_big_quiet (fail); go_wp2; go_roundw; (case rel => exact ⟨j + 1, by omega, by go_num, by rw [HC.out], gb_drewN GJ.out _⟩); (case measure => simp [intOf] <;> omega)
                · have r3 : ((e j).tx == (e k).tx) = false := by simp [q3]
                  have HC := Lib.hid (show cnt e (j + 1) (e k).th (e k).tx = C0 by rw [hcn.out, if_neg (fun h => q3 h.2.2)])
                  clear q1 q2 q3; go_wp2_with fail; go_big_quiet (fail); go_wp2; go_roundw; (case rel => exact ⟨j + 1, by omega, by go_num, by rw [HC.out], gb_drewN GJ.out _⟩); (case measure => simp [intOf] <;> omega)
              · have r2 : ((e j).th == (e k).th) = false := by simp [q2]
                have q3 := True.intro
                have HC := Lib.hid (show cnt e (j + 1) (e k).th (e k).tx = C0 by rw [hcn.out, if_neg (fun h => q2 h.2.1)])
                clear q1 q2 q3; go_wp2_with fail; go_big_quiet (fail); go_wp2; go_roundw; (case rel => exact ⟨j + 1, by omega, by go_num, by rw [HC.out], gb_drewN GJ.out _⟩); (case measure => simp [intOf] <;> omega)
            · have r1 : ((e j).k == 1) = false := by simp [q1]
              have q2 := True.intro
              have q3 := True.intro
              have HC := Lib.hid (show cnt e (j + 1) (e k).th (e k).tx = C0 by rw [hcn.out, if_neg (fun h => q1 h.1)])
              clear q1 q2 q3; go_wp2_with fail; go_big_quiet (fail); go_wp2; go_roundw; (case rel => exact ⟨j + 1, by omega, by go_num, by rw [HC.out], gb_drewN GJ.out _⟩); (case measure => simp [intOf] <;> omega)
          · obtain rfl : j = k := by omega
            cases o with
            | true =>
              have HM := Lib.hid (NO.out (by rw [MO.out rfl, W1.out]; rfl))
              go_wp2
              go_ret
              exact ⟨by rw [HM.out]; rfl, gb_trans G3.out GJ.out⟩
            | false =>
              have HS := Lib.hid (MS.out rfl)
              generalize cnt e j (e j).th (e j).tx = CN at *
              have HT := Lib.hid hjk
              obtain ⟨WN, hWN⟩ : ∃ WN, IntKind.i64.wrap (CN + 1) = WN := ⟨_, rfl⟩
              rw [hWN] at HS
              clear hjk hj hLb hLa MO MS
              by_cases q4 : (e j).at_ = WN
              · have r4 : ((e j).at_ != WN) = false := by simp [q4]
                have HM := Lib.hid (YES.out (by rw [HS.out, W1.out, q4]; simp))
                clear q4
                go_wp2
                go_roundw
                case rel => exact ⟨j + 1, by omega, by go_num, HM, gb_trans G3.out GJ.out⟩
                case measure => simp [intOf] <;> omega
              · have r4 : ((e j).at_ != WN) = true := by simp [q4]
                have HM := Lib.hid (NO.out (by rw [HS.out, W1.out]; simp [q4]))
                clear q4
                go_wp2
                go_ret
                exact ⟨by rw [HM.out]; rfl, gb_trans G3.out GJ.out⟩
      · have f1 : ((e k).k == 1) = false := by simp [h1]
        by_cases h7 : (e k).k = 7
        · have f7 : ((e k).k == 7) = true := by simp [h7]
          have W7 := Lib.hid h7
          clear h1 h7
          cases o with
          | true =>
            have HM := Lib.hid (NO.out (by rw [MO.out rfl, W7.out]; rfl))
            go_wp2_with (first | (go_at_call 39; refine (LA.out _ (HL.out.grown G1.out)).mono ?_; rintro r u1 ⟨rfl, g1⟩; have E2 := Lib.hid (E1.out.grown g1.out (by simp)); have G2 := Lib.hid (gb_trans G1.out g1.out)) | (go_at_call 40; refine (OA.out _ (HL.out.grown G2.out)).mono ?_; rintro r u2 ⟨rfl, g2⟩; have E3 := Lib.hid (E2.out.grown g2.out (by simp)); have G3 := Lib.hid (gb_trans G2.out g2.out); have p3 := E3.out.lt; have y0 : u2.cell? ⟨p, 0, none⟩ = some (.int .i64 (e k).k) := E3.out.cell 0; have y1 : u2.cell? ⟨p, 1, none⟩ = some (.int .i64 (e k).th) := E3.out.cell 1; have y2 : u2.cell? ⟨p, 2, none⟩ = some (.int .i64 (e k).tx) := E3.out.cell 2; have y3 : u2.cell? ⟨p, 3, none⟩ = some (.int .i64 (e k).at_) := E3.out.cell 3; have y4 : u2.cell? ⟨p, 4, none⟩ = some (.int .i64 (e k).ob) := E3.out.cell 4; have y5 : u2.cell? ⟨p, 5, none⟩ = some (.int .i64 (e k).va) := E3.out.cell 5; have y6 : u2.cell? ⟨p, 6, none⟩ = some (.int .i64 (e k).re) := E3.out.cell 6) | go_in)
            go_ret
            exact ⟨by rw [HM.out]; rfl, G3.out⟩
          | false =>
            have HM := Lib.hid (YES.out (by rw [MS.out rfl, W7.out]; simp))
            go_wp2_with (first | (go_at_call 39; refine (LA.out _ (HL.out.grown G1.out)).mono ?_; rintro r u1 ⟨rfl, g1⟩; have E2 := Lib.hid (E1.out.grown g1.out (by simp)); have G2 := Lib.hid (gb_trans G1.out g1.out)) | (go_at_call 40; refine (OA.out _ (HL.out.grown G2.out)).mono ?_; rintro r u2 ⟨rfl, g2⟩; have E3 := Lib.hid (E2.out.grown g2.out (by simp)); have G3 := Lib.hid (gb_trans G2.out g2.out); have p3 := E3.out.lt; have y0 : u2.cell? ⟨p, 0, none⟩ = some (.int .i64 (e k).k) := E3.out.cell 0; have y1 : u2.cell? ⟨p, 1, none⟩ = some (.int .i64 (e k).th) := E3.out.cell 1; have y2 : u2.cell? ⟨p, 2, none⟩ = some (.int .i64 (e k).tx) := E3.out.cell 2; have y3 : u2.cell? ⟨p, 3, none⟩ = some (.int .i64 (e k).at_) := E3.out.cell 3; have y4 : u2.cell? ⟨p, 4, none⟩ = some (.int .i64 (e k).ob) := E3.out.cell 4; have y5 : u2.cell? ⟨p, 5, none⟩ = some (.int .i64 (e k).va) := E3.out.cell 5; have y6 : u2.cell? ⟨p, 6, none⟩ = some (.int .i64 (e k).re) := E3.out.cell 6) | go_in)
            go_roundw
            case rel => exact ⟨k + 1, by omega, by go_num, HM, G3⟩
            case measure => simp [intOf] <;> omega
        · have f7 : ((e k).k == 7) = false := by simp [h7]
          by_cases h2 : 2 ≤ (e k).k
          · have f2 : decide (2 ≤ (e k).k) = true := by simp [h2]
            by_cases h6 : (e k).k ≤ 6
            · have f6 : decide ((e k).k ≤ 6) = true := by simp [h6]
              cases o with
              | false =>
                have HM := Lib.hid (NO.out (by rw [MS.out rfl]; simp [h1, h7]))
                clear h1 h7 h2 h6
                go_wp2_with (first | (go_at_call 39; refine (LA.out _ (HL.out.grown G1.out)).mono ?_; rintro r u1 ⟨rfl, g1⟩; have E2 := Lib.hid (E1.out.grown g1.out (by simp)); have G2 := Lib.hid (gb_trans G1.out g1.out)) | (go_at_call 40; refine (OA.out _ (HL.out.grown G2.out)).mono ?_; rintro r u2 ⟨rfl, g2⟩; have E3 := Lib.hid (E2.out.grown g2.out (by simp)); have G3 := Lib.hid (gb_trans G2.out g2.out); have p3 := E3.out.lt; have y0 : u2.cell? ⟨p, 0, none⟩ = some (.int .i64 (e k).k) := E3.out.cell 0; have y1 : u2.cell? ⟨p, 1, none⟩ = some (.int .i64 (e k).th) := E3.out.cell 1; have y2 : u2.cell? ⟨p, 2, none⟩ = some (.int .i64 (e k).tx) := E3.out.cell 2; have y3 : u2.cell? ⟨p, 3, none⟩ = some (.int .i64 (e k).at_) := E3.out.cell 3; have y4 : u2.cell? ⟨p, 4, none⟩ = some (.int .i64 (e k).ob) := E3.out.cell 4; have y5 : u2.cell? ⟨p, 5, none⟩ = some (.int .i64 (e k).va) := E3.out.cell 5; have y6 : u2.cell? ⟨p, 6, none⟩ = some (.int .i64 (e k).re) := E3.out.cell 6) | go_in)
                go_big_quiet (fail)
                go_wp2
                go_ret
                exact ⟨by rw [HM.out]; rfl, gb_drewN G3.out _⟩
              | true =>
                have HM := Lib.hid (MO.out rfl)
                rw [f2, f6, Bool.true_and, Bool.true_and] at HM
                obtain ⟨b, rfl⟩ : ∃ b : Nat, LI = b := ⟨LI.toNat, by have := PO.out rfl; omega⟩
                rw [Int.toNat_natCast] at HM
                have hbk : (b : Int) < (len : Int) := by omega
                have hb6 : (b : Int) < 1000000 := by omega
                clear h1 h7 h2 h6 MO MS PO
                have OW := Lib.hid (own_any (e b) (e k))
                generalize ownE (e b) (e k) = q at *
                go_upto_region 21 with (first | (go_at_call 39; refine (LA.out _ (HL.out.grown G1.out)).mono ?_; rintro r u1 ⟨rfl, g1⟩; have E2 := Lib.hid (E1.out.grown g1.out (by simp)); have G2 := Lib.hid (gb_trans G1.out g1.out)) | (go_at_call 40; refine (OA.out _ (HL.out.grown G2.out)).mono ?_; rintro r u2 ⟨rfl, g2⟩; have E3 := Lib.hid (E2.out.grown g2.out (by simp)); have G3 := Lib.hid (gb_trans G2.out g2.out); have p3 := E3.out.lt; have y0 : u2.cell? ⟨p, 0, none⟩ = some (.int .i64 (e k).k) := E3.out.cell 0; have y1 : u2.cell? ⟨p, 1, none⟩ = some (.int .i64 (e k).th) := E3.out.cell 1; have y2 : u2.cell? ⟨p, 2, none⟩ = some (.int .i64 (e k).tx) := E3.out.cell 2; have y3 : u2.cell? ⟨p, 3, none⟩ = some (.int .i64 (e k).at_) := E3.out.cell 3; have y4 : u2.cell? ⟨p, 4, none⟩ = some (.int .i64 (e k).ob) := E3.out.cell 4; have y5 : u2.cell? ⟨p, 5, none⟩ = some (.int .i64 (e k).va) := E3.out.cell 5; have y6 : u2.cell? ⟨p, 6, none⟩ = some (.int .i64 (e k).re) := E3.out.cell 6) | go_in)
                obtain ⟨d0, d1, d2, d3, d4, d5, d6⟩ := evsIn (HL.out.grown G3.out) (show b < len by omega)
                clear x0 x1 x2 x3 x4 x5 x6
                cases q with
                | true =>
                  have HY := Lib.hid (YES.out HM.out)
                  go_region_held3 (fun w' => w'.cell? ⟨eb, off + b * 7, none⟩ = some (.int .i64 (e b).k) ∧ w'.cell? ⟨eb, off + b * 7 + 1, none⟩ = some (.int .i64 (e b).th) ∧ w'.cell? ⟨eb, off + b * 7 + 2, none⟩ = some (.int .i64 (e b).tx) ∧ w'.cell? ⟨eb, off + b * 7 + 3, none⟩ = some (.int .i64 (e b).at_) ∧ w'.cell? ⟨eb, off + b * 7 + 4, none⟩ = some (.int .i64 (e b).ob) ∧ w'.cell? ⟨eb, off + b * 7 + 5, none⟩ = some (.int .i64 (e b).va) ∧ w'.cell? ⟨eb, off + b * 7 + 6, none⟩ = some (.int .i64 (e b).re) ∧ w'.cell? ⟨p, 0, none⟩ = some (.int .i64 ((e k).k)) ∧ w'.cell? ⟨p, 1, none⟩ = some (.int .i64 ((e k).th)) ∧ w'.cell? ⟨p, 2, none⟩ = some (.int .i64 ((e k).tx)) ∧ w'.cell? ⟨p, 3, none⟩ = some (.int .i64 ((e k).at_)) ∧ w'.cell? ⟨p, 4, none⟩ = some (.int .i64 ((e k).ob)) ∧ w'.cell? ⟨p, 5, none⟩ = some (.int .i64 ((e k).va)) ∧ w'.cell? ⟨p, 6, none⟩ = some (.int .i64 ((e k).re))) (go_keep) ((go_at_call 41; refine (OW.out _).mono ?_; rintro r u3 ⟨rfl, g3⟩; have m0 := g3.out.cell d0 (by simp); have m1 := g3.out.cell d1 (by simp); have m2 := g3.out.cell d2 (by simp); have m3 := g3.out.cell d3 (by simp); have m4 := g3.out.cell d4 (by simp); have m5 := g3.out.cell d5 (by simp); have m6 := g3.out.cell d6 (by simp); have n0 := g3.out.cell y0 (by simp); have n1 := g3.out.cell y1 (by simp); have n2 := g3.out.cell y2 (by simp); have n3 := g3.out.cell y3 (by simp); have n4 := g3.out.cell y4 (by simp); have n5 := g3.out.cell y5 (by simp); have n6 := g3.out.cell y6 (by simp)))
                  go_wp2
                  go_roundw
                  case rel => exact ⟨k + 1, by omega, by go_num, HY, gb_trans (gb_drew G3.out) g3.out⟩
                  case measure => simp [intOf] <;> omega
                | false =>
                  have HY := Lib.hid (NO.out HM.out)
                  go_region_held3 (fun w' => w'.cell? ⟨eb, off + b * 7, none⟩ = some (.int .i64 (e b).k) ∧ w'.cell? ⟨eb, off + b * 7 + 1, none⟩ = some (.int .i64 (e b).th) ∧ w'.cell? ⟨eb, off + b * 7 + 2, none⟩ = some (.int .i64 (e b).tx) ∧ w'.cell? ⟨eb, off + b * 7 + 3, none⟩ = some (.int .i64 (e b).at_) ∧ w'.cell? ⟨eb, off + b * 7 + 4, none⟩ = some (.int .i64 (e b).ob) ∧ w'.cell? ⟨eb, off + b * 7 + 5, none⟩ = some (.int .i64 (e b).va) ∧ w'.cell? ⟨eb, off + b * 7 + 6, none⟩ = some (.int .i64 (e b).re) ∧ w'.cell? ⟨p, 0, none⟩ = some (.int .i64 ((e k).k)) ∧ w'.cell? ⟨p, 1, none⟩ = some (.int .i64 ((e k).th)) ∧ w'.cell? ⟨p, 2, none⟩ = some (.int .i64 ((e k).tx)) ∧ w'.cell? ⟨p, 3, none⟩ = some (.int .i64 ((e k).at_)) ∧ w'.cell? ⟨p, 4, none⟩ = some (.int .i64 ((e k).ob)) ∧ w'.cell? ⟨p, 5, none⟩ = some (.int .i64 ((e k).va)) ∧ w'.cell? ⟨p, 6, none⟩ = some (.int .i64 ((e k).re))) (go_keep) ((go_at_call 41; refine (OW.out _).mono ?_; rintro r u3 ⟨rfl, g3⟩; have m0 := g3.out.cell d0 (by simp); have m1 := g3.out.cell d1 (by simp); have m2 := g3.out.cell d2 (by simp); have m3 := g3.out.cell d3 (by simp); have m4 := g3.out.cell d4 (by simp); have m5 := g3.out.cell d5 (by simp); have m6 := g3.out.cell d6 (by simp); have n0 := g3.out.cell y0 (by simp); have n1 := g3.out.cell y1 (by simp); have n2 := g3.out.cell y2 (by simp); have n3 := g3.out.cell y3 (by simp); have n4 := g3.out.cell y4 (by simp); have n5 := g3.out.cell y5 (by simp); have n6 := g3.out.cell y6 (by simp)))
                  go_wp2
                  go_ret
                  exact ⟨by rw [HY.out]; rfl, gb_trans (gb_drew G3.out) g3.out⟩
            · have f6 : decide ((e k).k ≤ 6) = false := by simpa using h6
              have HM := Lib.hid (NO.out (by cases o with | true => rw [MO.out rfl, f6]; simp | false => rw [MS.out rfl]; simp [h1, h7]))
              clear h1 h7 h2 h6
              go_wp2_with (first | (go_at_call 39; refine (LA.out _ (HL.out.grown G1.out)).mono ?_; rintro r u1 ⟨rfl, g1⟩; have E2 := Lib.hid (E1.out.grown g1.out (by simp)); have G2 := Lib.hid (gb_trans G1.out g1.out)) | (go_at_call 40; refine (OA.out _ (HL.out.grown G2.out)).mono ?_; rintro r u2 ⟨rfl, g2⟩; have E3 := Lib.hid (E2.out.grown g2.out (by simp)); have G3 := Lib.hid (gb_trans G2.out g2.out); have p3 := E3.out.lt; have y0 : u2.cell? ⟨p, 0, none⟩ = some (.int .i64 (e k).k) := E3.out.cell 0; have y1 : u2.cell? ⟨p, 1, none⟩ = some (.int .i64 (e k).th) := E3.out.cell 1; have y2 : u2.cell? ⟨p, 2, none⟩ = some (.int .i64 (e k).tx) := E3.out.cell 2; have y3 : u2.cell? ⟨p, 3, none⟩ = some (.int .i64 (e k).at_) := E3.out.cell 3; have y4 : u2.cell? ⟨p, 4, none⟩ = some (.int .i64 (e k).ob) := E3.out.cell 4; have y5 : u2.cell? ⟨p, 5, none⟩ = some (.int .i64 (e k).va) := E3.out.cell 5; have y6 : u2.cell? ⟨p, 6, none⟩ = some (.int .i64 (e k).re) := E3.out.cell 6) | go_in)
              go_ret
              exact ⟨by rw [HM.out]; rfl, G3.out⟩
          · have f2 : decide (2 ≤ (e k).k) = false := by simpa using h2
            have HM := Lib.hid (NO.out (by cases o with | true => rw [MO.out rfl, f2]; simp | false => rw [MS.out rfl]; simp [h1, h7]))
            clear h1 h7 h2
            go_wp2_with (first | (go_at_call 39; refine (LA.out _ (HL.out.grown G1.out)).mono ?_; rintro r u1 ⟨rfl, g1⟩; have E2 := Lib.hid (E1.out.grown g1.out (by simp)); have G2 := Lib.hid (gb_trans G1.out g1.out)) | (go_at_call 40; refine (OA.out _ (HL.out.grown G2.out)).mono ?_; rintro r u2 ⟨rfl, g2⟩; have E3 := Lib.hid (E2.out.grown g2.out (by simp)); have G3 := Lib.hid (gb_trans G2.out g2.out); have p3 := E3.out.lt; have y0 : u2.cell? ⟨p, 0, none⟩ = some (.int .i64 (e k).k) := E3.out.cell 0; have y1 : u2.cell? ⟨p, 1, none⟩ = some (.int .i64 (e k).th) := E3.out.cell 1; have y2 : u2.cell? ⟨p, 2, none⟩ = some (.int .i64 (e k).tx) := E3.out.cell 2; have y3 : u2.cell? ⟨p, 3, none⟩ = some (.int .i64 (e k).at_) := E3.out.cell 3; have y4 : u2.cell? ⟨p, 4, none⟩ = some (.int .i64 (e k).ob) := E3.out.cell 4; have y5 : u2.cell? ⟨p, 5, none⟩ = some (.int .i64 (e k).va) := E3.out.cell 5; have y6 : u2.cell? ⟨p, 6, none⟩ = some (.int .i64 (e k).re) := E3.out.cell 6) | go_in)
            go_ret
            exact ⟨by rw [HM.out]; rfl, G3.out⟩
    · obtain rfl : k = len := by omega
      go_wp2
      go_ret
      exact ⟨by rw [HR.out]; rfl, G.out⟩
end Go.Proofs.Ytdohepenmejcaaa.hs

/- The tries of a trace's beginning, and those of the trace. Of no program, and of no memory. -/
namespace Go.Proofs.Ytdohepenmejcaaa.base
open Go

theorem stepT_ac (t : Tr) (i : Nat) (e : Ev) : t.ac.length ≤ (stepT t i e).ac.length := by
  unfold stepT
  repeat' split
  all_goals simp [relAll]
theorem trAt_ac (e : Evs) (b : Nat) : ∀ i j, (trAt e b i).ac.length ≤ (trAt e b (i + j)).ac.length
  | _, 0 => Nat.le_refl _
  | i, j + 1 => by
    have ih := trAt_ac e b i j
    rw [← Nat.add_assoc, trAt]
    split
    · exact Nat.le_trans ih (stepT_ac _ _ _)
    · exact ih

/-- What begins ahead of a place, begins ahead of a later one, first. -/
theorem begins_pre (e : Evs) (m j : Nat) : ∃ r, begins e (m + j) = begins e m ++ r := by
  unfold begins
  rw [List.range_add, List.filter_append]
  exact ⟨_, rfl⟩

theorem tries_len (e : Evs) {m n : Nat} (h : m ≤ n) : (tries e m).length ≤ (tries e n).length := by
  obtain ⟨r, hr⟩ := begins_pre e m (n - m)
  rw [show m + (n - m) = n by omega] at hr
  unfold tries
  rw [List.length_map, List.length_map, hr, List.length_append]
  omega
theorem begins_n (e : Evs) (n : Nat) : (begins e n).length ≤ n := by
  unfold begins
  have := List.length_filter_le (fun i => decide ((e i).k = 1)) (List.range n)
  rwa [List.length_range] at this
theorem tries_n (e : Evs) (n : Nat) : (tries e n).length ≤ n := by
  unfold tries
  rw [List.length_map]
  exact begins_n e n

/-- A beginning's tries are the trace's own first ones: what had ended stands as it was, and none did less. -/
theorem tries_pre (e : Evs) {m n : Nat} (h : m ≤ n) {i : Nat} {x y : Tr} (hx : (tries e m)[i]? = some x) (hy : (tries e n)[i]? = some y) : x.b = y.b ∧ (0 ≤ x.en → x.en = y.en) ∧ x.ac.length ≤ y.ac.length := by
  obtain ⟨r, hr⟩ := begins_pre e m (n - m)
  rw [show m + (n - m) = n by omega] at hr
  unfold tries at hx hy
  rw [List.getElem?_map, Option.map_eq_some_iff] at hx hy
  obtain ⟨b, hb, rfl⟩ := hx
  obtain ⟨c, hc, rfl⟩ := hy
  have hl : i < (begins e m).length := (List.getElem?_eq_some_iff.1 hb).1
  rw [hr, List.getElem?_append_left hl, hb] at hc
  cases hc
  refine ⟨by rw [(trAt_fix e b m).2.2.2.2, (trAt_fix e b n).2.2.2.2], fun h0 => by rw [trAt_end e b h0 h], ?_⟩
  have := trAt_ac e b m (n - m)
  rwa [show m + (n - m) = n by omega] at this

/-- What was sorted by the beginnings: the tries, one by one. -/
theorem sorted_tries (e : Evs) {n : Nat} {β : Type} {ys : List (Tr × β)} (h2 : (ys.map Prod.fst).Perm (tries e n)) (h3 : (ys.map Prod.fst).Pairwise (fun x y => x.b ≤ y.b)) : ys.map Prod.fst = tries e n :=
  sorted_one Tr.b h2 (tries_sorted e n) (h3.imp fun h => by omega)
end Go.Proofs.Ytdohepenmejcaaa.base

/- The document's own tries of chapter 17: plain facts. -/
namespace Go.Proofs.Ytdohepenmejcaaa.hs
open Go Go.RowKit Go.Proofs.Ytdohepenmejcaaa.base Go.Maps
set_option linter.unusedVariables false
set_option maxRecDepth 100000

theorem wp_pcs {P : Program} {c c' : Code} {Q : Exit → Act → World → Prop} {a : Act} {w : World} (h : c = c') (hw : Code.wp P c' Q a w) : Code.wp P c Q a w := h ▸ hw
theorem own_flip {w0 w : World} {A B : Blks} (h : base.Own w0 w (A ++ B)) : base.Own w0 w (B ++ A) := h.perm List.perm_append_comm
theorem owns_zero {base : Nat} {e : TypeId} {sz : Nat} {w : World} {v : Value} {n : Nat} {xs : List Value} (h : w.ownsRow base e sz v n xs) : w.ownsRow 0 e sz v n xs := by
  refine ⟨h.1, ?_⟩
  rcases h.2 with h | ⟨g, cap, cur, h1, _, h3⟩
  · exact .inl h
  · exact .inr ⟨g, cap, cur, h1, Nat.zero_le _, h3⟩

/-- What the document's loop does to a try at a place. -/
theorem doc_step (e : Evs) {len b k : Nat} (hr : right e len = true) (hk1 : (e b).k = 1) (hbk : b < k) (hkl : k < len) (hen : (trAt e b k).en < 0) : trAt e b (k + 1) = if ownE (e b) (e k) = true then base.stepT (trAt e b k) k (e k) else trAt e b k := by
  have h1 := docAt_eq e b hk1 (k + 1) (right_le e hr (k + 1) hkl)
  have h0 := docAt_eq e b hk1 k (right_le e hr k (by omega))
  rw [docAt, h0] at h1
  rw [← h1]
  by_cases h : ownE (e b) (e k) = true
  · rw [if_pos ⟨hbk, h, hen⟩, if_pos h]
  · rw [if_neg (fun h2 => h h2.2.1), if_neg h]

theorem stepT_2 (t : Tr) (i : Nat) {e : Ev} (h : e.k = 2) : base.stepT t i e = { t with ac := t.ac ++ [⟨i, 2, e.ob, e.va, wrote t.ac e.ob, false⟩] } := by unfold base.stepT; rw [if_pos h]
theorem stepT_3 (t : Tr) (i : Nat) {e : Ev} (h : e.k = 3) : base.stepT t i e = { t with ac := t.ac ++ [⟨i, 3, e.ob, e.va, false, false⟩] } := by unfold base.stepT; rw [if_neg (by omega), if_pos h]
theorem stepT_4 (t : Tr) (i : Nat) {e : Ev} (h : e.k = 4) : base.stepT t i e = { t with ac := relAll t.ac e.ob } := by unfold base.stepT; rw [if_neg (by omega), if_neg (by omega), if_pos h]
theorem stepT_5 (t : Tr) (i : Nat) {e : Ev} (h : e.k = 5) : base.stepT t i e = { t with en := i, co := true } := by unfold base.stepT; rw [if_neg (by omega), if_neg (by omega), if_neg (by omega), if_pos h]
theorem stepT_6 (t : Tr) (i : Nat) {e : Ev} (h : e.k = 6) : base.stepT t i e = { t with en := i, re := e.re } := by unfold base.stepT; rw [if_neg (by omega), if_neg (by omega), if_neg (by omega), if_neg (by omega), if_pos h]
theorem stepT_no (t : Tr) (i : Nat) {e : Ev} (h2 : e.k ≠ 2) (h3 : e.k ≠ 3) (h4 : e.k ≠ 4) (h5 : e.k ≠ 5) (h6 : e.k ≠ 6) : base.stepT t i e = t := by unfold base.stepT; rw [if_neg h2, if_neg h3, if_neg h4, if_neg h5, if_neg h6]

theorem wrote_take {l : List Acc} {n : Nat} {a : Acc} (h : l[n]? = some a) (o : Int) : wrote (l.take (n + 1)) o = (wrote (l.take n) o || (decide (a.k = 3) && decide (a.ob = o))) := by
  rw [List.take_add_one, h]
  simp [wrote]
theorem wrote_all (l : List Acc) (o : Int) : wrote (l.take l.length) o = wrote l o := by rw [List.take_length]
theorem wrote_zero (l : List Acc) (o : Int) : wrote (l.take 0) o = false := rfl

/-- The readings of an object among the first n accesses are released. -/
def relN (l : List Acc) (o : Int) (n : Nat) : List Acc := (l.take n).map (Acc.free o) ++ l.drop n
theorem relN_zero (l : List Acc) (o : Int) : relN l o 0 = l := by simp [relN]
theorem relN_all (l : List Acc) (o : Int) : relN l o l.length = relAll l o := by simp [relN, relAll]
theorem relN_len (l : List Acc) (o : Int) (n : Nat) : (relN l o n).length = l.length := by simp [relN]; omega
theorem relN_get {l : List Acc} {o : Int} {n : Nat} (h : n < l.length) : (relN l o n)[n]? = some l[n] := by
  unfold relN
  rw [List.getElem?_append_right (by simp; omega)]
  simp [Nat.min_eq_left (Nat.le_of_lt h)]
theorem setRel_mid (x : Acc) (B : List Acc) : ∀ A : List Acc, setRel (A ++ x :: B) A.length = A ++ { x with rel := true } :: B
  | [] => by simp [setRel]
  | a :: A => by
    rw [List.cons_append, List.length_cons, setRel_cons, setRel_mid x B A]
    rfl
theorem relN_step {l : List Acc} {o : Int} {n : Nat} (h : n < l.length) : relN l o (n + 1) = if l[n].k = 2 ∧ l[n].ob = o then setRel (relN l o n) n else relN l o n := by
  have e1 : relN l o (n + 1) = (l.take n).map (Acc.free o) ++ Acc.free o l[n] :: l.drop (n + 1) := by
    unfold relN
    rw [List.take_add_one, List.getElem?_eq_getElem h, List.map_append, List.append_assoc]
    rfl
  have e2 : relN l o n = (l.take n).map (Acc.free o) ++ l[n] :: l.drop (n + 1) := by
    unfold relN
    rw [List.drop_eq_getElem_cons h]
  have e3 : ((l.take n).map (Acc.free o)).length = n := by simp; omega
  rw [e1]
  split
  · next hc =>
    rw [e2]
    have e4 := setRel_mid l[n] (l.drop (n + 1)) ((l.take n).map (Acc.free o))
    rw [e3] at e4
    rw [e4]
    simp [Acc.free, hc]
  · next hc =>
    rw [e2]
    simp [Acc.free, hc]

/-- The tries of ys lie there, each with its accesses, wherever. -/
def TsAt (w : World) (a : Option Addr) (ys : List (Tr × Value)) : Prop :=
  (∀ i x, ys[i]? = some x → ∃ b off, a = some ⟨b, off, none⟩ ∧ b < w.heap.size ∧ ∀ j u, (tvC x)[j]? = some u → w.cell? ⟨b, off + i * 9 + j, none⟩ = some u) ∧
  ∀ x ∈ ys, ∃ va vc, x.2 = .slice va x.1.ac.length vc ∧ IsL accC w va x.1.ac
theorem TsAt.grown {w w' : World} {a : Option Addr} {ys : List (Tr × Value)} (h : TsAt w a ys) (g : w.grownBy w' none) : TsAt w' a ys := by
  refine ⟨fun i x hx => ?_, fun x hx => ?_⟩
  · obtain ⟨b, off, h1, h2, h3⟩ := h.1 i x hx
    exact ⟨b, off, h1, Nat.lt_of_lt_of_le h2 g.size, fun j u hu => g.cell (h3 j u hu) (by simp)⟩
  · obtain ⟨va, vc, h1, h2⟩ := h.2 x hx
    exact ⟨va, vc, h1, h2.grown g⟩
theorem TsAt.of_isTries {w : World} {a : Option Addr} {ys : List (Tr × Value)} (h : IsTries w a ys) : TsAt w a ys := by
  obtain ⟨h1, h2⟩ := h
  refine ⟨fun i x hx => ?_, fun x hx => ?_⟩
  · rcases h1 with rfl | ⟨g, rfl, hg, hc⟩
    · simp at hx
    · exact ⟨g, 0, rfl, hg, fun j u hu => by rw [Nat.zero_add]; exact hc i x hx j u hu⟩
  · have h3 := h2 x hx
    obtain ⟨va, vc, hv⟩ := owns_slice h3
    exact ⟨va, vc, hv, IsL.of_own (by rw [← hv]; exact h3) accC_len rfl⟩
theorem TsAt.of_row {w0 w : World} {e : TypeId} {v : Value} {ys : List (Tr × Value)} {L R : Blks} (h : Row tvC 9 e ys v L) (o : base.Own w0 w (L ++ R)) (ha : ∀ x ∈ ys, ∃ va vc, x.2 = .slice va x.1.ac.length vc ∧ IsL accC w va x.1.ac) : ∃ a c, v = .slice a ys.length c ∧ TsAt w a ys := by
  obtain ⟨a, c, hv, hi⟩ := h.isL tvC_len o
  exact ⟨a, c, hv, fun i x hx => hi.at tvC_len hx, ha⟩
/-- The fields of a try, in their cells. -/
theorem TsAt.at {w : World} {a : Option Addr} {ys : List (Tr × Value)} (h : TsAt w a ys) {i : Nat} {x : Tr × Value} (hx : ys[i]? = some x) : ∃ b off va vc, a = some ⟨b, off, none⟩ ∧ b < w.heap.size ∧ x.2 = .slice va x.1.ac.length vc ∧ IsL accC w va x.1.ac ∧
    w.cell? ⟨b, off + i * 9, none⟩ = some (.int .i64 x.1.th) ∧ w.cell? ⟨b, off + i * 9 + 1, none⟩ = some (.int .i64 x.1.tx) ∧ w.cell? ⟨b, off + i * 9 + 2, none⟩ = some (.int .i64 x.1.at_) ∧ w.cell? ⟨b, off + i * 9 + 3, none⟩ = some (.int .i64 x.1.st) ∧ w.cell? ⟨b, off + i * 9 + 4, none⟩ = some (.int .i64 x.1.b) ∧ w.cell? ⟨b, off + i * 9 + 5, none⟩ = some (.int .i64 x.1.en) ∧ w.cell? ⟨b, off + i * 9 + 6, none⟩ = some (.int .i64 x.1.re) ∧ w.cell? ⟨b, off + i * 9 + 7, none⟩ = some (.bool x.1.co) ∧ w.cell? ⟨b, off + i * 9 + 8, none⟩ = some (.slice va x.1.ac.length vc) := by
  obtain ⟨b, off, h1, h2, h3⟩ := h.1 i x hx
  obtain ⟨va, vc, h4, h5⟩ := h.2 x (List.mem_of_getElem? hx)
  exact ⟨b, off, va, vc, h1, h2, h4, h5, h3 0 _ rfl, h3 1 _ rfl, h3 2 _ rfl, h3 3 _ rfl, h3 4 _ rfl, h3 5 _ rfl, h3 6 _ rfl, h3 7 _ rfl, by rw [← h4]; exact h3 8 _ rfl⟩
/-- An access, in its cells. -/
theorem accAt {w : World} {va : Option Addr} {l : List Acc} (h : IsL accC w va l) {j : Nat} {a : Acc} (hj : l[j]? = some a) : ∃ b off, va = some ⟨b, off, none⟩ ∧ b < w.heap.size ∧ w.cell? ⟨b, off + j * 6, none⟩ = some (.int .i64 a.pl) ∧ w.cell? ⟨b, off + j * 6 + 1, none⟩ = some (.int .i64 a.k) ∧ w.cell? ⟨b, off + j * 6 + 2, none⟩ = some (.int .i64 a.ob) ∧ w.cell? ⟨b, off + j * 6 + 3, none⟩ = some (.int .i64 a.va) ∧ w.cell? ⟨b, off + j * 6 + 4, none⟩ = some (.bool a.own) ∧ w.cell? ⟨b, off + j * 6 + 5, none⟩ = some (.bool a.rel) := by
  obtain ⟨b, off, h1, h2, h3⟩ := h.at accC_len hj
  exact ⟨b, off, h1, h2, h3 0 _ rfl, h3 1 _ rfl, h3 2 _ rfl, h3 3 _ rfl, h3 4 _ rfl, h3 5 _ rfl⟩
/-- Accesses of one's own, as long as only others' blocks are written. -/
theorem isL_owns {w : World} {v : Value} {t : Tr} {e : TypeId} {base : Nat} (h : w.ownsRow base e 6 v t.ac.length (rows accC t.ac)) : ∃ va vc, v = .slice va t.ac.length vc ∧ IsL accC w va t.ac := by
  obtain ⟨va, vc, hv⟩ := owns_slice h
  exact ⟨va, vc, hv, IsL.of_own (by rw [← hv]; exact h) accC_len rfl⟩

/-- Rows of two types have no block in common. -/
theorem owns_other {w w' : World} {b1 b2 : Nat} {E1 E2 : TypeId} {s1 s2 n1 n2 : Nat} {v1 v2 : Value} {x1 x2 : List Value} (h1 : w.ownsRow b1 E1 s1 v1 n1 x1) (h2 : w.ownsRow b2 E2 s2 v2 n2 x2) (hne : E1 ≠ E2) (g : w.grownBy w' v2.ownBlock) : w'.ownsRow b1 E1 s1 v1 n1 x1 := by
  refine ownsRow_keep h1 (fun k e => g.block k (h1.lt k e).2 (fun e2 => ?_))
  obtain ⟨cs, hc⟩ := ownsRow_type h1 e
  obtain ⟨ds, hd⟩ := ownsRow_type h2 e2.symm
  rw [hc] at hd
  injection hd with hd
  injection hd with _ hd
  exact hne hd
/-- One more try, and its accesses. -/
theorem acs_snoc {u w w' : World} {E E2 : TypeId} {b2 s2 n2 : Nat} {v2 : Value} {x2 : List Value} {ys : List (Tr × Value)} {x : Tr × Value} {base : Nat} (hy : ∀ y ∈ ys, u.ownsRow 0 E 6 y.2 y.1.ac.length (rows accC y.1.ac)) (g : u.grownBy w none) (hx : w.ownsRow base E 6 x.2 x.1.ac.length (rows accC x.1.ac)) (h2 : w.ownsRow b2 E2 s2 v2 n2 x2) (hne : E ≠ E2) (g2 : w.grownBy w' v2.ownBlock) : ∀ y ∈ ys ++ [x], w'.ownsRow 0 E 6 y.2 y.1.ac.length (rows accC y.1.ac) := by
  intro y hm
  rcases List.mem_append.1 hm with hm | hm
  · exact owns_other (ownsRow_keep (hy y hm) (fun k e => g.block k ((hy y hm).lt k e).2 (by simp))) h2 hne g2
  · have : y = x := by simpa using hm
    subst this
    exact owns_other (owns_zero hx) h2 hne g2

/-- One of one's own accesses is marked as released. -/
theorem row_mark {w0 w : World} {E : TypeId} {l : List Acc} {g m cap n : Nat} {L R : Blks} (h : Row accC 6 E l (.slice (some ⟨g, 0, none⟩) m cap) L) (hm : m = l.length) (o : base.Own w0 w (L ++ R)) (hn : n < l.length) :
    ∃ L', Row accC 6 E (setRel l n) (.slice (some ⟨g, 0, none⟩) m cap) L' ∧ base.Own w0 (w.setCell ⟨g, n * 6 + 5, none⟩ (.bool true)) (L' ++ R) := by
  subst hm
  obtain ⟨cur, h1, h2, h3, h4, h5⟩ := h.open o
  have hb : Blk E (w.setCell ⟨g, n * 6 + 5, none⟩ (.bool true)) g ⟨cur.set (n * 6 + 5) (.bool true)⟩ := by simpa using h1.set (n * 6 + 5) (.bool true)
  obtain ⟨L', r1, r2⟩ := Row.write (l' := setRel l n) h o (gb_setB (gb_refl w _) (.bool true)) hb (by rw [List.length_set]; exact h2) (by rw [setRel_len]; exact h3) (by rw [setRel_len, List.take_set, h5, rows_setRel l n hn])
  rw [setRel_len] at r1
  exact ⟨L', r1, r2⟩
theorem row_free {w0 w : World} {E : TypeId} {l : List Acc} {g m cap : Nat} {L R : Blks} (h : Row accC 6 E l (.slice (some ⟨g, 0, none⟩) m cap) L) (hm : m = l.length) (o : base.Own w0 w (L ++ R)) (j : Nat) : w.frozen? ⟨g, j, none⟩ = false := by
  subst hm
  obtain ⟨cur, h1, _⟩ := h.open o
  exact h1.free j

theorem begins_succ (e : Evs) (n : Nat) : begins e (n + 1) = if (e n).k = 1 then begins e n ++ [n] else begins e n := by
  unfold begins
  rw [List.range_succ, List.filter_append]
  by_cases h : (e n).k = 1
  · rw [if_pos h]
    simp [h]
  · rw [if_neg h]
    simp [h]
end Go.Proofs.Ytdohepenmejcaaa.hs

/- States of a beginning of a trace; lists of states as they lie; are they the same? -/
namespace Go.Proofs.Ytdohepenmejcaaa.md
open Go Go.RowKit Go.Proofs.Ytdohepenmejcaaa.base Go.Proofs.Ytdohepenmejcaaa.hs Go.Proofs.Ytdohepenmejcaaa.lg Go.Maps
set_option linter.unusedVariables false
set_option maxRecDepth 100000

theorem map_filter_same {α β : Type} (p : β → Bool) (f g : α → β) : ∀ l : List α, (∀ b ∈ l, (p (f b) = false ∧ p (g b) = false) ∨ f b = g b) → (l.map f).filter p = (l.map g).filter p
  | [], _ => rfl
  | b :: l, h => by
    have ih := map_filter_same p f g l (fun x hx => h x (List.mem_cons_of_mem _ hx))
    simp only [List.map_cons, List.filter_cons]
    rcases h b (by simp) with ⟨h1, h2⟩ | h1
    · rw [h1, h2, ih]; simp
    · rw [h1, ih]

theorem tries_at_end (e : Evs) (n i : Nat) (hi : i < n) : (tries e (n + 1)).filter (fun t => t.co && decide (t.en = (i : Int))) = (tries e n).filter (fun t => t.co && decide (t.en = (i : Int))) := by
  have key : ((begins e n).map fun b => trAt e b (n + 1)).filter (fun t => t.co && decide (t.en = (i : Int))) = ((begins e n).map fun b => trAt e b n).filter (fun t => t.co && decide (t.en = (i : Int))) := by
    refine map_filter_same _ _ _ _ fun b hb => ?_
    by_cases h : 0 ≤ (trAt e b n).en
    · exact .inr (trAt_end e b h (Nat.le_succ n))
    · left
      have h1 : ¬ (trAt e b n).en = (i : Int) := by omega
      refine ⟨?_, by simp [h1]⟩
      have h2 : ¬ (trAt e b (n + 1)).en = (i : Int) := by
        rw [trAt]
        split
        · rw [stepT_en]
          split
          · omega
          · exact h1
        · exact h1
      simp [h2]
  unfold tries
  rw [begins_succ]
  split
  · rw [List.map_append, List.filter_append, key]
    have h0 : trAt e n (n + 1) = init n (e n) := trAt_init e n (n + 1) (Nat.le_refl _)
    simp [h0, init]
  · exact key

theorem commsD_succ (e : Evs) (n : Nat) : commsD e (n + 1) = commsD e n ++ (tries e (n + 1)).filter (fun t => t.co && decide (t.en = (n : Int))) := by
  unfold commsD
  rw [List.range_succ, List.flatMap_append]
  congr 1
  · have h : ∀ l : List Nat, (∀ i ∈ l, i < n) → l.flatMap (fun (i : Nat) => (tries e (n + 1)).filter (fun t => t.co && decide (t.en = (i : Int)))) = l.flatMap (fun (i : Nat) => (tries e n).filter (fun t => t.co && decide (t.en = (i : Int)))) := by
      intro l
      induction l with
      | nil => intro _; rfl
      | cons i l ih =>
        intro h
        rw [List.flatMap_cons, List.flatMap_cons, tries_at_end e n i (h i (by simp)), ih (fun x hx => h x (List.mem_cons_of_mem _ hx))]
    exact h _ (fun i hi => List.mem_range.1 hi)
  · simp
theorem commsD_pre (e : Evs) (m : Nat) : ∀ j, ∃ R, commsD e (m + j) = commsD e m ++ R
  | 0 => ⟨[], by simp⟩
  | j + 1 => by
    obtain ⟨R, h⟩ := commsD_pre e m j
    exact ⟨R ++ _, by rw [← Nat.add_assoc, commsD_succ, h, List.append_assoc]⟩
theorem cacs_pre (e : Evs) {m n : Nat} (hr : right e n = true) (hm : m ≤ n) : ∃ R, cacs e n = cacs e m ++ R := by
  obtain ⟨R, h⟩ := commsD_pre e m (n - m)
  rw [show m + (n - m) = n by omega] at h
  exact ⟨R.map Tr.ac, by unfold cacs; rw [if_pos hr, if_pos (right_le e hr m hm), h, List.map_append]⟩
theorem cacs_before (e : Evs) {n : Nat} (hr : right e n = true) : (cacs e n).length = before e n := by
  unfold cacs
  rw [if_pos hr, List.length_map, (commsD_perm e hr).length_eq, comms_before e hr]
theorem cacs_len (e : Evs) (n : Nat) : (cacs e n).length ≤ n := by
  unfold cacs
  split
  · next hr =>
    rw [List.length_map, (commsD_perm e hr).length_eq]
    exact Nat.le_trans (List.length_filter_le _ _) (tries_n' e n)
  · exact Nat.zero_le _

/-- m lists of n numbers lie there, wherever. -/
def StsAt (w : World) (a : Option Addr) (m n : Nat) (F : Nat → Nat → Int) : Prop :=
  m = 0 ∨ ∃ b off, a = some ⟨b, off, none⟩ ∧ b < w.heap.size ∧ ∀ i, i < m → ∃ ai ci, w.cell? ⟨b, off + i, none⟩ = some (.slice ai n ci) ∧ IsNums .i64 w ai n (F i)
theorem StsAt.keep {w w' : World} {a : Option Addr} {m n : Nat} {F : Nat → Nat → Int} (h : StsAt w a m n F) (g : ∀ k, k < w.heap.size → w'.heap[k]? = w.heap[k]?) (hs : w.heap.size ≤ w'.heap.size) : StsAt w' a m n F := by
  rcases h with h | ⟨b, off, h1, h2, h3⟩
  · exact .inl h
  · refine .inr ⟨b, off, h1, by omega, fun i hi => ?_⟩
    obtain ⟨ai, ci, h4, h5⟩ := h3 i hi
    exact ⟨ai, ci, (World.cell?_of_block (g b h2)).trans h4, h5.keep (fun k _ _ hk => g k hk) hs⟩
theorem StsAt.grown {w w' : World} {a : Option Addr} {m n : Nat} {F : Nat → Nat → Int} (h : StsAt w a m n F) (g : w.grownBy w' none) : StsAt w' a m n F := h.keep (fun k hk => g.block k hk (by simp)) g.size
theorem StsAt.below {w w' : World} {a : Option Addr} {m n : Nat} {F : Nat → Nat → Int} (h : StsAt w a m n F) (g : Below w.heap.size w w') : StsAt w' a m n F := h.keep (fun k hk => g.block k hk) g.size
theorem StsAt.less {w : World} {a : Option Addr} {m n k : Nat} {F : Nat → Nat → Int} (h : StsAt w a m n F) (hk : k ≤ m) : StsAt w a k n F := by
  rcases h with h | ⟨b, off, h1, h2, h3⟩
  · exact .inl (by omega)
  · exact .inr ⟨b, off, h1, h2, fun i hi => h3 i (by omega)⟩
theorem StsAt.congr {w : World} {a : Option Addr} {m n : Nat} {F G : Nat → Nat → Int} (h : StsAt w a m n F) (e : ∀ i, i < m → F i = G i) : StsAt w a m n G := by
  rcases h with h | ⟨b, off, h1, h2, h3⟩
  · exact .inl h
  · refine .inr ⟨b, off, h1, h2, fun i hi => ?_⟩
    rw [← e i hi]
    exact h3 i hi
theorem StsAt.at {w : World} {a : Option Addr} {m n i : Nat} {F : Nat → Nat → Int} (h : StsAt w a m n F) (hi : i < m) : ∃ b off ai ci, a = some ⟨b, off, none⟩ ∧ b < w.heap.size ∧ w.cell? ⟨b, off + i, none⟩ = some (.slice ai n ci) ∧ IsNums .i64 w ai n (F i) := by
  rcases h with h | ⟨b, off, h1, h2, h3⟩
  · omega
  · obtain ⟨ai, ci, h4, h5⟩ := h3 i hi
    exact ⟨b, off, ai, ci, h1, h2, h4, h5⟩
theorem StsAt.of_rows {w : World} {B B' : Nat} {a : Option Addr} {c n : Nat} {us : List Value} {F : Nat → Nat → Int} (h : w.ownsRow B 22 1 (.slice a us.length c) us.length us) (hu : ∀ i u, us[i]? = some u → RowAt w B' n (F i) u) : StsAt w a us.length n F := by
  rcases h.2 with ⟨_, h0⟩ | ⟨g, cap, cur, e, hb, hg, _⟩
  · exact .inl h0
  · injection e with e1 e2 e3
    subst e1
    refine .inr ⟨g, 0, rfl, lt_of_block hg, fun i hi => ?_⟩
    obtain ⟨ai, ci, h1, h2⟩ := hu i us[i] (List.getElem?_eq_getElem hi)
    refine ⟨ai, ci, ?_, ?_⟩
    · rw [Nat.zero_add, ← h1, ← List.getElem?_eq_getElem hi]
      exact h.cellAt i (by omega)
    · rw [h1] at h2
      exact IsNums.of_own h2

set_option maxHeartbeats 1000000 in
theorem sts_same (a b : Option Addr) (m n ca cb : Nat) (F : Nat → Nat → Int) (w : World) (ha : StsAt w a m n F) (hb : StsAt w b m n F) (hm : m ≤ 100000) (hn : n ≤ 100000) :
    Calls Try.prog 12 #[.slice a m ca, .slice b m cb] w fun e w' => e = .returned (.bool true) ∧ Hid (w.grownBy w' none) := by
  have HA := Lib.hid ha
  have HB := Lib.hid hb
  clear ha hb
  go_enter Try.func12, Try.ntmps12
  go_wp2
  go_loopw [5] (fun i wr => ∃ k : Nat, k ≤ m ∧ i = .int .i64 k ∧ Hid (w.grownBy wr none)) (fun i _ => (m - intOf i).toNat)
  case atStart => exact ⟨0, by omega, rfl, gb_refl _ _⟩
  case round =>
    obtain ⟨k, hk, rfl, G⟩ := hrel
    by_cases hlt : k < m
    · obtain ⟨b1, o1, a1, c1, rfl, hb1, d1, N1⟩ := (HA.out.grown G.out).at hlt
      obtain ⟨b2, o2, a2, c2, rfl, hb2, d2, N2⟩ := (HB.out.grown G.out).at hlt
      have hlt' : (k : Int) < (m : Int) := by omega
      have M1 := Lib.hid N1
      have M2 := Lib.hid N2
      clear N1 N2
      go_wp2_with fail
      go_region_held3 (fun w' => w'.cell? ⟨b1, o1 + k, none⟩ = some (.slice a1 n c1) ∧ w'.cell? ⟨b2, o2 + k, none⟩ = some (.slice a2 n c2)) (go_keep) ((go_at_call 13; refine (vals_yes _ _ n _ _ (F k) _ (M1.out.grown (gb_drew (gb_refl _ _))) (M2.out.grown (gb_drew (gb_refl _ _))) hn).mono ?_; rintro r u3 ⟨rfl, g3⟩; have x1 := g3.out.cell d1 (by simp); have x2 := g3.out.cell d2 (by simp)))
      go_wp2
      go_roundw
      case rel => exact ⟨k + 1, by omega, by go_num, gb_trans (gb_drew G.out) g3.out⟩
      case measure => simp [intOf]; omega
    · obtain rfl : k = m := by omega
      go_wp2
      go_ret
      exact ⟨rfl, G⟩
end Go.Proofs.Ytdohepenmejcaaa.md

/- Package model's Runs. -/
namespace Go.Proofs.Ytdohepenmejcaaa.md
open Go Go.RowKit Go.Proofs.Ytdohepenmejcaaa.base Go.Proofs.Ytdohepenmejcaaa.hs Go.Proofs.Ytdohepenmejcaaa.lg Go.Maps
set_option linter.unusedVariables false
set_option maxRecDepth 100000

/-- Is there a transaction of the try, and a right one? -/
def okA (A : List (List Txn)) (n : Nat) (t : Tr) : Bool :=
  match txnOf A t.th t.tx with
  | none => false
  | some x => rightB x.z x.n n
theorem txnOf_some {A : List (List Txn)} {th tx : Int} {x : Txn} (h : txnOf A th tx = some x) : ∃ (i j : Nat) (l : List Txn), A[i]? = some l ∧ l[j]? = some x ∧ th = (i : Int) ∧ tx = (j : Int) := by
  unfold txnOf at h
  split at h
  · next h0 =>
    cases hl : A[th.toNat]? with
    | none => rw [hl] at h; cases h
    | some l =>
      rw [hl] at h
      dsimp only [Option.bind] at h
      split at h
      · next h1 => exact ⟨th.toNat, tx.toNat, l, hl, h, by omega, by omega⟩
      · cases h
  · cases h
theorem okA_some {A : List (List Txn)} {n : Nat} {t : Tr} (h : okA A n t = true) : ∃ x, txnOf A t.th t.tx = some x ∧ rightB x.z x.n n = true := by
  unfold okA at h
  cases hx : txnOf A t.th t.tx with
  | none => rw [hx] at h; cases h
  | some x => rw [hx] at h; exact ⟨x, rfl, h⟩
theorem okT_no {A : List (List Txn)} {e : Evs} {len n : Nat} {s s' : Nat → Int} {t : Tr} (h : okA A n t = false) : okT A e len n s s' t = false := by
  unfold okA at h
  unfold okT
  cases hx : txnOf A t.th t.tx with
  | none => rfl
  | some x => rw [hx] at h; dsimp only at h ⊢; rw [h]; simp
theorem okT_some {A : List (List Txn)} {e : Evs} {len n : Nat} {s s' : Nat → Int} {t : Tr} {x : Txn} (h : txnOf A t.th t.tx = some x) (hr : rightB x.z x.n n = true) : okT A e len n s s' t = (!md.relN e t len && eqTo (run x.z s x.n).2 s' n) := by
  unfold okT
  rw [h]
  dsimp only
  rw [hr, Bool.and_true]

section
variable (a : Option Addr) (n c : Nat) (t : Tr) (av : Option Addr) (vc : Nat) (a2 : Option Addr) (cap2 : Nat) (A : List (List Txn)) (w : World)
theorem malone_no (hA : IsAll w a2 A) (z : Nat → Int) (hz : IsNums .i64 w a n z) (h : okA A n t = false) :
    Calls Try.prog 33 #[.slice a n c, .agg ⟨trC t (.slice av t.ac.length vc)⟩, .slice a2 A.length cap2] w fun r w' => r = .returned (.tuple #[.slice none 0 0, .bool false]) ∧ Hid (w.grownBy w' none) := by
  by_cases h1 : t.th < 0 ∨ (A.length : Int) ≤ t.th
  · exact malone_th a n c t av vc a2 cap2 A w h1
  obtain ⟨i, hi⟩ : ∃ i : Nat, t.th = (i : Int) := ⟨t.th.toNat, by omega⟩
  have hil : i < A.length := by omega
  by_cases h2 : t.tx < 0 ∨ (A[i].length : Int) ≤ t.tx
  · exact malone_tx a n c t av vc a2 cap2 A w hA i A[i] (List.getElem?_eq_getElem hil) hi h2
  obtain ⟨j, hj⟩ : ∃ j : Nat, t.tx = (j : Int) := ⟨t.tx.toNat, by omega⟩
  have hjl : j < A[i].length := by omega
  refine malone_bad a n c z t av vc a2 cap2 A w hz hA i j A[i] A[i][j] (List.getElem?_eq_getElem hil) (List.getElem?_eq_getElem hjl) hi hj ?_
  have hx : txnOf A t.th t.tx = some A[i][j] := by
    rw [hi, txnOf_in1 (List.getElem?_eq_getElem hil), if_pos (by omega), hj, Int.toNat_natCast]
    exact List.getElem?_eq_getElem hjl
  unfold okA at h
  rw [hx] at h
  exact h
theorem malone_ok (hA : IsAll w a2 A) (z : Nat → Int) (hz : IsNums .i64 w a n z) (hn : n ≤ 100000) (x : Txn) (hx : txnOf A t.th t.tx = some x) (hr : rightB x.z x.n n = true) :
    Calls Try.prog 33 #[.slice a n c, .agg ⟨trC t (.slice av t.ac.length vc)⟩, .slice a2 A.length cap2] w fun r w' => ∃ b' c', r = .returned (.tuple #[.slice b' n c', .bool true]) ∧ Hid (w'.ownsRow w.heap.size 2 1 (.slice b' n c') n (vals (run x.z z x.n).2 n)) ∧ Hid (w.grownBy w' none) := by
  obtain ⟨i, j, l, h1, h2, h3, h4⟩ := txnOf_some hx
  exact malone_yes a n c z t av vc a2 cap2 A w hz hn hA i j l x h1 h2 h3 h4 hr
end

theorem comm_wf {w : World} {a : Option Addr} {len : Nat} {e : Evs} (hl : IsEvs w a len e) (hr : right e len = true) {t : Tr} (ht : t ∈ commsD e len) : (Lit.int .i64 t.th).wf = true ∧ (Lit.int .i64 t.tx).wf = true ∧ (Lit.int .i64 t.at_).wf = true := by
  have h2 := (commsD_perm e hr).mem_iff.1 ht
  obtain ⟨b, hb, _, rfl⟩ := (tries_mem e len t).1 (List.mem_filter.1 h2).1
  obtain ⟨h3, h4, h5, _⟩ := trAt_fix e b len
  obtain ⟨_, _, _, _, _, _, _, _, _, _, _, hw⟩ := hl.at7 hb
  rw [h3, h4, h5]
  exact ⟨hw.th, hw.tx, hw.at_⟩

/-- Do the committed tries of a trace run as their transactions? -/
def runsB (A : List (List Txn)) (e : Evs) (len n : Nat) (z : Nat → Int) : Bool := right e len && runsN A e len n (stAt z (cacs e len)) (commsD e len) (commsD e len).length

set_option maxHeartbeats 4000000 in
theorem runs_any (a1 : Option Addr) (n c1 : Nat) (z : Nat → Int) (a2 : Option Addr) (len cap : Nat) (e : Evs) (a3 : Option Addr) (cap3 : Nat) (A : List (List Txn)) (w : World) (hz : IsNums .i64 w a1 n z) (hl : IsEvs w a2 len e) (hA : IsAll w a3 A) (hn : n ≤ 1000) (hlen : len ≤ 1000) :
    Calls Try.prog 21 #[.slice a1 n c1, .slice a2 len cap, .slice a3 A.length cap3] w fun r w' => r = .returned (.bool (runsB A e len n z)) ∧ Hid (w.grownBy w' none) := by
  have HZ := Lib.hid hz
  have HL := Lib.hid hl
  have HA := Lib.hid hA
  clear hz hl hA
  go_enter Try.func21, Try.ntmps21
  go_wp2_with fail
  cases hr : right e len with
  | false =>
    have HX := Lib.hid (show runsB A e len n z = false by unfold runsB; rw [hr]; rfl)
    refine (hs.right_any a2 len cap e _ HL.out (by omega)).mono ?_
    rw [hr]
    rintro r u1 ⟨rfl, g1⟩
    go_wp2
    go_ret
    exact ⟨by rw [HX.out]; rfl, g1⟩
  | true =>
    have HR := Lib.hid hr
    refine (hs.right_any a2 len cap e _ HL.out (by omega)).mono ?_
    rw [hr]
    rintro r u1 ⟨rfl, g1⟩
    go_wp2_with fail
    refine (released_any a2 len cap e _ (HL.out.grown g1.out) (by omega)).mono ?_
    rintro r u2 ⟨mb, N, rfl, hM, g2⟩
    have G2 := Lib.hid (gb_trans g1.out g2.out)
    go_wp2_with fail
    refine (commits_any _ a2 len cap e (HL.out.grown G2.out) (by omega)).mono ?_
    rintro r u3 ⟨ta, tc, ys, rfl, hT, hC, g3, _, hyl, hyy, hY⟩
    have G3 := Lib.hid (gb_trans G2.out g3.out)
    have M3 := Lib.hid (hM.out.grown g3.out (by simp))
    have HT := Lib.hid hT.out
    have HC := Lib.hid hC.out
    have HYL := Lib.hid hyl.out
    have HYY := Lib.hid hyy.out
    have HY := Lib.hid (hY.out hr)
    have hyl3 : ys.length ≤ 1000 := by have := hyl.out; omega
    have HX := Lib.hid (show runsB A e len n z = runsN A e len n (stAt z (cacs e len)) (ys.map Prod.fst) (ys.map Prod.fst).length by unfold runsB; rw [hr, HY.out]; rfl)
    have HZ3 := Lib.hid (HZ.out.grown G3.out)
    clear hT hC hyl hyy hY hM hr g1 g2 g3 G2
    go_wp2
    go_loopw [8, 22] (fun sv iv wr => ∃ (k : Nat) (ak : Option Addr) (ck : Nat), k ≤ ys.length ∧ iv = .int .i64 k ∧ sv = .slice ak n ck ∧ Hid (IsNums .i64 wr ak n (stAt z (cacs e len) k)) ∧ Hid (runsN A e len n (stAt z (cacs e len)) (ys.map Prod.fst) k = true) ∧ Hid (u3.grownBy wr none)) (fun _ iv _ => (ys.length - intOf iv).toNat)
    case atStart => exact ⟨0, a1, c1, by omega, rfl, rfl, HZ3, rfl, gb_refl _ _⟩
    case round =>
      obtain ⟨k, ak, ck, hk, rfl, rfl, NV, HS, G⟩ := hrel
      clear HZ3
      by_cases hlt : k < ys.length
      · have hlt' : (k : Int) < (ys.length : Int) := by omega
        have hk6 : (k : Int) < 1000000 := by omega
        have hgk := List.getElem?_eq_getElem hlt
        have hmem : ys[k] ∈ ys := List.getElem_mem hlt
        have TR := Lib.hid (HT.out.grown G.out)
        obtain ⟨g, va, vc, rfl, hg, hv, d0, d1, d2, d3, d4, d5, d6, d7, d8⟩ := try9 TR.out hgk
        have hcs : (cacs e len)[k]? = some ys[k].1.ac := by rw [← HC.out, List.getElem?_map, hgk]; rfl
        have hts : (ys.map Prod.fst)[k]? = some ys[k].1 := by rw [List.getElem?_map, hgk]; rfl
        have hac := TR.out.2 ys[k] hmem
        have hacl := HYY.out ys[k] hmem
        have hwf := comm_wf HL.out HR.out (show ys[k].1 ∈ commsD e len by rw [← HY.out]; exact List.mem_map_of_mem hmem)
        have ST := Lib.hid (stAt_step z hcs)
        have STEP := Lib.hid (runsN_step (A := A) (e := e) (len := len) (n := n) (st := stAt z (cacs e len)) hts)
        have BAD := Lib.hid (fun h => runsN_bad (A := A) (e := e) (len := len) (n := n) (st := stAt z (cacs e len)) hts h)
        rw [hv] at hac
        obtain ⟨t, ht⟩ : ∃ t, t = ys[k].1 := ⟨_, rfl⟩
        rw [← ht] at d0 d1 d2 d3 d4 d5 d6 d7 d8 hac hacl hwf ST STEP BAD
        have HAC := Lib.hid (IsL.of_own hac accC_len rfl)
        have HWF := Lib.hid hwf
        clear hgk hmem hcs hts hac hv ht hwf TR
        have BT := Lib.hid (Blk.made wr 33 #[.int .i64 t.th, .int .i64 t.tx, .int .i64 t.at_, .int .i64 t.st, .int .i64 t.b, .int .i64 t.en, .int .i64 t.re, .bool t.co, .slice va t.ac.length vc])
        have GA := Lib.hid (World.grownBy_alloc wr (.cells #[.int .i64 t.th, .int .i64 t.tx, .int .i64 t.at_, .int .i64 t.st, .int .i64 t.b, .int .i64 t.en, .int .i64 t.re, .bool t.co, .slice va t.ac.length vc] 33) none)
        cases ho : okA A n t with
        | false =>
          have HN := Lib.hid (BAD.out (okT_no ho))
          have HO := Lib.hid ho
          clear ho STEP BAD
          go_wp2_with ((go_at_call 33; refine (malone_no ak n ck t va vc a3 cap3 A _ (((HA.out.grown G3.out).grown G.out).grown GA.out) (stAt z (cacs e len) k) (NV.out.grown GA.out) HO.out).mono ?_; rintro r u5 ⟨rfl, g5⟩))
          go_ret
          exact ⟨by rw [HX.out, HN.out]; rfl, gb_trans (gb_trans (gb_trans G3.out G.out) GA.out) g5.out⟩
        | true =>
          obtain ⟨x, hx, hrx⟩ := okA_some ho
          have HXX := Lib.hid hx
          have HRX := Lib.hid hrx
          have OK := Lib.hid (fun s s' => okT_some (e := e) (len := len) (s := s) (s' := s') hx hrx)
          clear ho hx hrx
          go_wp2_with fail
          refine (malone_ok ak n ck t va vc a3 cap3 A _ (((HA.out.grown G3.out).grown G.out).grown GA.out) (stAt z (cacs e len) k) (NV.out.grown GA.out) (by omega) x HXX.out HRX.out).mono ?_
          rintro r u5 ⟨b5, c5, rfl, hr5, g5⟩
          have G5 := Lib.hid (gb_trans GA.out g5.out)
          have B5 := Lib.hid (BT.out.grown g5.out (by simp))
          have hbl := B5.out.lt
          have N5 := Lib.hid (show IsNums .i64 u5 b5 n (run x.z (stAt z (cacs e len) k) x.n).2 from IsNums.of_own hr5.out)
          have NV5 := Lib.hid (NV.out.grown G5.out)
          have AC5 := Lib.hid (HAC.out.grown G5.out)
          have M5 := Lib.hid ((M3.out.grown G.out (by simp)).grown G5.out (by simp))
          have q0 := B5.out.at 0 rfl; have q1 := B5.out.at 1 rfl; have q2 := B5.out.at 2 rfl; have q3 := B5.out.at 3 rfl; have q4 := B5.out.at 4 rfl; have q5 := B5.out.at 5 rfl; have q6 := B5.out.at 6 rfl; have q7 := B5.out.at 7 rfl; have q8 := B5.out.at 8 rfl
          obtain ⟨kl, hkl⟩ := keyAtt (x := (t.th, t.tx, t.at_)) HWF.out.1 HWF.out.2.1 HWF.out.2.2
          obtain ⟨R, hR⟩ : ∃ R, md.relN e t len = R := ⟨_, rfl⟩
          have hlook : (Instr.lookup 71 (.map (some mb)) (.agg #[.int .i64 t.th, .int .i64 t.tx, .int .i64 t.at_]) false).run Try.prog u5 = .ok (.bool R) u5 := by
            have := M5.out.get kAtt Try.underlying71 (zeroBool _) hkl
            unfold three at this
            dsimp only at this
            rw [this]
            unfold relV
            rw [relN_trOf, hR]
            cases R <;> rfl
          have HRR := Lib.hid hR
          clear hkl hR hr5 g5 BT GA M5
          cases R with
          | true =>
            have HN := Lib.hid (BAD.out (by rw [OK.out, HRR.out]; rfl))
            clear STEP BAD OK
            go_wp2
            go_ret
            exact ⟨by rw [HX.out, HN.out]; rfl, gb_trans (gb_trans G3.out G.out) G5.out⟩
          | false =>
            obtain ⟨E, hE⟩ : ∃ E, eqTo (app (stAt z (cacs e len) k) t.ac) (run x.z (stAt z (cacs e len) k) x.n).2 n = E := ⟨_, rfl⟩
            have HE := Lib.hid hE
            clear hE
            go_wp2_with fail
            refine (apply_any ak n ck (stAt z (cacs e len) k) t va vc _ NV5.out AC5.out (by omega) (by omega)).mono ?_
            rintro r u6 ⟨a6, c6, rfl, hr6, g6⟩
            go_wp2_with fail
            refine (equal_any a6 b5 n c6 c5 _ _ _ (IsNums.of_own hr6.out) (N5.out.grown g6.out) (by omega)).mono ?_
            rw [HE.out]
            rintro r u7 ⟨rfl, g7⟩
            have G7 := Lib.hid (gb_trans (gb_trans G5.out g6.out) g7.out)
            have N7 := Lib.hid ((N5.out.grown g6.out).grown g7.out)
            clear hr6 hlook
            cases E with
            | true =>
              have HN := Lib.hid (show runsN A e len n (stAt z (cacs e len)) (ys.map Prod.fst) (k + 1) = true by rw [STEP.out, HS.out, OK.out, HRR.out, ST.out, eqTo_symm, HE.out]; rfl)
              clear STEP BAD OK
              go_wp2
              go_roundw
              case rel => exact ⟨k + 1, b5, c5, by omega, by go_num, rfl, N7.out.congr (fun i hi => by rw [ST.out]; exact (eqTo_iff.1 HE.out i hi).symm), HN, gb_trans G.out G7.out⟩
              case measure => simp [intOf]; omega
            | false =>
              have HN := Lib.hid (BAD.out (by rw [OK.out, HRR.out, ST.out, eqTo_symm, HE.out]; rfl))
              clear STEP BAD OK
              go_wp2
              go_ret
              exact ⟨by rw [HX.out, HN.out]; rfl, gb_trans (gb_trans G3.out G.out) G7.out⟩
      · obtain rfl : k = ys.length := by omega
        have HN := Lib.hid (show runsB A e len n z = true by rw [HX.out, List.length_map]; exact HS.out)
        go_wp2
        go_ret
        exact ⟨by rw [HN.out]; rfl, gb_trans G3.out G.out⟩
end Go.Proofs.Ytdohepenmejcaaa.md

/- The document's own answers of chapter 18: Apply, Fits. -/
namespace Go.Proofs.Ytdohepenmejcaaa.md
open Go Go.RowKit Go.Proofs.Ytdohepenmejcaaa.base Go.Proofs.Ytdohepenmejcaaa.hs Go.Proofs.Ytdohepenmejcaaa.lg Go.Maps
set_option linter.unusedVariables false
set_option maxRecDepth 100000

set_option maxHeartbeats 2000000 in
theorem refapply_any (a : Option Addr) (n c : Nat) (z : Nat → Int) (t : Tr) (av : Option Addr) (vc : Nat) (w : World) (hz : IsNums .i64 w a n z) (hl : IsL accC w av t.ac) (hn : n ≤ 100000) (hm : t.ac.length ≤ 100000) :
    Calls Try.prog 17 #[.slice a n c, .agg ⟨trC t (.slice av t.ac.length vc)⟩] w fun r w' => ∃ a' c', r = .returned (.slice a' n c') ∧ Hid (w'.ownsRow w.heap.size 2 1 (.slice a' n c') n (vals (app z t.ac) n)) ∧ Hid (w.grownBy w' none) := by
  have HZ := Lib.hid hz
  have HL := Lib.hid hl
  clear hz hl
  have BT := Lib.hid (Blk.made w 36 #[.int .i64 t.th, .int .i64 t.tx, .int .i64 t.at_, .int .i64 t.st, .int .i64 t.b, .int .i64 t.en, .int .i64 t.re, .bool t.co, .slice av t.ac.length vc])
  have GA := Lib.hid (World.grownBy_alloc w (.cells #[.int .i64 t.th, .int .i64 t.tx, .int .i64 t.at_, .int .i64 t.st, .int .i64 t.b, .int .i64 t.en, .int .i64 t.re, .bool t.co, .slice av t.ac.length vc] 36) none)
  show Calls Try.prog 17 #[.slice a n c, .agg #[.int .i64 t.th, .int .i64 t.tx, .int .i64 t.at_, .int .i64 t.st, .int .i64 t.b, .int .i64 t.en, .int .i64 t.re, .bool t.co, .slice av t.ac.length vc]] w _
  go_enter Try.func17, Try.ntmps17
  go_wp2
  generalize w.alloc _ = w1 at *
  generalize hbt : w.heap.size = bt at *
  go_loopw [5, 6] (fun ov iv wr => ∃ (o : Nat) (b : Option Addr) (k : Nat), o ≤ n ∧ iv = .int .i64 o ∧ ov = .slice b o k ∧ Hid (wr.ownsRow w1.heap.size 2 1 (.slice b o k) o (vals (app z t.ac) o)) ∧ Hid (w1.grownBy wr none)) (fun _ iv _ => (n - intOf iv).toNat)
  case atStart => exact ⟨0, none, 0, by omega, rfl, rfl, World.ownsRow_nil _ _ _ _, gb_refl _ _⟩
  case round =>
    obtain ⟨o, b, kc, ho, rfl, rfl, HR, G⟩ := hrel
    have B1 := Lib.hid (BT.out.grown G.out (by simp))
    have hbl := B1.out.lt
    by_cases hlt : o < n
    · have hlt' : (o : Int) < (n : Int) := by omega
      have ho6 : (o : Int) < 1000000 := by omega
      obtain ⟨zb, zo, rfl, hzb, cz⟩ := ((HZ.out.grown GA.out).grown G.out).at1 hlt
      have q8 := B1.out.at 8 rfl
      go_wp2
      go_loopw [7, 8] (fun vv iv wq => ∃ k : Nat, k ≤ t.ac.length ∧ iv = .int .i64 k ∧ vv = .int .i64 (app z (t.ac.take k) o) ∧ Hid (wr.grownBy wq none)) (fun _ iv _ => (t.ac.length - intOf iv).toNat)
      case atStart => exact ⟨0, by omega, rfl, rfl, gb_refl _ _⟩
      case round =>
        clear q8
        obtain ⟨k, hk, rfl, rfl, GQ⟩ := hrel
        have B2 := Lib.hid (B1.out.grown GQ.out (by simp))
        have hbl2 := B2.out.lt
        have q8 := B2.out.at 8 rfl
        by_cases hkl : k < t.ac.length
        · have hkl' : (k : Int) < (t.ac.length : Int) := by omega
          have hk6 : (k : Int) < 1000000 := by omega
          have hgk := List.getElem?_eq_getElem hkl
          obtain ⟨b1, o1, rfl, hb1, c0, c1, c2, c3, c4, c5⟩ := acc6 (((HL.out.grown GA.out).grown G.out).grown GQ.out) hgk
          have HT := Lib.hid (app_take z hgk)
          generalize t.ac[k] = y at *
          clear hgk
          by_cases h3 : y.k = 3
          · have f3 : (y.k == 3) = true := by simp [h3]
            by_cases h4 : y.ob = (o : Int)
            · have f4 : (y.ob == (o : Int)) = true := by simp [h4]
              have HN := Lib.hid (show app z (t.ac.take (k + 1)) o = y.va by rw [HT.out]; unfold app1; rw [if_pos ⟨h3, h4⟩])
              clear h3 h4
              go_wp2
              go_roundw
              case rel => exact ⟨k + 1, by omega, by go_num, by rw [HN.out], GQ⟩
              case measure => simp [intOf]; omega
            · have f4 : (y.ob == (o : Int)) = false := by simp [h4]
              have HN := Lib.hid (show app z (t.ac.take (k + 1)) o = app z (t.ac.take k) o by rw [HT.out]; unfold app1; rw [if_neg (fun h => h4 h.2)])
              clear h3 h4
              generalize app z (t.ac.take k) o = v at *
              go_wp2
              go_roundw
              case rel => exact ⟨k + 1, by omega, by go_num, by rw [HN.out], GQ⟩
              case measure => simp [intOf]; omega
          · have f3 : (y.k == 3) = false := by simp [h3]
            have HN := Lib.hid (show app z (t.ac.take (k + 1)) o = app z (t.ac.take k) o by rw [HT.out]; unfold app1; rw [if_neg (fun h => h3 h.1)])
            clear h3
            generalize app z (t.ac.take k) o = v at *
            go_wp2
            go_roundw
            case rel => exact ⟨k + 1, by omega, by go_num, by rw [HN.out], GQ⟩
            case measure => simp [intOf]; omega
        · obtain rfl : k = t.ac.length := by omega
          have HRQ := Lib.hid (ownsRow_keep HR.out (fun k e => GQ.out.block k (HR.out.lt k e).2 (by simp)))
          have G2 := Lib.hid (gb_trans G.out GQ.out)
          have HV := Lib.hid (show app z (t.ac.take t.ac.length) o = app z t.ac o by rw [app_all])
          generalize app z (t.ac.take t.ac.length) o = v at *
          have hsz : w1.heap.size ≤ wr.heap.size := Nat.le_trans G.out.size GQ.out.size
          go_wp2_with (at_builtin; go_loud (refine append64 _ rfl (.tmp 49) (.tmp 51) rfl w1.heap.size _ o (vals (app z t.ac) o) rfl (HRQ.out.alloc _) (some ⟨wr.heap.size, 0, none⟩) 1 1 [.int .i64 v] rfl rfl (new_src wr [.int .i64 v] 2 _ rfl) (by intro u hu; simp at hu; subst hu; rfl) (by omega) (by simp; omega) ?_); intro b' c' u2 ho2 hg2 hv2)
          go_roundw
          case rel =>
            refine ⟨o + 1, b', c', by omega, by go_num, rfl, ?_, gb_overO (gb_trans G2.out (World.grownBy_alloc wr _ none)) hg2 (fun i e => (HR.out.lt i e).1)⟩
            · show World.ownsRow _ _ _ _ _ _ _
              rw [vals_succ, ← HV.out]
              exact ho2
          case measure => simp [intOf]; omega
    · obtain rfl : o = n := by omega
      go_wp2
      go_ret
      subst hbt
      exact ⟨b, kc, rfl, ownsRow_drop HR.out (by have := GA.out.size; omega), gb_trans GA.out G.out⟩
end Go.Proofs.Ytdohepenmejcaaa.md

/- A piece of a function's code, by its path (of a sequence 0 and 1, of a test 0 and 1, of a block or a loop 0). -/
namespace Go.Proofs.Ytdohepenmejcaaa.base
open Go

def pc : List Nat → Code → Code
  | [], c => c
  | 0 :: p, .seq a _ => pc p a
  | _ :: p, .seq _ b => pc p b
  | 0 :: p, .cond _ a _ => pc p a
  | _ :: p, .cond _ _ b => pc p b
  | _ :: p, .block _ b => pc p b
  | _ :: p, .loop b => pc p b
  | _ :: p, .scope b => pc p b
  | _ :: _, c => c
def pcs (f : Func) (p : List Nat) : Code := pc p (f.body.getD .skip)
end Go.Proofs.Ytdohepenmejcaaa.base

/- The document's Tries: region 6. A theorem of its own over that piece of the code. -/
namespace Go.Proofs.Ytdohepenmejcaaa.hs
open Go Go.RowKit Go.Proofs.Ytdohepenmejcaaa.base Go.Maps
set_option linter.unusedVariables false
set_option maxRecDepth 100000

set_option maxHeartbeats 4000000 in
theorem piece6 (w : World) (eb off len cap : Nat) (e : Evs) (i : Nat) (hl : IsEvs w (some ⟨eb, off, none⟩) len e) (hlt : i < len) (hlen : len ≤ 10000) {v1 v2 v3 v5 v6 v7 v8 v9 v10 v11 v12 v13 v14 v15 v16 v17 v18 v19 v20 v21 v22 v23 v24 v25 v26 v27 v28 v29 v30 v31 v32 v33 v34 v35 v36 v37 v38 v39 v40 v41 v42 v43 v44 v45 v46 v47 v48 v49 v50 v51 v52 v53 v54 v55 v56 v57 v58 v59 v60 v61 v62 v63 v64 v65 v66 v67 v68 v69 v70 v71 v72 v73 v74 v75 v76 v77 v78 v79 v80 v81 v82 v83 v84 v85 v86 v87 v88 v89 v90 v91 v92 v93 v94 v95 v96 v97 v98 v99 v100 v101 v102 v103 v104 v105 v106 v107 v108 v109 v110 v111 v112 v113 v114 v115 v116 v117 v118 v119 v120 v121 v122 v123 v124 v125 v126 v127 v128 v129 v130 v131 v132 v133 v134 v135 v136 v137 v138 v139 v140 v141 v142 v143 v144 v145 v146 v147 v148 v149 v150 v151 v152 v153 v154 v155 v156 v157 v158 v159 v160 v161 v162 v163 v164 v165 v166 v167 v168 v169 v170 v171 : Value} {Q : Exit → Act → World → Prop}
    (hJ : Hid (∀ (u23 u24 u25 u26 u27 u28 u29 u30 u31 u32 u33 u34 u35 u36 u37 u38 u39 u40 u41 u42 u43 u44 : Value), Q Exit.normal { tmps := #[.slice (some ⟨eb, off, none⟩) len cap, v1, v2, v3, .int .i64 i, .pointer (some ⟨w.heap.size, 0, none⟩), v6, v7, v8, v9, v10, v11, v12, v13, v14, v15, v16, v17, v18, v19, v20, v21, v22, u23, u24, u25, u26, u27, u28, u29, u30, u31, u32, u33, u34, u35, u36, u37, u38, u39, u40, u41, u42, u43, u44, v45, v46, v47, v48, v49, v50, v51, v52, v53, v54, v55, v56, v57, v58, v59, v60, v61, v62, v63, v64, v65, v66, v67, v68, v69, v70, v71, v72, v73, v74, v75, v76, v77, v78, v79, v80, v81, v82, v83, v84, v85, v86, v87, v88, v89, v90, v91, v92, v93, v94, v95, v96, v97, v98, v99, v100, v101, v102, v103, v104, v105, v106, v107, v108, v109, v110, v111, v112, v113, v114, v115, v116, v117, v118, v119, v120, v121, v122, v123, v124, v125, v126, v127, v128, v129, v130, v131, v132, v133, v134, v135, v136, v137, v138, v139, v140, v141, v142, v143, v144, v145, v146, v147, v148, v149, v150, v151, v152, v153, v154, v155, v156, v157, v158, v159, v160, v161, v162, v163, v164, v165, v166, v167, v168, v169, v170, v171], defers := [] } (w.alloc (.cells #[.int .i64 ((e i).th), .int .i64 ((e i).tx), .int .i64 ((e i).at_), .int .i64 ((e i).va), .int .i64 i, .int .i64 (-1), .int .i64 0, .bool false, .slice none 0 0] 36)).drew)) :
    Code.wp Try.prog (pcs Try.f42 [1, 1, 0, 1, 0, 0, 1, 0, 0, 1, 0]) (Q) { tmps := #[.slice (some ⟨eb, off, none⟩) len cap, v1, v2, v3, .int .i64 i, v5, v6, v7, v8, v9, v10, v11, v12, v13, v14, v15, v16, v17, v18, v19, v20, v21, v22, v23, v24, v25, v26, v27, v28, v29, v30, v31, v32, v33, v34, v35, v36, v37, v38, v39, v40, v41, v42, v43, v44, v45, v46, v47, v48, v49, v50, v51, v52, v53, v54, v55, v56, v57, v58, v59, v60, v61, v62, v63, v64, v65, v66, v67, v68, v69, v70, v71, v72, v73, v74, v75, v76, v77, v78, v79, v80, v81, v82, v83, v84, v85, v86, v87, v88, v89, v90, v91, v92, v93, v94, v95, v96, v97, v98, v99, v100, v101, v102, v103, v104, v105, v106, v107, v108, v109, v110, v111, v112, v113, v114, v115, v116, v117, v118, v119, v120, v121, v122, v123, v124, v125, v126, v127, v128, v129, v130, v131, v132, v133, v134, v135, v136, v137, v138, v139, v140, v141, v142, v143, v144, v145, v146, v147, v148, v149, v150, v151, v152, v153, v154, v155, v156, v157, v158, v159, v160, v161, v162, v163, v164, v165, v166, v167, v168, v169, v170, v171], defers := [] } w := by
  dsimp only
  conv => arg 2; whnf
  obtain ⟨c0, c1, c2, c3, c4, c5, c6⟩ := evsIn hl hlt
  have heb : eb < w.heap.size := World.block_lt_of_cell? w _ c0
  have hlt' : (i : Int) < (len : Int) := by omega
  have hil : (i : Int) < 1000000 := by omega
  clear hl
  refine wp_region_noPanic ?_
  go_region
  refine NoPanic.normal ?_
  exact hJ.out _ _ _ _ _ _ _ _ _ _ _ _ _ _ _ _ _ _ _ _ _ _
end Go.Proofs.Ytdohepenmejcaaa.hs

/- The document's Tries: region 11. A theorem of its own over that piece of the code. -/
namespace Go.Proofs.Ytdohepenmejcaaa.hs
open Go Go.RowKit Go.Proofs.Ytdohepenmejcaaa.base Go.Maps
set_option linter.unusedVariables false
set_option maxRecDepth 100000

set_option maxHeartbeats 4000000 in
theorem piece11 (w : World) (eb off len cap : Nat) (i be : Nat) (x y : Ev) (q qn : Bool) (hq : ownE x y = q) (hqn : (!q) = qn) (hlt : i < len) (hlen : len ≤ 10000) (hx : Hid (w.cell? ⟨eb, off + i * 7, none⟩ = some (.int .i64 x.k) ∧ w.cell? ⟨eb, off + i * 7 + 1, none⟩ = some (.int .i64 x.th) ∧ w.cell? ⟨eb, off + i * 7 + 2, none⟩ = some (.int .i64 x.tx) ∧ w.cell? ⟨eb, off + i * 7 + 3, none⟩ = some (.int .i64 x.at_) ∧ w.cell? ⟨eb, off + i * 7 + 4, none⟩ = some (.int .i64 x.ob) ∧ w.cell? ⟨eb, off + i * 7 + 5, none⟩ = some (.int .i64 x.va) ∧ w.cell? ⟨eb, off + i * 7 + 6, none⟩ = some (.int .i64 x.re))) (hy : Hid (Blk 58 w be #[.int .i64 ((y).k), .int .i64 ((y).th), .int .i64 ((y).tx), .int .i64 ((y).at_), .int .i64 ((y).ob), .int .i64 ((y).va), .int .i64 ((y).re)])) {v1 v2 v3 v5 v6 v8 v9 v10 v11 v12 v13 v14 v15 v16 v17 v18 v19 v20 v21 v22 v23 v24 v25 v26 v27 v28 v29 v30 v31 v32 v33 v34 v35 v36 v37 v38 v39 v40 v41 v42 v43 v44 v45 v46 v47 v48 v49 v50 v51 v52 v53 v54 v55 v56 v57 v58 v59 v60 v61 v62 v63 v64 v65 v66 v67 v68 v69 v70 v71 v72 v73 v74 v75 v76 v77 v78 v79 v80 v81 v82 v83 v84 v85 v86 v87 v88 v89 v90 v91 v92 v93 v94 v95 v96 v97 v98 v99 v100 v101 v102 v103 v104 v105 v106 v107 v108 v109 v110 v111 v112 v113 v114 v115 v116 v117 v118 v119 v120 v121 v122 v123 v124 v125 v126 v127 v128 v129 v130 v131 v132 v133 v134 v135 v136 v137 v138 v139 v140 v141 v142 v143 v144 v145 v146 v147 v148 v149 v150 v151 v152 v153 v154 v155 v156 v157 v158 v159 v160 v161 v162 v163 v164 v165 v166 v167 v168 v169 v170 v171 : Value} {Q : Exit → Act → World → Prop}
    (hJ : ∀ (u62 u63 u64 u65 u66 u67 : Value) (w' : World), Hid (w.grownBy w' none) → Q Exit.normal { tmps := #[.slice (some ⟨eb, off, none⟩) len cap, v1, v2, v3, .int .i64 i, v5, v6, .pointer (some ⟨be, 0, none⟩), v8, v9, v10, v11, v12, v13, v14, v15, v16, v17, v18, v19, v20, v21, v22, v23, v24, v25, v26, v27, v28, v29, v30, v31, v32, v33, v34, v35, v36, v37, v38, v39, v40, v41, v42, v43, v44, v45, v46, v47, v48, v49, v50, v51, v52, v53, v54, v55, v56, v57, v58, v59, v60, v61, u62, u63, u64, u65, u66, u67, .bool qn, v69, v70, v71, v72, v73, v74, v75, v76, v77, v78, v79, v80, v81, v82, v83, v84, v85, v86, v87, v88, v89, v90, v91, v92, v93, v94, v95, v96, v97, v98, v99, v100, v101, v102, v103, v104, v105, v106, v107, v108, v109, v110, v111, v112, v113, v114, v115, v116, v117, v118, v119, v120, v121, v122, v123, v124, v125, v126, v127, v128, v129, v130, v131, v132, v133, v134, v135, v136, v137, v138, v139, v140, v141, v142, v143, v144, v145, v146, v147, v148, v149, v150, v151, v152, v153, v154, v155, v156, v157, v158, v159, v160, v161, v162, v163, v164, v165, v166, v167, v168, v169, v170, v171], defers := [] } w') :
    Code.wp Try.prog (pcs Try.f42 [1, 1, 0, 1, 0, 0, 1, 0, 0, 1, 1, 0, 1, 0, 0, 1, 0, 0, 1, 0, 0]) (Q) { tmps := #[.slice (some ⟨eb, off, none⟩) len cap, v1, v2, v3, .int .i64 i, v5, v6, .pointer (some ⟨be, 0, none⟩), v8, v9, v10, v11, v12, v13, v14, v15, v16, v17, v18, v19, v20, v21, v22, v23, v24, v25, v26, v27, v28, v29, v30, v31, v32, v33, v34, v35, v36, v37, v38, v39, v40, v41, v42, v43, v44, v45, v46, v47, v48, v49, v50, v51, v52, v53, v54, v55, v56, v57, v58, v59, v60, v61, v62, v63, v64, v65, v66, v67, v68, v69, v70, v71, v72, v73, v74, v75, v76, v77, v78, v79, v80, v81, v82, v83, v84, v85, v86, v87, v88, v89, v90, v91, v92, v93, v94, v95, v96, v97, v98, v99, v100, v101, v102, v103, v104, v105, v106, v107, v108, v109, v110, v111, v112, v113, v114, v115, v116, v117, v118, v119, v120, v121, v122, v123, v124, v125, v126, v127, v128, v129, v130, v131, v132, v133, v134, v135, v136, v137, v138, v139, v140, v141, v142, v143, v144, v145, v146, v147, v148, v149, v150, v151, v152, v153, v154, v155, v156, v157, v158, v159, v160, v161, v162, v163, v164, v165, v166, v167, v168, v169, v170, v171], defers := [] } w := by
  dsimp only
  conv => arg 2; whnf
  obtain ⟨d0, d1, d2, d3, d4, d5, d6⟩ := hx.out
  have y0 := hy.out.at 0 rfl; have y1 := hy.out.at 1 rfl; have y2 := hy.out.at 2 rfl; have y3 := hy.out.at 3 rfl; have y4 := hy.out.at 4 rfl; have y5 := hy.out.at 5 rfl; have y6 := hy.out.at 6 rfl
  have hlt' : (i : Int) < (len : Int) := by omega
  have hil : (i : Int) < 1000000 := by omega
  have OW := Lib.hid (own_any x y)
  rw [hq] at OW
  subst hqn
  clear hq
  clear hx
  go_region_held3 (fun w' => w'.cell? ⟨eb, off + i * 7, none⟩ = some (.int .i64 x.k) ∧ w'.cell? ⟨eb, off + i * 7 + 1, none⟩ = some (.int .i64 x.th) ∧ w'.cell? ⟨eb, off + i * 7 + 2, none⟩ = some (.int .i64 x.tx) ∧ w'.cell? ⟨eb, off + i * 7 + 3, none⟩ = some (.int .i64 x.at_) ∧ w'.cell? ⟨eb, off + i * 7 + 4, none⟩ = some (.int .i64 x.ob) ∧ w'.cell? ⟨eb, off + i * 7 + 5, none⟩ = some (.int .i64 x.va) ∧ w'.cell? ⟨eb, off + i * 7 + 6, none⟩ = some (.int .i64 x.re) ∧ w'.cell? ⟨be, 0, none⟩ = some (.int .i64 y.k) ∧ w'.cell? ⟨be, 1, none⟩ = some (.int .i64 y.th) ∧ w'.cell? ⟨be, 2, none⟩ = some (.int .i64 y.tx) ∧ w'.cell? ⟨be, 3, none⟩ = some (.int .i64 y.at_) ∧ w'.cell? ⟨be, 4, none⟩ = some (.int .i64 y.ob) ∧ w'.cell? ⟨be, 5, none⟩ = some (.int .i64 y.va) ∧ w'.cell? ⟨be, 6, none⟩ = some (.int .i64 y.re)) (go_keep) ((go_at_call 41; refine (OW.out _).mono ?_; rintro r u3 ⟨rfl, g3⟩; have m0 := g3.out.cell d0 (by simp); have m1 := g3.out.cell d1 (by simp); have m2 := g3.out.cell d2 (by simp); have m3 := g3.out.cell d3 (by simp); have m4 := g3.out.cell d4 (by simp); have m5 := g3.out.cell d5 (by simp); have m6 := g3.out.cell d6 (by simp); have n0 := g3.out.cell y0 (by simp); have n1 := g3.out.cell y1 (by simp); have n2 := g3.out.cell y2 (by simp); have n3 := g3.out.cell y3 (by simp); have n4 := g3.out.cell y4 (by simp); have n5 := g3.out.cell y5 (by simp); have n6 := g3.out.cell y6 (by simp)))
  exact hJ _ _ _ _ _ _ _ (gb_trans (gb_drew (gb_refl w _)) g3.out)
end Go.Proofs.Ytdohepenmejcaaa.hs

/- The document's Tries: loop 3: is it own?. A theorem of its own over that piece of the code. -/
namespace Go.Proofs.Ytdohepenmejcaaa.hs
open Go Go.RowKit Go.Proofs.Ytdohepenmejcaaa.base Go.Maps
set_option linter.unusedVariables false
set_option maxRecDepth 100000

set_option maxHeartbeats 4000000 in
theorem piece3 (w : World) (u0 : World) (bt be ba k : Nat) (T : Tr) (y : Ev) (va : Option Addr) (vc : Nat) (L2 : Blks) (b2 : Bool) (hb2 : (y.k == 2) = b2) (hac : T.ac.length ≤ 10000) (HRA : Hid (Row accC 6 65 T.ac (.slice va T.ac.length vc) L2)) (HO : Hid (base.Own u0 w ((ba, 65, [.int .i64 k, .int .i64 y.k, .int .i64 y.ob, .int .i64 y.va, .bool (false), .bool false]) :: (be, 58, [.int .i64 ((y).k), .int .i64 ((y).th), .int .i64 ((y).tx), .int .i64 ((y).at_), .int .i64 ((y).ob), .int .i64 ((y).va), .int .i64 ((y).re)]) :: (bt, 36, trC T (.slice va T.ac.length vc)) :: L2))) {v0 v1 v2 v3 v4 v6 v10 v11 v12 v13 v14 v15 v16 v17 v18 v19 v20 v21 v22 v23 v24 v25 v26 v27 v28 v29 v30 v31 v32 v33 v34 v35 v36 v37 v38 v39 v40 v41 v42 v43 v44 v45 v46 v47 v48 v49 v50 v51 v52 v53 v54 v55 v56 v57 v58 v59 v60 v61 v62 v63 v64 v65 v66 v67 v68 v69 v70 v71 v72 v73 v74 v75 v76 v77 v78 v79 v80 v81 v82 v83 v84 v85 v86 v87 v88 v89 v90 v91 v92 v93 v94 v95 v96 v97 v98 v99 v100 v101 v102 v103 v104 v105 v106 v107 v108 v109 v110 v111 v112 v113 v114 v115 v116 v117 v118 v119 v120 v121 v122 v123 v124 v125 v126 v127 v128 v129 v130 v131 v132 v133 v134 v135 v136 v137 v138 v139 v140 v141 v142 v143 v144 v145 v146 v147 v148 v149 v150 v151 v152 v153 v154 v155 v156 v157 v158 v159 v160 v161 v162 v163 v164 v165 v166 v167 v168 v169 v170 v171 : Value} {Q : Exit → Act → World → Prop}
    (hJ : ∀ (u9 u82 u83 u84 u85 u86 u87 u88 u89 u90 u91 u92 u93 u94 u95 u96 u97 u98 u99 u100 u101 u102 u103 u104 u105 u106 u107 u108 u109 u110 u111 u112 u113 u114 u115 u116 : Value) (w' : World), Hid (base.Own u0 w' ((ba, 65, [.int .i64 k, .int .i64 y.k, .int .i64 y.ob, .int .i64 y.va, .bool (b2 && wrote T.ac y.ob), .bool false]) :: (be, 58, [.int .i64 ((y).k), .int .i64 ((y).th), .int .i64 ((y).tx), .int .i64 ((y).at_), .int .i64 ((y).ob), .int .i64 ((y).va), .int .i64 ((y).re)]) :: (bt, 36, trC T (.slice va T.ac.length vc)) :: L2)) → Q Exit.normal { tmps := #[v0, v1, v2, v3, v4, .pointer (some ⟨bt, 0, none⟩), v6, .pointer (some ⟨be, 0, none⟩), .pointer (some ⟨ba, 0, none⟩), u9, v10, v11, v12, v13, v14, v15, v16, v17, v18, v19, v20, v21, v22, v23, v24, v25, v26, v27, v28, v29, v30, v31, v32, v33, v34, v35, v36, v37, v38, v39, v40, v41, v42, v43, v44, v45, v46, v47, v48, v49, v50, v51, v52, v53, v54, v55, v56, v57, v58, v59, v60, v61, v62, v63, v64, v65, v66, v67, v68, v69, v70, v71, v72, v73, v74, v75, v76, v77, v78, v79, v80, v81, u82, u83, u84, u85, u86, u87, u88, u89, u90, u91, u92, u93, u94, u95, u96, u97, u98, u99, u100, u101, u102, u103, u104, u105, u106, u107, u108, u109, u110, u111, u112, u113, u114, u115, u116, v117, v118, v119, v120, v121, v122, v123, v124, v125, v126, v127, v128, v129, v130, v131, v132, v133, v134, v135, v136, v137, v138, v139, v140, v141, v142, v143, v144, v145, v146, v147, v148, v149, v150, v151, v152, v153, v154, v155, v156, v157, v158, v159, v160, v161, v162, v163, v164, v165, v166, v167, v168, v169, v170, v171], defers := [] } w') :
    Code.wp Try.prog (pcs Try.f42 [1, 1, 0, 1, 0, 0, 1, 0, 0, 1, 1, 0, 1, 0, 0, 1, 0, 0, 1, 1, 1, 0, 1, 0, 1, 0, 1, 0]) (Exit.inBlock 5 Q) { tmps := #[v0, v1, v2, v3, v4, .pointer (some ⟨bt, 0, none⟩), v6, .pointer (some ⟨be, 0, none⟩), .pointer (some ⟨ba, 0, none⟩), .int .i64 0, v10, v11, v12, v13, v14, v15, v16, v17, v18, v19, v20, v21, v22, v23, v24, v25, v26, v27, v28, v29, v30, v31, v32, v33, v34, v35, v36, v37, v38, v39, v40, v41, v42, v43, v44, v45, v46, v47, v48, v49, v50, v51, v52, v53, v54, v55, v56, v57, v58, v59, v60, v61, v62, v63, v64, v65, v66, v67, v68, v69, v70, v71, v72, v73, v74, v75, v76, v77, v78, v79, v80, v81, v82, v83, v84, v85, v86, v87, v88, v89, v90, v91, v92, v93, v94, v95, v96, v97, v98, v99, v100, v101, v102, v103, v104, v105, v106, v107, v108, v109, v110, v111, v112, v113, v114, v115, v116, v117, v118, v119, v120, v121, v122, v123, v124, v125, v126, v127, v128, v129, v130, v131, v132, v133, v134, v135, v136, v137, v138, v139, v140, v141, v142, v143, v144, v145, v146, v147, v148, v149, v150, v151, v152, v153, v154, v155, v156, v157, v158, v159, v160, v161, v162, v163, v164, v165, v166, v167, v168, v169, v170, v171], defers := [] } w := by
  dsimp only
  conv => arg 2; whnf
  have HJ := Lib.hid hJ
  clear hJ
  have hk0 : T.ac.length < 1000000 := by omega
  cases b2 with
  | false =>
    go_loopw [9] (fun nv wr => ∃ n : Nat, n ≤ T.ac.length ∧ nv = .int .i64 n ∧ Hid (base.Own u0 wr ((ba, 65, [.int .i64 k, .int .i64 y.k, .int .i64 y.ob, .int .i64 y.va, .bool (false), .bool false]) :: (be, 58, [.int .i64 ((y).k), .int .i64 ((y).th), .int .i64 ((y).tx), .int .i64 ((y).at_), .int .i64 ((y).ob), .int .i64 ((y).va), .int .i64 ((y).re)]) :: (bt, 36, trC T (.slice va T.ac.length vc)) :: L2))) (fun nv _ => (T.ac.length - intOf nv).toNat)
    case atStart => exact ⟨0, by omega, rfl, HO⟩
    case round =>
      obtain ⟨n, hn, rfl, OR⟩ := hrel
      have x0 := OR.out.cell 0 0 rfl rfl; have x1 := OR.out.cell 0 1 rfl rfl; have x2 := OR.out.cell 0 2 rfl rfl; have x3 := OR.out.cell 0 3 rfl rfl; have x4 := OR.out.cell 0 4 rfl rfl; have x5 := OR.out.cell 0 5 rfl rfl; have y0 := OR.out.cell 1 0 rfl rfl; have y1 := OR.out.cell 1 1 rfl rfl; have y2 := OR.out.cell 1 2 rfl rfl; have y3 := OR.out.cell 1 3 rfl rfl; have y4 := OR.out.cell 1 4 rfl rfl; have y5 := OR.out.cell 1 5 rfl rfl; have y6 := OR.out.cell 1 6 rfl rfl; have t0 := OR.out.cell 2 0 rfl rfl; have t1 := OR.out.cell 2 1 rfl rfl; have t2 := OR.out.cell 2 2 rfl rfl; have t3 := OR.out.cell 2 3 rfl rfl; have t4 := OR.out.cell 2 4 rfl rfl; have t5 := OR.out.cell 2 5 rfl rfl; have t6 := OR.out.cell 2 6 rfl rfl; have t7 := OR.out.cell 2 7 rfl rfl; have t8 := OR.out.cell 2 8 rfl rfl
      have fx4 := OR.out.free 0 4 rfl
      by_cases hnl : n < T.ac.length
      · obtain ⟨a2, c2, hv2, HI⟩ := HRA.out.isL accC_len (own_flip (A := [_, _, _]) OR.out)
        cases hv2
        obtain ⟨gb, oo, rfl, hgb, z0, z1, z2, z3, z4, z5⟩ := accAt HI (List.getElem?_eq_getElem hnl)
        have WT := Lib.hid (wrote_take (List.getElem?_eq_getElem hnl) y.ob)
        generalize T.ac[n] = X at *
        have hnl' : (n : Int) < (T.ac.length : Int) := by omega
        have hn6 : (n : Int) < 1000000 := by omega
        go_wp2_with fail
        go_region
        have OZ := Lib.hid ((OR.out.set 0 4 (.bool false) rfl).drew)
        go_wp2
        go_roundw
        case rel => exact ⟨n + 1, by omega, by go_num, by show _; exact OZ.out⟩
        case measure => simp [intOf] <;> omega
      · obtain rfl : n = T.ac.length := by omega
        go_wp2
        exact HJ.out _ _ _ _ _ _ _ _ _ _ _ _ _ _ _ _ _ _ _ _ _ _ _ _ _ _ _ _ _ _ _ _ _ _ _ _ _ OR
  | true =>
    go_loopw [9] (fun nv wr => ∃ n : Nat, n ≤ T.ac.length ∧ nv = .int .i64 n ∧ Hid (base.Own u0 wr ((ba, 65, [.int .i64 k, .int .i64 y.k, .int .i64 y.ob, .int .i64 y.va, .bool (wrote (T.ac.take n) y.ob), .bool false]) :: (be, 58, [.int .i64 ((y).k), .int .i64 ((y).th), .int .i64 ((y).tx), .int .i64 ((y).at_), .int .i64 ((y).ob), .int .i64 ((y).va), .int .i64 ((y).re)]) :: (bt, 36, trC T (.slice va T.ac.length vc)) :: L2))) (fun nv _ => (T.ac.length - intOf nv).toNat)
    case atStart => exact ⟨0, by omega, rfl, HO⟩
    case round =>
      obtain ⟨n, hn, rfl, OR⟩ := hrel
      have x0 := OR.out.cell 0 0 rfl rfl; have x1 := OR.out.cell 0 1 rfl rfl; have x2 := OR.out.cell 0 2 rfl rfl; have x3 := OR.out.cell 0 3 rfl rfl; have x4 := OR.out.cell 0 4 rfl rfl; have x5 := OR.out.cell 0 5 rfl rfl; have y0 := OR.out.cell 1 0 rfl rfl; have y1 := OR.out.cell 1 1 rfl rfl; have y2 := OR.out.cell 1 2 rfl rfl; have y3 := OR.out.cell 1 3 rfl rfl; have y4 := OR.out.cell 1 4 rfl rfl; have y5 := OR.out.cell 1 5 rfl rfl; have y6 := OR.out.cell 1 6 rfl rfl; have t0 := OR.out.cell 2 0 rfl rfl; have t1 := OR.out.cell 2 1 rfl rfl; have t2 := OR.out.cell 2 2 rfl rfl; have t3 := OR.out.cell 2 3 rfl rfl; have t4 := OR.out.cell 2 4 rfl rfl; have t5 := OR.out.cell 2 5 rfl rfl; have t6 := OR.out.cell 2 6 rfl rfl; have t7 := OR.out.cell 2 7 rfl rfl; have t8 := OR.out.cell 2 8 rfl rfl
      have fx4 := OR.out.free 0 4 rfl
      by_cases hnl : n < T.ac.length
      · obtain ⟨a2, c2, hv2, HI⟩ := HRA.out.isL accC_len (own_flip (A := [_, _, _]) OR.out)
        cases hv2
        obtain ⟨gb, oo, rfl, hgb, z0, z1, z2, z3, z4, z5⟩ := accAt HI (List.getElem?_eq_getElem hnl)
        have WT := Lib.hid (wrote_take (List.getElem?_eq_getElem hnl) y.ob)
        generalize T.ac[n] = X at *
        have hnl' : (n : Int) < (T.ac.length : Int) := by omega
        have hn6 : (n : Int) < 1000000 := by omega
        obtain ⟨W0, hW0⟩ : ∃ W0, W0 = wrote (T.ac.take n) y.ob := ⟨_, rfl⟩
        rw [← hW0] at OR WT x4
        clear hW0
        cases W0 with
        | true =>
          have HW := Lib.hid (show wrote (T.ac.take (n + 1)) y.ob = true by rw [WT.out, Bool.true_or])
          go_wp2_with fail
          go_region
          have OZ := Lib.hid ((OR.out.set 0 4 (.bool true) rfl).drew)
          go_wp2
          go_roundw
          case rel => exact ⟨n + 1, by omega, by go_num, by rw [HW.out]; exact OZ.out⟩
          case measure => simp [intOf] <;> omega
        | false =>
          by_cases h3 : X.k = 3
          · have f3 : (X.k == 3) = true := by simp [h3]
            by_cases ho : X.ob = y.ob
            · have fo : (X.ob == y.ob) = true := by simp [ho]
              have HW := Lib.hid (show wrote (T.ac.take (n + 1)) y.ob = true by rw [WT.out]; simp [h3, ho])
              clear h3 ho WT
              go_wp2_with fail
              go_region
              have OZ := Lib.hid ((OR.out.set 0 4 (.bool true) rfl).drew)
              go_wp2
              go_roundw
              case rel => exact ⟨n + 1, by omega, by go_num, by rw [HW.out]; exact OZ.out⟩
              case measure => simp [intOf] <;> omega
            · have fo : (X.ob == y.ob) = false := by simp [ho]
              have HW := Lib.hid (show wrote (T.ac.take (n + 1)) y.ob = false by rw [WT.out]; simp [ho])
              clear h3 ho WT
              go_wp2_with fail
              go_region
              have OZ := Lib.hid ((OR.out.set 0 4 (.bool false) rfl).drew)
              go_wp2
              go_roundw
              case rel => exact ⟨n + 1, by omega, by go_num, by rw [HW.out]; exact OZ.out⟩
              case measure => simp [intOf] <;> omega
          · have f3 : (X.k == 3) = false := by simp [h3]
            have HW := Lib.hid (show wrote (T.ac.take (n + 1)) y.ob = false by rw [WT.out]; simp [h3])
            clear h3 WT
            go_wp2_with fail
            go_region
            have OZ := Lib.hid ((OR.out.set 0 4 (.bool false) rfl).drew)
            go_wp2
            go_roundw
            case rel => exact ⟨n + 1, by omega, by go_num, by rw [HW.out]; exact OZ.out⟩
            case measure => simp [intOf] <;> omega
      · obtain rfl : n = T.ac.length := by omega
        rw [wrote_all] at OR
        go_wp2
        exact HJ.out _ _ _ _ _ _ _ _ _ _ _ _ _ _ _ _ _ _ _ _ _ _ _ _ _ _ _ _ _ _ _ _ _ _ _ _ _ OR
end Go.Proofs.Ytdohepenmejcaaa.hs

/- The document's Tries: region 20. A theorem of its own over that piece of the code. -/
namespace Go.Proofs.Ytdohepenmejcaaa.hs
open Go Go.RowKit Go.Proofs.Ytdohepenmejcaaa.base Go.Maps
set_option linter.unusedVariables false
set_option maxRecDepth 100000

theorem infoAccD : (Try.prog.info? 65).map (fun i => (i.zero, i.size, i.bytes)) = some (some (.agg #[.int .i64 0, .int .i64 0, .int .i64 0, .int .i64 0, .bool false, .bool false]), 6, 40) := by kernel_rfl

set_option maxHeartbeats 4000000 in
theorem piece20 (w : World) (u0 : World) (bt be ba k : Nat) (T : Tr) (y : Ev) (o : Bool) (va : Option Addr) (vc : Nat) (L2 : Blks) (hac : T.ac.length ≤ 10000) (HRA : Hid (Row accC 6 65 T.ac (.slice va T.ac.length vc) L2)) (HO : Hid (base.Own u0 w ((ba, 65, [.int .i64 k, .int .i64 y.k, .int .i64 y.ob, .int .i64 y.va, .bool (o), .bool false]) :: (be, 58, [.int .i64 ((y).k), .int .i64 ((y).th), .int .i64 ((y).tx), .int .i64 ((y).at_), .int .i64 ((y).ob), .int .i64 ((y).va), .int .i64 ((y).re)]) :: (bt, 36, trC T (.slice va T.ac.length vc)) :: L2))) {v0 v1 v2 v3 v4 v6 v7 v9 v10 v11 v12 v13 v14 v15 v16 v17 v18 v19 v20 v21 v22 v23 v24 v25 v26 v27 v28 v29 v30 v31 v32 v33 v34 v35 v36 v37 v38 v39 v40 v41 v42 v43 v44 v45 v46 v47 v48 v49 v50 v51 v52 v53 v54 v55 v56 v57 v58 v59 v60 v61 v62 v63 v64 v65 v66 v67 v68 v69 v70 v71 v72 v73 v74 v75 v76 v77 v78 v79 v80 v81 v82 v83 v84 v85 v86 v87 v88 v89 v90 v91 v92 v93 v94 v95 v96 v97 v98 v99 v100 v101 v102 v103 v104 v105 v106 v107 v108 v109 v110 v111 v112 v113 v114 v115 v116 v117 v118 v119 v120 v121 v122 v123 v124 v125 v126 v127 v128 v129 v130 v131 v132 v133 v134 v135 v136 v137 v138 v139 v140 v141 v142 v143 v144 v145 v146 v147 v148 v149 v150 v151 v152 v153 v154 v155 v156 v157 v158 v159 v160 v161 v162 v163 v164 v165 v166 v167 v168 v169 v170 v171 : Value} {Q : Exit → Act → World → Prop}
    (hJ : ∀ (u117 u118 u119 u120 u121 u122 : Value) (g' c' : Nat) (L3 : Blks) (w' : World), Hid (Row accC 6 65 (T.ac ++ [(⟨k, y.k, y.ob, y.va, o, false⟩ : Acc)]) (.slice (some ⟨g', 0, none⟩) (T.ac.length + 1) c') L3) → Hid (base.Own u0 w' ((ba, 65, [.int .i64 k, .int .i64 y.k, .int .i64 y.ob, .int .i64 y.va, .bool (o), .bool false]) :: (be, 58, [.int .i64 ((y).k), .int .i64 ((y).th), .int .i64 ((y).tx), .int .i64 ((y).at_), .int .i64 ((y).ob), .int .i64 ((y).va), .int .i64 ((y).re)]) :: (bt, 36, trC T (.slice (some ⟨g', 0, none⟩) (T.ac.length + 1) c')) :: L3)) → Q Exit.normal { tmps := #[v0, v1, v2, v3, v4, .pointer (some ⟨bt, 0, none⟩), v6, v7, .pointer (some ⟨ba, 0, none⟩), v9, v10, v11, v12, v13, v14, v15, v16, v17, v18, v19, v20, v21, v22, v23, v24, v25, v26, v27, v28, v29, v30, v31, v32, v33, v34, v35, v36, v37, v38, v39, v40, v41, v42, v43, v44, v45, v46, v47, v48, v49, v50, v51, v52, v53, v54, v55, v56, v57, v58, v59, v60, v61, v62, v63, v64, v65, v66, v67, v68, v69, v70, v71, v72, v73, v74, v75, v76, v77, v78, v79, v80, v81, v82, v83, v84, v85, v86, v87, v88, v89, v90, v91, v92, v93, v94, v95, v96, v97, v98, v99, v100, v101, v102, v103, v104, v105, v106, v107, v108, v109, v110, v111, v112, v113, v114, v115, v116, u117, u118, u119, u120, u121, u122, v123, v124, v125, v126, v127, v128, v129, v130, v131, v132, v133, v134, v135, v136, v137, v138, v139, v140, v141, v142, v143, v144, v145, v146, v147, v148, v149, v150, v151, v152, v153, v154, v155, v156, v157, v158, v159, v160, v161, v162, v163, v164, v165, v166, v167, v168, v169, v170, v171], defers := [] } w') :
    Code.wp Try.prog (pcs Try.f42 [1, 1, 0, 1, 0, 0, 1, 0, 0, 1, 1, 0, 1, 0, 0, 1, 0, 0, 1, 1, 1, 0, 1, 0, 1, 1]) (Q) { tmps := #[v0, v1, v2, v3, v4, .pointer (some ⟨bt, 0, none⟩), v6, v7, .pointer (some ⟨ba, 0, none⟩), v9, v10, v11, v12, v13, v14, v15, v16, v17, v18, v19, v20, v21, v22, v23, v24, v25, v26, v27, v28, v29, v30, v31, v32, v33, v34, v35, v36, v37, v38, v39, v40, v41, v42, v43, v44, v45, v46, v47, v48, v49, v50, v51, v52, v53, v54, v55, v56, v57, v58, v59, v60, v61, v62, v63, v64, v65, v66, v67, v68, v69, v70, v71, v72, v73, v74, v75, v76, v77, v78, v79, v80, v81, v82, v83, v84, v85, v86, v87, v88, v89, v90, v91, v92, v93, v94, v95, v96, v97, v98, v99, v100, v101, v102, v103, v104, v105, v106, v107, v108, v109, v110, v111, v112, v113, v114, v115, v116, v117, v118, v119, v120, v121, v122, v123, v124, v125, v126, v127, v128, v129, v130, v131, v132, v133, v134, v135, v136, v137, v138, v139, v140, v141, v142, v143, v144, v145, v146, v147, v148, v149, v150, v151, v152, v153, v154, v155, v156, v157, v158, v159, v160, v161, v162, v163, v164, v165, v166, v167, v168, v169, v170, v171], defers := [] } w := by
  dsimp only
  conv => arg 2; whnf
  obtain ⟨i0, hi0, hz00, hz10, hz20⟩ := info_parts infoAccD
  have hi := Lib.hid hi0
  have hz0 := Lib.hid hz00
  have hz1 := Lib.hid hz10
  have hz2 := Lib.hid hz20
  clear hi0 hz00 hz10 hz20
  have x0 := HO.out.cell 0 0 rfl rfl; have x1 := HO.out.cell 0 1 rfl rfl; have x2 := HO.out.cell 0 2 rfl rfl; have x3 := HO.out.cell 0 3 rfl rfl; have x4 := HO.out.cell 0 4 rfl rfl; have x5 := HO.out.cell 0 5 rfl rfl; have t0 := HO.out.cell 2 0 rfl rfl; have t1 := HO.out.cell 2 1 rfl rfl; have t2 := HO.out.cell 2 2 rfl rfl; have t3 := HO.out.cell 2 3 rfl rfl; have t4 := HO.out.cell 2 4 rfl rfl; have t5 := HO.out.cell 2 5 rfl rfl; have t6 := HO.out.cell 2 6 rfl rfl; have t7 := HO.out.cell 2 7 rfl rfl; have t8 := HO.out.cell 2 8 rfl rfl
  have HOWN := Lib.hid (HRA.out.owns accC_len (own_flip (A := [_, _, _]) HO.out))
  have hb2 := HO.out.grow.size
  have hk0 : (T.ac.length : Int) < 1000000 := by omega
  go_wp2_with (first | (at_builtin; refine wpList_append_at _ rfl (.tmp 118) (.tmp 120) 34 rfl u0.heap.size 65 i0 (.agg #[.int .i64 0, .int .i64 0, .int .i64 0, .int .i64 0, .bool false, .bool false]) 6 40 Try.underlying34 hi.out hz0.out hz1.out hz2.out rfl (by decide) (.slice va T.ac.length vc) T.ac.length (rows accC T.ac) rfl (HOWN.out.alloc _) ⟨w.heap.size, 0, none⟩ 1 1 (accC (⟨k, y.k, y.ob, y.va, o, false⟩ : Acc)) rfl rfl (new_cells w _ _) (accC_one [(⟨k, y.k, y.ob, y.va, o, false⟩ : Acc)]) (by unfold maxLen; omega) (by omega) (by simp; omega) (by decide) ?_; intro g' c' w5 ho hg hv; obtain ⟨L3, r1, r2⟩ := base.Row.snoc (x := (⟨k, y.k, y.ob, y.va, o, false⟩ : Acc)) HRA.out (own_flip (A := [_, _, _]) HO.out) (World.grownBy_alloc w _ none) ho hg hv; have R1 := Lib.hid r1; have R2 := Lib.hid (own_flip (B := [_, _, _]) r2); have c8 := R2.out.cell 2 8 rfl rfl; have f8 := R2.out.free 2 8 rfl; clear ho hg hv r1 r2) | go_in)
  exact hJ _ _ _ _ _ _ g' c' L3 _ R1 (R2.out.set 2 8 (.slice (some ⟨g', 0, none⟩) (T.ac.length + 1) c') rfl)
end Go.Proofs.Ytdohepenmejcaaa.hs

/- The document's Tries: loop 4: what is released. A theorem of its own over that piece of the code. -/
namespace Go.Proofs.Ytdohepenmejcaaa.hs
open Go Go.RowKit Go.Proofs.Ytdohepenmejcaaa.base Go.Maps
set_option linter.unusedVariables false
set_option maxRecDepth 100000

set_option maxHeartbeats 4000000 in
theorem piece4 (w : World) (u0 : World) (bt be : Nat) (T : Tr) (y : Ev) (va : Option Addr) (vc : Nat) (L2 : Blks) (hac : T.ac.length ≤ 10000) (HRA : Hid (Row accC 6 65 T.ac (.slice va T.ac.length vc) L2)) (HO : Hid (base.Own u0 w ((be, 58, [.int .i64 ((y).k), .int .i64 ((y).th), .int .i64 ((y).tx), .int .i64 ((y).at_), .int .i64 ((y).ob), .int .i64 ((y).va), .int .i64 ((y).re)]) :: (bt, 36, trC T (.slice va T.ac.length vc)) :: L2))) {v0 v1 v2 v3 v4 v6 v8 v9 v11 v12 v13 v14 v15 v16 v17 v18 v19 v20 v21 v22 v23 v24 v25 v26 v27 v28 v29 v30 v31 v32 v33 v34 v35 v36 v37 v38 v39 v40 v41 v42 v43 v44 v45 v46 v47 v48 v49 v50 v51 v52 v53 v54 v55 v56 v57 v58 v59 v60 v61 v62 v63 v64 v65 v66 v67 v68 v69 v70 v71 v72 v73 v74 v75 v76 v77 v78 v79 v80 v81 v82 v83 v84 v85 v86 v87 v88 v89 v90 v91 v92 v93 v94 v95 v96 v97 v98 v99 v100 v101 v102 v103 v104 v105 v106 v107 v108 v109 v110 v111 v112 v113 v114 v115 v116 v117 v118 v119 v120 v121 v122 v123 v124 v125 v126 v127 v128 v129 v130 v131 v132 v133 v134 v135 v136 v137 v138 v139 v140 v141 v142 v143 v144 v145 v146 v147 v148 v149 v150 v151 v152 v153 v154 v155 v156 v157 v158 v159 v160 v161 v162 v163 v164 v165 v166 v167 v168 v169 v170 v171 : Value} {Q : Exit → Act → World → Prop}
    (hJ : ∀ (u10 u125 u126 u127 u128 u129 u130 u131 u132 u133 u134 u135 u136 u137 u138 u139 u140 u141 u142 u143 u144 u145 u146 u147 u148 u149 u150 u151 u152 u153 u154 : Value) (L4 : Blks) (w' : World), Hid (Row accC 6 65 (relAll T.ac y.ob) (.slice va T.ac.length vc) L4) → Hid (base.Own u0 w' ((be, 58, [.int .i64 ((y).k), .int .i64 ((y).th), .int .i64 ((y).tx), .int .i64 ((y).at_), .int .i64 ((y).ob), .int .i64 ((y).va), .int .i64 ((y).re)]) :: (bt, 36, trC T (.slice va T.ac.length vc)) :: L4)) → Q Exit.normal { tmps := #[v0, v1, v2, v3, v4, .pointer (some ⟨bt, 0, none⟩), v6, .pointer (some ⟨be, 0, none⟩), v8, v9, u10, v11, v12, v13, v14, v15, v16, v17, v18, v19, v20, v21, v22, v23, v24, v25, v26, v27, v28, v29, v30, v31, v32, v33, v34, v35, v36, v37, v38, v39, v40, v41, v42, v43, v44, v45, v46, v47, v48, v49, v50, v51, v52, v53, v54, v55, v56, v57, v58, v59, v60, v61, v62, v63, v64, v65, v66, v67, v68, v69, v70, v71, v72, v73, v74, v75, v76, v77, v78, v79, v80, v81, v82, v83, v84, v85, v86, v87, v88, v89, v90, v91, v92, v93, v94, v95, v96, v97, v98, v99, v100, v101, v102, v103, v104, v105, v106, v107, v108, v109, v110, v111, v112, v113, v114, v115, v116, v117, v118, v119, v120, v121, v122, v123, v124, u125, u126, u127, u128, u129, u130, u131, u132, u133, u134, u135, u136, u137, u138, u139, u140, u141, u142, u143, u144, u145, u146, u147, u148, u149, u150, u151, u152, u153, u154, v155, v156, v157, v158, v159, v160, v161, v162, v163, v164, v165, v166, v167, v168, v169, v170, v171], defers := [] } w') :
    Code.wp Try.prog (pcs Try.f42 [1, 1, 0, 1, 0, 0, 1, 0, 0, 1, 1, 0, 1, 0, 0, 1, 0, 0, 1, 1, 1, 0, 1, 1, 1, 0, 1, 0]) (Exit.inBlock 7 Q) { tmps := #[v0, v1, v2, v3, v4, .pointer (some ⟨bt, 0, none⟩), v6, .pointer (some ⟨be, 0, none⟩), v8, v9, .int .i64 0, v11, v12, v13, v14, v15, v16, v17, v18, v19, v20, v21, v22, v23, v24, v25, v26, v27, v28, v29, v30, v31, v32, v33, v34, v35, v36, v37, v38, v39, v40, v41, v42, v43, v44, v45, v46, v47, v48, v49, v50, v51, v52, v53, v54, v55, v56, v57, v58, v59, v60, v61, v62, v63, v64, v65, v66, v67, v68, v69, v70, v71, v72, v73, v74, v75, v76, v77, v78, v79, v80, v81, v82, v83, v84, v85, v86, v87, v88, v89, v90, v91, v92, v93, v94, v95, v96, v97, v98, v99, v100, v101, v102, v103, v104, v105, v106, v107, v108, v109, v110, v111, v112, v113, v114, v115, v116, v117, v118, v119, v120, v121, v122, v123, v124, v125, v126, v127, v128, v129, v130, v131, v132, v133, v134, v135, v136, v137, v138, v139, v140, v141, v142, v143, v144, v145, v146, v147, v148, v149, v150, v151, v152, v153, v154, v155, v156, v157, v158, v159, v160, v161, v162, v163, v164, v165, v166, v167, v168, v169, v170, v171], defers := [] } w := by
  dsimp only
  conv => arg 2; whnf
  have hk0 : (T.ac.length : Int) < 1000000 := by omega
  go_loopw [10] (fun nv wr => ∃ (n : Nat) (L4 : Blks), n ≤ T.ac.length ∧ nv = .int .i64 n ∧ Hid (Row accC 6 65 (relN T.ac y.ob n) (.slice va T.ac.length vc) L4) ∧ Hid (base.Own u0 wr ((be, 58, [.int .i64 ((y).k), .int .i64 ((y).th), .int .i64 ((y).tx), .int .i64 ((y).at_), .int .i64 ((y).ob), .int .i64 ((y).va), .int .i64 ((y).re)]) :: (bt, 36, trC T (.slice va T.ac.length vc)) :: L4))) (fun nv _ => (T.ac.length - intOf nv).toNat)
  case atStart => exact ⟨0, L2, by omega, rfl, by rw [relN_zero]; exact HRA, HO⟩
  case round =>
    obtain ⟨n, L4, hn, rfl, HR4, OR⟩ := hrel
    have y0 := OR.out.cell 0 0 rfl rfl; have y1 := OR.out.cell 0 1 rfl rfl; have y2 := OR.out.cell 0 2 rfl rfl; have y3 := OR.out.cell 0 3 rfl rfl; have y4 := OR.out.cell 0 4 rfl rfl; have y5 := OR.out.cell 0 5 rfl rfl; have y6 := OR.out.cell 0 6 rfl rfl; have t0 := OR.out.cell 1 0 rfl rfl; have t1 := OR.out.cell 1 1 rfl rfl; have t2 := OR.out.cell 1 2 rfl rfl; have t3 := OR.out.cell 1 3 rfl rfl; have t4 := OR.out.cell 1 4 rfl rfl; have t5 := OR.out.cell 1 5 rfl rfl; have t6 := OR.out.cell 1 6 rfl rfl; have t7 := OR.out.cell 1 7 rfl rfl; have t8 := OR.out.cell 1 8 rfl rfl
    by_cases hnl : n < T.ac.length
    · obtain ⟨g, cp, hv2⟩ := HR4.out.some (by rw [relN_len]; omega)
      rw [relN_len] at hv2
      cases hv2
      obtain ⟨a2, c2, hv2, HI⟩ := HR4.out.isL accC_len (own_flip (A := [_, _]) OR.out)
      rw [relN_len] at hv2
      cases hv2
      obtain ⟨gb, oo, hgo, hgb, z0, z1, z2, z3, z4, z5⟩ := accAt HI (relN_get hnl)
      cases hgo
      rw [Nat.zero_add] at z0 z1 z2 z3 z4 z5
      have f5 := row_free HR4.out (relN_len _ _ _).symm (own_flip (A := [_, _]) OR.out) (n * 6 + 5)
      have ST := Lib.hid (relN_step (o := y.ob) hnl)
      have RM := Lib.hid (row_mark HR4.out (relN_len _ _ _).symm (own_flip (A := [_, _]) OR.out.drew) (by rw [relN_len]; exact hnl))
      generalize T.ac[n] = X at *
      have hnl' : (n : Int) < (T.ac.length : Int) := by omega
      have hn6 : (n : Int) < 1000000 := by omega
      by_cases h2 : X.k = 2
      · have f2x : (X.k == 2) = true := by simp [h2]
        by_cases ho : X.ob = y.ob
        · have fo : (X.ob == y.ob) = true := by simp [ho]
          have HW := Lib.hid (show relN T.ac y.ob (n + 1) = setRel (relN T.ac y.ob n) n by rw [ST.out, if_pos ⟨h2, ho⟩])
          clear h2 ho
          go_wp2_with fail
          go_big_quiet (fail)
          have RN := Lib.hid (row_mark HR4.out (relN_len _ _ _).symm (own_flip (A := [_, _]) (OR.out.drewN nq)) (by rw [relN_len]; exact hnl))
          go_wp2
          obtain ⟨L5, r1, r2⟩ := RN.out
          go_roundw
          case rel => exact ⟨n + 1, L5, by omega, by go_num, by rw [HW.out]; exact r1, own_flip (B := [_, _]) r2⟩
          case measure => simp [intOf] <;> omega
        · have fo : (X.ob == y.ob) = false := by simp [ho]
          have HW := Lib.hid (show relN T.ac y.ob (n + 1) = relN T.ac y.ob n by rw [ST.out, if_neg (fun h => ho h.2)])
          clear h2 ho
          go_wp2_with fail
          go_big_quiet (fail)
          go_wp2
          go_roundw
          case rel => exact ⟨n + 1, L4, by omega, by go_num, by rw [HW.out]; exact HR4, Lib.hid (OR.out.drewN _)⟩
          case measure => simp [intOf] <;> omega
      · have f2x : (X.k == 2) = false := by simp [h2]
        have HW := Lib.hid (show relN T.ac y.ob (n + 1) = relN T.ac y.ob n by rw [ST.out, if_neg (fun h => h2 h.1)])
        clear h2
        go_wp2_with fail
        go_big_quiet (fail)
        go_wp2
        go_roundw
        case rel => exact ⟨n + 1, L4, by omega, by go_num, by rw [HW.out]; exact HR4, Lib.hid (OR.out.drewN _)⟩
        case measure => simp [intOf] <;> omega
    · obtain rfl : n = T.ac.length := by omega
      rw [relN_all] at HR4
      go_wp2
      exact hJ _ _ _ _ _ _ _ _ _ _ _ _ _ _ _ _ _ _ _ _ _ _ _ _ _ _ _ _ _ _ _ L4 _ HR4 OR
end Go.Proofs.Ytdohepenmejcaaa.hs

/- The document's Tries: loop 2. A theorem of its own over that piece of the code. -/
namespace Go.Proofs.Ytdohepenmejcaaa.hs
open Go Go.RowKit Go.Proofs.Ytdohepenmejcaaa.base Go.Maps
set_option linter.unusedVariables false
set_option maxRecDepth 100000

set_option maxHeartbeats 4000000 in
theorem piece2 (w u0 : World) (eb off len cap : Nat) (e : Evs) (i bt : Nat) (hl : IsEvs u0 (some ⟨eb, off, none⟩) len e) (hr : right e len = true) (hlt : i < len) (h1 : (e i).k = 1) (hlen : len ≤ 10000) (HO : Hid (base.Own u0 w [(bt, 36, trC (init i (e i)) (.slice none 0 0))])) {v1 v2 v3 v7 v8 v9 v10 v11 v12 v13 v14 v15 v16 v17 v18 v19 v20 v21 v22 v23 v24 v25 v26 v27 v28 v29 v30 v31 v32 v33 v34 v35 v36 v37 v38 v39 v40 v41 v42 v43 v44 v45 v46 v47 v48 v49 v50 v51 v52 v53 v54 v55 v56 v57 v58 v59 v60 v61 v62 v63 v64 v65 v66 v67 v68 v69 v70 v71 v72 v73 v74 v75 v76 v77 v78 v79 v80 v81 v82 v83 v84 v85 v86 v87 v88 v89 v90 v91 v92 v93 v94 v95 v96 v97 v98 v99 v100 v101 v102 v103 v104 v105 v106 v107 v108 v109 v110 v111 v112 v113 v114 v115 v116 v117 v118 v119 v120 v121 v122 v123 v124 v125 v126 v127 v128 v129 v130 v131 v132 v133 v134 v135 v136 v137 v138 v139 v140 v141 v142 v143 v144 v145 v146 v147 v148 v149 v150 v151 v152 v153 v154 v155 v156 v157 v158 v159 v160 v161 v162 v163 v164 v165 v166 v167 v168 v169 v170 v171 : Value} {Q : Exit → Act → World → Prop}
    (hJ : ∀ (u6 u7 u8 u9 u10 u47 u48 u49 u50 u51 u52 u53 u54 u55 u56 u57 u58 u59 u60 u61 u62 u63 u64 u65 u66 u67 u68 u69 u70 u71 u72 u73 u74 u75 u76 u77 u78 u79 u80 u81 u82 u83 u84 u85 u86 u87 u88 u89 u90 u91 u92 u93 u94 u95 u96 u97 u98 u99 u100 u101 u102 u103 u104 u105 u106 u107 u108 u109 u110 u111 u112 u113 u114 u115 u116 u117 u118 u119 u120 u121 u122 u123 u124 u125 u126 u127 u128 u129 u130 u131 u132 u133 u134 u135 u136 u137 u138 u139 u140 u141 u142 u143 u144 u145 u146 u147 u148 u149 u150 u151 u152 u153 u154 u155 u156 u157 u158 u159 u160 u161 u162 u163 u164 u165 u166 : Value) (v : Value) (L2 : Blks) (w' : World), Hid (Row accC 6 65 (trAt e i len).ac v L2) → Hid (base.Own u0 w' ((bt, 36, trC (trAt e i len) v) :: L2)) → Q Exit.normal { tmps := #[.slice (some ⟨eb, off, none⟩) len cap, v1, v2, v3, .int .i64 i, .pointer (some ⟨bt, 0, none⟩), u6, u7, u8, u9, u10, v11, v12, v13, v14, v15, v16, v17, v18, v19, v20, v21, v22, v23, v24, v25, v26, v27, v28, v29, v30, v31, v32, v33, v34, v35, v36, v37, v38, v39, v40, v41, v42, v43, v44, v45, v46, u47, u48, u49, u50, u51, u52, u53, u54, u55, u56, u57, u58, u59, u60, u61, u62, u63, u64, u65, u66, u67, u68, u69, u70, u71, u72, u73, u74, u75, u76, u77, u78, u79, u80, u81, u82, u83, u84, u85, u86, u87, u88, u89, u90, u91, u92, u93, u94, u95, u96, u97, u98, u99, u100, u101, u102, u103, u104, u105, u106, u107, u108, u109, u110, u111, u112, u113, u114, u115, u116, u117, u118, u119, u120, u121, u122, u123, u124, u125, u126, u127, u128, u129, u130, u131, u132, u133, u134, u135, u136, u137, u138, u139, u140, u141, u142, u143, u144, u145, u146, u147, u148, u149, u150, u151, u152, u153, u154, u155, u156, u157, u158, u159, u160, u161, u162, u163, u164, u165, u166, v167, v168, v169, v170, v171], defers := [] } w') :
    Code.wp Try.prog (pcs Try.f42 [1, 1, 0, 1, 0, 0, 1, 0, 0, 1, 1, 0, 1, 0]) (Exit.inBlock 2 Q) { tmps := #[.slice (some ⟨eb, off, none⟩) len cap, v1, v2, v3, .int .i64 i, .pointer (some ⟨bt, 0, none⟩), .int .i64 ((i : Int) + 1), v7, v8, v9, v10, v11, v12, v13, v14, v15, v16, v17, v18, v19, v20, v21, v22, v23, v24, v25, v26, v27, v28, v29, v30, v31, v32, v33, v34, v35, v36, v37, v38, v39, v40, v41, v42, v43, v44, v45, v46, v47, v48, v49, v50, v51, v52, v53, v54, v55, v56, v57, v58, v59, v60, v61, v62, v63, v64, v65, v66, v67, v68, v69, v70, v71, v72, v73, v74, v75, v76, v77, v78, v79, v80, v81, v82, v83, v84, v85, v86, v87, v88, v89, v90, v91, v92, v93, v94, v95, v96, v97, v98, v99, v100, v101, v102, v103, v104, v105, v106, v107, v108, v109, v110, v111, v112, v113, v114, v115, v116, v117, v118, v119, v120, v121, v122, v123, v124, v125, v126, v127, v128, v129, v130, v131, v132, v133, v134, v135, v136, v137, v138, v139, v140, v141, v142, v143, v144, v145, v146, v147, v148, v149, v150, v151, v152, v153, v154, v155, v156, v157, v158, v159, v160, v161, v162, v163, v164, v165, v166, v167, v168, v169, v170, v171], defers := [] } w := by
  dsimp only
  conv => arg 2; whnf
  have HL := Lib.hid hl
  have HR := Lib.hid hr
  have W1 := Lib.hid h1
  have INI := Lib.hid (show trAt e i (i + 1) = init i (e i) from trAt_init e i (i + 1) (Nat.le_refl _))
  have hlen' : (len : Int) ≤ 10000 := by omega
  have HJ := Lib.hid hJ
  clear hl hr h1 hJ
  go_loopw [6] (fun kv wr => ∃ (k : Nat) (v : Value) (L2 : Blks), i + 1 ≤ k ∧ k ≤ len ∧ kv = .int .i64 k ∧ Hid (Row accC 6 65 (trAt e i k).ac v L2) ∧ Hid (base.Own u0 wr ((bt, 36, trC (trAt e i k) v) :: L2))) (fun kv _ => (len - intOf kv).toNat)
  case atStart => exact ⟨i + 1, .slice none 0 0, [], by omega, by omega, by go_num, by rw [INI.out]; exact Row.nil, by rw [INI.out]; exact HO⟩
  case round =>
    obtain ⟨k, v, L2, hk1, hk2, rfl, HRA, HOW⟩ := hrel
    obtain ⟨T, hT⟩ : ∃ T, T = trAt e i k := ⟨_, rfl⟩
    rw [← hT] at HRA HOW
    obtain ⟨va, vc, rfl⟩ := HRA.out.slice
    have hac0 : T.ac.length ≤ k := by rw [hT]; exact trAt_ac e i k
    have hk3 : (k : Int) < 1000000 := by omega
    have hac4 : T.ac.length ≤ 10000 := by omega
    have HT := Lib.hid hT
    clear hT
    have t0 := HOW.out.cell 0 0 rfl rfl; have t1 := HOW.out.cell 0 1 rfl rfl; have t2 := HOW.out.cell 0 2 rfl rfl; have t3 := HOW.out.cell 0 3 rfl rfl; have t4 := HOW.out.cell 0 4 rfl rfl; have t5 := HOW.out.cell 0 5 rfl rfl; have t6 := HOW.out.cell 0 6 rfl rfl; have t7 := HOW.out.cell 0 7 rfl rfl; have t8 := HOW.out.cell 0 8 rfl rfl
    by_cases hkl : k < len
    · have hkl' : (k : Int) < (len : Int) := by omega
      by_cases hen : T.en < 0
      · have fen : decide (T.en < 0) = true := by simpa using hen
        have STEP := Lib.hid (show trAt e i (k + 1) = if ownE (e i) (e k) = true then base.stepT T k (e k) else T by rw [HT.out]; exact doc_step e HR.out W1.out (by omega) hkl (by rw [← HT.out]; exact hen))
        have OE := Lib.hid (HOW.out.alloc 58 [.int .i64 ((e k).k), .int .i64 ((e k).th), .int .i64 ((e k).tx), .int .i64 ((e k).at_), .int .i64 ((e k).ob), .int .i64 ((e k).va), .int .i64 ((e k).re)])
        obtain ⟨c0, c1, c2, c3, c4, c5, c6⟩ := evsIn (HL.out.grown HOW.out.grow) hkl
        have heb : eb < wr.heap.size := World.block_lt_of_cell? wr _ c0
        go_upto_region 11 with fail
        generalize wr.alloc (.cells #[.int .i64 ((e k).k), .int .i64 ((e k).th), .int .i64 ((e k).tx), .int .i64 ((e k).at_), .int .i64 ((e k).ob), .int .i64 ((e k).va), .int .i64 ((e k).re)] 58) = v1 at *
        generalize wr.heap.size = be at *
        clear c0 c1 c2 c3 c4 c5 c6 t0 t1 t2 t3 t4 t5 t6 t7 t8 fen heb
        cases hq : ownE (e i) (e k) with
        | false =>
          have HS := Lib.hid (show trAt e i (k + 1) = T by rw [STEP.out, hq, if_neg (by simp)])
          refine wp_pcs (c' := pcs Try.f42 [1, 1, 0, 1, 0, 0, 1, 0, 0, 1, 1, 0, 1, 0, 0, 1, 0, 0, 1, 0, 0]) (by kernel_rfl) ?_
          refine piece11 _ eb off len cap i be (e i) (e k) false true hq rfl hlt hlen (evsIn (HL.out.grown OE.out.grow) hlt) (OE.out.get 0 rfl) ?_
          intro _ _ _ _ _ _ u3 g3
          dsimp only
          clear hq
          go_wp2
          go_roundw
          case rel => exact ⟨k + 1, .slice va T.ac.length vc, L2, by omega, by omega, by go_num, by rw [HS.out]; exact HRA.out, by rw [HS.out]; exact (OE.out.grown g3.out).drop (List.Sublist.cons _ (List.Sublist.refl _))⟩
          case measure => simp [intOf] <;> omega
        | true =>
          have HN := Lib.hid (show trAt e i (k + 1) = base.stepT T k (e k) by rw [STEP.out, hq, if_pos rfl])
          refine wp_pcs (c' := pcs Try.f42 [1, 1, 0, 1, 0, 0, 1, 0, 0, 1, 1, 0, 1, 0, 0, 1, 0, 0, 1, 0, 0]) (by kernel_rfl) ?_
          refine piece11 _ eb off len cap i be (e i) (e k) true false hq rfl hlt hlen (evsIn (HL.out.grown OE.out.grow) hlt) (OE.out.get 0 rfl) ?_
          intro _ _ _ _ _ _ u3 g3
          dsimp only
          have O3 := Lib.hid (OE.out.grown g3.out)
          clear OE STEP g3 hq
          have n0 := O3.out.cell 0 0 rfl rfl; have n1 := O3.out.cell 0 1 rfl rfl; have n2 := O3.out.cell 0 2 rfl rfl; have n3 := O3.out.cell 0 3 rfl rfl; have n4 := O3.out.cell 0 4 rfl rfl; have n5 := O3.out.cell 0 5 rfl rfl; have n6 := O3.out.cell 0 6 rfl rfl; have b0 := O3.out.cell 1 0 rfl rfl; have b1 := O3.out.cell 1 1 rfl rfl; have b2 := O3.out.cell 1 2 rfl rfl; have b3 := O3.out.cell 1 3 rfl rfl; have b4 := O3.out.cell 1 4 rfl rfl; have b5 := O3.out.cell 1 5 rfl rfl; have b6 := O3.out.cell 1 6 rfl rfl; have b7 := O3.out.cell 1 7 rfl rfl; have b8 := O3.out.cell 1 8 rfl rfl; have f0 := O3.out.free 1 0 rfl; have f1 := O3.out.free 1 1 rfl; have f2 := O3.out.free 1 2 rfl; have f3 := O3.out.free 1 3 rfl; have f4 := O3.out.free 1 4 rfl; have f5 := O3.out.free 1 5 rfl; have f6 := O3.out.free 1 6 rfl; have f7 := O3.out.free 1 7 rfl; have f8 := O3.out.free 1 8 rfl
          by_cases h2 : (e k).k = 2
          · have f2 : ((e k).k == 2) = true := by simp [h2]
            have HS := Lib.hid (show trAt e i (k + 1) = { T with ac := T.ac ++ [⟨k, (e k).k, (e k).ob, (e k).va, true && wrote T.ac (e k).ob, false⟩] } by rw [HN.out, stepT_2 _ _ h2, h2, Bool.true_and])
            clear h2
            have OA := Lib.hid (O3.out.alloc 65 [.int .i64 k, .int .i64 ((e k).k), .int .i64 ((e k).ob), .int .i64 ((e k).va), .bool false, .bool false])
            go_upto_region 16 with fail
            generalize u3.alloc (.cells #[.int .i64 k, .int .i64 ((e k).k), .int .i64 ((e k).ob), .int .i64 ((e k).va), .bool false, .bool false] 65) = v4 at *
            generalize u3.heap.size = ba at *
            go_wp2
            refine wp_pcs (c' := pcs Try.f42 [1, 1, 0, 1, 0, 0, 1, 0, 0, 1, 1, 0, 1, 0, 0, 1, 0, 0, 1, 1, 1, 0, 1, 0, 1, 0, 1, 0]) (by kernel_rfl) ?_
            refine piece3 _ u0 bt be ba k T (e k) va vc L2 true (by simpa using f2) hac4 HRA OA ?_
            intro _ _ _ _ _ _ _ _ _ _ _ _ _ _ _ _ _ _ _ _ _ _ _ _ _ _ _ _ _ _ _ _ _ _ _ _ w4 O4
            dsimp only
            go_upto_region 20 with fail
            refine wp_pcs (c' := pcs Try.f42 [1, 1, 0, 1, 0, 0, 1, 0, 0, 1, 1, 0, 1, 0, 0, 1, 0, 0, 1, 1, 1, 0, 1, 0, 1, 1]) (by kernel_rfl) ?_
            refine piece20 _ u0 bt be ba k T (e k) (true && wrote T.ac (e k).ob) va vc L2 hac4 HRA O4 ?_
            intro _ _ _ _ _ _ g' c' L3 w5 R5 O5
            dsimp only
            go_wp2
            go_roundw
            case rel => exact ⟨k + 1, (.slice (some ⟨g', 0, none⟩) (T.ac.length + 1) c'), L3, by omega, by omega, by go_num, by rw [HS.out]; exact R5.out, by rw [HS.out]; exact O5.out.drop (List.Sublist.cons _ (List.Sublist.cons _ (List.Sublist.refl _)))⟩
            case measure => simp [intOf] <;> omega
          · have f2 : ((e k).k == 2) = false := by simp [h2]
            by_cases h3 : (e k).k = 3
            · have f3 : ((e k).k == 3) = true := by simp [h3]
              have HS := Lib.hid (show trAt e i (k + 1) = { T with ac := T.ac ++ [⟨k, (e k).k, (e k).ob, (e k).va, false && wrote T.ac (e k).ob, false⟩] } by rw [HN.out, stepT_3 _ _ h3, h3, Bool.false_and])
              clear h2 h3
              have OA := Lib.hid (O3.out.alloc 65 [.int .i64 k, .int .i64 ((e k).k), .int .i64 ((e k).ob), .int .i64 ((e k).va), .bool false, .bool false])
              go_upto_region 16 with fail
              generalize u3.alloc (.cells #[.int .i64 k, .int .i64 ((e k).k), .int .i64 ((e k).ob), .int .i64 ((e k).va), .bool false, .bool false] 65) = v4 at *
              generalize u3.heap.size = ba at *
              go_wp2
              refine wp_pcs (c' := pcs Try.f42 [1, 1, 0, 1, 0, 0, 1, 0, 0, 1, 1, 0, 1, 0, 0, 1, 0, 0, 1, 1, 1, 0, 1, 0, 1, 0, 1, 0]) (by kernel_rfl) ?_
              refine piece3 _ u0 bt be ba k T (e k) va vc L2 false (by simpa using f2) hac4 HRA OA ?_
              intro _ _ _ _ _ _ _ _ _ _ _ _ _ _ _ _ _ _ _ _ _ _ _ _ _ _ _ _ _ _ _ _ _ _ _ _ w4 O4
              dsimp only
              go_upto_region 20 with fail
              refine wp_pcs (c' := pcs Try.f42 [1, 1, 0, 1, 0, 0, 1, 0, 0, 1, 1, 0, 1, 0, 0, 1, 0, 0, 1, 1, 1, 0, 1, 0, 1, 1]) (by kernel_rfl) ?_
              refine piece20 _ u0 bt be ba k T (e k) (false && wrote T.ac (e k).ob) va vc L2 hac4 HRA O4 ?_
              intro _ _ _ _ _ _ g' c' L3 w5 R5 O5
              dsimp only
              go_wp2
              go_roundw
              case rel => exact ⟨k + 1, (.slice (some ⟨g', 0, none⟩) (T.ac.length + 1) c'), L3, by omega, by omega, by go_num, by rw [HS.out]; exact R5.out, by rw [HS.out]; exact O5.out.drop (List.Sublist.cons _ (List.Sublist.cons _ (List.Sublist.refl _)))⟩
              case measure => simp [intOf] <;> omega
            · have f3 : ((e k).k == 3) = false := by simp [h3]
              by_cases h4 : (e k).k = 4
              · have f4 : ((e k).k == 4) = true := by simp [h4]
                have HS := Lib.hid (show trAt e i (k + 1) = { T with ac := relAll T.ac (e k).ob } by rw [HN.out, stepT_4 _ _ h4])
                clear h2 h3 h4
                go_wp2
                refine wp_pcs (c' := pcs Try.f42 [1, 1, 0, 1, 0, 0, 1, 0, 0, 1, 1, 0, 1, 0, 0, 1, 0, 0, 1, 1, 1, 0, 1, 1, 1, 0, 1, 0]) (by kernel_rfl) ?_
                refine piece4 _ u0 bt be T (e k) va vc L2 hac4 HRA O3 ?_
                intro _ _ _ _ _ _ _ _ _ _ _ _ _ _ _ _ _ _ _ _ _ _ _ _ _ _ _ _ _ _ _ L4 w4 R4 O4
                dsimp only
                go_wp2
                go_roundw
                case rel => exact ⟨k + 1, (.slice va T.ac.length vc), L4, by omega, by omega, by go_num, by rw [HS.out]; exact R4.out, by rw [HS.out]; exact O4.out.drop (List.Sublist.cons _ (List.Sublist.refl _))⟩
                case measure => simp [intOf] <;> omega
              · have f4 : ((e k).k == 4) = false := by simp [h4]
                by_cases h5 : (e k).k = 5
                · have f5k : ((e k).k == 5) = true := by simp [h5]
                  have HS := Lib.hid (show trAt e i (k + 1) = { T with en := k, co := true } by rw [HN.out, stepT_5 _ _ h5])
                  clear h2 h3 h4 h5
                  go_wp2
                  go_roundw
                  case rel => exact ⟨k + 1, (.slice va T.ac.length vc), L2, by omega, by omega, by go_num, by rw [HS.out]; exact HRA.out, by rw [HS.out]; exact ((O3.out.set 1 5 (.int .i64 k) rfl).set 1 7 (.bool true) rfl).drop (List.Sublist.cons _ (List.Sublist.refl _))⟩
                  case measure => simp [intOf] <;> omega
                · have f5k : ((e k).k == 5) = false := by simp [h5]
                  by_cases h6 : (e k).k = 6
                  · have f6k : ((e k).k == 6) = true := by simp [h6]
                    have HS := Lib.hid (show trAt e i (k + 1) = { T with en := k, re := (e k).re } by rw [HN.out, stepT_6 _ _ h6])
                    clear h2 h3 h4 h5 h6
                    go_wp2
                    go_roundw
                    case rel => exact ⟨k + 1, (.slice va T.ac.length vc), L2, by omega, by omega, by go_num, by rw [HS.out]; exact HRA.out, by rw [HS.out]; exact ((O3.out.set 1 5 (.int .i64 k) rfl).set 1 6 (.int .i64 (e k).re) rfl).drop (List.Sublist.cons _ (List.Sublist.refl _))⟩
                    case measure => simp [intOf] <;> omega
                  · have f6k : ((e k).k == 6) = false := by simp [h6]
                    have HS := Lib.hid (show trAt e i (k + 1) = T by rw [HN.out, stepT_no _ _ h2 h3 h4 h5 h6])
                    clear h2 h3 h4 h5 h6
                    go_wp2
                    go_roundw
                    case rel => exact ⟨k + 1, (.slice va T.ac.length vc), L2, by omega, by omega, by go_num, by rw [HS.out]; exact HRA.out, by rw [HS.out]; exact O3.out.drop (List.Sublist.cons _ (List.Sublist.refl _))⟩
                    case measure => simp [intOf] <;> omega
      · have fen : decide (T.en < 0) = false := by simpa using hen
        have HF := Lib.hid (show trAt e i len = T by rw [HT.out]; exact trAt_end e i (by rw [← HT.out]; omega) (Nat.le_of_lt hkl))
        go_wp2
        have hJ := HJ.out
        rw [HF.out] at hJ
        exact hJ _ _ _ _ _ _ _ _ _ _ _ _ _ _ _ _ _ _ _ _ _ _ _ _ _ _ _ _ _ _ _ _ _ _ _ _ _ _ _ _ _ _ _ _ _ _ _ _ _ _ _ _ _ _ _ _ _ _ _ _ _ _ _ _ _ _ _ _ _ _ _ _ _ _ _ _ _ _ _ _ _ _ _ _ _ _ _ _ _ _ _ _ _ _ _ _ _ _ _ _ _ _ _ _ _ _ _ _ _ _ _ _ _ _ _ _ _ _ _ _ _ _ _ _ _ _ L2 _ HRA HOW
    · obtain rfl : k = len := by omega
      go_wp2
      have hJ := HJ.out
      rw [← HT.out] at hJ
      exact hJ _ _ _ _ _ _ _ _ _ _ _ _ _ _ _ _ _ _ _ _ _ _ _ _ _ _ _ _ _ _ _ _ _ _ _ _ _ _ _ _ _ _ _ _ _ _ _ _ _ _ _ _ _ _ _ _ _ _ _ _ _ _ _ _ _ _ _ _ _ _ _ _ _ _ _ _ _ _ _ _ _ _ _ _ _ _ _ _ _ _ _ _ _ _ _ _ _ _ _ _ _ _ _ _ _ _ _ _ _ _ _ _ _ _ _ _ _ _ _ _ _ _ _ _ _ _ L2 _ HRA HOW
end Go.Proofs.Ytdohepenmejcaaa.hs

/- The document's Tries: region 33. A theorem of its own over that piece of the code. -/
namespace Go.Proofs.Ytdohepenmejcaaa.hs
open Go Go.RowKit Go.Proofs.Ytdohepenmejcaaa.base Go.Maps
set_option linter.unusedVariables false
set_option maxRecDepth 100000

theorem infoTryD : (Try.prog.info? 36).map (fun i => (i.zero, i.size, i.bytes)) = some (some (.agg #[.int .i64 0, .int .i64 0, .int .i64 0, .int .i64 0, .int .i64 0, .int .i64 0, .int .i64 0, .bool false, .slice none 0 0]), 9, 88) := by kernel_rfl

set_option maxHeartbeats 4000000 in
theorem piece33 (w : World) (w0 u0 : World) (bt : Nat) (ys : List (Tr × Value)) (T : Tr) (v : Value) (oa : Option Addr) (oc : Nat) (L L2 : Blks) (hyl : ys.length ≤ 10000) (hg : Hid (u0.grownBy w none)) (HROW : Hid (Row tvC 9 36 ys (.slice oa ys.length oc) L)) (HO : Hid (base.Own w0 u0 L)) (HAC : Hid (∀ x ∈ ys, u0.ownsRow 0 65 6 x.2 x.1.ac.length (rows accC x.1.ac))) (HRA : Hid (Row accC 6 65 T.ac v L2)) (HOW : Hid (base.Own u0 w ((bt, 36, trC T v) :: L2))) {v0 v1 v2 v4 v6 v7 v8 v9 v10 v11 v12 v13 v14 v15 v16 v17 v18 v19 v20 v21 v22 v23 v24 v25 v26 v27 v28 v29 v30 v31 v32 v33 v34 v35 v36 v37 v38 v39 v40 v41 v42 v43 v44 v45 v46 v47 v48 v49 v50 v51 v52 v53 v54 v55 v56 v57 v58 v59 v60 v61 v62 v63 v64 v65 v66 v67 v68 v69 v70 v71 v72 v73 v74 v75 v76 v77 v78 v79 v80 v81 v82 v83 v84 v85 v86 v87 v88 v89 v90 v91 v92 v93 v94 v95 v96 v97 v98 v99 v100 v101 v102 v103 v104 v105 v106 v107 v108 v109 v110 v111 v112 v113 v114 v115 v116 v117 v118 v119 v120 v121 v122 v123 v124 v125 v126 v127 v128 v129 v130 v131 v132 v133 v134 v135 v136 v137 v138 v139 v140 v141 v142 v143 v144 v145 v146 v147 v148 v149 v150 v151 v152 v153 v154 v155 v156 v157 v158 v159 v160 v161 v162 v163 v164 v165 v166 v167 v168 v169 v170 v171 : Value} {Q : Exit → Act → World → Prop}
    (hJ : ∀ (u167 u168 u169 u170 : Value) (g' c' : Nat) (L' : Blks) (w' : World), Hid (Row tvC 9 36 (ys ++ [(T, v)]) (.slice (some ⟨g', 0, none⟩) (ys.length + 1) c') L') → Hid (base.Own w0 w' L') → Hid (∀ x ∈ ys ++ [(T, v)], w'.ownsRow 0 65 6 x.2 x.1.ac.length (rows accC x.1.ac)) → Q Exit.normal { tmps := #[v0, v1, v2, .slice (some ⟨g', 0, none⟩) (ys.length + 1) c', v4, .pointer (some ⟨bt, 0, none⟩), v6, v7, v8, v9, v10, v11, v12, v13, v14, v15, v16, v17, v18, v19, v20, v21, v22, v23, v24, v25, v26, v27, v28, v29, v30, v31, v32, v33, v34, v35, v36, v37, v38, v39, v40, v41, v42, v43, v44, v45, v46, v47, v48, v49, v50, v51, v52, v53, v54, v55, v56, v57, v58, v59, v60, v61, v62, v63, v64, v65, v66, v67, v68, v69, v70, v71, v72, v73, v74, v75, v76, v77, v78, v79, v80, v81, v82, v83, v84, v85, v86, v87, v88, v89, v90, v91, v92, v93, v94, v95, v96, v97, v98, v99, v100, v101, v102, v103, v104, v105, v106, v107, v108, v109, v110, v111, v112, v113, v114, v115, v116, v117, v118, v119, v120, v121, v122, v123, v124, v125, v126, v127, v128, v129, v130, v131, v132, v133, v134, v135, v136, v137, v138, v139, v140, v141, v142, v143, v144, v145, v146, v147, v148, v149, v150, v151, v152, v153, v154, v155, v156, v157, v158, v159, v160, v161, v162, v163, v164, v165, v166, u167, u168, u169, u170, v171], defers := [] } w') :
    Code.wp Try.prog (pcs Try.f42 [1, 1, 0, 1, 0, 0, 1, 0, 0, 1, 1, 1]) (Q) { tmps := #[v0, v1, v2, .slice oa ys.length oc, v4, .pointer (some ⟨bt, 0, none⟩), v6, v7, v8, v9, v10, v11, v12, v13, v14, v15, v16, v17, v18, v19, v20, v21, v22, v23, v24, v25, v26, v27, v28, v29, v30, v31, v32, v33, v34, v35, v36, v37, v38, v39, v40, v41, v42, v43, v44, v45, v46, v47, v48, v49, v50, v51, v52, v53, v54, v55, v56, v57, v58, v59, v60, v61, v62, v63, v64, v65, v66, v67, v68, v69, v70, v71, v72, v73, v74, v75, v76, v77, v78, v79, v80, v81, v82, v83, v84, v85, v86, v87, v88, v89, v90, v91, v92, v93, v94, v95, v96, v97, v98, v99, v100, v101, v102, v103, v104, v105, v106, v107, v108, v109, v110, v111, v112, v113, v114, v115, v116, v117, v118, v119, v120, v121, v122, v123, v124, v125, v126, v127, v128, v129, v130, v131, v132, v133, v134, v135, v136, v137, v138, v139, v140, v141, v142, v143, v144, v145, v146, v147, v148, v149, v150, v151, v152, v153, v154, v155, v156, v157, v158, v159, v160, v161, v162, v163, v164, v165, v166, v167, v168, v169, v170, v171], defers := [] } w := by
  dsimp only
  conv => arg 2; whnf
  obtain ⟨i0, hi0, hz00, hz10, hz20⟩ := info_parts infoTryD
  have hi := Lib.hid hi0
  have hz0 := Lib.hid hz00
  have hz1 := Lib.hid hz10
  have hz2 := Lib.hid hz20
  clear hi0 hz00 hz10 hz20
  obtain ⟨va, vc, rfl⟩ := HRA.out.slice
  have t0 := HOW.out.cell 0 0 rfl rfl; have t1 := HOW.out.cell 0 1 rfl rfl; have t2 := HOW.out.cell 0 2 rfl rfl; have t3 := HOW.out.cell 0 3 rfl rfl; have t4 := HOW.out.cell 0 4 rfl rfl; have t5 := HOW.out.cell 0 5 rfl rfl; have t6 := HOW.out.cell 0 6 rfl rfl; have t7 := HOW.out.cell 0 7 rfl rfl; have t8 := HOW.out.cell 0 8 rfl rfl
  have HOUT := Lib.hid (HO.out.grown hg.out)
  have HOWN := Lib.hid (HROW.out.owns tvC_len (R := []) (by rw [List.append_nil]; exact HOUT.out))
  have HXS := Lib.hid (HRA.out.owns accC_len (own_flip (A := [_]) HOW.out))
  have hbase := HO.out.grow.size
  have hbase2 := HOW.out.grow.size
  go_wp2_with (first | (at_builtin; refine wpList_append_at _ rfl (.tmp 167) (.tmp 169) 59 rfl w0.heap.size 36 i0 (.agg #[.int .i64 0, .int .i64 0, .int .i64 0, .int .i64 0, .int .i64 0, .int .i64 0, .int .i64 0, .bool false, .slice none 0 0]) 9 88 Try.underlying59 hi.out hz0.out hz1.out hz2.out rfl (by decide) (.slice oa ys.length oc) ys.length (rows tvC ys) rfl (HOWN.out.alloc _) ⟨w.heap.size, 0, none⟩ 1 1 (tvC (T, .slice va T.ac.length vc)) rfl rfl (new_cells w _ _) (by intro u hu; simp [tvC, trC] at hu; rcases hu with rfl | rfl | rfl | rfl | rfl | rfl | rfl | rfl | rfl <;> rfl) (by unfold maxLen; omega) (by omega) (by simp; omega) (by decide) ?_; intro g' c' w5 ho hg2 hv; obtain ⟨L', r1, r2⟩ := base.Row.snoc (x := (T, .slice va T.ac.length vc)) HROW.out (R := []) (by rw [List.append_nil]; exact HOUT.out) (World.grownBy_alloc w _ none) ho hg2 hv; rw [List.append_nil] at r2; have R1 := Lib.hid r1; have R2 := Lib.hid r2; have R3 := Lib.hid (acs_snoc (x := (T, .slice va T.ac.length vc)) HAC.out hg.out HXS.out HOWN.out (by decide) (gb_trans (World.grownBy_alloc w _ _) hg2)); clear ho hg2 hv r1 r2) | go_in)
  exact hJ _ _ _ _ g' c' L' _ R1 R2 R3
end Go.Proofs.Ytdohepenmejcaaa.hs

/- The document's own answer of chapter 17: Tries. -/
namespace Go.Proofs.Ytdohepenmejcaaa.hs
open Go Go.RowKit Go.Proofs.Ytdohepenmejcaaa.base Go.Maps
set_option linter.unusedVariables false
set_option maxRecDepth 100000

set_option maxHeartbeats 4000000 in
theorem tries_docA (a : Option Addr) (len cap : Nat) (e : Evs) (w : World) (hl : IsEvs w a len e) (hr : right e len = true) (hlen : len ≤ 10000) :
    Calls Try.prog 42 #[.slice a len cap] w fun r w' => ∃ a' c ys, r = .returned (.slice a' ys.length c) ∧ Hid (TsAt w' a' ys) ∧ Hid (ys.map Prod.fst = tries e len) ∧ Hid (w.grownBy w' none) ∧ Hid (∀ x ∈ ys, w'.ownsRow 0 65 6 x.2 x.1.ac.length (rows accC x.1.ac)) := by
  have HL := Lib.hid hl
  have HR := Lib.hid hr
  have HLEN := Lib.hid hlen
  clear hl hr hlen
  go_enter Try.func42, Try.ntmps42
  go_wp2_with fail
  go_loopw [3, 4] (fun ov iv wr => ∃ (i : Nat) (ys : List (Tr × Value)) (L : Blks), i ≤ len ∧ iv = .int .i64 i ∧ Hid (Row tvC 9 36 ys ov L) ∧ Hid (base.Own w wr L) ∧ Hid (ys.map Prod.fst = (begins e i).map fun b => trAt e b len) ∧ Hid (∀ x ∈ ys, wr.ownsRow 0 65 6 x.2 x.1.ac.length (rows accC x.1.ac))) (fun _ iv _ => (len - intOf iv).toNat)
  case atStart => exact ⟨0, [], [], by omega, rfl, Row.nil, base.Own.start w, rfl, fun x hx => by simp at hx⟩
  case round =>
    obtain ⟨i, ys, L, hi1, rfl, HROW, HO, HYS, HAC⟩ := hrel
    obtain ⟨oa, oc, rfl⟩ := HROW.out.slice
    by_cases hlt : i < len
    · obtain ⟨eb, off, rfl, heb, fe0⟩ := evsAt (HL.out.grown HO.out.grow) (show 0 < len by omega)
      obtain ⟨c0, c1, c2, c3, c4, c5, c6⟩ := fe0 i hlt
      clear fe0
      have hlt' : (i : Int) < (len : Int) := by omega
      have hil : (i : Int) < 1000000 := by have := HLEN.out; omega
      by_cases h1 : (e i).k = 1
      · have f1 : ((e i).k != 1) = false := by simp [h1]
        have W1 := Lib.hid h1
        clear h1
        have HL0 := Lib.hid (HL.out.grown HO.out.grow)
        have hyl : ys.length ≤ 10000 := by
          have h9 := congrArg List.length HYS.out
          rw [List.length_map, List.length_map] at h9
          have h8 := begins_n e i
          have h7 := HLEN.out
          omega
        obtain ⟨u0, hu0⟩ : ∃ u0, u0 = wr := ⟨_, rfl⟩
        subst hu0
        go_upto_region 6 with fail
        refine wp_pcs (c' := pcs Try.f42 [1, 1, 0, 1, 0, 0, 1, 0, 0, 1, 0]) (by kernel_rfl) ?_
        refine piece6 u0 eb off len cap e i HL0.out hlt HLEN.out ?_
        refine Lib.hid ?_
        intro _ _ _ _ _ _ _ _ _ _ _ _ _ _ _ _ _ _ _ _ _ _
        dsimp only
        have OT := Lib.hid (((base.Own.start u0).alloc 36 [.int .i64 ((e i).th), .int .i64 ((e i).tx), .int .i64 ((e i).at_), .int .i64 ((e i).va), .int .i64 i, .int .i64 (-1), .int .i64 0, .bool false, .slice none 0 0]).drew)
        generalize (u0.alloc _).drew = u1 at *
        generalize hbt : u0.heap.size = bt at OT
        clear hbt c0 c1 c2 c3 c4 c5 c6
        go_wp2
        refine wp_pcs (c' := pcs Try.f42 [1, 1, 0, 1, 0, 0, 1, 0, 0, 1, 1, 0, 1, 0]) (by kernel_rfl) ?_
        refine piece2 _ u0 eb off len cap e i bt HL0.out HR.out hlt W1.out HLEN.out OT ?_
        intro _ _ _ _ _ _ _ _ _ _ _ _ _ _ _ _ _ _ _ _ _ _ _ _ _ _ _ _ _ _ _ _ _ _ _ _ _ _ _ _ _ _ _ _ _ _ _ _ _ _ _ _ _ _ _ _ _ _ _ _ _ _ _ _ _ _ _ _ _ _ _ _ _ _ _ _ _ _ _ _ _ _ _ _ _ _ _ _ _ _ _ _ _ _ _ _ _ _ _ _ _ _ _ _ _ _ _ _ _ _ _ _ _ _ _ _ _ _ _ _ _ _ _ _ _ v L2 w2 R2 O2
        dsimp only
        go_upto_region 33 with fail
        refine wp_pcs (c' := pcs Try.f42 [1, 1, 0, 1, 0, 0, 1, 0, 0, 1, 1, 1]) (by kernel_rfl) ?_
        refine piece33 _ w u0 bt ys (trAt e i len) v oa oc L L2 hyl O2.out.grow HROW HO HAC R2 O2 ?_
        intro _ _ _ _ g' c' L' w3 R3 O3 A3
        dsimp only
        go_wp2
        go_roundw
        case rel => exact ⟨i + 1, ys ++ [(trAt e i len, v)], L', by omega, by go_num, R3, O3, by (rw [begins_succ, if_pos W1.out, List.map_append, List.map_append, HYS.out]; show _ = _; simp), A3⟩
        case measure => simp [intOf] <;> omega
      · have f1 : ((e i).k != 1) = true := by simp [h1]
        have HB := Lib.hid (show begins e (i + 1) = begins e i by rw [begins_succ, if_neg h1])
        clear h1
        go_wp2
        go_roundw
        case rel => exact ⟨i + 1, ys, L, by omega, by go_num, HROW, HO, by rw [HB.out]; exact HYS, HAC⟩
        case measure => simp [intOf] <;> omega
    · obtain rfl : i = len := by omega
      go_wp2
      go_ret
      obtain ⟨a', c', hv, HT⟩ := TsAt.of_row HROW.out (R := []) (by rw [List.append_nil]; exact HO.out) (fun x hx => isL_owns (HAC.out x hx))
      cases hv
      exact ⟨_, _, ys, rfl, HT, HYS.out, HO.out.grow, HAC⟩

theorem tries_doc (a : Option Addr) (len cap : Nat) (e : Evs) (w : World) (hl : IsEvs w a len e) (hr : right e len = true) (hlen : len ≤ 10000) :
    Calls Try.prog 42 #[.slice a len cap] w fun r w' => ∃ a' c ys, r = .returned (.slice a' ys.length c) ∧ Hid (TsAt w' a' ys) ∧ Hid (ys.map Prod.fst = tries e len) ∧ Hid (w.grownBy w' none) :=
  (tries_docA a len cap e w hl hr hlen).mono fun _ _ ⟨a', c, ys, h0, h1, h2, h3, _⟩ => ⟨a', c, ys, h0, h1, h2, h3⟩

end Go.Proofs.Ytdohepenmejcaaa.hs

/- The document's own answer of chapter 17: Commits. -/
namespace Go.Proofs.Ytdohepenmejcaaa.hs
open Go Go.RowKit Go.Proofs.Ytdohepenmejcaaa.base Go.Maps
set_option linter.unusedVariables false
set_option maxRecDepth 100000

theorem take_filter {α : Type} (l : List α) (p : α → Bool) {k : Nat} {x : α} (h : l[k]? = some x) : (l.take (k + 1)).filter p = (l.take k).filter p ++ (if p x = true then [x] else []) := by
  rw [List.take_add_one, h, List.filter_append]
  by_cases hp : p x = true
  · simp [hp]
  · simp [hp]

theorem in_snoc {α : Type} {ts ys : List α} {x : α} (h : ∀ y ∈ ys, y ∈ ts) (hx : x ∈ ts) : ∀ y ∈ ys ++ [x], y ∈ ts := by
  intro y hy
  rcases List.mem_append.1 hy with hy | hy
  · exact h y hy
  · rw [List.mem_singleton.1 hy]
    exact hx
/-- One more try of those that lie there. -/
theorem ts_snoc {u w : World} {ys : List (Tr × Value)} {L : Blks} {oa : Option Addr} {oc : Nat} {x : Tr × Value} {g' c' : Nat} (HROW : Row tvC 9 36 ys (.slice oa ys.length oc) L) (HO : base.Own u w L) {o : Obj} {w5 : World}
    (ho : w5.ownsRow u.heap.size 36 9 (.slice (some ⟨g', 0, none⟩) (ys.length + 1) c') (ys.length + 1) (rows tvC ys ++ tvC x)) (hg : (w.alloc o).grownBy w5 (Value.slice oa ys.length oc).ownBlock) (hv : some g' = (Value.slice oa ys.length oc).ownBlock ∨ (w.alloc o).heap.size ≤ g') :
    ∃ L', Row tvC 9 36 (ys ++ [x]) (.slice (some ⟨g', 0, none⟩) (ys.length + 1) c') L' ∧ base.Own u w5 L' := by
  obtain ⟨L', r1, r2⟩ := base.Row.snoc (x := x) HROW (R := []) (by rw [List.append_nil]; exact HO) (World.grownBy_alloc w o none) ho hg hv
  rw [List.append_nil] at r2
  exact ⟨L', r1, r2⟩

set_option maxHeartbeats 4000000 in
theorem comms_docA (a : Option Addr) (len cap : Nat) (e : Evs) (w : World) (hl : IsEvs w a len e) (hr : right e len = true) (hlen : len ≤ 1000) :
    Calls Try.prog 26 #[.slice a len cap] w fun r w' => ∃ a' c ys, r = .returned (.slice a' ys.length c) ∧ Hid (TsAt w' a' ys) ∧ Hid (ys.map Prod.fst = commsD e len) ∧ Hid (w.grownBy w' none) ∧ Hid (w'.ownsRow 0 36 9 (.slice a' ys.length c) ys.length (rows tvC ys)) ∧ Hid (∀ x ∈ ys, w'.ownsRow 0 65 6 x.2 x.1.ac.length (rows accC x.1.ac)) := by
  have HL := Lib.hid hl
  have HR := Lib.hid hr
  have HLEN := Lib.hid hlen
  obtain ⟨i0, hi0, hz00, hz10, hz20⟩ := info_parts infoTryD
  have hi := Lib.hid hi0
  have hz0 := Lib.hid hz00
  have hz1 := Lib.hid hz10
  have hz2 := Lib.hid hz20
  clear hl hr hlen hi0 hz00 hz10 hz20
  go_enter Try.func26, Try.ntmps26
  go_wp2_with fail
  refine (tries_docA a len cap e _ HL.out HR.out (by have := HLEN.out; omega)).mono ?_
  rintro r u1 ⟨ta, tc, ts, rfl, HT, HTS, g1, HAA⟩
  have hlen' : (len : Int) ≤ 1000 := by have := HLEN.out; omega
  have htl : ts.length ≤ 1000 := by
    have h9 := congrArg List.length HTS.out
    rw [List.length_map] at h9
    have h8 := tries_n e len
    have h7 := HLEN.out
    omega
  have htl2 : (ts.length : Int) ≤ 1000 := by omega
  have HLT := Lib.hid (show ts.length = (tries e len).length by rw [← HTS.out, List.length_map])
  go_wp2
  go_loopw [3, 5] (fun ov iv wr => ∃ (i : Nat) (ys : List (Tr × Value)) (L : Blks), i ≤ len ∧ iv = .int .i64 i ∧ Hid (Row tvC 9 36 ys ov L) ∧ Hid (base.Own u1 wr L) ∧ Hid (ys.map Prod.fst = (List.range i).flatMap fun (j : Nat) => (tries e len).filter fun t => t.co && decide (t.en = (j : Int))) ∧ Hid (∀ x ∈ ys, x ∈ ts) ∧ Hid (ys.length ≤ i * 1000)) (fun _ iv _ => (len - intOf iv).toNat)
  case atStart => exact ⟨0, [], [], by omega, rfl, Row.nil, base.Own.start u1, rfl, fun x hx => by simp at hx, Nat.zero_le _⟩
  case round =>
    obtain ⟨i, ys, L, hi1, rfl, HROW, HO, HYS, HIN, HN⟩ := hrel
    obtain ⟨oa, oc, rfl⟩ := HROW.out.slice
    by_cases hlt : i < len
    · have hlt' : (i : Int) < (len : Int) := by omega
      have HYS0 := Lib.hid HYS.out
      obtain ⟨B, hB⟩ : ∃ B, B = (List.range i).flatMap fun (j : Nat) => (tries e len).filter fun t => t.co && decide (t.en = (j : Int)) := ⟨_, rfl⟩
      rw [← hB] at HYS
      have HB := Lib.hid hB
      clear hB HYS0
      go_wp2
      go_loopw [3, 6] (fun ov kv wr => ∃ (k : Nat) (ys : List (Tr × Value)) (L : Blks), k ≤ ts.length ∧ kv = .int .i64 k ∧ Hid (Row tvC 9 36 ys ov L) ∧ Hid (base.Own u1 wr L) ∧ Hid (ys.map Prod.fst = B ++ ((tries e len).take k).filter fun t => t.co && decide (t.en = (i : Int))) ∧ Hid (∀ x ∈ ys, x ∈ ts) ∧ Hid (ys.length ≤ i * 1000 + k)) (fun _ kv _ => (ts.length - intOf kv).toNat)
      case atStart => exact ⟨0, ys, L, by omega, rfl, HROW, HO, by show _ = _; rw [HYS.out]; simp, HIN, HN⟩
      case round =>
        clear HROW HO HYS HIN HN
        obtain ⟨k, ys, L, hk1, rfl, HROW, HO, HYS, HIN, HN⟩ := hrel
        obtain ⟨oa, oc, rfl⟩ := HROW.out.slice
        by_cases hkl : k < ts.length
        · have hkl' : (k : Int) < (ts.length : Int) := by omega
          have hkx : (tries e len)[k]? = some ts[k].1 := by rw [← HTS.out, List.getElem?_map, List.getElem?_eq_getElem hkl]; rfl
          obtain ⟨b, off, va, vc, rfl, hb, hx2, HI, q0, q1, q2, q3, q4, q5, q6, q7, q8⟩ := (HT.out.grown HO.out.grow).at (List.getElem?_eq_getElem hkl)
          have hmem : ts[k] ∈ ts := List.getElem_mem hkl
          obtain ⟨t, ht⟩ : ∃ t, t = ts[k].1 := ⟨_, rfl⟩
          rw [← ht] at hkx hx2 q0 q1 q2 q3 q4 q5 q6 q7 q8
          have hpair : ts[k] = (t, .slice va t.ac.length vc) := Prod.ext ht.symm hx2
          rw [hpair] at hmem
          have HMEM := Lib.hid hmem
          have TF := Lib.hid (take_filter (tries e len) (fun t => t.co && decide (t.en = (i : Int))) hkx)
          clear hpair ht hkx hx2 hmem HI
          obtain ⟨xth, xtx, xat, xst, xb, xen, xre, xco, xac⟩ := t
          dsimp only at q0 q1 q2 q3 q4 q5 q6 q7 q8 HMEM TF
          have HOWN := Lib.hid (HROW.out.owns tvC_len (R := []) (by rw [List.append_nil]; exact HO.out))
          have hyn : ys.length ≤ 2000000 := by have := HN.out; have := HLEN.out; omega
          have hsz := HO.out.grow.size
          have hk6 : (k : Int) < 1000000 := by omega
          cases xco with
          | true =>
            by_cases hen : xen = (i : Int)
            · have fe : (xen == (i : Int)) = true := by simp [hen]
              have HP := Lib.hid (show ((tries e len).take (k + 1)).filter (fun t => t.co && decide (t.en = (i : Int))) = ((tries e len).take k).filter (fun t => t.co && decide (t.en = (i : Int))) ++ [(⟨xth, xtx, xat, xst, xb, xen, xre, true, xac⟩ : Tr)] by rw [TF.out, if_pos (by simp [hen])])
              clear hen TF
              go_wp2_with (first | (at_builtin; refine wpList_append_at _ rfl (.tmp 35) (.tmp 40) 59 rfl u1.heap.size 36 i0 (.agg #[.int .i64 0, .int .i64 0, .int .i64 0, .int .i64 0, .int .i64 0, .int .i64 0, .int .i64 0, .bool false, .slice none 0 0]) 9 88 Try.underlying59 hi.out hz0.out hz1.out hz2.out rfl (by decide) (.slice oa ys.length oc) ys.length (rows tvC ys) rfl (HOWN.out.alloc _) ⟨wr.heap.size, 0, none⟩ 1 1 (tvC ((⟨xth, xtx, xat, xst, xb, xen, xre, true, xac⟩ : Tr), .slice va ((⟨xth, xtx, xat, xst, xb, xen, xre, true, xac⟩ : Tr)).ac.length vc)) rfl rfl (new_cells wr _ _) (by intro u hu; simp [tvC, trC] at hu; rcases hu with rfl | rfl | rfl | rfl | rfl | rfl | rfl | rfl | rfl <;> rfl) (by unfold maxLen; omega) (by omega) (by simp; omega) (by decide) ?_; intro g' c' w5 ho hg hv; obtain ⟨L', r1, r2⟩ := ts_snoc (x := ((⟨xth, xtx, xat, xst, xb, xen, xre, true, xac⟩ : Tr), .slice va ((⟨xth, xtx, xat, xst, xb, xen, xre, true, xac⟩ : Tr)).ac.length vc)) HROW.out HO.out ho hg hv; have R1 := Lib.hid r1; have R2 := Lib.hid r2; clear ho hg hv r1 r2) | go_in)
              go_roundw
              case rel => exact ⟨k + 1, ys ++ [((⟨xth, xtx, xat, xst, xb, xen, xre, true, xac⟩ : Tr), .slice va xac.length vc)], L', by omega, by go_num, R1, R2, by show _ = _; rw [List.map_append, HYS.out, HP.out, List.append_assoc]; rfl, in_snoc HIN.out HMEM.out, by show _ ≤ _; rw [List.length_append]; have := HN.out; simp; omega⟩
              case measure => simp [intOf] <;> omega
            · have fe : (xen == (i : Int)) = false := by simp [hen]
              have HP := Lib.hid (show ((tries e len).take (k + 1)).filter (fun t => t.co && decide (t.en = (i : Int))) = ((tries e len).take k).filter (fun t => t.co && decide (t.en = (i : Int))) by rw [TF.out, if_neg (by simp [hen]), List.append_nil])
              clear hen TF
              go_wp2
              go_roundw
              case rel => exact ⟨k + 1, ys, L, by omega, by go_num, HROW, HO, by show _ = _; rw [HYS.out, HP.out], HIN, by show _ ≤ _; have := HN.out; omega⟩
              case measure => simp [intOf] <;> omega
          | false =>
            have HP := Lib.hid (show ((tries e len).take (k + 1)).filter (fun t => t.co && decide (t.en = (i : Int))) = ((tries e len).take k).filter (fun t => t.co && decide (t.en = (i : Int))) by rw [TF.out, if_neg (by simp), List.append_nil])
            clear TF
            go_wp2
            go_roundw
            case rel => exact ⟨k + 1, ys, L, by omega, by go_num, HROW, HO, by show _ = _; rw [HYS.out, HP.out], HIN, by show _ ≤ _; have := HN.out; omega⟩
            case measure => simp [intOf] <;> omega
        · obtain rfl : k = ts.length := by omega
          go_wp2
          go_roundw
          case rel => exact ⟨i + 1, ys, L, by omega, by go_num, HROW, HO, by (show _ = _; rw [HYS.out, HLT.out, List.take_length, HB.out, List.range_succ, List.flatMap_append]; simp), HIN, by show _ ≤ _; have := HN.out; omega⟩
          case measure => simp [intOf] <;> omega
    · obtain rfl : i = len := by omega
      go_wp2
      go_ret
      obtain ⟨a', c', hv, HZ⟩ := TsAt.of_row HROW.out (R := []) (by rw [List.append_nil]; exact HO.out) (fun x hx => (HT.out.grown HO.out.grow).2 x (HIN.out x hx))
      cases hv
      exact ⟨_, _, ys, rfl, HZ, HYS.out, gb_trans g1.out HO.out.grow, owns_zero (HROW.out.owns tvC_len (R := []) (by rw [List.append_nil]; exact HO.out)), fun x hx => ownsRow_keep (HAA.out x (HIN.out x hx)) (fun k e => HO.out.grow.block k ((HAA.out x (HIN.out x hx)).lt k e).2 (by simp))⟩

theorem comms_doc (a : Option Addr) (len cap : Nat) (e : Evs) (w : World) (hl : IsEvs w a len e) (hr : right e len = true) (hlen : len ≤ 1000) :
    Calls Try.prog 26 #[.slice a len cap] w fun r w' => ∃ a' c ys, r = .returned (.slice a' ys.length c) ∧ Hid (TsAt w' a' ys) ∧ Hid (ys.map Prod.fst = commsD e len) ∧ Hid (w.grownBy w' none) :=
  (comms_docA a len cap e w hl hr hlen).mono fun _ _ ⟨a', c, ys, h0, h1, h2, h3, _⟩ => ⟨a', c, ys, h0, h1, h2, h3⟩

end Go.Proofs.Ytdohepenmejcaaa.hs

/- The document's own answer of chapter 18: States. -/
namespace Go.Proofs.Ytdohepenmejcaaa.md
open Go Go.RowKit Go.Proofs.Ytdohepenmejcaaa.base Go.Proofs.Ytdohepenmejcaaa.hs Go.Proofs.Ytdohepenmejcaaa.lg Go.Maps
set_option linter.unusedVariables false
set_option maxRecDepth 100000

/-- At the head of a round. -/
structure DS (w : World) (a1 : Option Addr) (n c1 : Nat) (z : Nat → Int) (cs : List (List Acc)) (ta : Option Addr) (tc : Nat) (ys : List (Tr × Value)) (g oc : Nat) (us : List Value) (wr : World) : Prop where
  row : wr.ownsRow w.heap.size 22 1 (.slice (some ⟨g, 0, none⟩) us.length oc) us.length us
  fst : us[0]? = some (.slice a1 n c1)
  each : ∀ i u, 0 < i → us[i]? = some u → RowAt wr 0 n (stAt z cs i) u
  tr : wr.ownsRow 0 36 9 (.slice ta ys.length tc) ys.length (rows tvC ys)
  ac : ∀ x ∈ ys, wr.ownsRow 0 65 6 x.2 x.1.ac.length (rows accC x.1.ac)
  grow : w.grownBy wr none

section
variable {w wr w' u5 w6 : World} {a1 ta : Option Addr} {n c1 tc g oc : Nat} {z : Nat → Int} {cs : List (List Acc)} {ys : List (Tr × Value)} {us : List Value}
theorem DS.grown (h : DS w a1 n c1 z cs ta tc ys g oc us wr) (k : wr.grownBy w' none) : DS w a1 n c1 z cs ta tc ys g oc us w' :=
  ⟨ownsRow_keep h.row (fun i e => k.block i (h.row.lt i e).2 (by simp)), h.fst, fun i u h0 hu => (by
    obtain ⟨a, c, e, hr⟩ := h.each i u h0 hu
    exact ⟨a, c, e, ownsRow_keep hr (fun i e => k.block i (hr.lt i e).2 (by simp))⟩), ownsRow_keep h.tr (fun i e => k.block i (h.tr.lt i e).2 (by simp)), fun x hx => ownsRow_keep (h.ac x hx) (fun i e => k.block i ((h.ac x hx).lt i e).2 (by simp)), gb_trans h.grow k⟩
theorem DS.val (h : DS w a1 n c1 z cs ta tc ys g oc us wr) (hz : IsNums .i64 w a1 n z) {k : Nat} (hk : k < us.length) : ∃ ak ck, us[k]? = some (.slice ak n ck) ∧ IsNums .i64 wr ak n (stAt z cs k) := by
  by_cases h0 : k = 0
  · subst h0
    exact ⟨a1, c1, h.fst, hz.grown h.grow⟩
  · obtain ⟨a, c, e, hr⟩ := h.each k us[k] (by omega) (List.getElem?_eq_getElem hk)
    rw [e] at hr
    exact ⟨a, c, by rw [List.getElem?_eq_getElem hk, e], IsNums.of_own hr⟩
theorem DS.app (h : DS w a1 n c1 z cs ta tc ys g oc us wr) {a5 : Option Addr} {c5 g' c' : Nat} (g5 : wr.grownBy u5 none) (r5 : u5.ownsRow wr.heap.size 2 1 (.slice a5 n c5) n (vals (stAt z cs us.length) n))
    (ho : w6.ownsRow w.heap.size 22 1 (.slice (some ⟨g', 0, none⟩) (us.length + 1) c') (us.length + 1) (us ++ [.slice a5 n c5])) (hg : (u5.alloc (.cells #[.slice a5 n c5] 22)).grownBy w6 (some g)) :
    DS w a1 n c1 z cs ta tc ys g' c' (us ++ [.slice a5 n c5]) w6 := by
  have H := h.grown (gb_alloc g5 (.cells #[.slice a5 n c5] 22))
  have hrow := H.row
  have keep : ∀ {B E sz v m xs}, (u5.alloc (.cells #[.slice a5 n c5] 22)).ownsRow B E sz v m xs → E ≠ 22 → w6.ownsRow B E sz v m xs := fun {B E sz v m xs} hr hne => ownsRow_keep hr (fun i e => hg.block i (hr.lt i e).2 (fun e2 => by
    cases e2
    exact row_ne hr hrow hne _ e rfl))
  have hlen : us.length ≠ 0 := fun e => by
    have := h.fst
    rw [List.getElem?_eq_none (by omega)] at this
    cases this
  refine ⟨by rw [List.length_append]; exact ho, by rw [List.getElem?_append_left (by omega)]; exact h.fst, fun i u h0 hu => ?_, keep H.tr (by decide), fun x hx => keep (H.ac x hx) (by decide), gb_overO H.grow hg (fun i e => by cases e; exact (H.row.lt g rfl).1)⟩
  by_cases hi : i < us.length
  · rw [List.getElem?_append_left hi] at hu
    obtain ⟨a, c, e, hr⟩ := H.each i u h0 hu
    exact ⟨a, c, e, keep hr (by decide)⟩
  · rw [List.getElem?_append_right (by omega)] at hu
    have hi0 : i - us.length = 0 := by have := (List.getElem?_eq_some_iff.1 hu).1; simp at this; omega
    rw [hi0] at hu
    have hi1 : i = us.length := by omega
    subst hi1
    simp at hu
    subst hu
    have r6 := ownsRow_drop r5 (Nat.zero_le _)
    exact ⟨a5, c5, rfl, keep (r6.alloc _) (by decide)⟩
theorem DS.sts (h : DS w a1 n c1 z cs ta tc ys g oc us wr) (hz : IsNums .i64 w a1 n z) : StsAt wr (some ⟨g, 0, none⟩) us.length n (fun i => stAt z cs i) := by
  have hlt := (h.row.lt g rfl).2
  refine .inr ⟨g, 0, rfl, hlt, fun i hi => ?_⟩
  obtain ⟨ak, ck, e1, e2⟩ := h.val hz hi
  refine ⟨ak, ck, ?_, e2⟩
  rw [Nat.zero_add, ← e1]
  exact h.row.cellAt i (by omega)
end

set_option maxHeartbeats 4000000 in
theorem refstates_any (a1 : Option Addr) (n c1 : Nat) (z : Nat → Int) (a2 : Option Addr) (len cap : Nat) (e : Evs) (w : World) (hz : IsNums .i64 w a1 n z) (hl : IsEvs w a2 len e) (hn : n ≤ 1000) (hlen : len ≤ 1000) :
    Calls Try.prog 10 #[.slice a1 n c1, .slice a2 len cap] w fun r w' => ∃ a m c, r = .returned (.slice a m c) ∧ Hid (m = (cacs e len).length + 1) ∧ Hid (StsAt w' a m n (fun i => stAt z (cacs e len) i)) ∧ Hid (w.grownBy w' none) := by
  have HZ := Lib.hid hz
  have HL := Lib.hid hl
  clear hz hl
  obtain ⟨i0, hi0, hz00, hz10, hz20⟩ := info_parts infoRow
  have hi := Lib.hid hi0
  have hz0 := Lib.hid hz00
  have hz1 := Lib.hid hz10
  have hz2 := Lib.hid hz20
  clear hi0 hz00 hz10 hz20
  have BR := Lib.hid (Blk.made w 22 #[.slice a1 n c1])
  have GA := Lib.hid (World.grownBy_alloc w (.cells #[.slice a1 n c1] 22) none)
  have RO : Hid ((w.alloc (.cells #[.slice a1 n c1] 22)).ownsRow w.heap.size 22 1 (.slice (some ⟨w.heap.size, 0, none⟩) 1 1) 1 [.slice a1 n c1]) := Lib.hid ⟨rfl, .inr ⟨w.heap.size, 1, #[.slice a1 n c1], rfl, Nat.le_refl _, heap_alloc_new w _, Nat.le_refl _, by unfold maxLen; omega, rfl, rfl⟩⟩
  go_enter Try.func10, Try.ntmps10
  go_wp2_with fail
  cases hr : right e len with
  | false =>
    refine (right_doc a2 len cap e _ (HL.out.grown GA.out) (by omega)).mono ?_
    rw [hr]
    rintro r u1 ⟨rfl, g1⟩
    have HC := Lib.hid (show cacs e len = [] by unfold cacs; rw [if_neg (by rw [hr]; simp)])
    go_wp2
    go_ret
    refine ⟨some ⟨w.heap.size, 0, none⟩, 1, 1, rfl, (by show _ = _; rw [HC.out]; rfl), ?_, gb_trans GA.out g1.out⟩
    show StsAt _ _ _ _ _
    rw [HC.out]
    have BR1 := BR.out.grown g1.out (by simp)
    refine .inr ⟨w.heap.size, 0, rfl, BR1.lt, fun i hi => ?_⟩
    obtain rfl : i = 0 := by omega
    exact ⟨a1, c1, BR1.cell 0, HZ.out.grown (gb_trans GA.out g1.out)⟩
  | true =>
    refine (right_doc a2 len cap e _ (HL.out.grown GA.out) (by omega)).mono ?_
    rw [hr]
    rintro r u1 ⟨rfl, g1⟩
    have G1 := Lib.hid (gb_trans GA.out g1.out)
    go_wp2_with fail
    refine (comms_docA a2 len cap e _ (HL.out.grown G1.out) hr (by omega)).mono ?_
    rintro r u2 ⟨ta, tc, ys, rfl, hT, hY, g2, hrt, hra⟩
    have HCS := Lib.hid (show ys.map (fun x => x.1.ac) = cacs e len by unfold cacs; rw [if_pos hr, ← hY.out, List.map_map]; rfl)
    have HCL := Lib.hid (show (cacs e len).length = ys.length by rw [← HCS.out, List.length_map])
    have hyl : ys.length ≤ 1000 := by have h1 := HCL.out; have h2 := cacs_len e len; omega
    have hal : Hid (∀ x ∈ ys, x.1.ac.length ≤ 1000) := Lib.hid (fun x hx => by
      have h1 : x.1 ∈ commsD e len := by rw [← hY.out]; exact List.mem_map_of_mem hx
      have h2 := (commsD_perm e hr).mem_iff.1 h1
      obtain ⟨b, _, _, hb⟩ := (tries_mem e len x.1).1 (List.mem_filter.1 h2).1
      rw [← hb]
      exact Nat.le_trans (hs.trAt_ac e b len) hlen)
    have G12 := Lib.hid (gb_trans g1.out g2.out)
    have D0 : Hid (DS w a1 n c1 z (cacs e len) ta tc ys w.heap.size 1 [.slice a1 n c1] u2) := Lib.hid ⟨ownsRow_keep RO.out (fun k e => G12.out.block k (RO.out.lt k e).2 (by simp)), rfl, fun i u h0 hu => (by
      have := (List.getElem?_eq_some_iff.1 hu).1
      simp at this
      omega), hrt.out, hra.out, gb_trans G1.out g2.out⟩
    clear RO BR hT hrt hra g1 g2 G12 hr
    go_wp2
    go_loopw [5, 7] (fun ov iv wr => ∃ (k g oc : Nat) (us : List Value), k ≤ ys.length ∧ iv = .int .i64 k ∧ ov = .slice (some ⟨g, 0, none⟩) us.length oc ∧ Hid (us.length = k + 1) ∧ Hid (DS w a1 n c1 z (cacs e len) ta tc ys g oc us wr)) (fun _ iv _ => (ys.length - intOf iv).toNat)
    case atStart => exact ⟨0, w.heap.size, 1, [.slice a1 n c1], by omega, rfl, rfl, rfl, D0⟩
    case round =>
      obtain ⟨k, g, oc, us, hk, rfl, rfl, HUL, D⟩ := hrel
      clear D0
      by_cases hlt : k < ys.length
      · have hlt' : (k : Int) < (ys.length : Int) := by omega
        have hk6 : (k : Int) < 1000000 := by omega
        have hku : k < us.length := by have := HUL.out; omega
        have hku' : (k : Int) < (us.length : Int) := by omega
        obtain ⟨ak, ck, e1, NV⟩ := D.out.val HZ.out hku
        have HNV := Lib.hid NV
        have x0 : wr.cell? ⟨g, k, none⟩ = some (.slice ak n ck) := (D.out.row.cellAt k (by omega)).trans e1
        have hgl := (D.out.row.lt g rfl).2
        have hgk := List.getElem?_eq_getElem hlt
        have hmem : ys[k] ∈ ys := List.getElem_mem hlt
        obtain ⟨b, off, rfl, hb, hc⟩ := (IsL.of_own D.out.tr tvC_len rfl).at tvC_len hgk
        have hcs : (cacs e len)[k]? = some ys[k].1.ac := by rw [← HCS.out, List.getElem?_map, hgk]; rfl
        have hac := D.out.ac ys[k] hmem
        have hacl := hal.out ys[k] hmem
        have ST := Lib.hid (stAt_step z hcs)
        obtain ⟨va, vc, hv⟩ := owns_slice hac
        obtain ⟨t, ht⟩ : ∃ t, t = ys[k].1 := ⟨_, rfl⟩
        have hyk : ys[k] = (t, .slice va t.ac.length vc) := Prod.ext ht.symm (by rw [ht]; exact hv)
        rw [hyk] at hc hac hacl ST
        have HAC := Lib.hid (IsL.of_own hac accC_len rfl)
        have d0 : wr.cell? ⟨b, off + k * 9, none⟩ = some (.int .i64 t.th) := hc 0 _ rfl
        have d1 := hc 1 _ rfl; have d2 := hc 2 _ rfl; have d3 := hc 3 _ rfl; have d4 := hc 4 _ rfl; have d5 := hc 5 _ rfl; have d6 := hc 6 _ rfl; have d7 := hc 7 _ rfl; have d8 := hc 8 _ rfl
        dsimp only at hacl ST HAC
        have hul : us.length ≤ 2000 := by have := HUL.out; omega
        clear hgk hmem hcs hac hv ht hyk hc e1 NV
        go_wp2
        go_region_law (first
          | (refine step_call rfl 17 #[.slice ak n ck, .agg #[.int .i64 t.th, .int .i64 t.tx, .int .i64 t.at_, .int .i64 t.st, .int .i64 t.b, .int .i64 t.en, .int .i64 t.re, .bool t.co, .slice va t.ac.length vc]] (by simp [Act.eval, Act.put, go_sem]) (refapply_any ak n ck (stAt z (cacs e len) k) t va vc wr.drew (HNV.out.grown (gb_drew (gb_refl wr none))) (HAC.out.grown (gb_drew (gb_refl wr none))) (by omega) (by omega)) ?_; rintro r u5 ⟨a5, c5, rfl, hr5, g5⟩; refine ⟨_, rfl, ?_⟩; have D5 := Lib.hid ((D.out.grown (gb_drew (gb_refl wr none))).grown g5.out))
          | (refine step_append_at rfl (.tmp 22) (.tmp 32) 25 rfl w.heap.size 22 i0 (.slice none 0 0) 1 24 Try.underlying25 hi.out hz0.out hz1.out hz2.out rfl (by decide) (.slice (some ⟨g, 0, none⟩) us.length oc) us.length us rfl (D5.out.row.alloc _) ⟨u5.heap.size, 0, none⟩ 1 1 [.slice a5 n c5] rfl rfl (new_cells u5 _ _) (by intro u hu; simp at hu; subst hu; rfl) (by unfold maxLen; omega) (by omega) (by have := D5.out.grow.size; simp; omega) (by decide) ?_; intro g' c' w6 ho hg hv))
        all_goals
          go_wp2
          go_roundw
          case rel =>
            refine ⟨k + 1, g', c', us ++ [.slice a5 n c5], by omega, by go_num, by rw [List.length_append]; rfl, by show _ = _; rw [List.length_append, HUL.out]; rfl, Lib.hid ((D.out.grown (gb_drew (gb_refl wr none))).app g5.out ?_ ho hg)⟩
            rw [HUL.out, ST.out]
            exact hr5.out
          case measure => simp [intOf]; omega
      · obtain rfl : k = ys.length := by omega
        go_wp2
        go_ret
        exact ⟨some ⟨g, 0, none⟩, us.length, oc, rfl, (by show _ = _; rw [HCL.out]; exact HUL.out), D.out.sts HZ.out, D.out.grow⟩
end Go.Proofs.Ytdohepenmejcaaa.md

/- The contracts of the document's own: quarrelref11.Alone, quarrelref01.Vals. -/
namespace Go.Proofs.Ytdohepenmejcaaa.lg
open Go Go.RowKit Go.Proofs.Ytdohepenmejcaaa.base
set_option linter.unusedVariables false

theorem vals_true (a b : Option Addr) (n ca cb : Nat) (f : Nat → Int) (w : World) (ha : IsNums .i64 w a n f) (hb : IsNums .i64 w b n f) (hm : n ≤ 100000) :
    Calls Try.prog 13 #[.slice a n ca, .slice b n cb] w fun e w' => e = .returned (.bool true) ∧ Hid (w.grownBy w' none) := by
  have HA := Lib.hid ha
  have HB := Lib.hid hb
  clear ha hb
  go_enter Try.func13, Try.ntmps13
  go_wp2_with fail
  go_loopw [5] (fun i wr => ∃ k : Nat, k ≤ n ∧ i = .int .i64 k ∧ Hid (w.grownBy wr none)) (fun i _ => (n - intOf i).toNat)
  case atStart => exact ⟨0, by omega, rfl, gb_refl _ _⟩
  case round =>
    obtain ⟨k, hk, rfl, G⟩ := hrel
    by_cases hlt : k < n
    · obtain ⟨b1, o1, rfl, hb1, d1⟩ := (HA.out.grown G.out).at1 hlt
      obtain ⟨b2, o2, rfl, hb2, d2⟩ := (HB.out.grown G.out).at1 hlt
      have hlt' : (k : Int) < (n : Int) := by omega
      generalize f k = x at *
      go_wp2_with fail
      go_quiet (fail)
      go_wp2
      go_roundw
      case rel => exact ⟨k + 1, by omega, by go_num, by first | exact gb_drewN G.out _ | exact gb_drew (gb_drewN G.out _)⟩
      case measure => simp [intOf]; omega
    · obtain rfl : k = n := by omega
      go_wp2
      go_ret
      exact ⟨rfl, G⟩

/-- What is known at the head of a round. -/
structure BR (w : World) (z : Nat → Nat → Int) (v : Nat → Int) (n k : Nat) (b' : Option Addr) (c' : Nat) (wr : World) : Prop where
  row : wr.ownsRow w.heap.size 2 1 (.slice b' n c') n (vals (run z v k).2 n)
  grow : w.grownBy wr none

section
variable {w wr w' : World} {n k c' : Nat} {b' : Option Addr} {z : Nat → Nat → Int} {v : Nat → Int}
theorem BR.grown (h : BR w z v n k b' c' wr) (g : wr.grownBy w' none) : BR w z v n k b' c' w' :=
  ⟨ownsRow_keep h.row fun b e => g.block b (h.row.lt b e).2 (by simp), gb_trans h.grow g⟩
theorem BR.same (h : BR w z v n k b' c' wr) (e : (run z v (k + 1)).2 = (run z v k).2) : BR w z v n (k + 1) b' c' wr := ⟨by rw [e]; exact h.row, h.grow⟩
theorem BR.at (h : BR w z v n k b' c' wr) {i : Nat} (hi : i < n) : ∃ g, b' = some ⟨g, 0, none⟩ ∧ w.heap.size ≤ g ∧ g < wr.heap.size ∧ wr.cell? ⟨g, i, none⟩ = some (.int .i64 ((run z v k).2 i)) ∧ wr.frozen? ⟨g, i, none⟩ = false := by
  rcases h.row.2 with ⟨_, h0⟩ | ⟨g, cap, cur, e, hb, hg, _⟩
  · omega
  · injection e with e1 e2 e3
    subst e1
    refine ⟨g, rfl, hb, lt_of_block hg, (h.row.cellAt i (by omega)).trans (vals_get _ n i hi), by simp [World.frozen?, hg]⟩
theorem BR.set (h : BR w z v n k b' c' wr) {i g : Nat} {u : Int} (hi : i < n) (hg : b' = some ⟨g, 0, none⟩) (hb : w.heap.size ≤ g) (e : (run z v (k + 1)).2 = fun j => if j = i then u else (run z v k).2 j) : BR w z v n (k + 1) b' c' (wr.setCell ⟨g, i, none⟩ (.int .i64 u)) := by
  refine ⟨?_, gb_setNew h.grow hb _⟩
  rw [e, ← vals_set]
  exact ownsRow_set h.row (by rw [hg]; rfl) hi _
end

theorem refalone_any (a1 : Option Addr) (len cap : Nat) (z : Nat → Nat → Int) (a2 : Option Addr) (n cap2 : Nat) (v : Nat → Int) (w : World) (hz : IsOps w a1 len z) (hv : IsNums .i64 w a2 n v) (hok : okN z n len = true) (hn : n ≤ 100000) (hl : len ≤ 1000) :
    Calls Try.prog 36 #[.slice a1 len cap, .slice a2 n cap2] w fun e w' => ∃ b' c', e = .returned (.slice b' n c') ∧ Hid (w'.ownsRow w.heap.size 2 1 (.slice b' n c') n (vals (run z v len).2 n)) ∧ Hid (w.grownBy w' none) := by
  have HK := Lib.hid hok
  have Z := Lib.hid hz
  have V := Lib.hid (hv.grown (World.grownBy_alloc w (.cells #[] 2) none)).src
  clear hz hok hv
  go_enter Try.func36, Try.ntmps36
  go_wp2_with (at_builtin; go_loud (refine append64 _ rfl (.tmp 9) (.tmp 10) rfl w.heap.size _ 0 [] rfl (ownsRow_empty w _ 1) a2 n cap2 (vals v n) rfl (by simp [vals]) V.out (one_nums _ _ _) (by omega) (by simp) ?_); intro b' c' u2 ho hg hv; clear hv)
  simp only [Nat.zero_add, List.nil_append] at ho
  have A0 : Hid (BR w z v n 0 b' c' u2) := ⟨ho, gb_overO (World.grownBy_alloc w _ none) hg (by intro i e; cases e; exact Nat.le_refl _)⟩
  clear ho hg V
  go_loopw [6, 7] (fun sv iv wr => ∃ k : Nat, k ≤ len ∧ iv = .int .i64 k ∧ sv = .int .i64 (run z v k).1 ∧ Hid (BR w z v n k b' c' wr)) (fun _ iv _ => (len - intOf iv).toNat)
  case atStart => exact ⟨0, by omega, rfl, rfl, A0⟩
  case round =>
    obtain ⟨k, hk, rfl, rfl, A⟩ := hrel
    clear A0
    by_cases hlt : k < len
    · obtain ⟨b1, off1, rfl, hb1, c0, c1, c2⟩ := (Z.out.grown A.out.grow).at3 hlt
      have hlt' : (k : Int) < (len : Int) := by omega
      have hB := okN_at HK.out hlt
      have A2 := Lib.hid (A.out.grown (World.grownBy_alloc wr (.cells #[.int .i64 (z k 0), .int .i64 (z k 1), .int .i64 (z k 2)] 102) none))
      have hS : Hid (run z v (k + 1) = if z k 0 = 1 then ((run z v k).2 (z k 1).toNat, (run z v k).2) else if z k 0 = 2 then ((run z v k).1, fun i => if i = (z k 1).toNat then (run z v k).1 else (run z v k).2 i) else (sumI (z k 0) (z k 2) (run z v k).1, (run z v k).2)) := rfl
      clear A
      generalize z k 0 = z0 at *
      generalize z k 1 = z1 at *
      generalize z k 2 = z2 at *
      rcases okB_kind hB with rfl | rfl | rfl | rfl | rfl
      · obtain ⟨i, rfl, hin⟩ := okB_obj hB (.inl rfl)
        obtain ⟨g, hg, hb, hgl, cv, fv⟩ := A2.out.at hin
        subst hg
        have S1 := Lib.hid (show (run z v (k + 1)).1 = (run z v k).2 i by rw [hS.out]; simp)
        have A3 := Lib.hid (A2.out.same (by rw [hS.out]; simp))
        have hin' : (i : Int) < (n : Int) := by omega
        clear hB hS A2
        generalize hs : (run z v k).1 = s at *
        generalize hf : (run z v k).2 i = fi at *
        have HS := Lib.hid hs
        have HF := Lib.hid hf
        clear hs hf
        go_wp2
        go_roundw
        case rel => exact ⟨k + 1, by omega, by go_num, by rw [S1.out], A3⟩
        case measure => simp [intOf]; omega
      · obtain ⟨i, rfl, hin⟩ := okB_obj hB (.inr rfl)
        obtain ⟨g, hg, hb, hgl, cv, fv⟩ := A2.out.at hin
        subst hg
        have S1 := Lib.hid (show (run z v (k + 1)).1 = (run z v k).1 by rw [hS.out]; simp)
        have A3 := Lib.hid (A2.out.set (u := (run z v k).1) hin rfl hb (by rw [hS.out]; simp))
        have hin' : (i : Int) < (n : Int) := by omega
        clear hB hS A2
        generalize hs : (run z v k).1 = s at *
        generalize hf : (run z v k).2 i = fi at *
        have HS := Lib.hid hs
        have HF := Lib.hid hf
        clear hs hf
        go_wp2
        go_roundw
        case rel => exact ⟨k + 1, by omega, by go_num, by rw [S1.out], A3⟩
        case measure => simp [intOf]; omega
      · have S1 := Lib.hid (show (run z v (k + 1)).1 = z2 by rw [hS.out]; simp [sumI])
        have A3 := Lib.hid (A2.out.same (by rw [hS.out]; simp))
        clear hB hS A2
        generalize hs : (run z v k).1 = s at *
        have HS := Lib.hid hs
        clear hs
        go_wp2
        go_roundw
        case rel => exact ⟨k + 1, by omega, by go_num, by rw [S1.out], A3⟩
        case measure => simp [intOf]; omega
      · have S1 := Lib.hid (show (run z v (k + 1)).1 = wrap64 ((run z v k).1 + z2) by rw [hS.out]; simp [sumI])
        have A3 := Lib.hid (A2.out.same (by rw [hS.out]; simp))
        clear hB hS A2
        generalize hs : (run z v k).1 = s at *
        have HS := Lib.hid hs
        clear hs
        go_wp2
        go_roundw
        case rel => exact ⟨k + 1, by omega, by go_num, by rw [S1.out], A3⟩
        case measure => simp [intOf]; omega
      · have S1 := Lib.hid (show (run z v (k + 1)).1 = (run z v k).1 by rw [hS.out]; simp [sumI])
        have A3 := Lib.hid (A2.out.same (by rw [hS.out]; simp))
        clear hB hS A2
        generalize hs : (run z v k).1 = s at *
        have HS := Lib.hid hs
        clear hs
        go_wp2
        go_roundw
        case rel => exact ⟨k + 1, by omega, by go_num, by rw [S1.out], A3⟩
        case measure => simp [intOf]; omega
    · obtain rfl : k = len := by omega
      go_wp2
      go_ret
      exact ⟨b', c', rfl, A.out.row, A.out.grow⟩
end Go.Proofs.Ytdohepenmejcaaa.lg
