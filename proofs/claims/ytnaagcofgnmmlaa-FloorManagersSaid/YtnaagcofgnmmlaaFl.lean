/- Package floor: what makes one: Check, managers, and the parts of a floor. -/
import Derived.Test.YtnaagcofgnmmlaaMade04
import Derived.Test.YtnaagcofgnmmlaaGtCK
import Derived.Test.YtnaagcofgnmmlaaTick
import Derived.Test.YtnaagcofgnmmlaaHold
import Derived.Deep.RegionWith
import Derived.Deep.RegionLaw
import Derived.Deep.RegionHeld3
namespace Go.Proofs.Ytnaagcofgnmmlaa.fl
open Go Go.RowKit Go.Proofs.Ytnaagcofgnmmlaa.base Go.Proofs.Ytnaagcofgnmmlaa.ar Go.Proofs.Ytnaagcofgnmmlaa.ds Go.Proofs.Ytnaagcofgnmmlaa.mm Go.Proofs.Ytnaagcofgnmmlaa.ce
set_option linter.unusedVariables false

/-- Is n from l to m? -/
def inB (n l m : Int) : Bool := decide (l ≤ n) && decide (n ≤ m)
theorem inB_true {n l m : Int} (h : inB n l m = true) : l ≤ n ∧ n ≤ m := by simpa [inB] using h
theorem inB_of {n l m : Int} (h : l ≤ n) (h2 : n ≤ m) : inB n l m = true := by simp [inB, h, h2]
theorem inB_not {n l m : Int} (h : n < l ∨ m < n) : inB n l m = false := by simp [inB]; omega

theorem within_any (n l m : Int) (b : Bool) (h : inB n l m = b) (w : World) : Calls Try.prog 14 #[.int .i64 n, .int .i64 l, .int .i64 m] w fun e w' => e = .returned (.bool b) ∧ w = w' := by
  subst h
  by_cases h1 : l ≤ n
  · have d1 : decide (l ≤ n) = true := by simpa using h1
    have hb : inB n l m = decide (n ≤ m) := by simp [inB, h1]
    rw [hb]
    clear hb h1
    go_enter Try.func14, Try.ntmps14
    go_wp2
    go_ret
    exact ⟨rfl, rfl⟩
  · have d1 : decide (l ≤ n) = false := by simpa using h1
    have hb : inB n l m = false := by simp [inB, h1]
    rw [hb]
    clear hb h1
    go_enter Try.func14, Try.ntmps14
    go_wp2
    go_ret
    exact ⟨rfl, rfl⟩

/-- May a config be? -/
def okC (o t r k m p : Int) : Bool := inB o 1 8 && (inB t 1 6 && (inB r 1 4096 && (inB k 0 255 && (inB m 1 4 && inB p 1 64))))

theorem check_any (o t r k m p : Int) (w : World) : Calls Try.prog 9 #[.agg #[.int .i64 o, .int .i64 t, .int .i64 r, .int .i64 k, .int .i64 m, .int .i64 p]] w fun e w' => e = .returned (.bool (okC o t r k m p)) ∧ Hid (w.grownBy w' none) := by
  by_cases h0 : inB o 1 8 = true
  · have k0 := Lib.hid h0; clear h0
    by_cases h1 : inB t 1 6 = true
    · have k1 := Lib.hid h1; clear h1
      by_cases h2 : inB r 1 4096 = true
      · have k2 := Lib.hid h2; clear h2
        by_cases h3 : inB k 0 255 = true
        · have k3 := Lib.hid h3; clear h3
          by_cases h4 : inB m 1 4 = true
          · have k4 := Lib.hid h4; clear h4
            by_cases h5 : inB p 1 64 = true
            · have k5 := Lib.hid h5; clear h5
              have hb : okC o t r k m p = true := by simp [okC, k0.out, k1.out, k2.out, k3.out, k4.out, k5.out]
              rw [hb]; clear hb
              go_enter Try.func9, Try.ntmps9
              go_wp2_with fail
              refine (within_any o 1 8 _ k0.out _).mono ?_
              rintro e v ⟨rfl, rfl⟩
              go_wp2_with fail
              refine (within_any t 1 6 _ k1.out _).mono ?_
              rintro e v ⟨rfl, rfl⟩
              go_wp2_with fail
              refine (within_any r 1 4096 _ k2.out _).mono ?_
              rintro e v ⟨rfl, rfl⟩
              go_wp2_with fail
              refine (within_any k 0 255 _ k3.out _).mono ?_
              rintro e v ⟨rfl, rfl⟩
              go_wp2_with fail
              refine (within_any m 1 4 _ k4.out _).mono ?_
              rintro e v ⟨rfl, rfl⟩
              go_wp2_with fail
              refine (within_any p 1 64 _ k5.out _).mono ?_
              rintro e v ⟨rfl, rfl⟩
              go_wp2
              go_ret
              exact ⟨rfl, gb_alloc (gb_refl _ _) _⟩
            · have k5 := Lib.hid (Bool.eq_false_iff.2 h5); clear h5
              have hb : okC o t r k m p = false := by simp [okC, k0.out, k1.out, k2.out, k3.out, k4.out, k5.out]
              rw [hb]; clear hb
              go_enter Try.func9, Try.ntmps9
              go_wp2_with fail
              refine (within_any o 1 8 _ k0.out _).mono ?_
              rintro e v ⟨rfl, rfl⟩
              go_wp2_with fail
              refine (within_any t 1 6 _ k1.out _).mono ?_
              rintro e v ⟨rfl, rfl⟩
              go_wp2_with fail
              refine (within_any r 1 4096 _ k2.out _).mono ?_
              rintro e v ⟨rfl, rfl⟩
              go_wp2_with fail
              refine (within_any k 0 255 _ k3.out _).mono ?_
              rintro e v ⟨rfl, rfl⟩
              go_wp2_with fail
              refine (within_any m 1 4 _ k4.out _).mono ?_
              rintro e v ⟨rfl, rfl⟩
              go_wp2_with fail
              refine (within_any p 1 64 _ k5.out _).mono ?_
              rintro e v ⟨rfl, rfl⟩
              go_wp2
              go_ret
              exact ⟨rfl, gb_alloc (gb_refl _ _) _⟩
          · have k4 := Lib.hid (Bool.eq_false_iff.2 h4); clear h4
            have hb : okC o t r k m p = false := by simp [okC, k0.out, k1.out, k2.out, k3.out, k4.out]
            rw [hb]; clear hb
            go_enter Try.func9, Try.ntmps9
            go_wp2_with fail
            refine (within_any o 1 8 _ k0.out _).mono ?_
            rintro e v ⟨rfl, rfl⟩
            go_wp2_with fail
            refine (within_any t 1 6 _ k1.out _).mono ?_
            rintro e v ⟨rfl, rfl⟩
            go_wp2_with fail
            refine (within_any r 1 4096 _ k2.out _).mono ?_
            rintro e v ⟨rfl, rfl⟩
            go_wp2_with fail
            refine (within_any k 0 255 _ k3.out _).mono ?_
            rintro e v ⟨rfl, rfl⟩
            go_wp2_with fail
            refine (within_any m 1 4 _ k4.out _).mono ?_
            rintro e v ⟨rfl, rfl⟩
            go_wp2
            go_ret
            exact ⟨rfl, gb_alloc (gb_refl _ _) _⟩
        · have k3 := Lib.hid (Bool.eq_false_iff.2 h3); clear h3
          have hb : okC o t r k m p = false := by simp [okC, k0.out, k1.out, k2.out, k3.out]
          rw [hb]; clear hb
          go_enter Try.func9, Try.ntmps9
          go_wp2_with fail
          refine (within_any o 1 8 _ k0.out _).mono ?_
          rintro e v ⟨rfl, rfl⟩
          go_wp2_with fail
          refine (within_any t 1 6 _ k1.out _).mono ?_
          rintro e v ⟨rfl, rfl⟩
          go_wp2_with fail
          refine (within_any r 1 4096 _ k2.out _).mono ?_
          rintro e v ⟨rfl, rfl⟩
          go_wp2_with fail
          refine (within_any k 0 255 _ k3.out _).mono ?_
          rintro e v ⟨rfl, rfl⟩
          go_wp2
          go_ret
          exact ⟨rfl, gb_alloc (gb_refl _ _) _⟩
      · have k2 := Lib.hid (Bool.eq_false_iff.2 h2); clear h2
        have hb : okC o t r k m p = false := by simp [okC, k0.out, k1.out, k2.out]
        rw [hb]; clear hb
        go_enter Try.func9, Try.ntmps9
        go_wp2_with fail
        refine (within_any o 1 8 _ k0.out _).mono ?_
        rintro e v ⟨rfl, rfl⟩
        go_wp2_with fail
        refine (within_any t 1 6 _ k1.out _).mono ?_
        rintro e v ⟨rfl, rfl⟩
        go_wp2_with fail
        refine (within_any r 1 4096 _ k2.out _).mono ?_
        rintro e v ⟨rfl, rfl⟩
        go_wp2
        go_ret
        exact ⟨rfl, gb_alloc (gb_refl _ _) _⟩
    · have k1 := Lib.hid (Bool.eq_false_iff.2 h1); clear h1
      have hb : okC o t r k m p = false := by simp [okC, k0.out, k1.out]
      rw [hb]; clear hb
      go_enter Try.func9, Try.ntmps9
      go_wp2_with fail
      refine (within_any o 1 8 _ k0.out _).mono ?_
      rintro e v ⟨rfl, rfl⟩
      go_wp2_with fail
      refine (within_any t 1 6 _ k1.out _).mono ?_
      rintro e v ⟨rfl, rfl⟩
      go_wp2
      go_ret
      exact ⟨rfl, gb_alloc (gb_refl _ _) _⟩
  · have k0 := Lib.hid (Bool.eq_false_iff.2 h0); clear h0
    have hb : okC o t r k m p = false := by simp [okC, k0.out]
    rw [hb]; clear hb
    go_enter Try.func9, Try.ntmps9
    go_wp2_with fail
    refine (within_any o 1 8 _ k0.out _).mono ?_
    rintro e v ⟨rfl, rfl⟩
    go_wp2
    go_ret
    exact ⟨rfl, gb_alloc (gb_refl _ _) _⟩

/-- The manager of a number. -/
def mgr (m : Int) : Value := if m = 4 then .iface 113 (.agg #[]) else if m = 3 then .iface 110 (.agg #[]) else if m = 2 then .iface 109 (.agg #[]) else .iface 106 (.agg #[])

/-- What the map of managers has. -/
def mgrF (i : Int) : Option Value := if i = 4 then some (mgr 4) else if i = 3 then some (mgr 3) else if i = 2 then some (mgr 2) else if i = 1 then some (mgr 1) else none
theorem mgrF_get {m : Int} (h : 1 ≤ m) (h4 : m ≤ 4) : mgrF m = some (mgr m) := by
  unfold mgrF
  by_cases e4 : m = 4
  · subst e4; rfl
  by_cases e3 : m = 3
  · subst e3; rfl
  by_cases e2 : m = 2
  · subst e2; rfl
  obtain rfl : m = 1 := by omega
  rfl

theorem zeroM (w : World) : (zeroValue 39).run Try.prog w = .ok .nilIface w := by kernel_rfl

theorem mkM (w : World) : (Instr.makeMap 81 none).run Try.prog w = .ok (.map (some w.heap.size)) (w.alloc (.map #[] 0)) := by simp [Instr.makeMap, go_sem]

/-- A store of a map that is written out. -/
theorem wpList_insM {P : Program} (w : World) {ops : Array Oper} {rest : List Oper} {o : Oper} {a : Act} {Q : Exit → Act → World → Prop}
    (hg : o.guard = none) (m x v : Operand) (t : TypeId) (hop : o.op = Op.insert t m x v)
    (k e : TypeId) (hk : P.underlying k = some (.int .i64)) (ht : P.underlying t = some (.map k e)) (b n : Nat) (f : Int → Option Value)
    (hm : a.eval m = .map (some b)) (h : MapF P k w b n f) (hn : n < maxLen) (j : Int) (hx : a.eval x = .int .i64 j) (hj : (Lit.int .i64 j).wf = true) (hf : f j = none) (val : Value) (hv : a.eval v = val)
    (hK : ∀ w', MapF P k w' b (n + 1) (fun i => if i = j then some val else f i) → w.grownBy w' (some b) → wpList P ops Q rest (a.put o.dst undef) w') :
    wpList P ops Q (o :: rest) a w := by
  refine wpList_plain hg fun K' hK' => ?_
  obtain ⟨w', hrun, r1, r2⟩ := h.put hk ht hn hj hf val
  unfold Oper.wp
  simp [execOp, hop, hm, hx, hv, hrun, Result.andThen]
  exact hK' _ _ (hK w' r1 r2)

set_option maxRecDepth 100000 in
theorem managers_any (w : World) : Calls Try.prog 20 #[] w fun e w' => ∃ mb, e = .returned (.map (some mb)) ∧ Hid (MapF Try.prog 3 w' mb 4 mgrF) ∧ Hid (w.grownBy w' none) := by
  have hmm := mkM
  have N1 := Lib.hid (MapF.made w Try.prog 3)
  have G1 := Lib.hid (World.grownBy_alloc w (.map #[] 0) none)
  generalize hv : w.alloc (.map #[] 0) = v1 at *
  have HV := Lib.hid hv
  generalize hm : w.heap.size = mb at *
  have HM := Lib.hid hm
  have hmm' : (Instr.makeMap 81 none).run Try.prog w = .ok (.map (some mb)) v1 := by rw [hmm, hv, hm]
  clear hv hm hmm
  go_enter Try.func20, Try.ntmps20
  go_wp2_with (first | (refine wpList_insM _ rfl (.tmp 1) (.const (.int .i64 1)) (.tmp 3) 81 rfl 3 39 Try.underlying3 Try.underlying81 mb 0 _ rfl N1.out (by decide) 1 rfl (by decide) rfl (mgr 1) rfl ?_; intro v2 M2 g2; have N2 := Lib.hid M2; have G2 := Lib.hid (gb_over G1.out g2 (Nat.le_of_eq HM.out)); clear M2 g2) | (refine wpList_insM _ rfl (.tmp 1) (.const (.int .i64 2)) (.tmp 5) 81 rfl 3 39 Try.underlying3 Try.underlying81 mb 1 _ rfl N2.out (by decide) 2 rfl (by decide) rfl (mgr 2) rfl ?_; intro v3 M3 g3; have N3 := Lib.hid M3; have G3 := Lib.hid (gb_over G2.out g3 (Nat.le_of_eq HM.out)); clear M3 g3) | (refine wpList_insM _ rfl (.tmp 1) (.const (.int .i64 3)) (.tmp 7) 81 rfl 3 39 Try.underlying3 Try.underlying81 mb 2 _ rfl N3.out (by decide) 3 rfl (by decide) rfl (mgr 3) rfl ?_; intro v4 M4 g4; have N4 := Lib.hid M4; have G4 := Lib.hid (gb_over G3.out g4 (Nat.le_of_eq HM.out)); clear M4 g4) | (refine wpList_insM _ rfl (.tmp 1) (.const (.int .i64 4)) (.tmp 9) 81 rfl 3 39 Try.underlying3 Try.underlying81 mb 3 _ rfl N4.out (by decide) 4 rfl (by decide) rfl (mgr 4) rfl ?_; intro v5 M5 g5; have N5 := Lib.hid M5; have G5 := Lib.hid (gb_over G4.out g5 (Nat.le_of_eq HM.out)); clear M5 g5))
  go_ret
  exact ⟨mb, rfl, N5, G5⟩

end Go.Proofs.Ytnaagcofgnmmlaa.fl
