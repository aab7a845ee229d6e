/-
  ModelApart: two tries that write no object both write are applied in either order alike, and one twice as once; for any values, and any two tries.
  Conditions: none (of more than 20 values, and of more than 50 accesses, the law says nothing by itself).
-/
import Derived.Test.YtdohepenmejcaaaRows
import Derived.Test.YtdohepenmejcaaaMb
import Derived.Test.YtdohepenmejcaaaMo
import Derived.Deep.QuietTactic
import Derived.Deep.RegionHeld3
import Derived.BigQuiet
namespace Go.Proofs.Ytdohepenmejcaaa.modelApart
open Go.ChangeShapes Go.WideShapes Go.ChangeAt Go.RowKit Go.Proofs.Ytdohepenmejcaaa.base Go.Proofs.Ytdohepenmejcaaa.hs Go.Proofs.Ytdohepenmejcaaa.lg Go.Proofs.Ytdohepenmejcaaa.md
set_option linter.unusedVariables false
set_option maxRecDepth 100000

theorem walk_out (a0 : Option Addr) (len0 cap0 : Nat) (t1 : Tr) (va1 : Option Addr) (vc1 : Nat) (t2 : Tr) (va2 : Option Addr) (vc2 : Nat) (w : World) (h : 20 < (len0 : Int) ∨ 50 < (t1.ac.length : Int) ∨ 50 < (t2.ac.length : Int)) : Calls Try.prog 7 #[.slice a0 len0 cap0, .agg ⟨trC t1 (.slice va1 t1.ac.length vc1)⟩, .agg ⟨trC t2 (.slice va2 t2.ac.length vc2)⟩] w fun e w' => e = .returned (.bool true) ∧ Below w.heap.size w w' := by
  show Calls Try.prog 7 #[.slice a0 len0 cap0, .agg #[.int .i64 t1.th, .int .i64 t1.tx, .int .i64 t1.at_, .int .i64 t1.st, .int .i64 t1.b, .int .i64 t1.en, .int .i64 t1.re, .bool t1.co, .slice va1 t1.ac.length vc1], .agg #[.int .i64 t2.th, .int .i64 t2.tx, .int .i64 t2.at_, .int .i64 t2.st, .int .i64 t2.b, .int .i64 t2.en, .int .i64 t2.re, .bool t2.co, .slice va2 t2.ac.length vc2]] w _
  by_cases h1 : 20 < (len0 : Int)
  · have O0 := Lib.hid (((base.Own.start w).alloc 33 [.int .i64 t1.th, .int .i64 t1.tx, .int .i64 t1.at_, .int .i64 t1.st, .int .i64 t1.b, .int .i64 t1.en, .int .i64 t1.re, .bool t1.co, .slice va1 t1.ac.length vc1]).alloc 33 [.int .i64 t2.th, .int .i64 t2.tx, .int .i64 t2.at_, .int .i64 t2.st, .int .i64 t2.b, .int .i64 t2.en, .int .i64 t2.re, .bool t2.co, .slice va2 t2.ac.length vc2]); simp only [size_alloc] at O0; go_enter Try.func7, Try.ntmps7; go_wp2_with fail; refine (alive_any _).mono ?_; rintro e v1 ⟨rfl, g1⟩; have O1 := Lib.hid (O0.out.grown g1.out); clear O0; have p0 := O1.out.cell 1 0 rfl rfl; have p1 := O1.out.cell 1 1 rfl rfl; have p2 := O1.out.cell 1 2 rfl rfl; have p3 := O1.out.cell 1 3 rfl rfl; have p4 := O1.out.cell 1 4 rfl rfl; have p5 := O1.out.cell 1 5 rfl rfl; have p6 := O1.out.cell 1 6 rfl rfl; have p7 := O1.out.cell 1 7 rfl rfl; have p8 := O1.out.cell 1 8 rfl rfl; have q0 := O1.out.cell 0 0 rfl rfl; have q1 := O1.out.cell 0 1 rfl rfl; have q2 := O1.out.cell 0 2 rfl rfl; have q3 := O1.out.cell 0 3 rfl rfl; have q4 := O1.out.cell 0 4 rfl rfl; have q5 := O1.out.cell 0 5 rfl rfl; have q6 := O1.out.cell 0 6 rfl rfl; have q7 := O1.out.cell 0 7 rfl rfl; have q8 := O1.out.cell 0 8 rfl rfl; go_wp2; go_ret; exact ⟨rfl, O1.out.below⟩
  have q1 : (len0 : Int) ≤ 20 := by omega
  by_cases h2 : 50 < (t1.ac.length : Int)
  · have O0 := Lib.hid (((base.Own.start w).alloc 33 [.int .i64 t1.th, .int .i64 t1.tx, .int .i64 t1.at_, .int .i64 t1.st, .int .i64 t1.b, .int .i64 t1.en, .int .i64 t1.re, .bool t1.co, .slice va1 t1.ac.length vc1]).alloc 33 [.int .i64 t2.th, .int .i64 t2.tx, .int .i64 t2.at_, .int .i64 t2.st, .int .i64 t2.b, .int .i64 t2.en, .int .i64 t2.re, .bool t2.co, .slice va2 t2.ac.length vc2]); simp only [size_alloc] at O0; go_enter Try.func7, Try.ntmps7; go_wp2_with fail; refine (alive_any _).mono ?_; rintro e v1 ⟨rfl, g1⟩; have O1 := Lib.hid (O0.out.grown g1.out); clear O0; have p0 := O1.out.cell 1 0 rfl rfl; have p1 := O1.out.cell 1 1 rfl rfl; have p2 := O1.out.cell 1 2 rfl rfl; have p3 := O1.out.cell 1 3 rfl rfl; have p4 := O1.out.cell 1 4 rfl rfl; have p5 := O1.out.cell 1 5 rfl rfl; have p6 := O1.out.cell 1 6 rfl rfl; have p7 := O1.out.cell 1 7 rfl rfl; have p8 := O1.out.cell 1 8 rfl rfl; have q0 := O1.out.cell 0 0 rfl rfl; have q1 := O1.out.cell 0 1 rfl rfl; have q2 := O1.out.cell 0 2 rfl rfl; have q3 := O1.out.cell 0 3 rfl rfl; have q4 := O1.out.cell 0 4 rfl rfl; have q5 := O1.out.cell 0 5 rfl rfl; have q6 := O1.out.cell 0 6 rfl rfl; have q7 := O1.out.cell 0 7 rfl rfl; have q8 := O1.out.cell 0 8 rfl rfl; go_wp2; go_ret; exact ⟨rfl, O1.out.below⟩
  have q2 : (t1.ac.length : Int) ≤ 50 := by omega
  have h3 : 50 < (t2.ac.length : Int) := by omega
  have O0 := Lib.hid (((base.Own.start w).alloc 33 [.int .i64 t1.th, .int .i64 t1.tx, .int .i64 t1.at_, .int .i64 t1.st, .int .i64 t1.b, .int .i64 t1.en, .int .i64 t1.re, .bool t1.co, .slice va1 t1.ac.length vc1]).alloc 33 [.int .i64 t2.th, .int .i64 t2.tx, .int .i64 t2.at_, .int .i64 t2.st, .int .i64 t2.b, .int .i64 t2.en, .int .i64 t2.re, .bool t2.co, .slice va2 t2.ac.length vc2]); simp only [size_alloc] at O0; go_enter Try.func7, Try.ntmps7; go_wp2_with fail; refine (alive_any _).mono ?_; rintro e v1 ⟨rfl, g1⟩; have O1 := Lib.hid (O0.out.grown g1.out); clear O0; have p0 := O1.out.cell 1 0 rfl rfl; have p1 := O1.out.cell 1 1 rfl rfl; have p2 := O1.out.cell 1 2 rfl rfl; have p3 := O1.out.cell 1 3 rfl rfl; have p4 := O1.out.cell 1 4 rfl rfl; have p5 := O1.out.cell 1 5 rfl rfl; have p6 := O1.out.cell 1 6 rfl rfl; have p7 := O1.out.cell 1 7 rfl rfl; have p8 := O1.out.cell 1 8 rfl rfl; have q0 := O1.out.cell 0 0 rfl rfl; have q1 := O1.out.cell 0 1 rfl rfl; have q2 := O1.out.cell 0 2 rfl rfl; have q3 := O1.out.cell 0 3 rfl rfl; have q4 := O1.out.cell 0 4 rfl rfl; have q5 := O1.out.cell 0 5 rfl rfl; have q6 := O1.out.cell 0 6 rfl rfl; have q7 := O1.out.cell 0 7 rfl rfl; have q8 := O1.out.cell 0 8 rfl rfl; go_wp2; go_ret; exact ⟨rfl, O1.out.below⟩

/-- Of the first i accesses of l none writes what one of m writes. -/
def NoC (l m : List Acc) (i : Nat) : Prop := ∀ x a, x < i → l[x]? = some a → ∀ b ∈ m, a.k = 3 → b.k = 3 → a.ob ≠ b.ob
/-- An access writes nothing that the first k of m write. -/
def NoD (a : Acc) (m : List Acc) (k : Nat) : Prop := ∀ y b, y < k → m[y]? = some b → a.k = 3 → b.k = 3 → a.ob ≠ b.ob
theorem NoC.step {l m : List Acc} {i : Nat} {a : Acc} (h : NoC l m i) (ha : l[i]? = some a) (hd : NoD a m m.length) : NoC l m (i + 1) := by
  intro x c hx hc b hb
  by_cases e : x = i
  · subst e
    rw [ha] at hc
    cases hc
    obtain ⟨y, hy⟩ := List.getElem?_of_mem hb
    exact hd y b (List.getElem?_eq_some_iff.1 hy).1 hy
  · exact h x c (by omega) hc b hb
theorem NoD.step {a b : Acc} {m : List Acc} {k : Nat} (h : NoD a m k) (hb : m[k]? = some b) (hn : a.k = 3 → b.k = 3 → a.ob ≠ b.ob) : NoD a m (k + 1) := by
  intro y c hy hc
  by_cases e : y = k
  · subst e
    rw [hb] at hc
    cases hc
    exact hn
  · exact h y c (by omega) hc
theorem NoC.all {l m : List Acc} (h : NoC l m l.length) : ∀ a ∈ l, ∀ b ∈ m, a.k = 3 → b.k = 3 → a.ob ≠ b.ob := by
  intro a ha b hb
  obtain ⟨x, hx⟩ := List.getElem?_of_mem ha
  exact h x a (List.getElem?_eq_some_iff.1 hx).1 hx b hb

set_option maxHeartbeats 4000000 in
theorem walk (a0 : Option Addr) (len0 cap0 : Nat) (z0 : Nat → Int) (t1 : Tr) (va1 : Option Addr) (vc1 : Nat) (t2 : Tr) (va2 : Option Addr) (vc2 : Nat) (w : World) (w0 : IsRow .i64 w a0 len0 cap0 z0) (w1 : t1.ac.length ≤ vc1 ∧ vc1 ≤ maxLen ∧ IsL accC w va1 t1.ac ∧ ∀ y ∈ t1.ac, AccWf y) (w2 : t2.ac.length ≤ vc2 ∧ vc2 ≤ maxLen ∧ IsL accC w va2 t2.ac ∧ ∀ y ∈ t2.ac, AccWf y) : Calls Try.prog 7 #[.slice a0 len0 cap0, .agg ⟨trC t1 (.slice va1 t1.ac.length vc1)⟩, .agg ⟨trC t2 (.slice va2 t2.ac.length vc2)⟩] w fun e w' => e = .returned (.bool true) ∧ Below w.heap.size w w' := by
  by_cases hbig : 20 < (len0 : Int) ∨ 50 < (t1.ac.length : Int) ∨ 50 < (t2.ac.length : Int)
  · exact walk_out a0 len0 cap0 t1 va1 vc1 t2 va2 vc2 w hbig
  have l0 : (len0 : Int) ≤ 20 := by omega
  have l1 : (t1.ac.length : Int) ≤ 50 := by omega
  have l2 : (t2.ac.length : Int) ≤ 50 := by omega
  have HZ := Lib.hid (IsNums.of_row w0)
  have HA := Lib.hid w1.2.2.1
  have HB := Lib.hid w2.2.2.1
  clear w0 w1 w2 hbig
  show Calls Try.prog 7 #[.slice a0 len0 cap0, .agg #[.int .i64 t1.th, .int .i64 t1.tx, .int .i64 t1.at_, .int .i64 t1.st, .int .i64 t1.b, .int .i64 t1.en, .int .i64 t1.re, .bool t1.co, .slice va1 t1.ac.length vc1], .agg #[.int .i64 t2.th, .int .i64 t2.tx, .int .i64 t2.at_, .int .i64 t2.st, .int .i64 t2.b, .int .i64 t2.en, .int .i64 t2.re, .bool t2.co, .slice va2 t2.ac.length vc2]] w _
  have O0 := Lib.hid (((base.Own.start w).alloc 33 [.int .i64 t1.th, .int .i64 t1.tx, .int .i64 t1.at_, .int .i64 t1.st, .int .i64 t1.b, .int .i64 t1.en, .int .i64 t1.re, .bool t1.co, .slice va1 t1.ac.length vc1]).alloc 33 [.int .i64 t2.th, .int .i64 t2.tx, .int .i64 t2.at_, .int .i64 t2.st, .int .i64 t2.b, .int .i64 t2.en, .int .i64 t2.re, .bool t2.co, .slice va2 t2.ac.length vc2])
  simp only [size_alloc] at O0
  go_enter Try.func7, Try.ntmps7
  go_wp2_with fail
  refine (alive_any _).mono ?_
  rintro e v1 ⟨rfl, g1⟩
  have O1 := Lib.hid (O0.out.grown g1.out)
  clear O0 g1
  have p0 := O1.out.cell 1 0 rfl rfl; have p1 := O1.out.cell 1 1 rfl rfl; have p2 := O1.out.cell 1 2 rfl rfl; have p3 := O1.out.cell 1 3 rfl rfl; have p4 := O1.out.cell 1 4 rfl rfl; have p5 := O1.out.cell 1 5 rfl rfl; have p6 := O1.out.cell 1 6 rfl rfl; have p7 := O1.out.cell 1 7 rfl rfl; have p8 := O1.out.cell 1 8 rfl rfl; have q0 := O1.out.cell 0 0 rfl rfl; have q1 := O1.out.cell 0 1 rfl rfl; have q2 := O1.out.cell 0 2 rfl rfl; have q3 := O1.out.cell 0 3 rfl rfl; have q4 := O1.out.cell 0 4 rfl rfl; have q5 := O1.out.cell 0 5 rfl rfl; have q6 := O1.out.cell 0 6 rfl rfl; have q7 := O1.out.cell 0 7 rfl rfl; have q8 := O1.out.cell 0 8 rfl rfl
  go_wp2_with fail
  refine (apply_any a0 len0 cap0 z0 t1 va1 vc1 _ (HZ.out.grown O1.out.grow) (HA.out.grown O1.out.grow) (by omega) (by omega)).mono ?_
  rintro r v2 ⟨an, cn, rfl, hr, g2⟩
  have N2 := Lib.hid (show IsNums .i64 v2 an len0 (app z0 t1.ac) from IsNums.of_own hr.out)
  have O2 := Lib.hid (O1.out.grown g2.out)
  clear hr O1 g2 p0 p1 p2 p3 p4 p5 p6 p7 p8 q0 q1 q2 q3 q4 q5 q6 q7 q8
  have p0 := O2.out.cell 1 0 rfl rfl; have p1 := O2.out.cell 1 1 rfl rfl; have p2 := O2.out.cell 1 2 rfl rfl; have p3 := O2.out.cell 1 3 rfl rfl; have p4 := O2.out.cell 1 4 rfl rfl; have p5 := O2.out.cell 1 5 rfl rfl; have p6 := O2.out.cell 1 6 rfl rfl; have p7 := O2.out.cell 1 7 rfl rfl; have p8 := O2.out.cell 1 8 rfl rfl; have q0 := O2.out.cell 0 0 rfl rfl; have q1 := O2.out.cell 0 1 rfl rfl; have q2 := O2.out.cell 0 2 rfl rfl; have q3 := O2.out.cell 0 3 rfl rfl; have q4 := O2.out.cell 0 4 rfl rfl; have q5 := O2.out.cell 0 5 rfl rfl; have q6 := O2.out.cell 0 6 rfl rfl; have q7 := O2.out.cell 0 7 rfl rfl; have q8 := O2.out.cell 0 8 rfl rfl
  go_wp2_with fail
  refine (apply_any an len0 cn (app z0 t1.ac) t1 va1 vc1 _ N2.out (HA.out.grown O2.out.grow) (by omega) (by omega)).mono ?_
  rintro r v3 ⟨ap, cp, rfl, hr, g3⟩
  rw [app_twice] at hr
  have M3 := Lib.hid (show IsNums .i64 v3 ap len0 (app z0 t1.ac) from IsNums.of_own hr.out)
  have N3 := Lib.hid (N2.out.grown g3.out)
  have O3 := Lib.hid (O2.out.grown g3.out)
  clear hr O2 N2 g3 p0 p1 p2 p3 p4 p5 p6 p7 p8 q0 q1 q2 q3 q4 q5 q6 q7 q8
  have p0 := O3.out.cell 1 0 rfl rfl; have p1 := O3.out.cell 1 1 rfl rfl; have p2 := O3.out.cell 1 2 rfl rfl; have p3 := O3.out.cell 1 3 rfl rfl; have p4 := O3.out.cell 1 4 rfl rfl; have p5 := O3.out.cell 1 5 rfl rfl; have p6 := O3.out.cell 1 6 rfl rfl; have p7 := O3.out.cell 1 7 rfl rfl; have p8 := O3.out.cell 1 8 rfl rfl; have q0 := O3.out.cell 0 0 rfl rfl; have q1 := O3.out.cell 0 1 rfl rfl; have q2 := O3.out.cell 0 2 rfl rfl; have q3 := O3.out.cell 0 3 rfl rfl; have q4 := O3.out.cell 0 4 rfl rfl; have q5 := O3.out.cell 0 5 rfl rfl; have q6 := O3.out.cell 0 6 rfl rfl; have q7 := O3.out.cell 0 7 rfl rfl; have q8 := O3.out.cell 0 8 rfl rfl
  go_wp2_with fail
  refine (vals_yes ap an len0 cp cn (app z0 t1.ac) _ M3.out N3.out (by omega)).mono ?_
  rintro r v4 ⟨rfl, g4⟩
  have N4 := Lib.hid (N3.out.grown g4.out)
  have O4 := Lib.hid (O3.out.grown g4.out)
  clear M3 N3 O3 g4 p0 p1 p2 p3 p4 p5 p6 p7 p8 q0 q1 q2 q3 q4 q5 q6 q7 q8
  have p8 := O4.out.cell 1 8 rfl rfl; have q8 := O4.out.cell 0 8 rfl rfl
  go_wp2
  go_loopw [8] (fun iv wr => ∃ i : Nat, i ≤ t1.ac.length ∧ iv = .int .i64 i ∧ Hid (NoC t1.ac t2.ac i) ∧ Hid (v4.grownBy wr none)) (fun iv _ => (t1.ac.length - intOf iv).toNat)
  case atStart => exact ⟨0, by omega, rfl, fun x a hx => by omega, gb_refl _ _⟩
  case round =>
    obtain ⟨i, hi, rfl, HC, G⟩ := hrel
    clear p8 q8
    have O5 := Lib.hid (O4.out.grown G.out)
    by_cases hlt : i < t1.ac.length
    · have hlt' : (i : Int) < (t1.ac.length : Int) := by omega
      have hgi := List.getElem?_eq_getElem hlt
      obtain ⟨x, hx⟩ : ∃ x, x = t1.ac[i] := ⟨_, rfl⟩
      rw [← hx] at hgi
      have HGI := Lib.hid hgi
      clear hx hgi
      have p8 := O5.out.cell 1 8 rfl rfl; have q8 := O5.out.cell 0 8 rfl rfl
      go_wp2
      go_loopw [9] (fun kv wq => ∃ k : Nat, k ≤ t2.ac.length ∧ kv = .int .i64 k ∧ Hid (NoD x t2.ac k) ∧ Hid (v4.grownBy wq none)) (fun kv _ => (t2.ac.length - intOf kv).toNat)
      case atStart => exact ⟨0, by omega, rfl, fun y b hy => by omega, G⟩
      case round =>
        clear p8 q8 O5 G
        obtain ⟨k, hk, rfl, HD, G⟩ := hrel
        have O5 := Lib.hid (O4.out.grown G.out)
        have p8 := O5.out.cell 1 8 rfl rfl; have q8 := O5.out.cell 0 8 rfl rfl
        by_cases hltk : k < t2.ac.length
        · have hltk' : (k : Int) < (t2.ac.length : Int) := by omega
          obtain ⟨b1, o1, rfl, hb1, c0, c1, c2, c3, c4, c5⟩ := acc6 (HA.out.grown O5.out.grow) HGI.out
          have hgk := List.getElem?_eq_getElem hltk
          obtain ⟨b2, o2, rfl, hb2, d0, d1, d2, d3, d4, d5⟩ := acc6 (HB.out.grown O5.out.grow) hgk
          obtain ⟨y, hy⟩ : ∃ y, y = t2.ac[k] := ⟨_, rfl⟩
          rw [← hy] at hgk d0 d1 d2 d3 d4 d5
          have HGK := Lib.hid hgk
          clear hy hgk
          have hk6 : (k : Int) < 1000000 := by omega
          have hi6 : (i : Int) < 1000000 := by omega
          by_cases h3 : x.k = 3
          · have f3 : (x.k == 3) = true := by simp [h3]
            by_cases h4 : y.k = 3
            · have f4 : (y.k == 3) = true := by simp [h4]
              by_cases h5 : x.ob = y.ob
              · have f5 : (x.ob == y.ob) = true := by simp [h5]
                clear h3 h4 h5
                go_wp2_with fail
                go_quiet (fail)
                go_wp2
                go_ret
                exact ⟨rfl, (O5.out.drewN _).below⟩
              · have f5 : (x.ob == y.ob) = false := by simp [h5]
                have HS := Lib.hid (HD.out.step HGK.out (fun _ _ => h5))
                clear h3 h4 h5
                go_wp2_with fail
                go_quiet (fail)
                go_wp2
                go_roundw
                case rel => exact ⟨k + 1, by omega, by go_num, HS, gb_drewN G.out _⟩
                case measure => simp [intOf]; omega
            · have f4 : (y.k == 3) = false := by simp [h4]
              have HS := Lib.hid (HD.out.step HGK.out (fun _ h => absurd h h4))
              clear h3 h4
              go_wp2_with fail
              go_quiet (fail)
              go_wp2
              go_roundw
              case rel => exact ⟨k + 1, by omega, by go_num, HS, gb_drewN G.out _⟩
              case measure => simp [intOf]; omega
          · have f3 : (x.k == 3) = false := by simp [h3]
            have HS := Lib.hid (HD.out.step HGK.out (fun h => absurd h h3))
            clear h3
            go_wp2_with fail
            go_quiet (fail)
            go_wp2
            go_roundw
            case rel => exact ⟨k + 1, by omega, by go_num, HS, gb_drewN G.out _⟩
            case measure => simp [intOf]; omega
        · obtain rfl : k = t2.ac.length := by omega
          have HS := Lib.hid (HC.out.step HGI.out HD.out)
          go_wp2
          go_roundw
          case rel => exact ⟨i + 1, by omega, by go_num, HS, G⟩
          case measure => simp [intOf]; omega
    · obtain rfl : i = t1.ac.length := by omega
      have AP := Lib.hid (app_apart z0 t1.ac t2.ac HC.out.all)
      have NA := Lib.hid (N4.out.grown G.out)
      have HZ5 := Lib.hid (HZ.out.grown O5.out.grow)
      have HA5 := Lib.hid (HA.out.grown O5.out.grow)
      have HB5 := Lib.hid (HB.out.grown O5.out.grow)
      have OB := Lib.hid O5.out.below
      have hws : w.heap.size + 1 < wr.heap.size := O5.out.lt 0 rfl
      have p0 := O5.out.cell 1 0 rfl rfl; have p1 := O5.out.cell 1 1 rfl rfl; have p2 := O5.out.cell 1 2 rfl rfl; have p3 := O5.out.cell 1 3 rfl rfl; have p4 := O5.out.cell 1 4 rfl rfl; have p5 := O5.out.cell 1 5 rfl rfl; have p6 := O5.out.cell 1 6 rfl rfl; have p7 := O5.out.cell 1 7 rfl rfl; have p8 := O5.out.cell 1 8 rfl rfl; have q0 := O5.out.cell 0 0 rfl rfl; have q1 := O5.out.cell 0 1 rfl rfl; have q2 := O5.out.cell 0 2 rfl rfl; have q3 := O5.out.cell 0 3 rfl rfl; have q4 := O5.out.cell 0 4 rfl rfl; have q5 := O5.out.cell 0 5 rfl rfl; have q6 := O5.out.cell 0 6 rfl rfl; have q7 := O5.out.cell 0 7 rfl rfl; have q8 := O5.out.cell 0 8 rfl rfl
      clear HC N4 O4 G HZ HA HB O5
      go_wp2
      have K0 : Hid (wr.grownBy wr.drew none) := Lib.hid (gb_drew (gb_refl wr none))
      go_region_held3 (fun w' => Hid (wr.grownBy w' none) ∧ w'.cell? ⟨w.heap.size, 0, none⟩ = some (.int .i64 t1.th) ∧ w'.cell? ⟨w.heap.size, 1, none⟩ = some (.int .i64 t1.tx) ∧ w'.cell? ⟨w.heap.size, 2, none⟩ = some (.int .i64 t1.at_) ∧ w'.cell? ⟨w.heap.size, 3, none⟩ = some (.int .i64 t1.st) ∧ w'.cell? ⟨w.heap.size, 4, none⟩ = some (.int .i64 t1.b) ∧ w'.cell? ⟨w.heap.size, 5, none⟩ = some (.int .i64 t1.en) ∧ w'.cell? ⟨w.heap.size, 6, none⟩ = some (.int .i64 t1.re) ∧ w'.cell? ⟨w.heap.size, 7, none⟩ = some (.bool t1.co) ∧ w'.cell? ⟨w.heap.size, 8, none⟩ = some (.slice va1 t1.ac.length vc1) ∧ w'.cell? ⟨w.heap.size + 1, 0, none⟩ = some (.int .i64 t2.th) ∧ w'.cell? ⟨w.heap.size + 1, 1, none⟩ = some (.int .i64 t2.tx) ∧ w'.cell? ⟨w.heap.size + 1, 2, none⟩ = some (.int .i64 t2.at_) ∧ w'.cell? ⟨w.heap.size + 1, 3, none⟩ = some (.int .i64 t2.st) ∧ w'.cell? ⟨w.heap.size + 1, 4, none⟩ = some (.int .i64 t2.b) ∧ w'.cell? ⟨w.heap.size + 1, 5, none⟩ = some (.int .i64 t2.en) ∧ w'.cell? ⟨w.heap.size + 1, 6, none⟩ = some (.int .i64 t2.re) ∧ w'.cell? ⟨w.heap.size + 1, 7, none⟩ = some (.bool t2.co) ∧ w'.cell? ⟨w.heap.size + 1, 8, none⟩ = some (.slice va2 t2.ac.length vc2)) (go_keep) (first
        | (go_at_call 13; refine (vals_yes _ _ len0 _ _ (app (app z0 t1.ac) t2.ac) _ N5.out N7.out (by omega)).mono ?_; rintro r u8 ⟨rfl, g8⟩; have K8 : Hid (wr.grownBy u8 none) := Lib.hid (gb_trans (by refine Hid.out ?_; assumption) g8.out); have p80 := K8.out.cell p0 (by simp); have p81 := K8.out.cell p1 (by simp); have p82 := K8.out.cell p2 (by simp); have p83 := K8.out.cell p3 (by simp); have p84 := K8.out.cell p4 (by simp); have p85 := K8.out.cell p5 (by simp); have p86 := K8.out.cell p6 (by simp); have p87 := K8.out.cell p7 (by simp); have p88 := K8.out.cell p8 (by simp); have q80 := K8.out.cell q0 (by simp); have q81 := K8.out.cell q1 (by simp); have q82 := K8.out.cell q2 (by simp); have q83 := K8.out.cell q3 (by simp); have q84 := K8.out.cell q4 (by simp); have q85 := K8.out.cell q5 (by simp); have q86 := K8.out.cell q6 (by simp); have q87 := K8.out.cell q7 (by simp); have q88 := K8.out.cell q8 (by simp))
        | (go_at_call_of 16 a6; refine (apply_any a6 len0 c6 (app z0 t2.ac) t1 va1 vc1 _ N6.out (HA5.out.grown (by refine Hid.out ?_; assumption)) (by omega) (by omega)).mono ?_; rintro r u7 ⟨a7, c7, rfl, hr7, g7⟩; rw [← AP.out] at hr7; have N7 := Lib.hid (show IsNums .i64 u7 a7 len0 (app (app z0 t1.ac) t2.ac) from IsNums.of_own hr7.out); (try replace N5 := Lib.hid (N5.out.grown g7.out)); have K7 : Hid (wr.grownBy u7 none) := Lib.hid (gb_trans (by refine Hid.out ?_; assumption) g7.out); have p70 := K7.out.cell p0 (by simp); have p71 := K7.out.cell p1 (by simp); have p72 := K7.out.cell p2 (by simp); have p73 := K7.out.cell p3 (by simp); have p74 := K7.out.cell p4 (by simp); have p75 := K7.out.cell p5 (by simp); have p76 := K7.out.cell p6 (by simp); have p77 := K7.out.cell p7 (by simp); have p78 := K7.out.cell p8 (by simp); have q70 := K7.out.cell q0 (by simp); have q71 := K7.out.cell q1 (by simp); have q72 := K7.out.cell q2 (by simp); have q73 := K7.out.cell q3 (by simp); have q74 := K7.out.cell q4 (by simp); have q75 := K7.out.cell q5 (by simp); have q76 := K7.out.cell q6 (by simp); have q77 := K7.out.cell q7 (by simp); have q78 := K7.out.cell q8 (by simp))
        | (go_at_call_of 16 an; refine (apply_any an len0 cn (app z0 t1.ac) t2 va2 vc2 _ (NA.out.grown (by refine Hid.out ?_; assumption)) (HB5.out.grown (by refine Hid.out ?_; assumption)) (by omega) (by omega)).mono ?_; rintro r u5 ⟨a5, c5, rfl, hr5, g5⟩; have N5 := Lib.hid (show IsNums .i64 u5 a5 len0 (app (app z0 t1.ac) t2.ac) from IsNums.of_own hr5.out); (try replace N6 := Lib.hid (N6.out.grown g5.out)); (try replace N7 := Lib.hid (N7.out.grown g5.out)); have K5 : Hid (wr.grownBy u5 none) := Lib.hid (gb_trans (by refine Hid.out ?_; assumption) g5.out); have p50 := K5.out.cell p0 (by simp); have p51 := K5.out.cell p1 (by simp); have p52 := K5.out.cell p2 (by simp); have p53 := K5.out.cell p3 (by simp); have p54 := K5.out.cell p4 (by simp); have p55 := K5.out.cell p5 (by simp); have p56 := K5.out.cell p6 (by simp); have p57 := K5.out.cell p7 (by simp); have p58 := K5.out.cell p8 (by simp); have q50 := K5.out.cell q0 (by simp); have q51 := K5.out.cell q1 (by simp); have q52 := K5.out.cell q2 (by simp); have q53 := K5.out.cell q3 (by simp); have q54 := K5.out.cell q4 (by simp); have q55 := K5.out.cell q5 (by simp); have q56 := K5.out.cell q6 (by simp); have q57 := K5.out.cell q7 (by simp); have q58 := K5.out.cell q8 (by simp))
        | (go_at_call_of 16 a0; refine (apply_any a0 len0 cap0 z0 t2 va2 vc2 _ (HZ5.out.grown (by refine Hid.out ?_; assumption)) (HB5.out.grown (by refine Hid.out ?_; assumption)) (by omega) (by omega)).mono ?_; rintro r u6 ⟨a6, c6, rfl, hr6, g6⟩; have N6 := Lib.hid (show IsNums .i64 u6 a6 len0 (app z0 t2.ac) from IsNums.of_own hr6.out); (try replace N5 := Lib.hid (N5.out.grown g6.out)); have K6 : Hid (wr.grownBy u6 none) := Lib.hid (gb_trans (by refine Hid.out ?_; assumption) g6.out); have p60 := K6.out.cell p0 (by simp); have p61 := K6.out.cell p1 (by simp); have p62 := K6.out.cell p2 (by simp); have p63 := K6.out.cell p3 (by simp); have p64 := K6.out.cell p4 (by simp); have p65 := K6.out.cell p5 (by simp); have p66 := K6.out.cell p6 (by simp); have p67 := K6.out.cell p7 (by simp); have p68 := K6.out.cell p8 (by simp); have q60 := K6.out.cell q0 (by simp); have q61 := K6.out.cell q1 (by simp); have q62 := K6.out.cell q2 (by simp); have q63 := K6.out.cell q3 (by simp); have q64 := K6.out.cell q4 (by simp); have q65 := K6.out.cell q5 (by simp); have q66 := K6.out.cell q6 (by simp); have q67 := K6.out.cell q7 (by simp); have q68 := K6.out.cell q8 (by simp)))
      all_goals
        go_wp2
        go_ret
        exact ⟨rfl, bl_none OB.out K8.out⟩

theorem own : ownKnob Try.prog.godebug = none := by kernel_rfl
theorem laidOut : laidOutB Try.prog = true := by kernel_rfl

/-! ### THE ROW's STEP, as the guide has it -/
set_option maxRecDepth 100000 in
theorem lifted (os : Os) (started : os.Started) (H : Type) (enc : TypeId × Value → H) :
    ReturnsInHanded {} Try.checked os 7 .any (Rows.modelApartSpec.pre6 enc Try.prog Try.f7 Rows.modelApartRow.domain false) (Rows.modelApartSpec.post enc Try.prog Try.f7 false true false false) := by
  refine returnsInHanded_of_change (C := Try.checked) own started (by kernel_rfl) Try.func7
    (ChangeSpec.witness6 (enc := enc) (C := Try.checked) false ⟨#[], #[.slice none 0 0, .agg #[.int .i64 0, .int .i64 0, .int .i64 0, .int .i64 0, .int .i64 0, .int .i64 0, .int .i64 0, .bool false, .slice none 0 0], .agg #[.int .i64 0, .int .i64 0, .int .i64 0, .int .i64 0, .int .i64 0, .int .i64 0, .int .i64 0, .bool false, .slice none 0 0]], []⟩ 8 (by kernel_rfl) (by kernel_rfl) (by kernel_rfl) (by kernel_rfl)) ?_
  intro W base args ds gs before hval0 hW hcnd _
  have hval : ∀ (j : Nat) t v, Try.f7.params[j]? = some t → args[j]? = some v → Value.okWide Try.prog W .any base t v := hval0
  have hW' := hW
  obtain ⟨p, q, hA0, hV, rfl, hfz, hnd⟩ := hW
  have hA : DataW.TrodAll enc Try.prog W 0 (fun _ => true) true Try.f7.params.toList args.toList ds p := hA0
  rw [Try.params7] at hA hval
  obtain ⟨v0, vs0, d0, ds0, p0, q0, hargs, rfl, rfl, h0, r0⟩ := trodAll_cons hA
  obtain ⟨v1, vs1, d1, ds1, p1, q1, rfl, rfl, rfl, h1, r1⟩ := trodAll_cons r0
  obtain ⟨v2, vs2, d2, ds2, p2, q2, rfl, rfl, rfl, h2, r2⟩ := trodAll_cons r1
  obtain ⟨rfl, rfl, rfl⟩ := trodAll_nil r2
  obtain rfl : args = #[v0, v1, v2] := by cases args; simp_all
  obtain ⟨rfl, rfl⟩ := trodVars_none hV
  obtain ⟨a0, len0, cap0, rfl⟩ := okWide_slice Try.underlying22 (hval 0 22 v0 rfl rfl)
  have k0 := h0
  have lt0 : ∀ x ∈ p0, x.block < W.heap.size := by obtain ⟨m, hm⟩ := k0; exact DataW.trod_lt m _ _ _ hm
  obtain ⟨z0, w0⟩ : ∃ z, IsRow .i64 W a0 len0 cap0 z := by
    obtain ⟨fuel, hf⟩ := h0
    exact isRow_of Try.underlying22 Try.underlying2 (by kernel_rfl) hf
  obtain ⟨cs1, rfl, sz1⟩ := okWide_struct Try.underlying33 (hval 1 33 v1 rfl rfl)
  have k1 := h1
  have lt1 : ∀ x ∈ p1, x.block < W.heap.size := by obtain ⟨m, hm⟩ := k1; exact DataW.trod_lt m _ _ _ hm
  obtain ⟨t1, va1, vc1, rfl, w1⟩ : ∃ (t : Tr) (va : Option Addr) (vc : Nat), cs1 = ⟨trC t (.slice va t.ac.length vc)⟩ ∧ t.ac.length ≤ vc ∧ vc ≤ maxLen ∧ IsL accC W va t.ac ∧ ∀ y ∈ t.ac, AccWf y := by
    obtain ⟨fuel, hf⟩ := h1
    exact try_of (sz1.trans (by kernel_rfl)) hf
  obtain ⟨cs2, rfl, sz2⟩ := okWide_struct Try.underlying33 (hval 2 33 v2 rfl rfl)
  have k2 := h2
  have lt2 : ∀ x ∈ p2, x.block < W.heap.size := by obtain ⟨m, hm⟩ := k2; exact DataW.trod_lt m _ _ _ hm
  obtain ⟨t2, va2, vc2, rfl, w2⟩ : ∃ (t : Tr) (va : Option Addr) (vc : Nat), cs2 = ⟨trC t (.slice va t.ac.length vc)⟩ ∧ t.ac.length ≤ vc ∧ vc ≤ maxLen ∧ IsL accC W va t.ac ∧ ∀ y ∈ t.ac, AccWf y := by
    obtain ⟨fuel, hf⟩ := h2
    exact try_of (sz2.trans (by kernel_rfl)) hf
  clear hA0 hval0
  refine (walk a0 len0 cap0 z0 t1 va1 vc1 t2 va2 vc2 W w0 w1 w2).mono fun e W' ⟨he, bel⟩ => ?_
  subst he
  exact ⟨_, rfl, _, _, _, [], _, [], hW', trodAll_mk1 (shut_bool Try.underlying4 _), (trodAll_cons_mk (Below.trod laidOut (by kernel_rfl) (of_decide_eq_true (by kernel_rfl)) k0 bel lt0) (trodAll_cons_mk (Below.trod laidOut (by kernel_rfl) (of_decide_eq_true (by kernel_rfl)) k1 bel lt1) (trodAll_cons_mk (Below.trod laidOut (by kernel_rfl) (of_decide_eq_true (by kernel_rfl)) k2 bel lt2) trodAll_mk0))), rfl, bel.frame _, fun h => by cases h⟩

theorem over : Rows.modelApartRow.holds Try.pinned (OpenSpec.ofChange Rows.modelApartSpec) :=
  OpenClaim.holds_of_wide 7 Try.f7 rfl rfl rfl rfl rfl rfl rfl ⟨rfl, rfl, rfl, rfl, rfl⟩ rfl rfl rfl rfl rfl (by kernel_rfl) Try.func7 (by kernel_rfl)
    (of_decide_eq_true (by kernel_rfl)) (by unfold Func.isWrapper; first | (rw [if_pos (by decide +kernel)]; kernel_rfl) | (rw [if_neg (by decide +kernel)]; exact ⟨rfl, rfl⟩))
    (fun os started H enc _ => lifted os started H enc)

theorem proved : Rows.ModelApartSaid := over
#print axioms proved
end Go.Proofs.Ytdohepenmejcaaa.modelApart
