/-
  LangLast: what operations of a transaction alone leave is left one by one: but a write none changes any object, and what comes behind it and only reads changes nothing; for any list of operations, and any values.
  Conditions: none (of what is no transaction, and of no values or more than 8, the law says nothing by itself).
-/
import Derived.Test.YtjajhkgbhckdeaaRows
import Derived.Test.YtjajhkgbhckdeaaOpen
import Derived.Test.YtjajhkgbhckdeaaAliveL
import Derived.Deep.RegionLaw
namespace Go.Proofs.Ytjajhkgbhckdeaa.langLast
open Go.ChangeShapes Go.WideShapes Go.ChangeAt Go.RowKit Go.Proofs.Ytjajhkgbhckdeaa.base Go.Proofs.Ytjajhkgbhckdeaa.lg
set_option linter.unusedVariables false

set_option maxRecDepth 100000 in
theorem walk_out (a0 : Option Addr) (len0 cap0 : Nat) (z0 : Nat → Nat → Int) (a1 : Option Addr) (len1 cap1 : Nat) (w : World) (w0 : IsOps w a0 len0 z0) (hm : len0 ≤ maxLen) (h : len1 = 0 ∨ 8 < len1 ∨ rightB z0 len0 len1 = false) :
    Calls Try.prog 8 #[.slice a0 len0 cap0, .slice a1 len1 cap1] w (fun e w' => e = .returned (.bool true) ∧ Below w.heap.size w w') := by
  by_cases h1 : len1 = 0
  · subst h1
    clear h w0
    go_enter Try.func8, Try.ntmps8
    go_wp2_with fail
    refine (alive_any _).mono ?_
    rintro e v1 ⟨rfl, g1⟩
    go_wp2
    go_ret
    exact ⟨rfl, gb_below g1.out⟩
  · by_cases h8 : 8 < len1
    · have hd : decide ((len1 : Int) < 1) = false := by simp; omega
      have hd8 : decide ((8 : Int) < (len1 : Int)) = true := by simp; omega
      clear h w0
      go_enter Try.func8, Try.ntmps8
      go_wp2_with fail
      refine (alive_any _).mono ?_
      rintro e v1 ⟨rfl, g1⟩
      go_wp2
      go_ret
      exact ⟨rfl, gb_below g1.out⟩
    · have hd : decide ((len1 : Int) < 1) = false := by simp; omega
      have hd8 : decide ((8 : Int) < (len1 : Int)) = false := by simp; omega
      have hr : rightB z0 len0 len1 = false := by rcases h with h | h | h <;> first | omega | exact h
      have HR := Lib.hid (fun u g => (hr ▸ refright_any a0 len0 cap0 z0 len1 u g hm))
      have Z := Lib.hid w0
      clear h hr w0
      go_enter Try.func8, Try.ntmps8
      go_wp2_with fail
      refine (alive_any _).mono ?_
      rintro e v1 ⟨rfl, g1⟩
      go_wp2_with fail
      refine (HR.out _ (Z.out.grown g1.out)).mono ?_
      rintro e v2 ⟨rfl, g2⟩
      go_wp2
      go_ret
      exact ⟨rfl, gb_below (gb_trans g1.out g2.out)⟩

theorem right_part {z : Nat → Nat → Int} {len n k : Nat} (h : rightB z len n = true) (h0 : 0 < k) (hk : k ≤ len) : rightB z k n = true := by
  simp only [rightB, Bool.and_eq_true, decide_eq_true_eq] at h ⊢
  exact ⟨⟨h0, by omega⟩, okN_le h.2 hk⟩
theorem run_still (z : Nat → Nat → Int) (v : Nat → Int) (j : Nat) (h : z j 0 ≠ 2) : (run z v (j + 1)).2 = (run z v j).2 := by
  rw [run]
  split <;> simp_all

theorem ownsRow_empty' (w : World) (e : TypeId) (sz : Nat) (H : Nat) (h : w.heap.size = H) : (w.alloc (.cells #[] e)).ownsRow H e sz (.slice (some ⟨H, 0, none⟩) 0 0) 0 [] := by
  subst h
  exact ownsRow_empty w e sz

/-- The first k, and then Set 3 and Read of an object. -/
def back (z : Nat → Nat → Int) (k : Nat) (x : Int) (i j : Nat) : Int := if i < k then z i j else if i = k then (if j = 1 then 0 else 3) else (if j = 0 then 1 else if j = 1 then x else 0)
theorem run_congr {z z' : Nat → Nat → Int} (v : Nat → Int) {m : Nat} (h : ∀ i j, i < m → z i j = z' i j) : run z v m = run z' v m := by
  induction m with
  | zero => rfl
  | succ m ih => simp only [run, ih (fun i j hi => h i j (by omega)), h m 0 (by omega), h m 1 (by omega), h m 2 (by omega)]
theorem back_lt {z : Nat → Nat → Int} {k : Nat} {x : Int} {i : Nat} (j : Nat) (h : i < k) : back z k x i j = z i j := by simp [back, h]
theorem back_k (z : Nat → Nat → Int) (k : Nat) (x : Int) : back z k x k 0 = 3 ∧ back z k x k 1 = 0 ∧ back z k x k 2 = 3 := by simp [back]
theorem back_k1 (z : Nat → Nat → Int) (k : Nat) (x : Int) : back z k x (k + 1) 0 = 1 ∧ back z k x (k + 1) 1 = x ∧ back z k x (k + 1) 2 = 0 := by simp [back, show ¬ k + 1 < k by omega]
theorem ops_back (z : Nat → Nat → Int) (k : Nat) (x : Int) : ops (back z k x) (k + 2) = ops z k ++ [.int .i64 3, .int .i64 0, .int .i64 3, .int .i64 1, .int .i64 x, .int .i64 0] := by
  rw [ops_succ, ops_succ, ops_congr (z' := z) (fun i j hi _ => back_lt j hi)]
  simp [opc, back_k, back_k1]
theorem run_back (z : Nat → Nat → Int) (k : Nat) (x : Int) (v : Nat → Int) : (run (back z k x) v (k + 2)).2 = (run z v k).2 := by
  rw [run_still _ _ (k + 1) (by simp [back_k1]), run_still _ _ k (by simp [back_k]), run_congr v (z' := z) (fun i j hi => back_lt j hi)]
theorem right_back {z : Nat → Nat → Int} {k n : Nat} {x x2 : Int} (h : rightB z k n = true) (h7 : k < 7) (hx : okB 2 x x2 n = true) : rightB (back z k x) (k + 2) n = true := by
  simp only [rightB, Bool.and_eq_true, decide_eq_true_eq] at h ⊢
  refine ⟨⟨by omega, by omega⟩, okN_of fun i hi => ?_⟩
  by_cases h1 : i < k
  · rw [back_lt _ h1, back_lt _ h1, back_lt _ h1]
    exact okN_at h.2 h1
  · rcases (by omega : i = k ∨ i = k + 1) with rfl | rfl
    · rw [(back_k z i x).1, (back_k z i x).2.1, (back_k z i x).2.2]
      simp [okB]
    · rw [(back_k1 z k x).1, (back_k1 z k x).2.1, (back_k1 z k x).2.2]
      simp only [okB] at hx ⊢
      rw [if_neg (by omega)] at hx ⊢
      simp at hx ⊢
      omega

theorem src_keep {w w' : World} {H m : Nat} {l : List Value} (h : (m = 0 ∧ l = []) ∨ ∃ ad, (some ⟨H, 0, none⟩ : Option Addr) = some ad ∧ ∀ j u, l[j]? = some u → w.cell? (ad.add j) = some u) (k : ∀ (p : Addr) (u : Value), p.block = H → w.cell? p = some u → w'.cell? p = some u) : (m = 0 ∧ l = []) ∨ ∃ ad, (some ⟨H, 0, none⟩ : Option Addr) = some ad ∧ ∀ j u, l[j]? = some u → w'.cell? (ad.add j) = some u := by
  rcases h with h | ⟨ad, e, h⟩
  · exact .inl h
  · cases e
    exact .inr ⟨_, rfl, fun j u hu => k _ u (by rw [add_eq]) (h j u hu)⟩

set_option maxRecDepth 100000 in
set_option maxHeartbeats 4000000 in
theorem walkIn (a0 : Option Addr) (len0 cap0 : Nat) (z0 : Nat → Nat → Int) (a1 : Option Addr) (len1 cap1 : Nat) (z1 : Nat → Int) (w : World) (w0 : IsOps w a0 len0 z0) (w1 : IsNums .i64 w a1 len1 z1) (hm : len0 ≤ cap0) (hm2 : cap0 ≤ maxLen) (h1 : 1 ≤ len1) (h8 : len1 ≤ 8) (hr : rightB z0 len0 len1 = true) :
    Calls Try.prog 8 #[.slice a0 len0 cap0, .slice a1 len1 cap1] w (fun e w' => e = .returned (.bool true) ∧ Below w.heap.size w w') := by
  have hl : 0 < len0 ∧ len0 < 9 ∧ okN z0 len1 len0 = true := by simp only [rightB, Bool.and_eq_true, decide_eq_true_eq] at hr; exact ⟨hr.1.1, hr.1.2, hr.2⟩
  obtain ⟨hl0, hl9, hok⟩ := hl
  have HK := Lib.hid hok
  have HRR := Lib.hid hr
  have HR := Lib.hid (fun u g => (hr ▸ refright_any a0 len0 cap0 z0 len1 u g (by omega)))
  have hd : decide ((len1 : Int) < 1) = false := by simp; omega
  have hd8 : decide ((8 : Int) < (len1 : Int)) = false := by simp; omega
  obtain ⟨b1, off1, rfl, hb1, hz⟩ : ∃ b off, a0 = some ⟨b, off, none⟩ ∧ b < w.heap.size ∧ ∀ i j, i < len0 → j < 3 → w.cell? ⟨b, off + (i * 3 + j), none⟩ = some (.int .i64 (z0 i j)) := by
    rcases w0 with h | h
    · omega
    · exact h
  have Z : Hid (IsOps w (some ⟨b1, off1, none⟩) len0 z0) := .inr ⟨b1, off1, rfl, hb1, hz⟩
  have V := Lib.hid w1
  clear w0 w1 hr hok hz
  unfold maxLen at hm2
  go_enter Try.func8, Try.ntmps8
  go_wp2_with fail
  refine (alive_any _).mono ?_
  rintro e v1 ⟨rfl, g1⟩
  go_wp2_with fail
  refine (HR.out _ (Z.out.grown g1.out)).mono ?_
  rintro e v2 ⟨rfl, g2⟩
  have G2 := Lib.hid (gb_trans g1.out g2.out)
  clear g1 g2 HR
  go_wp2_with fail
  refine (alone_any (some ⟨b1, off1, none⟩) len0 cap0 z0 a1 len1 cap1 z1 _ (Z.out.grown G2.out) (V.out.grown G2.out) HRR.out (by omega)).mono ?_
  rintro e v3 ⟨b3, c3, rfl, R3, g3⟩
  have G3 := Lib.hid (gb_trans G2.out g3.out)
  have N3 := Lib.hid (IsNums.of_own (k := .i64) R3.out)
  clear g3 G2 R3 hd hd8
  go_wp2_with fail
  go_loopw [7] (fun kv wr => ∃ k : Nat, 1 ≤ k ∧ k ≤ len0 + 1 ∧ kv = .int .i64 k ∧ Hid (v3.grownBy wr none)) (fun kv _ => (len0 + 1 - intOf kv).toNat)
  case atStart => exact ⟨1, by omega, by omega, rfl, gb_refl _ _⟩
  case round =>
    obtain ⟨k, hk1, hk2, rfl, G⟩ := hrel
    have GW := Lib.hid (gb_trans G3.out G.out)
    by_cases hk : k ≤ len0
    · obtain ⟨j, hj⟩ : ∃ j, k = j + 1 := ⟨k - 1, by omega⟩
      have HJ := Lib.hid hj
      have hkm : (k : Int) - 1 = (j : Int) := by omega
      have hjl : j < len0 := by omega
      have hjl' : (j : Int) < (len0 : Int) := by omega
      have hkl' : decide ((k : Int) ≤ (len0 : Int)) = true := by simp; omega
      have HP := Lib.hid (right_part HRR.out (show 0 < k by omega) hk)
      clear hj
      go_wp2_with fail
      refine (alone_any (some ⟨b1, off1, none⟩) k cap0 z0 a1 len1 cap1 z1 _ ((Z.out.grown GW.out).less hk) (V.out.grown GW.out) HP.out (by omega)).mono ?_
      rintro e v4 ⟨b4, c4, rfl, R4, g4⟩
      have G4 := Lib.hid (gb_trans G.out g4.out)
      have N4 := Lib.hid (IsNums.of_own (k := .i64) R4.out)
      clear g4 R4 G GW
      go_upto_region 14 with fail
      go_cut [78] from 46 to 133 (fun tv wx => tv = .bool false ∧ Hid (v4.grownBy wx none))
      case first =>
        by_cases he : k = len0
        · have he' : ((k : Int) == (len0 : Int)) = true := by simp; omega
          have NE := Lib.hid ((N3.out.grown G4.out).congr (f' := (run z0 z1 k).2) (fun i _ => by rw [he]))
          clear he
          go_wp2_with fail
          refine (vals_true b4 b3 len1 c4 c3 _ _ N4.out NE.out (by omega)).mono ?_
          rintro e v5 ⟨rfl, g5⟩
          go_wp2
          go_meet
          exact ⟨rfl, g5⟩
        · have he' : ((k : Int) == (len0 : Int)) = false := by simp; omega
          clear he
          go_wp2
          go_meet
          exact ⟨rfl, gb_refl _ _⟩
      case rest =>
      obtain ⟨rfl, G5⟩ := hcut
      have GV := Lib.hid (gb_trans G4.out G5.out)
      have GX := Lib.hid (gb_trans G3.out GV.out)
      have N5 := Lib.hid (N4.out.grown G5.out)
      clear N4 G5 G4
      obtain ⟨_, _, e1, hb2, o0, o1, o2⟩ := (Z.out.grown GX.out).at3 hjl
      cases e1
      have hkb := okN_at HK.out hjl
      generalize hz0 : z0 j 0 = x0 at *
      generalize hz1 : z0 j 1 = x1 at *
      generalize hz2 : z0 j 2 = x2 at *
      have HX := Lib.hid hz0
      have HX1 := Lib.hid hz1
      have HKB := Lib.hid hkb
      clear hz0 hz1 hz2 hkb
      have OB := Lib.hid (Blk.made wc 24 #[.int .i64 x0, .int .i64 x1, .int .i64 x2])
      have GA := Lib.hid (gb_alloc GV.out (.cells #[.int .i64 x0, .int .i64 x1, .int .i64 x2] 24))
      have NA := Lib.hid (N5.out.grown (World.grownBy_alloc _ (.cells #[.int .i64 x0, .int .i64 x1, .int .i64 x2] 24) none))
      clear GV GX N5
      by_cases h2 : x0 = 2
      · subst h2
        by_cases h7 : k < 7
        · have h7' : decide ((k : Int) < 7) = true := by simp; omega
          go_wp2_with fail
          generalize wc.alloc _ = v at *
          generalize hob : wc.heap.size = ob at *
          have HOB := Lib.hid hob
          clear hob
          have q0 : v.cell? ⟨ob, 0, none⟩ = some (.int .i64 2) := OB.out.cell 0
          have q1 : v.cell? ⟨ob, 1, none⟩ = some (.int .i64 x1) := OB.out.cell 1
          have hkc : k ≤ cap0 := by omega
          have hkc' : (k : Int) ≤ (cap0 : Int) := by omega
          have VE : Hid ((k = 0 ∧ ops z0 k = []) ∨ ∃ ad, (some ⟨b1, off1, none⟩ : Option Addr) = some ad ∧ ∀ j u, (ops z0 k)[j]? = some u → ((v.alloc (.cells #[] 24)).drew).cell? (ad.add j) = some u) := (((Z.out.grown (gb_trans G3.out GA.out)).less hk).grown (w' := (v.alloc (.cells #[] 24)).drew) (by repeat (first | exact gb_refl _ _ | refine gb_drewN ?_ _ | refine gb_drew ?_ | refine gb_alloc ?_ _))).src
          have OE : Hid (((v.alloc (.cells #[] 24)).drew).ownsRow (v.heap.size) 24 3 (.slice (some ⟨v.heap.size, 0, none⟩) 0 0) 0 []) := ownsRow_empty v _ 3
          have hbe := Lib.hid (show v.heap.size ≤ (v.alloc (.cells #[] 24)).heap.size by rw [size_alloc]; omega)
          have VEb : Hid ((k = 0 ∧ ops z0 k = []) ∨ ∃ ad, (some ⟨b1, off1, none⟩ : Option Addr) = some ad ∧ ∀ j u, (ops z0 k)[j]? = some u → (((v.alloc (.cells #[] 24)).alloc (.cells #[.int .i64 3, .int .i64 0, .int .i64 3, .int .i64 1, .int .i64 x1, .int .i64 0] 24)).drew).cell? (ad.add j) = some u) := (((Z.out.grown (gb_trans G3.out GA.out)).less hk).grown (w' := ((v.alloc (.cells #[] 24)).alloc (.cells #[.int .i64 3, .int .i64 0, .int .i64 3, .int .i64 1, .int .i64 x1, .int .i64 0] 24)).drew) (by repeat (first | exact gb_refl _ _ | refine gb_drewN ?_ _ | refine gb_drew ?_ | refine gb_alloc ?_ _))).src
          have OEb : Hid ((((v.alloc (.cells #[] 24)).alloc (.cells #[.int .i64 3, .int .i64 0, .int .i64 3, .int .i64 1, .int .i64 x1, .int .i64 0] 24)).drew).ownsRow (v.heap.size) 24 3 (.slice (some ⟨v.heap.size, 0, none⟩) 0 0) 0 []) := ownsRow_keep (ownsRow_empty v _ 3) (fun b e => Below.heap_alloc _ _ b (by cases e; simp))
          have hbeb := Lib.hid (show v.heap.size ≤ ((v.alloc (.cells #[] 24)).alloc (.cells #[.int .i64 3, .int .i64 0, .int .i64 3, .int .i64 1, .int .i64 x1, .int .i64 0] 24)).heap.size by rw [size_alloc, size_alloc]; omega)
          have VEc : Hid ((k = 0 ∧ ops z0 k = []) ∨ ∃ ad, (some ⟨b1, off1, none⟩ : Option Addr) = some ad ∧ ∀ j u, (ops z0 k)[j]? = some u → (((v.alloc (.cells #[.int .i64 3, .int .i64 0, .int .i64 3, .int .i64 1, .int .i64 x1, .int .i64 0] 24)).alloc (.cells #[] 24)).drew).cell? (ad.add j) = some u) := (((Z.out.grown (gb_trans G3.out GA.out)).less hk).grown (w' := ((v.alloc (.cells #[.int .i64 3, .int .i64 0, .int .i64 3, .int .i64 1, .int .i64 x1, .int .i64 0] 24)).alloc (.cells #[] 24)).drew) (by repeat (first | exact gb_refl _ _ | refine gb_drewN ?_ _ | refine gb_drew ?_ | refine gb_alloc ?_ _))).src
          have OEc : Hid ((((v.alloc (.cells #[.int .i64 3, .int .i64 0, .int .i64 3, .int .i64 1, .int .i64 x1, .int .i64 0] 24)).alloc (.cells #[] 24)).drew).ownsRow (v.heap.size + 1) 24 3 (.slice (some ⟨v.heap.size + 1, 0, none⟩) 0 0) 0 []) := ownsRow_empty' _ _ 3 _ (by simp)
          have hbec := Lib.hid (show v.heap.size + 1 ≤ ((v.alloc (.cells #[.int .i64 3, .int .i64 0, .int .i64 3, .int .i64 1, .int .i64 x1, .int .i64 0] 24)).alloc (.cells #[] 24)).heap.size by rw [size_alloc, size_alloc]; omega)
          have hkn := Lib.hid (show 0 + k ≤ 1000000 by omega)
          have hsz := Lib.hid (show w.heap.size ≤ v.heap.size from (gb_trans G3.out GA.out).size)
          have hkn2 := Lib.hid (show k + 2 ≤ 1000000 by omega)
          have q1E := (World.grownBy_alloc v (.cells #[] 24) none).cell q1 (by simp)
          have n1 := World.new_ne v _ q1
          have hl1 := Lib.hid (show len1 ≤ 100000 by omega)
          have HPB := Lib.hid (right_back HP.out h7 HKB.out)
          go_region_law (first | (refine step_call rfl 17 #[.slice b9 (k + 2) c9, .slice a1 len1 cap1] (by simp [Act.eval, Act.put, go_sem]) (alone_any b9 (k + 2) c9 (back z0 k x1) a1 len1 cap1 z1 v9 O9.out (V.out.grown (gb_trans G3.out (gb_trans GA.out G9.out))) HPB.out hl1.out) ?_; rintro e v10 ⟨b10, c10, rfl, R10, g10⟩; refine ⟨_, rfl, ?_⟩) | (refine stepOp rfl (.tmp 115) (.tmp 120) rfl (v.heap.size) (.slice b8 k c8) k (ops z0 k) (by simp [Act.eval, Act.put]) O8.out (some ⟨v8.heap.size, 0, none⟩) 2 2 [.int .i64 3, .int .i64 0, .int .i64 3, .int .i64 1, .int .i64 x1, .int .i64 0] (by simp [Act.eval, Act.put]) rfl S8.out (by intro u hu; simp at hu; rcases hu with rfl | rfl | rfl | rfl | rfl | rfl <;> rfl) hkn2.out hb8.out ?_; intro b9 c9 v9 ho9 hg9 hv9; have O9 := Lib.hid (IsOps.of_own (by rw [ops_back z0 k x1]; exact ho9 : v9.ownsRow (v.heap.size) 24 3 (.slice b9 (k + 2) c9) (k + 2) (ops (back z0 k x1) (k + 2)))); have G9 := Lib.hid (show World.grownBy v v9 none from gb_overO (gb_alloc G8.out (.cells #[.int .i64 3, .int .i64 0, .int .i64 3, .int .i64 1, .int .i64 x1, .int .i64 0] 24)) hg9 (fun i hi => by have := (O8.out.lt i hi).1; omega)); clear ho9 hg9 hv9) | (refine stepOp rfl (.tmp 115) (.tmp 120) rfl (v.heap.size) (.slice b8 k c8) k (ops z0 k) (by simp [Act.eval, Act.put]) O8b.out (some ⟨v.heap.size + 1, 0, none⟩) 2 2 [.int .i64 3, .int .i64 0, .int .i64 3, .int .i64 1, .int .i64 x1, .int .i64 0] (by simp [Act.eval, Act.put]) rfl S8b.out (by intro u hu; simp at hu; rcases hu with rfl | rfl | rfl | rfl | rfl | rfl <;> rfl) hkn2.out hb8b.out ?_; intro b9 c9 v9 ho9 hg9 hv9; have O9 := Lib.hid (IsOps.of_own (by rw [ops_back z0 k x1]; exact ho9 : v9.ownsRow (v.heap.size) 24 3 (.slice b9 (k + 2) c9) (k + 2) (ops (back z0 k x1) (k + 2)))); have G9 := Lib.hid (show World.grownBy v v9 none from gb_overO G8b.out hg9 (fun i hi => by have := (O8b.out.lt i hi).1; omega)); clear ho9 hg9 hv9) | (refine stepOp rfl (.tmp 115) (.tmp 120) rfl (v.heap.size + 1) (.slice b8 k c8) k (ops z0 k) (by simp [Act.eval, Act.put]) O8c.out (some ⟨v.heap.size, 0, none⟩) 2 2 [.int .i64 3, .int .i64 0, .int .i64 3, .int .i64 1, .int .i64 x1, .int .i64 0] (by simp [Act.eval, Act.put]) rfl S8c.out (by intro u hu; simp at hu; rcases hu with rfl | rfl | rfl | rfl | rfl | rfl <;> rfl) hkn2.out hb8c.out ?_; intro b9 c9 v9 ho9 hg9 hv9; have O9 := Lib.hid (IsOps.of_own (by rw [ops_back z0 k x1]; exact ho9 : v9.ownsRow (v.heap.size + 1) 24 3 (.slice b9 (k + 2) c9) (k + 2) (ops (back z0 k x1) (k + 2)))); have G9 := Lib.hid (show World.grownBy v v9 none from gb_overO G8c.out hg9 (fun i hi => by have := (O8c.out.lt i hi).1; omega)); clear ho9 hg9 hv9) | (refine stepOp rfl (.tmp 111) (.tmp 114) rfl (v.heap.size) (.slice (some ⟨v.heap.size, 0, none⟩) 0 0) 0 [] (by simp [Act.eval, Act.put]) OE.out (some ⟨b1, off1, none⟩) k cap0 (ops z0 k) (by simp [Act.eval, Act.put]) (ops_length z0 k) VE.out (one_ops z0 k) hkn.out hbe.out ?_; simp only [Nat.zero_add, List.nil_append]; intro b8 c8 v8 ho8 hg8 hv8; have O8 := Lib.hid (ownsRow_keep (w' := v8.alloc (.cells #[.int .i64 3, .int .i64 0, .int .i64 3, .int .i64 1, .int .i64 x1, .int .i64 0] 24)) ho8 (fun b e => Below.heap_alloc _ _ b (ho8.lt b e).2)); have G8 := Lib.hid (show World.grownBy v v8 none from gb_overO (b := (v.alloc (.cells #[] 24)).drew) (by repeat (first | exact gb_refl _ _ | refine gb_drewN ?_ _ | refine gb_drew ?_ | refine gb_alloc ?_ _)) hg8 (by intro i e; cases e; exact Nat.le_refl _)); have hb8 := Lib.hid (show v.heap.size ≤ (v8.alloc (.cells #[.int .i64 3, .int .i64 0, .int .i64 3, .int .i64 1, .int .i64 x1, .int .i64 0] 24)).heap.size by have := G8.out.size; simp; omega); have q1 := G8.out.cell q1 (by simp); have n8 := World.new_ne v8 _ q1; have S8 := Lib.hid (new_src v8 [.int .i64 3, .int .i64 0, .int .i64 3, .int .i64 1, .int .i64 x1, .int .i64 0] 24 v8.heap.size rfl (m := 2)); clear ho8 hg8 hv8) | (refine stepOp rfl (.tmp 111) (.tmp 114) rfl (v.heap.size) (.slice (some ⟨v.heap.size, 0, none⟩) 0 0) 0 [] (by simp [Act.eval, Act.put]) OEb.out (some ⟨b1, off1, none⟩) k cap0 (ops z0 k) (by simp [Act.eval, Act.put]) (ops_length z0 k) VEb.out (one_ops z0 k) hkn.out hbeb.out ?_; simp only [Nat.zero_add, List.nil_append]; intro b8 c8 v8 ho8 hg8 hv8; have O8b := Lib.hid ho8; have G8b := Lib.hid (show World.grownBy v v8 none from gb_overO (b := ((v.alloc (.cells #[] 24)).alloc (.cells #[.int .i64 3, .int .i64 0, .int .i64 3, .int .i64 1, .int .i64 x1, .int .i64 0] 24)).drew) (by repeat (first | exact gb_refl _ _ | refine gb_drewN ?_ _ | refine gb_drew ?_ | refine gb_alloc ?_ _)) hg8 (by intro i e; cases e; exact Nat.le_refl _)); have hb8b := Lib.hid (show v.heap.size ≤ v8.heap.size from G8b.out.size); have q1 := G8b.out.cell q1 (by simp); have S8b := Lib.hid (src_keep (new_src (v.alloc (.cells #[] 24)) [.int .i64 3, .int .i64 0, .int .i64 3, .int .i64 1, .int .i64 x1, .int .i64 0] 24 (v.heap.size + 1) (by simp) (m := 2)) (w' := v8) (fun p u hp hc => hg8.cell (a := p) hc (by intro e; simp [Value.ownBlock] at e; omega))); clear ho8 hg8 hv8) | (refine stepOp rfl (.tmp 111) (.tmp 114) rfl (v.heap.size + 1) (.slice (some ⟨v.heap.size + 1, 0, none⟩) 0 0) 0 [] (by simp [Act.eval, Act.put]) OEc.out (some ⟨b1, off1, none⟩) k cap0 (ops z0 k) (by simp [Act.eval, Act.put]) (ops_length z0 k) VEc.out (one_ops z0 k) hkn.out hbec.out ?_; simp only [Nat.zero_add, List.nil_append]; intro b8 c8 v8 ho8 hg8 hv8; have O8c := Lib.hid ho8; have G8c := Lib.hid (show World.grownBy v v8 none from gb_overO (b := ((v.alloc (.cells #[.int .i64 3, .int .i64 0, .int .i64 3, .int .i64 1, .int .i64 x1, .int .i64 0] 24)).alloc (.cells #[] 24)).drew) (by repeat (first | exact gb_refl _ _ | refine gb_drewN ?_ _ | refine gb_drew ?_ | refine gb_alloc ?_ _)) hg8 (by intro i e; simp [Value.ownBlock] at e; omega)); have hb8c := Lib.hid (show v.heap.size + 1 ≤ v8.heap.size from Nat.le_trans hbec.out hg8.size); have q1 := G8c.out.cell q1 (by simp); have S8c := Lib.hid (src_keep (new_src v [.int .i64 3, .int .i64 0, .int .i64 3, .int .i64 1, .int .i64 x1, .int .i64 0] 24 v.heap.size rfl (m := 2)) (w' := v8) (fun p u hp hc => hg8.cell (a := p) ((World.grownBy_alloc _ (.cells #[] 24) none).cell hc (by simp)) (by intro e; simp [Value.ownBlock] at e; omega))); clear ho8 hg8 hv8))
          all_goals
            have G10 := Lib.hid (gb_trans GA.out (gb_trans G9.out g10.out))
            have N10 := Lib.hid ((IsNums.of_own (k := .i64) R10.out).congr (f' := (run z0 z1 k).2) (fun i _ => by rw [run_back]))
            have M10 := Lib.hid (NA.out.grown (gb_trans G9.out g10.out))
            clear R10 g10 G9 O9 NA GA q0 q1 q1E n1
            go_wp2_with fail
            refine (vals_true b10 b4 len1 c10 c4 _ _ N10.out M10.out (by omega)).mono ?_
            rintro e v11 ⟨rfl, g11⟩
            have G11 := Lib.hid (gb_trans G10.out g11.out)
            clear N10 M10 g11 G10
            go_wp2
            go_roundw
            case rel => exact ⟨k + 1, by omega, by omega, by go_num, G11⟩
            case measure => simp [intOf]; omega
        · have h7' : decide ((k : Int) < 7) = false := by simp; omega
          go_wp2
          go_roundw
          case rel => exact ⟨k + 1, by omega, by omega, by go_num, GA⟩
          case measure => simp [intOf]; omega
      · have h2a : (x0 == 2) = false := by simpa using h2
        have h2b : (x0 != 2) = true := by simpa using h2
        have HS := Lib.hid (run_still z0 z1 j (by rw [HX.out]; exact h2))
        clear h2
        by_cases hj0 : j = 0
        · have h1k : decide ((1 : Int) < (k : Int)) = false := by have := HJ.out; simp; omega
          have N6 := Lib.hid (NA.out.congr (f' := z1) (fun i _ => by rw [HJ.out, HS.out, hj0]; rfl))
          clear hj0
          go_wp2_with fail
          refine (vals_true b4 a1 len1 c4 cap1 z1 _ N6.out (V.out.grown (gb_trans G3.out GA.out)) (by omega)).mono ?_
          rintro e v6 ⟨rfl, g6⟩
          have G6 := Lib.hid (gb_trans GA.out g6.out)
          have q0 : v6.cell? ⟨wc.heap.size, 0, none⟩ = some (.int .i64 x0) := (OB.out.grown g6.out (by simp)).cell 0
          clear g6 N6 NA GA OB
          go_wp2
          go_roundw
          case rel => exact ⟨k + 1, by omega, by omega, by go_num, G6⟩
          case measure => simp [intOf]; omega
        · have h1k : decide ((1 : Int) < (k : Int)) = true := by have := HJ.out; simp; omega
          have HPj := Lib.hid (right_part HRR.out (show 0 < j by omega) (show j ≤ len0 by omega))
          go_wp2_with fail
          refine (alone_any (some ⟨b1, off1, none⟩) j cap0 z0 a1 len1 cap1 z1 _ ((Z.out.grown (gb_trans G3.out GA.out)).less (by omega)) (V.out.grown (gb_trans G3.out GA.out)) HPj.out (by omega)).mono ?_
          rintro e v6 ⟨b6, c6, rfl, R6, g6⟩
          have G6 := Lib.hid (gb_trans GA.out g6.out)
          have N6 := Lib.hid (IsNums.of_own (k := .i64) R6.out)
          have M6 := Lib.hid ((NA.out.grown g6.out).congr (f' := (run z0 z1 j).2) (fun i _ => by rw [HJ.out, HS.out]))
          have OB6 := Lib.hid (OB.out.grown g6.out (by simp))
          clear g6 R6 NA GA OB
          go_wp2_with fail
          refine (vals_true b4 b6 len1 c4 c6 _ _ M6.out N6.out (by omega)).mono ?_
          rintro e v7 ⟨rfl, g7⟩
          have G7 := Lib.hid (gb_trans G6.out g7.out)
          have q0 : v7.cell? ⟨wc.heap.size, 0, none⟩ = some (.int .i64 x0) := (OB6.out.grown g7.out (by simp)).cell 0
          clear g7 M6 N6 OB6 G6
          go_wp2
          go_roundw
          case rel => exact ⟨k + 1, by omega, by omega, by go_num, G7⟩
          case measure => simp [intOf]; omega
    · obtain rfl : k = len0 + 1 := by omega
      have hkl' : decide (((len0 + 1 : Nat) : Int) ≤ (len0 : Int)) = false := by simp; omega
      go_wp2
      go_ret
      exact ⟨rfl, gb_below GW.out⟩

theorem walk (a0 : Option Addr) (len0 cap0 : Nat) (z0 : Nat → Nat → Int) (a1 : Option Addr) (len1 cap1 : Nat) (z1 : Nat → Int) (w : World) (w0 : IsInts 3 w a0 len0 cap0 z0) (w1 : IsRow .i64 w a1 len1 cap1 z1) :
    Calls Try.prog 8 #[.slice a0 len0 cap0, .slice a1 len1 cap1] w (fun e w' => e = .returned (.bool true) ∧ Below w.heap.size w w') := by
  by_cases h : len1 = 0 ∨ 8 < len1 ∨ rightB z0 len0 len1 = false
  · exact walk_out a0 len0 cap0 z0 a1 len1 cap1 w (IsOps.of_ints w0) (Nat.le_trans w0.1 w0.2.1) h
  · refine walkIn a0 len0 cap0 z0 a1 len1 cap1 z1 w (IsOps.of_ints w0) (IsNums.of_row w1) w0.1 w0.2.1 (by omega) (by omega) ?_
    cases e : rightB z0 len0 len1 with
    | true => rfl
    | false => exact absurd (.inr (.inr e)) h

theorem own : ownKnob Try.prog.godebug = none := by kernel_rfl
theorem laidOut : laidOutB Try.prog = true := by kernel_rfl

/-! ### THE ROW's STEP, as the guide has it -/
set_option maxRecDepth 100000 in
theorem lifted (os : Os) (started : os.Started) (H : Type) (enc : TypeId × Value → H) :
    ReturnsInHanded {} Try.checked os 8 .any (Rows.langLastSpec.pre6 enc Try.prog Try.f8 Rows.langLastRow.domain false) (Rows.langLastSpec.post enc Try.prog Try.f8 false true false false) := by
  refine returnsInHanded_of_change (C := Try.checked) own started (by kernel_rfl) Try.func8
    (ChangeSpec.witness6 (enc := enc) (C := Try.checked) false ⟨#[], #[.slice none 0 0, .slice none 0 0], []⟩ 8 (by kernel_rfl) (by kernel_rfl) (by kernel_rfl) (by kernel_rfl)) ?_
  intro W base args ds gs before hval0 hW hcnd _
  have hval : ∀ (j : Nat) t v, Try.f8.params[j]? = some t → args[j]? = some v → Value.okWide Try.prog W .any base t v := hval0
  have hW' := hW
  obtain ⟨p, q, hA0, hV, rfl, hfz, hnd⟩ := hW
  have hA : DataW.TrodAll enc Try.prog W 0 (fun _ => true) true Try.f8.params.toList args.toList ds p := hA0
  rw [Try.params8] at hA hval
  obtain ⟨v0, vs0, d0, ds0, p0, q0, hargs, rfl, rfl, h0, r0⟩ := trodAll_cons hA
  obtain ⟨v1, vs1, d1, ds1, p1, q1, rfl, rfl, rfl, h1, r1⟩ := trodAll_cons r0
  obtain ⟨rfl, rfl, rfl⟩ := trodAll_nil r1
  obtain rfl : args = #[v0, v1] := by cases args; simp_all
  obtain ⟨rfl, rfl⟩ := trodVars_none hV
  obtain ⟨a0, len0, cap0, rfl⟩ := okWide_slice Try.underlying22 (hval 0 22 v0 rfl rfl)
  have k0 := h0
  have lt0 : ∀ x ∈ p0, x.block < W.heap.size := by obtain ⟨m, hm⟩ := k0; exact DataW.trod_lt m _ _ _ hm
  obtain ⟨z0, w0⟩ : ∃ z, IsInts 3 W a0 len0 cap0 z := by
    obtain ⟨fuel, hf⟩ := h0
    exact isMixed_of Try.underlying22 Try.underlying24 Try.underlying3 Try.underlying2 (by kernel_rfl) (by kernel_rfl) (by kernel_rfl) (by decide) (by decide) hf
  obtain ⟨a1, len1, cap1, rfl⟩ := okWide_slice Try.underlying31 (hval 1 31 v1 rfl rfl)
  have k1 := h1
  have lt1 : ∀ x ∈ p1, x.block < W.heap.size := by obtain ⟨m, hm⟩ := k1; exact DataW.trod_lt m _ _ _ hm
  obtain ⟨z1, w1⟩ : ∃ z, IsRow .i64 W a1 len1 cap1 z := by
    obtain ⟨fuel, hf⟩ := h1
    exact isRow_of Try.underlying31 Try.underlying2 (by kernel_rfl) hf
  clear hA0 hval0
  refine (walk a0 len0 cap0 z0 a1 len1 cap1 z1 W w0 w1).mono fun e W' ⟨he, bel⟩ => ?_
  subst he
  exact ⟨_, rfl, _, _, _, [], _, [], hW', trodAll_mk1 (shut_bool Try.underlying4 _), (trodAll_cons_mk (Below.trod laidOut (by kernel_rfl) (of_decide_eq_true (by kernel_rfl)) k0 bel lt0) (trodAll_cons_mk (Below.trod laidOut (by kernel_rfl) (of_decide_eq_true (by kernel_rfl)) k1 bel lt1) trodAll_mk0)), rfl, bel.frame _, fun h => by cases h⟩

theorem over : Rows.langLastRow.holds Try.pinned (OpenSpec.ofChange Rows.langLastSpec) :=
  OpenClaim.holds_of_wide 8 Try.f8 rfl rfl rfl rfl rfl rfl rfl ⟨rfl, rfl, rfl, rfl, rfl⟩ rfl rfl rfl rfl rfl (by kernel_rfl) Try.func8 (by kernel_rfl)
    (of_decide_eq_true (by kernel_rfl)) (by unfold Func.isWrapper; first | (rw [if_pos (by decide +kernel)]; kernel_rfl) | (rw [if_neg (by decide +kernel)]; exact ⟨rfl, rfl⟩))
    (fun os started H enc _ => lifted os started H enc)

theorem proved : Rows.LangLastSaid := over
#print axioms proved
end Go.Proofs.Ytjajhkgbhckdeaa.langLast
