/-
  GateStays: who sees an elder senior stays as long as its pulse goes on, and goes behind wait more looks at most when it stands; and nobody stays who sees a younger one; for any stamp, any list of beats, any wait, troubled or not.
  Conditions: none (of a list of more than 200 beats the law says nothing by itself).
-/
import Derived.Test.YtelapiabniabkaaRows
import Derived.Test.YtelapiabniabkaaOpen
import Derived.Test.YtelapiabniabkaaOpenB
import Derived.Test.YtelapiabniabkaaGtC
import Derived.Deep.CutRange
import Derived.Deep.DeepCutAuto
namespace Go.Proofs.Ytelapiabniabkaa.gateStays
open Go.ChangeShapes Go.WideShapes Go.ChangeAt Go.RowKit Go.Proofs.Ytelapiabniabkaa.base Go.Proofs.Ytelapiabniabkaa.ch Go.Proofs.Ytelapiabniabkaa.gate
set_option linter.unusedVariables false

/-- The state at the head of a round k: fresh, or it has met the senior k times, and looked s times at its pulse c. -/
def At (i : Int) (k : Nat) (c s : Int) (f t p l : Int) : Prop := (k = 0 ∧ f = -1 ∧ t = 0 ∧ p = 0 ∧ l = 0 ∧ s = 0) ∨ (k ≠ 0 ∧ f = i ∧ t = k ∧ p = c ∧ l = s)

theorem at_tries (i : Int) (k : Nat) (c s f t p l : Int) (hi : 0 ≤ i) (hk : k ≤ 1000) (h : At i k c s f t p l) : mT f i t = (k : Int) + 1 ∧ -9223372036854775808 ≤ t ∧ (0 ≤ s → -9223372036854775808 ≤ l) := by
  rcases h with ⟨rfl, rfl, rfl, rfl, rfl, rfl⟩ | ⟨h, rfl, rfl, rfl, rfl⟩
  · unfold mT
    rw [if_neg (by omega)]
    exact ⟨rfl, by omega, fun _ => by omega⟩
  · unfold mT cnt
    rw [if_pos rfl]
    omega
theorem at_first (i : Int) (c s f t p l q : Int) (hi : 0 ≤ i) (h : At i 0 c s f t p l) : lL (mP f i p q) q (mL f i l) = s + 1 := by
  rcases h with ⟨_, rfl, rfl, rfl, rfl, rfl⟩ | ⟨h, _⟩
  · unfold mP mL
    rw [if_neg (by omega), if_neg (by omega)]
    unfold lL
    rw [if_pos rfl]
    rfl
  · exact absurd rfl h
theorem at_moves (i : Int) (k : Nat) (c s f t p l : Int) (hk : k ≠ 0) (h : At i k c s f t p l) : lL (mP f i p (c + 1)) (c + 1) (mL f i l) = 0 := by
  rcases h with ⟨h, _⟩ | ⟨h, rfl, rfl, rfl, rfl⟩
  · exact absurd h hk
  · unfold mP mL lL
    rw [if_pos rfl, if_neg (by omega)]
theorem at_stands (i : Int) (k : Nat) (c s f t p l : Int) (hk : k ≠ 0) (hs : s ≤ 1000) (h : At i k c s f t p l) : lL (mP f i p c) c (mL f i l) = s + 1 := by
  rcases h with ⟨h, _⟩ | ⟨h, rfl, rfl, rfl, rfl⟩
  · exact absurd h hk
  · unfold mP mL lL cnt
    rw [if_pos rfl, if_pos rfl, if_pos rfl]
    omega

theorem at_same (i : Int) (k : Nat) (c s f t p l : Int) (hi : 0 ≤ i) (hs : s ≤ 1000) (h : At i k c s f t p l) : lL (mP f i p c) c (mL f i l) = s + 1 := by
  by_cases hk : k = 0
  · subst hk
    exact at_first i c s f t p l c hi h
  · exact at_stands i k c s f t p l hk hs h

theorem see1 {w0 : World} {g : Nat} {i A : Int} {z : Nat → Int} {R : List (Nat × TypeId × List Value)} (w : World) (h : Gt w0 w g 2 true i 1 z A R) (hA : A ≤ 999999) :
    Calls Try.prog 17 #[.pointer (some ⟨g, 0, none⟩)] w fun e w' => e = .returned (.agg #[.bool true, .int .i64 i, .int .i64 1, .int .i64 (z 1)]) ∧ Hid (Gt w0 w' g 2 true i 1 z (A + 1) R) := see_some 1 w h hA

/-- One round, where the senior is elder, or younger. -/
theorem roundE (f t p l : Int) (k : Nat) (s i c m n : Int) (tr : Bool) (hT : mT f i t = (k : Int) + 1) (lo : -9223372036854775808 ≤ t) (lo2 : -9223372036854775808 ≤ l) (hL : lL (mP f i p c) c (mL f i l) = s) (h : i < m) (w : World) :
    Calls Try.prog 19 #[.agg #[.int .i64 f, .int .i64 t, .int .i64 0, .int .i64 p, .int .i64 l], .agg #[.bool true, .int .i64 i, .int .i64 1, .int .i64 c], .int .i64 m, .int .i64 n, .bool tr] w fun e w' => e = .returned (.tuple #[.int .i64 (if n < s then 2 else 3), .agg #[.int .i64 i, .int .i64 ((k : Int) + 1), .int .i64 0, .int .i64 c, .int .i64 s]]) ∧ Hid (w.grownBy w' none) := by
  have D := what_any f t 0 p l true i 1 c m n tr lo lo2 w
  rw [hT, hL] at D
  simp only [wK, wI, h, and_self, ↓reduceIte] at D
  exact D

theorem walk_out (a0 : Int) (el : Bool) (a2 : Option Addr) (len2 cap2 : Nat) (a3 : Int) (tr : Bool) (w : World) (h : 200 < (len2 : Int)) :
    Calls Try.prog 5 #[.int .u16 a0, .bool el, .slice a2 len2 cap2, .int .u8 a3, .bool tr] w fun e w' => e = .returned (.bool true) ∧ Below w.heap.size w w' := by
  go_enter Try.func5, Try.ntmps5
  go_wp2_with fail
  refine (alive_any _).mono ?_
  rintro e v1 ⟨rfl, g1⟩
  go_wp2
  go_ret
  exact ⟨rfl, gb_below g1.out⟩

/-- At the head of a round, an elder senior of stamp i. -/
def RelE (w : World) (g sb : Nat) (len : Nat) (i : Int) (sv iv : Value) (wr : World) : Prop :=
  ∃ (k : Nat) (c s f t p l : Int) (z : Nat → Int), k ≤ len ∧ iv = .int .i64 k ∧ sv = .int .i64 s ∧ 0 ≤ s ∧ s ≤ k ∧ 0 ≤ c ∧ c ≤ k ∧ z 1 = c ∧ (At i k c s f t p l) ∧
    Gt w wr g 2 true i 1 z (1 + (k : Int)) [(sb, 45, [.int .i64 f, .int .i64 t, .int .i64 0, .int .i64 p, .int .i64 l])]

/-- Behind the beat, or none: the senior's pulse is c, and this is the look number s at it. -/
def MovedE (w : World) (g sb : Nat) (k : Nat) (i f t p l : Int) (sv : Value) (wr : World) : Prop :=
  ∃ (c s : Int) (z : Nat → Int), sv = .int .i64 s ∧ 0 ≤ s ∧ s ≤ (k : Int) + 1 ∧ 0 ≤ c ∧ c ≤ (k : Int) + 1 ∧ z 1 = c ∧ lL (mP f i p c) c (mL f i l) = s ∧
    Gt w wr g 2 true i 1 z (1 + (k : Int)) [(sb, 45, [.int .i64 f, .int .i64 t, .int .i64 0, .int .i64 p, .int .i64 l])]

set_option maxRecDepth 100000 in
set_option maxHeartbeats 4000000 in
theorem walkE (a0 : Int) (a2 : Option Addr) (len2 cap2 : Nat) (z2 : Nat → Bool) (a3 : Int) (tr : Bool) (w : World) (w2 : IsBools w a2 len2 cap2 z2) (l0 : 0 ≤ a0) (u0 : a0 ≤ 65535) (l3 : 0 ≤ a3) (u3 : a3 ≤ 255) (h : ¬ 200 < (len2 : Int)) :
    Calls Try.prog 5 #[.int .u16 a0, .bool true, .slice a2 len2 cap2, .int .u8 a3, .bool tr] w fun e w' => e = .returned (.bool true) ∧ Below w.heap.size w w' := by
  have W2 := Lib.hid w2
  clear w2
  have hn := Lib.hid (show 1 ≤ 1 + a3 % 20 ∧ 1 + a3 % 20 ≤ 20 by omega)
  have hi := Lib.hid (show 0 ≤ 1 + a0 - 1 ∧ 1 + a0 - 1 ≤ 65537 ∧ 1 + a0 ≠ 1 + a0 - 1 ∧ (1 + a0 - 1 < 1 + a0 ↔ True) by simp; omega)
  go_enter Try.func5, Try.ntmps5
  go_wp2_with fail
  refine (alive_any _).mono ?_
  rintro e v1 ⟨rfl, g1⟩
  have M1 := Lib.hid ((Own.start w).grown g1.out)
  clear g1
  go_wp2_with fail
  refine (new_any 2 (by omega) (by omega) w _ [] M1.out).mono ?_
  rintro e v2 ⟨g, rfl, M2⟩
  clear M1
  go_wp2_with fail
  generalize 1 + a0 - 1 = i at *
  generalize 1 + a0 = m at *
  generalize 1 + a3 % 20 = n at *
  refine (swap_hits 0 i 1 (by have := hi.out; omega) (by have := hi.out; omega) (by omega) (by omega) (by omega) _ M2.out).mono ?_
  rintro e v3 ⟨rfl, M3⟩
  clear M2
  go_wp2_with fail
  refine (fresh_any _).mono ?_
  rintro e v4 ⟨rfl, g4⟩
  have M4 := Lib.hid ((M3.out.grown g4.out).alloc 45 [.int .i64 (-1), .int .i64 0, .int .i64 0, .int .i64 0, .int .i64 0])
  clear M3 g4
  go_wp2
  generalize v4.heap.size = sb at *
  generalize v4.alloc (.cells #[.int .i64 (-1), .int .i64 0, .int .i64 0, .int .i64 0, .int .i64 0] 45) = v5 at *
  have M5 := M4
  go_loopw [17, 18] (fun sv iv wr => RelE w g sb len2 i sv iv wr) (fun _ iv _ => (len2 - intOf iv).toNat)
  case atStart => exact ⟨0, 0, 0, -1, 0, 0, 0, fun _ => 0, by omega, rfl, rfl, by omega, by omega, by omega, by omega, rfl, .inl ⟨rfl, rfl, rfl, rfl, rfl, rfl⟩, M5.out.le (by omega)⟩
  case round =>
    obtain ⟨k, c, s, f, t, p, l, z, hk, rfl, rfl, hs0, hs1, hc0, hc1, hz, hat, M0⟩ := hrel
    have M3 := Lib.hid M0
    clear M0 M4
    by_cases hlt : k < len2
    · obtain ⟨_, _, hx | ⟨b2, off2, rfl, hb2, hz2⟩⟩ := W2.out
      · exfalso; omega
      have he : wr.cell? ⟨b2, off2 + k, none⟩ = some (.bool (z2 k)) := M3.out.old (hz2 k hlt)
      have hlt' : (k : Int) < (len2 : Int) := by omega
      obtain ⟨hT, hlo, hlo2⟩ := at_tries i k c s f t p l hi.out.1 (by omega) hat
      have hlo2 := hlo2 hs0
      have HT := Lib.hid hT
      have HA := Lib.hid hat
      clear hT hat
      have HZ := Lib.hid hz
      clear hz
      go_upto_region 19 with fail
      go_cut [67] from 54 to 102 (fun tv wx => tv = .bool (decide (k ≠ 0) && z2 k) ∧ wx = wr)
      case first =>
        by_cases hk0 : k = 0
        · subst hk0
          have hk1 : decide ((0 : Int) < ((0 : Nat) : Int)) = false := by decide
          go_wp2
          go_meet
          exact ⟨by simp, rfl⟩
        · have hk1 : decide ((0 : Int) < (k : Int)) = true := by simp; omega
          go_wp2
          go_meet
          exact ⟨by simp [hk0], rfl⟩
      case rest =>
      obtain ⟨rfl, rfl⟩ := hcut
      have HB := Lib.hid (show (decide (k ≠ 0) && z2 k) = false ∨ (k ≠ 0 ∧ (decide (k ≠ 0) && z2 k) = true) by by_cases h : k = 0 <;> simp [h])
      generalize (decide (k ≠ 0) && z2 k) = bb at *
      go_upto_if 67 with fail
      go_cut [17] from 54 to 102 (fun sv wx => MovedE w g sb k i f t p l sv wx)
      case first =>
        cases bb
        · go_wp2
          go_meet
          exact ⟨c, s + 1, z, by go_num, by omega, by omega, by omega, by omega, HZ.out, at_same i k c s f t p l hi.out.1 (by omega) HA.out, M3.out⟩
        · have Hk := Lib.hid (show k ≠ 0 from (HB.out.resolve_left (by decide)).1)
          go_wp2_with fail
          refine (beat_in 1 (by omega) (by rw [HZ.out]; omega) (by rw [HZ.out]; omega) _ M3.out).mono ?_
          rintro e v6 ⟨rfl, M6⟩
          go_wp2
          go_meet
          exact ⟨c + 1, 0, _, rfl, by omega, by omega, by omega, by omega, by rw [if_pos rfl, HZ.out], at_moves i k c s f t p l Hk.out HA.out, M6.out⟩
      case rest =>
        obtain ⟨cn, sn, zn, rfl, hs2, hs3, hc2, hc3, hzn, hL, M0⟩ := hcut
        have M4 := Lib.hid M0
        have HS := Lib.hid (fun (u : World) (R' : List (Nat × TypeId × List Value)) (hu : Gt w u g 2 true i 1 zn (1 + (k : Int)) R') => see1 u hu (by omega))
        rw [hzn] at HS
        have HD := Lib.hid (fun u => roundE f t p l k sn i cn m n tr HT.out hlo hlo2 hL (hi.out.2.2.2.2 trivial) u)
        have HC := Lib.hid (show (n < sn ∧ (if n < sn then (2 : Int) else 3) = 2) ∨ (¬ n < sn ∧ (if n < sn then (2 : Int) else 3) = 3) by by_cases h : n < sn <;> simp [h])
        generalize (if n < sn then (2 : Int) else 3) = K at *
        clear hL HA
        clear M0 M3 he HT HZ hs0 hs1 hc0 hc1
        go_upto_region 23 with fail
        go_cut [19, 20] from 54 to 102 (fun nv xv wx => nv = .int .i64 K ∧ ∃ xb : Nat, xv = .pointer (some ⟨xb, 0, none⟩) ∧ Gt w wx g 2 true i 1 zn (1 + (k : Int) + 1) [(xb, 45, [.int .i64 i, .int .i64 ((k : Int) + 1), .int .i64 0, .int .i64 cn, .int .i64 sn]), (sb, 45, [.int .i64 f, .int .i64 t, .int .i64 0, .int .i64 p, .int .i64 l])])
        case first =>
          have s0 := M4.out.cell 0 0 rfl rfl; have s1 := M4.out.cell 0 1 rfl rfl; have s2 := M4.out.cell 0 2 rfl rfl; have s3 := M4.out.cell 0 3 rfl rfl; have s4 := M4.out.cell 0 4 rfl rfl
          have e1 := World.new_ne wc _ s0
          go_region_held3 (fun w' => w'.cell? ⟨sb, 0, none⟩ = some (.int .i64 f) ∧ w'.cell? ⟨sb, 1, none⟩ = some (.int .i64 t) ∧ w'.cell? ⟨sb, 2, none⟩ = some (.int .i64 0) ∧ w'.cell? ⟨sb, 3, none⟩ = some (.int .i64 p) ∧ w'.cell? ⟨sb, 4, none⟩ = some (.int .i64 l)) (go_keep) (first | (go_at_call 17; (first | (have X := HS.out _ _ ((M4.out.alloc 45 [.int .i64 0, .int .i64 0, .int .i64 0, .int .i64 0, .int .i64 0]).drew); refine X.mono ?_) | (have X := HS.out _ _ (M4.out.drew); refine X.mono ?_)); rintro e v5 ⟨rfl, M5⟩; (try simp only [size_alloc] at M5); (first | (have qx0 := M5.out.cell 0 0 rfl rfl; have qx1 := M5.out.cell 0 1 rfl rfl; have qx2 := M5.out.cell 0 2 rfl rfl; have qx3 := M5.out.cell 0 3 rfl rfl; have qx4 := M5.out.cell 0 4 rfl rfl; have qxf0 := M5.out.free 0 0 rfl; have qxf1 := M5.out.free 0 1 rfl; have qxf2 := M5.out.free 0 2 rfl; have qxf3 := M5.out.free 0 3 rfl; have qxf4 := M5.out.free 0 4 rfl; have qe3 := World.new_ne v5 _ qx0; have qo0 := M5.out.cell 1 0 rfl rfl; have qo1 := M5.out.cell 1 1 rfl rfl; have qo2 := M5.out.cell 1 2 rfl rfl; have qo3 := M5.out.cell 1 3 rfl rfl; have qo4 := M5.out.cell 1 4 rfl rfl; have qe1 := World.new_ne v5 _ qo0; obtain ⟨qea, qeb⟩ := M5.out.ne' 0 1 rfl rfl (by decide)) | (have qo0 := M5.out.cell 0 0 rfl rfl; have qo1 := M5.out.cell 0 1 rfl rfl; have qo2 := M5.out.cell 0 2 rfl rfl; have qo3 := M5.out.cell 0 3 rfl rfl; have qo4 := M5.out.cell 0 4 rfl rfl; have qe1 := World.new_ne v5 _ qo0))) | (go_at_call 19; refine (HD.out _).mono ?_; rintro e v6 ⟨rfl, g6⟩; (first | (have M6 := Lib.hid ((M5.out.alloc _ _).grown g6.out)) | (have M6 := Lib.hid (M5.out.grown g6.out))); (try simp only [size_alloc] at M6); clear g6; (first | (have rx0 := M6.out.cell 0 0 rfl rfl; have rx1 := M6.out.cell 0 1 rfl rfl; have rx2 := M6.out.cell 0 2 rfl rfl; have rx3 := M6.out.cell 0 3 rfl rfl; have rx4 := M6.out.cell 0 4 rfl rfl; have rxf0 := M6.out.free 0 0 rfl; have rxf1 := M6.out.free 0 1 rfl; have rxf2 := M6.out.free 0 2 rfl; have rxf3 := M6.out.free 0 3 rfl; have rxf4 := M6.out.free 0 4 rfl; have re3 := World.new_ne v6 _ rx0; have ro0 := M6.out.cell 1 0 rfl rfl; have ro1 := M6.out.cell 1 1 rfl rfl; have ro2 := M6.out.cell 1 2 rfl rfl; have ro3 := M6.out.cell 1 3 rfl rfl; have ro4 := M6.out.cell 1 4 rfl rfl; have re1 := World.new_ne v6 _ ro0; obtain ⟨rea, reb⟩ := M6.out.ne' 0 1 rfl rfl (by decide)) | (have ro0 := M6.out.cell 0 0 rfl rfl; have ro1 := M6.out.cell 0 1 rfl rfl; have ro2 := M6.out.cell 0 2 rfl rfl; have ro3 := M6.out.cell 0 3 rfl rfl; have ro4 := M6.out.cell 0 4 rfl rfl; have re1 := World.new_ne v6 _ ro0))))
          all_goals go_wp2
          all_goals go_meet
          all_goals refine ⟨rfl, _, rfl, ?_⟩
          all_goals ((try simp only [size_alloc, size_setCell]); first | (have X := M6.out.alloc 45 [.int .i64 i, .int .i64 ((k : Int) + 1), .int .i64 0, .int .i64 cn, .int .i64 sn]; with_reducible exact X) | (have X := (((((M6.out.set 0 0 (.int .i64 i) rfl).set 0 1 (.int .i64 ((k : Int) + 1)) rfl).set 0 2 (.int .i64 0) rfl).set 0 3 (.int .i64 cn) rfl).set 0 4 (.int .i64 sn) rfl); (try simp only [size_alloc, size_setCell, List.set_cons_zero, List.set_cons_succ] at X); with_reducible exact X))
        case rest =>
          obtain ⟨rfl, xb, rfl, M0⟩ := hcut
          have M7 := Lib.hid M0
          clear M0 M4 HS HD
          have x0 := M7.out.cell 0 0 rfl rfl; have x1 := M7.out.cell 0 1 rfl rfl; have x2 := M7.out.cell 0 2 rfl rfl; have x3 := M7.out.cell 0 3 rfl rfl; have x4 := M7.out.cell 0 4 rfl rfl
          have s0 := M7.out.cell 1 0 rfl rfl; have s1 := M7.out.cell 1 1 rfl rfl; have s2 := M7.out.cell 1 2 rfl rfl; have s3 := M7.out.cell 1 3 rfl rfl; have s4 := M7.out.cell 1 4 rfl rfl
          have sf0 := M7.out.free 1 0 rfl; have sf1 := M7.out.free 1 1 rfl; have sf2 := M7.out.free 1 2 rfl; have sf3 := M7.out.free 1 3 rfl; have sf4 := M7.out.free 1 4 rfl
          obtain ⟨e1, e2⟩ := M7.out.ne' 0 1 rfl rfl (by decide)
          rcases HC.out with ⟨c1, rfl⟩ | ⟨c1, rfl⟩
          · have d1 : decide (n < sn) = true := by simpa using c1
            clear c1 HC
            go_wp2
            go_roundw
            case rel => exact ⟨k + 1, cn, sn, i, (k : Int) + 1, cn, sn, zn, by omega, by go_num, rfl, by omega, by omega, by omega, by omega, hzn, .inr ⟨by omega, rfl, by omega, rfl, rfl⟩, ((((((M7.out.set 1 0 (.int .i64 i) rfl).set 1 1 (.int .i64 ((k : Int) + 1)) rfl).set 1 2 (.int .i64 0) rfl).set 1 3 (.int .i64 cn) rfl).set 1 4 (.int .i64 sn) rfl).drop (List.Sublist.cons _ (List.Sublist.refl _))).le (by omega)⟩
            case measure => simp [intOf]; omega
          · have d1 : decide (n < sn) = false := by simpa using c1
            clear c1 HC
            go_wp2
            go_roundw
            case rel => exact ⟨k + 1, cn, sn, i, (k : Int) + 1, cn, sn, zn, by omega, by go_num, rfl, by omega, by omega, by omega, by omega, hzn, .inr ⟨by omega, rfl, by omega, rfl, rfl⟩, ((((((M7.out.set 1 0 (.int .i64 i) rfl).set 1 1 (.int .i64 ((k : Int) + 1)) rfl).set 1 2 (.int .i64 0) rfl).set 1 3 (.int .i64 cn) rfl).set 1 4 (.int .i64 sn) rfl).drop (List.Sublist.cons _ (List.Sublist.refl _))).le (by omega)⟩
            case measure => simp [intOf]; omega
    · go_wp2
      go_ret
      exact ⟨rfl, M3.out.below⟩

/-- At the head of a round, a younger senior of stamp i. -/
def RelY (w : World) (g sb : Nat) (len : Nat) (i : Int) (sv iv : Value) (wr : World) : Prop :=
  ∃ (k : Nat) (c s f t p l : Int) (z : Nat → Int), k ≤ len ∧ iv = .int .i64 k ∧ sv = .int .i64 s ∧ 0 ≤ s ∧ s ≤ k ∧ 0 ≤ c ∧ c ≤ k ∧ z 1 = c ∧ (f = -1 ∧ t = 0 ∧ p = 0 ∧ l = 0) ∧
    Gt w wr g 2 true i 1 z (1 + (k : Int)) [(sb, 45, [.int .i64 f, .int .i64 t, .int .i64 0, .int .i64 p, .int .i64 l])]

/-- Behind the beat, or none: the senior's pulse is c, and this is the look number s at it. -/
def MovedY (w : World) (g sb : Nat) (k : Nat) (i f t p l : Int) (sv : Value) (wr : World) : Prop :=
  ∃ (c s : Int) (z : Nat → Int), sv = .int .i64 s ∧ 0 ≤ s ∧ s ≤ (k : Int) + 1 ∧ 0 ≤ c ∧ c ≤ (k : Int) + 1 ∧ z 1 = c ∧ 
    Gt w wr g 2 true i 1 z (1 + (k : Int)) [(sb, 45, [.int .i64 f, .int .i64 t, .int .i64 0, .int .i64 p, .int .i64 l])]

set_option maxRecDepth 100000 in
set_option maxHeartbeats 4000000 in
theorem walkY (a0 : Int) (a2 : Option Addr) (len2 cap2 : Nat) (z2 : Nat → Bool) (a3 : Int) (tr : Bool) (w : World) (w2 : IsBools w a2 len2 cap2 z2) (l0 : 0 ≤ a0) (u0 : a0 ≤ 65535) (l3 : 0 ≤ a3) (u3 : a3 ≤ 255) (h : ¬ 200 < (len2 : Int)) :
    Calls Try.prog 5 #[.int .u16 a0, .bool false, .slice a2 len2 cap2, .int .u8 a3, .bool tr] w fun e w' => e = .returned (.bool true) ∧ Below w.heap.size w w' := by
  have W2 := Lib.hid w2
  clear w2
  have hn := Lib.hid (show 1 ≤ 1 + a3 % 20 ∧ 1 + a3 % 20 ≤ 20 by omega)
  have hi := Lib.hid (show 0 ≤ 1 + a0 + 1 ∧ 1 + a0 + 1 ≤ 65537 ∧ 1 + a0 ≠ 1 + a0 + 1 ∧ (1 + a0 + 1 < 1 + a0 ↔ False) by simp; omega)
  go_enter Try.func5, Try.ntmps5
  go_wp2_with fail
  refine (alive_any _).mono ?_
  rintro e v1 ⟨rfl, g1⟩
  have M1 := Lib.hid ((Own.start w).grown g1.out)
  clear g1
  go_wp2_with fail
  refine (new_any 2 (by omega) (by omega) w _ [] M1.out).mono ?_
  rintro e v2 ⟨g, rfl, M2⟩
  clear M1
  go_wp2_with fail
  generalize 1 + a0 + 1 = i at *
  generalize 1 + a0 = m at *
  generalize 1 + a3 % 20 = n at *
  refine (swap_hits 0 i 1 (by have := hi.out; omega) (by have := hi.out; omega) (by omega) (by omega) (by omega) _ M2.out).mono ?_
  rintro e v3 ⟨rfl, M3⟩
  clear M2
  go_wp2_with fail
  refine (fresh_any _).mono ?_
  rintro e v4 ⟨rfl, g4⟩
  have M4 := Lib.hid ((M3.out.grown g4.out).alloc 45 [.int .i64 (-1), .int .i64 0, .int .i64 0, .int .i64 0, .int .i64 0])
  clear M3 g4
  go_wp2
  generalize v4.heap.size = sb at *
  generalize v4.alloc (.cells #[.int .i64 (-1), .int .i64 0, .int .i64 0, .int .i64 0, .int .i64 0] 45) = v5 at *
  have M5 := M4
  go_loopw [17, 18] (fun sv iv wr => RelY w g sb len2 i sv iv wr) (fun _ iv _ => (len2 - intOf iv).toNat)
  case atStart => exact ⟨0, 0, 0, -1, 0, 0, 0, fun _ => 0, by omega, rfl, rfl, by omega, by omega, by omega, by omega, rfl, ⟨rfl, rfl, rfl, rfl⟩, M5.out.le (by omega)⟩
  case round =>
    obtain ⟨k, c, s, f, t, p, l, z, hk, rfl, rfl, hs0, hs1, hc0, hc1, hz, hat, M0⟩ := hrel
    have M3 := Lib.hid M0
    clear M0 M4
    by_cases hlt : k < len2
    · obtain ⟨_, _, hx | ⟨b2, off2, rfl, hb2, hz2⟩⟩ := W2.out
      · exfalso; omega
      have he : wr.cell? ⟨b2, off2 + k, none⟩ = some (.bool (z2 k)) := M3.out.old (hz2 k hlt)
      have hlt' : (k : Int) < (len2 : Int) := by omega
      obtain ⟨rfl, rfl, rfl, rfl⟩ := hat
      have HZ := Lib.hid hz
      clear hz
      go_upto_region 19 with fail
      go_cut [67] from 54 to 102 (fun tv wx => tv = .bool (decide (k ≠ 0) && z2 k) ∧ wx = wr)
      case first =>
        by_cases hk0 : k = 0
        · subst hk0
          have hk1 : decide ((0 : Int) < ((0 : Nat) : Int)) = false := by decide
          go_wp2
          go_meet
          exact ⟨by simp, rfl⟩
        · have hk1 : decide ((0 : Int) < (k : Int)) = true := by simp; omega
          go_wp2
          go_meet
          exact ⟨by simp [hk0], rfl⟩
      case rest =>
      obtain ⟨rfl, rfl⟩ := hcut
      have HB := Lib.hid (show (decide (k ≠ 0) && z2 k) = false ∨ (k ≠ 0 ∧ (decide (k ≠ 0) && z2 k) = true) by by_cases h : k = 0 <;> simp [h])
      generalize (decide (k ≠ 0) && z2 k) = bb at *
      go_upto_if 67 with fail
      go_cut [17] from 54 to 102 (fun sv wx => MovedY w g sb k i (-1) 0 0 0 sv wx)
      case first =>
        cases bb
        · go_wp2
          go_meet
          exact ⟨c, s + 1, z, by go_num, by omega, by omega, by omega, by omega, HZ.out, M3.out⟩
        · have Hk := Lib.hid (show k ≠ 0 from (HB.out.resolve_left (by decide)).1)
          go_wp2_with fail
          refine (beat_in 1 (by omega) (by rw [HZ.out]; omega) (by rw [HZ.out]; omega) _ M3.out).mono ?_
          rintro e v6 ⟨rfl, M6⟩
          go_wp2
          go_meet
          exact ⟨c + 1, 0, _, rfl, by omega, by omega, by omega, by omega, by rw [if_pos rfl, HZ.out], M6.out⟩
      case rest =>
        obtain ⟨cn, sn, zn, rfl, hs2, hs3, hc2, hc3, hzn,  M0⟩ := hcut
        have M4 := Lib.hid M0
        have HS := Lib.hid (fun (u : World) (R' : List (Nat × TypeId × List Value)) (hu : Gt w u g 2 true i 1 zn (1 + (k : Int)) R') => see1 u hu (by omega))
        rw [hzn] at HS
        have HD := Lib.hid (fun u => what_younger (-1) 0 0 0 0 i 1 cn m n tr (by have h4 : ¬ i < m := fun e => hi.out.2.2.2.1 e; have h5 := hi.out.2.2.1; omega) u)
        have HC := Lib.hid (show fi tr = fi tr from rfl)
        generalize hK : fi tr = K at *
        clear M0 M3 he HZ hs0 hs1 hc0 hc1
        go_upto_region 23 with fail
        go_cut [19, 20] from 54 to 102 (fun nv xv wx => nv = .int .i64 K ∧ ∃ xb : Nat, xv = .pointer (some ⟨xb, 0, none⟩) ∧ Gt w wx g 2 true i 1 zn (1 + (k : Int) + 1) [(xb, 45, [.int .i64 (-1), .int .i64 0, .int .i64 0, .int .i64 0, .int .i64 0]), (sb, 45, [.int .i64 (-1), .int .i64 0, .int .i64 0, .int .i64 0, .int .i64 0])])
        case first =>
          have s0 := M4.out.cell 0 0 rfl rfl; have s1 := M4.out.cell 0 1 rfl rfl; have s2 := M4.out.cell 0 2 rfl rfl; have s3 := M4.out.cell 0 3 rfl rfl; have s4 := M4.out.cell 0 4 rfl rfl
          have e1 := World.new_ne wc _ s0
          go_region_held3 (fun w' => w'.cell? ⟨sb, 0, none⟩ = some (.int .i64 (-1)) ∧ w'.cell? ⟨sb, 1, none⟩ = some (.int .i64 0) ∧ w'.cell? ⟨sb, 2, none⟩ = some (.int .i64 0) ∧ w'.cell? ⟨sb, 3, none⟩ = some (.int .i64 0) ∧ w'.cell? ⟨sb, 4, none⟩ = some (.int .i64 0)) (go_keep) (first | (go_at_call 17; (first | (have X := HS.out _ _ ((M4.out.alloc 45 [.int .i64 0, .int .i64 0, .int .i64 0, .int .i64 0, .int .i64 0]).drew); refine X.mono ?_) | (have X := HS.out _ _ (M4.out.drew); refine X.mono ?_)); rintro e v5 ⟨rfl, M5⟩; (try simp only [size_alloc] at M5); (first | (have qx0 := M5.out.cell 0 0 rfl rfl; have qx1 := M5.out.cell 0 1 rfl rfl; have qx2 := M5.out.cell 0 2 rfl rfl; have qx3 := M5.out.cell 0 3 rfl rfl; have qx4 := M5.out.cell 0 4 rfl rfl; have qxf0 := M5.out.free 0 0 rfl; have qxf1 := M5.out.free 0 1 rfl; have qxf2 := M5.out.free 0 2 rfl; have qxf3 := M5.out.free 0 3 rfl; have qxf4 := M5.out.free 0 4 rfl; have qe3 := World.new_ne v5 _ qx0; have qo0 := M5.out.cell 1 0 rfl rfl; have qo1 := M5.out.cell 1 1 rfl rfl; have qo2 := M5.out.cell 1 2 rfl rfl; have qo3 := M5.out.cell 1 3 rfl rfl; have qo4 := M5.out.cell 1 4 rfl rfl; have qe1 := World.new_ne v5 _ qo0; obtain ⟨qea, qeb⟩ := M5.out.ne' 0 1 rfl rfl (by decide)) | (have qo0 := M5.out.cell 0 0 rfl rfl; have qo1 := M5.out.cell 0 1 rfl rfl; have qo2 := M5.out.cell 0 2 rfl rfl; have qo3 := M5.out.cell 0 3 rfl rfl; have qo4 := M5.out.cell 0 4 rfl rfl; have qe1 := World.new_ne v5 _ qo0))) | (go_at_call 19; refine (HD.out _).mono ?_; rintro e v6 ⟨rfl, g6⟩; (first | (have M6 := Lib.hid ((M5.out.alloc _ _).grown g6.out)) | (have M6 := Lib.hid (M5.out.grown g6.out))); (try simp only [size_alloc] at M6); clear g6; (first | (have rx0 := M6.out.cell 0 0 rfl rfl; have rx1 := M6.out.cell 0 1 rfl rfl; have rx2 := M6.out.cell 0 2 rfl rfl; have rx3 := M6.out.cell 0 3 rfl rfl; have rx4 := M6.out.cell 0 4 rfl rfl; have rxf0 := M6.out.free 0 0 rfl; have rxf1 := M6.out.free 0 1 rfl; have rxf2 := M6.out.free 0 2 rfl; have rxf3 := M6.out.free 0 3 rfl; have rxf4 := M6.out.free 0 4 rfl; have re3 := World.new_ne v6 _ rx0; have ro0 := M6.out.cell 1 0 rfl rfl; have ro1 := M6.out.cell 1 1 rfl rfl; have ro2 := M6.out.cell 1 2 rfl rfl; have ro3 := M6.out.cell 1 3 rfl rfl; have ro4 := M6.out.cell 1 4 rfl rfl; have re1 := World.new_ne v6 _ ro0; obtain ⟨rea, reb⟩ := M6.out.ne' 0 1 rfl rfl (by decide)) | (have ro0 := M6.out.cell 0 0 rfl rfl; have ro1 := M6.out.cell 0 1 rfl rfl; have ro2 := M6.out.cell 0 2 rfl rfl; have ro3 := M6.out.cell 0 3 rfl rfl; have ro4 := M6.out.cell 0 4 rfl rfl; have re1 := World.new_ne v6 _ ro0))))
          all_goals go_wp2
          all_goals go_meet
          all_goals refine ⟨rfl, _, rfl, ?_⟩
          all_goals ((try simp only [size_alloc, size_setCell]); first | (have X := M6.out.alloc 45 [.int .i64 (-1), .int .i64 0, .int .i64 0, .int .i64 0, .int .i64 0]; with_reducible exact X) | (have X := (((((M6.out.set 0 0 (.int .i64 (-1)) rfl).set 0 1 (.int .i64 0) rfl).set 0 2 (.int .i64 0) rfl).set 0 3 (.int .i64 0) rfl).set 0 4 (.int .i64 0) rfl); (try simp only [size_alloc, size_setCell, List.set_cons_zero, List.set_cons_succ] at X); with_reducible exact X))
        case rest =>
          obtain ⟨rfl, xb, rfl, M0⟩ := hcut
          have M7 := Lib.hid M0
          clear M0 M4 HS HD
          have x0 := M7.out.cell 0 0 rfl rfl; have x1 := M7.out.cell 0 1 rfl rfl; have x2 := M7.out.cell 0 2 rfl rfl; have x3 := M7.out.cell 0 3 rfl rfl; have x4 := M7.out.cell 0 4 rfl rfl
          have s0 := M7.out.cell 1 0 rfl rfl; have s1 := M7.out.cell 1 1 rfl rfl; have s2 := M7.out.cell 1 2 rfl rfl; have s3 := M7.out.cell 1 3 rfl rfl; have s4 := M7.out.cell 1 4 rfl rfl
          have sf0 := M7.out.free 1 0 rfl; have sf1 := M7.out.free 1 1 rfl; have sf2 := M7.out.free 1 2 rfl; have sf3 := M7.out.free 1 3 rfl; have sf4 := M7.out.free 1 4 rfl
          obtain ⟨e1, e2⟩ := M7.out.ne' 0 1 rfl rfl (by decide)
          subst hK
          cases tr
          · go_wp2
            go_roundw
            case rel => exact ⟨k + 1, cn, sn, -1, 0, 0, 0, zn, by omega, by go_num, rfl, by omega, by omega, by omega, by omega, hzn, ⟨rfl, rfl, rfl, rfl⟩, ((((((M7.out.set 1 0 (.int .i64 (-1)) rfl).set 1 1 (.int .i64 0) rfl).set 1 2 (.int .i64 0) rfl).set 1 3 (.int .i64 0) rfl).set 1 4 (.int .i64 0) rfl).drop (List.Sublist.cons _ (List.Sublist.refl _))).le (by omega)⟩
            case measure => simp [intOf]; omega
          · go_wp2
            go_roundw
            case rel => exact ⟨k + 1, cn, sn, -1, 0, 0, 0, zn, by omega, by go_num, rfl, by omega, by omega, by omega, by omega, hzn, ⟨rfl, rfl, rfl, rfl⟩, ((((((M7.out.set 1 0 (.int .i64 (-1)) rfl).set 1 1 (.int .i64 0) rfl).set 1 2 (.int .i64 0) rfl).set 1 3 (.int .i64 0) rfl).set 1 4 (.int .i64 0) rfl).drop (List.Sublist.cons _ (List.Sublist.refl _))).le (by omega)⟩
            case measure => simp [intOf]; omega
    · go_wp2
      go_ret
      exact ⟨rfl, M3.out.below⟩

theorem walk (a0 : Int) (a1 : Bool) (a2 : Option Addr) (len2 cap2 : Nat) (z2 : Nat → Bool) (a3 : Int) (a4 : Bool) (w : World) (w0 : (Lit.int .u16 a0).wf = true) (w2 : IsBools w a2 len2 cap2 z2) (w3 : (Lit.int .u8 a3).wf = true) :
    Calls Try.prog 5 #[.int .u16 a0, .bool a1, .slice a2 len2 cap2, .int .u8 a3, .bool a4] w fun e w' => e = .returned (.bool true) ∧ Below w.heap.size w w' := by
  have := bounds_u16 w0
  have := bounds_u8 w3
  by_cases h : 200 < (len2 : Int)
  · exact walk_out _ _ _ _ _ _ _ w h
  · cases a1
    · exact walkY a0 a2 len2 cap2 z2 a3 a4 w w2 (by omega) (by omega) (by omega) (by omega) h
    · exact walkE a0 a2 len2 cap2 z2 a3 a4 w w2 (by omega) (by omega) (by omega) (by omega) h

theorem own : ownKnob Try.prog.godebug = none := by kernel_rfl
theorem laidOut : laidOutB Try.prog = true := by kernel_rfl

/-! ### THE ROW's STEP, as the guide has it -/
set_option maxRecDepth 100000 in
theorem lifted (os : Os) (started : os.Started) (H : Type) (enc : TypeId × Value → H) :
    ReturnsInHanded {} Try.checked os 5 .any (Rows.gateStaysSpec.pre6 enc Try.prog Try.f5 Rows.gateStaysRow.domain false) (Rows.gateStaysSpec.post enc Try.prog Try.f5 false true false false) := by
  refine returnsInHanded_of_change (C := Try.checked) own started (by kernel_rfl) Try.func5
    (ChangeSpec.witness6 (enc := enc) (C := Try.checked) false ⟨#[], #[.int .u16 0, .bool false, .slice none 0 0, .int .u8 0, .bool false], []⟩ 8 (by kernel_rfl) (by kernel_rfl) (by kernel_rfl) (by kernel_rfl)) ?_
  intro W base args ds gs before hval0 hW hcnd _
  have hval : ∀ (j : Nat) t v, Try.f5.params[j]? = some t → args[j]? = some v → Value.okWide Try.prog W .any base t v := hval0
  have hW' := hW
  obtain ⟨p, q, hA0, hV, rfl, hfz, hnd⟩ := hW
  have hA : DataW.TrodAll enc Try.prog W 0 (fun _ => true) true Try.f5.params.toList args.toList ds p := hA0
  rw [Try.params5] at hA hval
  obtain ⟨v0, vs0, d0, ds0, p0, q0, hargs, rfl, rfl, h0, r0⟩ := trodAll_cons hA
  obtain ⟨v1, vs1, d1, ds1, p1, q1, rfl, rfl, rfl, h1, r1⟩ := trodAll_cons r0
  obtain ⟨v2, vs2, d2, ds2, p2, q2, rfl, rfl, rfl, h2, r2⟩ := trodAll_cons r1
  obtain ⟨v3, vs3, d3, ds3, p3, q3, rfl, rfl, rfl, h3, r3⟩ := trodAll_cons r2
  obtain ⟨v4, vs4, d4, ds4, p4, q4, rfl, rfl, rfl, h4, r4⟩ := trodAll_cons r3
  obtain ⟨rfl, rfl, rfl⟩ := trodAll_nil r4
  obtain rfl : args = #[v0, v1, v2, v3, v4] := by cases args; simp_all
  obtain ⟨rfl, rfl⟩ := trodVars_none hV
  obtain ⟨a0, rfl, rfl, rfl, w0⟩ := open_int Try.underlying53 (hval 0 53 v0 rfl rfl) h0
  obtain ⟨a1, rfl, rfl, rfl⟩ := open_bool Try.underlying4 (hval 1 4 v1 rfl rfl) h1
  obtain ⟨a2, len2, cap2, rfl⟩ := okWide_slice Try.underlying54 (hval 2 54 v2 rfl rfl)
  have k2 := h2
  have lt2 : ∀ x ∈ p2, x.block < W.heap.size := by obtain ⟨m, hm⟩ := k2; exact DataW.trod_lt m _ _ _ hm
  obtain ⟨z2, w2⟩ : ∃ z, IsBools W a2 len2 cap2 z := by
    obtain ⟨fuel, hf⟩ := h2
    exact isBools_of Try.underlying54 Try.underlying4 (by kernel_rfl) hf
  obtain ⟨a3, rfl, rfl, rfl, w3⟩ := open_int Try.underlying5 (hval 3 5 v3 rfl rfl) h3
  obtain ⟨a4, rfl, rfl, rfl⟩ := open_bool Try.underlying4 (hval 4 4 v4 rfl rfl) h4
  clear hA0 hval0
  refine (walk a0 a1 a2 len2 cap2 z2 a3 a4 W w0 w2 w3).mono fun e W' ⟨he, bel⟩ => ?_
  subst he
  exact ⟨_, rfl, _, _, _, [], _, [], hW', trodAll_mk1 (shut_bool Try.underlying4 _), (trodAll_cons_mk (shut_int Try.underlying53 w0) (trodAll_cons_mk (shut_bool Try.underlying4 _) (trodAll_cons_mk (Below.trod laidOut (by kernel_rfl) (of_decide_eq_true (by kernel_rfl)) k2 bel lt2) (trodAll_cons_mk (shut_int Try.underlying5 w3) (trodAll_cons_mk (shut_bool Try.underlying4 _) trodAll_mk0))))), rfl, bel.frame _, fun h => by cases h⟩

theorem over : Rows.gateStaysRow.holds Try.pinned (OpenSpec.ofChange Rows.gateStaysSpec) :=
  OpenClaim.holds_of_wide 5 Try.f5 rfl rfl rfl rfl rfl rfl rfl ⟨rfl, rfl, rfl, rfl, rfl⟩ rfl rfl rfl rfl rfl (by kernel_rfl) Try.func5 (by kernel_rfl)
    (of_decide_eq_true (by kernel_rfl)) (by unfold Func.isWrapper; first | (rw [if_pos (by decide +kernel)]; kernel_rfl) | (rw [if_neg (by decide +kernel)]; exact ⟨rfl, rfl⟩))
    (fun os started H enc _ => lifted os started H enc)

theorem proved : Rows.GateStaysSaid := over
#print axioms proved
end Go.Proofs.Ytelapiabniabkaa.gateStays
