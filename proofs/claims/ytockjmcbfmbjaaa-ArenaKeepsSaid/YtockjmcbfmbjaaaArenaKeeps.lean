/-
  ArenaKeeps: what was put into an arena of pairs stands there under its number for good, while more is put, and while copies that were told are changed; behind the last room nothing is put; for any room from 1 to 4,096 and any list of pairs.
  Conditions: none (of a list of more than 200 the law says nothing by itself).
-/
import Derived.Test.YtockjmcbfmbjaaaRows
import Derived.Test.YtockjmcbfmbjaaaOpen
import Derived.Test.YtockjmcbfmbjaaaArenaP
import Derived.Test.YtockjmcbfmbjaaaPair
import Derived.Test.YtockjmcbfmbjaaaAlive02
namespace Go.Proofs.Ytockjmcbfmbjaaa.arenaKeeps
open Go.ChangeShapes Go.WideShapes Go.ChangeAt Go.RowKit Go.Proofs.Ytockjmcbfmbjaaa.base Go.Proofs.Ytockjmcbfmbjaaa.ar
set_option linter.unusedVariables false

/-- The arena has the first pairs, as many as have room. -/
def Has (w : World) (b M m : Nat) (z : Nat → Nat → Int) (wr : World) : Prop :=
  ∃ r, ArenaP w.heap.size wr b M m (pairs z m) r ∧ Below w.heap.size w wr

/-- At the head of a round: k pairs were put, as far as there is room. -/
def Rel (w : World) (b M : Nat) (z : Nat → Nat → Int) (len : Nat) (i : Value) (wr : World) : Prop :=
  ∃ k : Nat, k ≤ len ∧ i = .int .i64 k ∧ Has w b M (min k M) z wr

/-- .. of the inner loop: j things were looked at. -/
def RelIn (w : World) (b M m : Nat) (z : Nat → Nat → Int) (j : Value) (wr : World) : Prop :=
  ∃ q : Nat, q ≤ m ∧ j = .int .i64 q ∧ Has w b M m z wr

set_option maxRecDepth 100000 in
theorem walk_long (a0 : Int) (a1 : Option Addr) (len1 cap1 : Nat) (w : World) (h : 200 < (len1 : Int)) :
    Calls Try.prog 4 #[.int .u16 a0, .slice a1 len1 cap1] w fun e w' => e = .returned (.bool true) ∧ Below w.heap.size w w' := by
  go_enter Try.func4, Try.ntmps4
  go_wp2_with fail
  refine (alive_any _).mono ?_
  rintro e v1 ⟨rfl, B1⟩
  go_wp2
  go_ret
  exact ⟨rfl, B1.out⟩

set_option maxRecDepth 100000 in
set_option maxHeartbeats 1000000 in
theorem walk_short (a0 : Int) (a1 : Option Addr) (len1 cap1 : Nat) (z1 : Nat → Nat → Int) (w : World) (l0 : 0 ≤ a0) (u0 : a0 ≤ 65535) (w1 : IsInts 2 w a1 len1 cap1 z1) (h : ¬ 200 < (len1 : Int)) :
    Calls Try.prog 4 #[.int .u16 a0, .slice a1 len1 cap1] w fun e w' => e = .returned (.bool true) ∧ Below w.heap.size w w' := by
  have W1 := Lib.hid w1
  have T0 : 0 ≤ a0 % 4096 := by omega
  have T1 : a0 % 4096 < 4096 := by omega
  clear w1
  go_enter Try.func4, Try.ntmps4
  go_wp2_with fail
  refine (alive_any _).mono ?_
  rintro e v1 ⟨rfl, B1⟩
  go_wp2_with fail
  refine (newP_in w.heap.size (1 + a0 % 4096) v1 (by omega) (by omega) B1.out.size).mono ?_
  rintro e v2 ⟨b, rfl, hb, A1, g2⟩
  have B2 := Lib.hid (bl_none B1.out g2.out)
  clear B1 g2 hb
  have T2 : 1 ≤ 1 + a0 % 4096 := by omega
  have T3 : 1 + a0 % 4096 ≤ 4096 := by omega
  clear T0 T1
  generalize 1 + a0 % 4096 = M0 at *
  obtain ⟨M, rfl⟩ : ∃ M : Nat, M0 = (M : Int) := ⟨M0.toNat, by omega⟩
  go_wp2_with fail
  go_loopw [8] (fun i wr => Rel w b M z1 len1 i wr) (fun i _ => (len1 - intOf i).toNat)
  case atStart => exact ⟨0, by omega, rfl, none, by simpa [pairs] using A1.out, B2.out⟩
  case round =>
    obtain ⟨k, hk, rfl, r, P0, B0⟩ := hrel
    have B := Lib.hid B0
    have hsz := B.out.size
    clear B0 A1 B2
    by_cases hlt : k < len1
    · obtain ⟨_, _, h0 | ⟨b1, off1, rfl, hb1, hz⟩⟩ := W1.out
      · exfalso; omega
      have hc0 : wr.cell? ⟨b1, off1 + k * 2, none⟩ = some (.int .i64 (z1 k 0)) := (B.out.cell (p := ⟨b1, off1 + (k * 2 + 0), none⟩) hb1).trans (hz k 0 hlt (by omega)).1
      have hc1 : wr.cell? ⟨b1, off1 + k * 2 + 1, none⟩ = some (.int .i64 (z1 k 1)) := (B.out.cell (p := ⟨b1, off1 + (k * 2 + 1), none⟩) hb1).trans (hz k 1 hlt (by omega)).1
      have Hz := Lib.hid hz
      have hlt' : (k : Int) < (len1 : Int) := by omega
      clear hz
      by_cases hroom : k < M
      · have P : Hid (ArenaP w.heap.size wr b M k (pairs z1 k) r) := by rwa [show min k M = k by omega] at P0
        have hroom' : (k : Int) < (M : Int) := by omega
        clear P0
        go_wp2_with fail
        refine (putP w.heap.size b (z1 k 0) (z1 k 1) M k _ r wr P.out hroom' T3 hsz).mono ?_
        rintro e u1 ⟨r1, rfl, P1', c1⟩
        have P1 : Hid (ArenaP w.heap.size u1 b M (k + 1) (pairs z1 (k + 1)) r1) := by rw [pairs_succ]; exact P1'
        have B1 := Lib.hid (c1.out.bl B.out hsz P.out)
        clear P1' c1 P B hc0 hc1 hsz
        go_wp2_with fail
        go_loopw [11] (fun j wr => RelIn w b M (k + 1) z1 j wr) (fun j _ => ((k + 1) - intOf j).toNat)
        case atStart => exact ⟨0, by omega, rfl, r1, P1.out, B1.out⟩
        case round =>
          obtain ⟨q, hq, rfl, r2, P2', B2'⟩ := hrel
          have P2 := Lib.hid P2'
          have B2 := Lib.hid B2'
          clear P2' B2' P1 B1
          by_cases hq1 : q < (k + 1)
          · have hqk : (q : Int) ≤ (k : Int) := by omega
            have hqM : (q : Int) < (M : Int) := by omega
            have d0 : wr.cell? ⟨b1, off1 + q * 2, none⟩ = some (.int .i64 (z1 q 0)) := (B2.out.cell (p := ⟨b1, off1 + (q * 2 + 0), none⟩) hb1).trans (Hz.out q 0 (by omega) (by omega)).1
            have d1 : wr.cell? ⟨b1, off1 + q * 2 + 1, none⟩ = some (.int .i64 (z1 q 1)) := (B2.out.cell (p := ⟨b1, off1 + (q * 2 + 1), none⟩) hb1).trans (Hz.out q 1 (by omega) (by omega)).1
            go_wp2_with fail
            refine (atP w.heap.size b q (z1 q 0) (z1 q 1) M (k + 1) _ r2 wr P2.out hq1 (by omega) (pairs_get _ _ _ hq1).1 (pairs_get _ _ _ hq1).2).mono ?_
            rintro e x1 ⟨rfl, g3⟩
            have d2 := g3.out.cell d0 (by simp)
            have d3 := g3.out.cell d1 (by simp)
            have P3 := Lib.hid (P2.out.grown g3.out)
            have B3 := Lib.hid (bl_none B2.out g3.out)
            have hs3 := B3.out.size
            have hb3 : b1 < x1.heap.size := by omega
            clear d0 d1 g3 P2 B2
            go_wp2_with fail
            have X' : Blk 42 (x1.alloc (.cells #[.int .i64 (z1 q 0), .int .i64 (z1 q 1)] 42)) x1.heap.size #[.int .i64 (z1 q 0), .int .i64 (z1 q 1)] := Blk.made x1 _ _
            have P4' : ArenaP w.heap.size (x1.alloc (.cells #[.int .i64 (z1 q 0), .int .i64 (z1 q 1)] 42)) b M (k + 1) (pairs z1 (k + 1)) r2 := P3.out.alloc _
            have B4' : Below w.heap.size w (x1.alloc (.cells #[.int .i64 (z1 q 0), .int .i64 (z1 q 1)] 42)) := B3.out.alloc hs3 _
            have d4 : (x1.alloc (.cells #[.int .i64 (z1 q 0), .int .i64 (z1 q 1)] 42)).cell? ⟨b1, off1 + q * 2, none⟩ = some (.int .i64 (z1 q 0)) := (World.cell?_of_block (w := x1) (Below.heap_alloc x1 _ b1 hb3)).trans d2
            have d5 : (x1.alloc (.cells #[.int .i64 (z1 q 0), .int .i64 (z1 q 1)] 42)).cell? ⟨b1, off1 + q * 2 + 1, none⟩ = some (.int .i64 (z1 q 1)) := (World.cell?_of_block (w := x1) (Below.heap_alloc x1 _ b1 hb3)).trans d3
            have nb' : b ≠ x1.heap.size := by have := P3.out.lt; omega
            have nr' : r2 ≠ some x1.heap.size := by intro e; have := (P3.out.row_lt _ e).2; omega
            generalize (x1.alloc (.cells #[.int .i64 (z1 q 0), .int .i64 (z1 q 1)] 42)) = x2 at *
            generalize x1.heap.size = p at *
            have e0 := X'.cell 0
            have e1 := X'.cell 1
            have ef := X'.free 0
            have hpl := X'.lt
            have P4 := Lib.hid P4'
            have B4 := Lib.hid B4'
            have nb := Lib.hid nb'
            have nr := Lib.hid nr'
            have hp4 := Lib.hid hs3
            have hql : (q : Int) < (len1 : Int) := by omega
            clear X' P4' B4' d2 d3 P3 B3 nb' nr' hs3 hb3
            go_quiet (fail)
            go_wp2
            go_roundw
            case rel => exact ⟨q + 1, by omega, by go_num, r2, (P4.out.drewN _).other nb.out nr.out _, (bl_drewN B4.out _).setCell hp4.out _⟩
            case measure => simp [intOf]; omega
          · have hqk : (k : Int) < (q : Int) := by omega
            go_wp2
            go_roundw
            case rel => exact ⟨k + 1, by omega, by go_num, r2, by rw [show min (k + 1) M = (k + 1) by omega]; exact P2.out, B2.out⟩
            case measure => simp [intOf]; omega
      · have P : Hid (ArenaP w.heap.size wr b M M (pairs z1 M) r) := by rwa [show min k M = M by omega] at P0
        have hroom' : (M : Int) ≤ (k : Int) := by omega
        clear P0
        go_wp2_with fail
        refine (putP_full w.heap.size b (z1 k 0) (z1 k 1) M M _ r wr P.out rfl T3).mono ?_
        rintro e u1 ⟨rfl, g4⟩
        have P1 := Lib.hid (P.out.grown g4.out)
        have B1 := Lib.hid (bl_none B.out g4.out)
        clear g4 P B hc0 hc1 hsz
        go_wp2_with fail
        go_loopw [11] (fun j wr => RelIn w b M M z1 j wr) (fun j _ => (M - intOf j).toNat)
        case atStart => exact ⟨0, by omega, rfl, r, P1.out, B1.out⟩
        case round =>
          obtain ⟨q, hq, rfl, r2, P2', B2'⟩ := hrel
          have P2 := Lib.hid P2'
          have B2 := Lib.hid B2'
          clear P2' B2' P1 B1
          by_cases hq1 : q < M
          · have hqk : (q : Int) ≤ (k : Int) := by omega
            have hqM : (q : Int) < (M : Int) := by omega
            have d0 : wr.cell? ⟨b1, off1 + q * 2, none⟩ = some (.int .i64 (z1 q 0)) := (B2.out.cell (p := ⟨b1, off1 + (q * 2 + 0), none⟩) hb1).trans (Hz.out q 0 (by omega) (by omega)).1
            have d1 : wr.cell? ⟨b1, off1 + q * 2 + 1, none⟩ = some (.int .i64 (z1 q 1)) := (B2.out.cell (p := ⟨b1, off1 + (q * 2 + 1), none⟩) hb1).trans (Hz.out q 1 (by omega) (by omega)).1
            go_wp2_with fail
            refine (atP w.heap.size b q (z1 q 0) (z1 q 1) M M _ r2 wr P2.out hq1 (by omega) (pairs_get _ _ _ hq1).1 (pairs_get _ _ _ hq1).2).mono ?_
            rintro e x1 ⟨rfl, g3⟩
            have d2 := g3.out.cell d0 (by simp)
            have d3 := g3.out.cell d1 (by simp)
            have P3 := Lib.hid (P2.out.grown g3.out)
            have B3 := Lib.hid (bl_none B2.out g3.out)
            have hs3 := B3.out.size
            have hb3 : b1 < x1.heap.size := by omega
            clear d0 d1 g3 P2 B2
            go_wp2_with fail
            have X' : Blk 42 (x1.alloc (.cells #[.int .i64 (z1 q 0), .int .i64 (z1 q 1)] 42)) x1.heap.size #[.int .i64 (z1 q 0), .int .i64 (z1 q 1)] := Blk.made x1 _ _
            have P4' : ArenaP w.heap.size (x1.alloc (.cells #[.int .i64 (z1 q 0), .int .i64 (z1 q 1)] 42)) b M M (pairs z1 M) r2 := P3.out.alloc _
            have B4' : Below w.heap.size w (x1.alloc (.cells #[.int .i64 (z1 q 0), .int .i64 (z1 q 1)] 42)) := B3.out.alloc hs3 _
            have d4 : (x1.alloc (.cells #[.int .i64 (z1 q 0), .int .i64 (z1 q 1)] 42)).cell? ⟨b1, off1 + q * 2, none⟩ = some (.int .i64 (z1 q 0)) := (World.cell?_of_block (w := x1) (Below.heap_alloc x1 _ b1 hb3)).trans d2
            have d5 : (x1.alloc (.cells #[.int .i64 (z1 q 0), .int .i64 (z1 q 1)] 42)).cell? ⟨b1, off1 + q * 2 + 1, none⟩ = some (.int .i64 (z1 q 1)) := (World.cell?_of_block (w := x1) (Below.heap_alloc x1 _ b1 hb3)).trans d3
            have nb' : b ≠ x1.heap.size := by have := P3.out.lt; omega
            have nr' : r2 ≠ some x1.heap.size := by intro e; have := (P3.out.row_lt _ e).2; omega
            generalize (x1.alloc (.cells #[.int .i64 (z1 q 0), .int .i64 (z1 q 1)] 42)) = x2 at *
            generalize x1.heap.size = p at *
            have e0 := X'.cell 0
            have e1 := X'.cell 1
            have ef := X'.free 0
            have hpl := X'.lt
            have P4 := Lib.hid P4'
            have B4 := Lib.hid B4'
            have nb := Lib.hid nb'
            have nr := Lib.hid nr'
            have hp4 := Lib.hid hs3
            have hql : (q : Int) < (len1 : Int) := by omega
            clear X' P4' B4' d2 d3 P3 B3 nb' nr' hs3 hb3
            go_quiet (fail)
            go_wp2
            go_roundw
            case rel => exact ⟨q + 1, by omega, by go_num, r2, (P4.out.drewN _).other nb.out nr.out _, (bl_drewN B4.out _).setCell hp4.out _⟩
            case measure => simp [intOf]; omega
          · have hqk : (q : Int) ≤ (k : Int) := by omega
            have hqM : (M : Int) ≤ (q : Int) := by omega
            go_wp2
            go_roundw
            case rel => exact ⟨k + 1, by omega, by go_num, r2, by rw [show min (k + 1) M = M by omega]; exact P2.out, B2.out⟩
            case measure => simp [intOf]; omega
    · have P : Hid (ArenaP w.heap.size wr b M (min len1 M) (pairs z1 (min len1 M)) r) := by rwa [show min k M = min len1 M by omega] at P0
      have hlt' : (len1 : Int) ≤ (k : Int) := by omega
      clear P0
      by_cases hmin : len1 ≤ M
      · have P1 : Hid (ArenaP w.heap.size wr b M len1 (pairs z1 len1) r) := by rw [← show min len1 M = len1 by omega]; exact P.out
        have hmin' : (len1 : Int) ≤ (M : Int) := by omega
        clear P
        go_wp2_with fail
        refine (lenP w.heap.size b M len1 _ r wr P1.out).mono ?_
        rintro e u1 ⟨rfl, rfl⟩
        go_wp2
        go_ret
        exact ⟨by simp, B.out⟩
      · have P1 : Hid (ArenaP w.heap.size wr b M M (pairs z1 M) r) := by
          have e : min len1 M = M := by omega
          have P0 := P.out
          rw [e] at P0
          exact P0
        have hmin' : (M : Int) < (len1 : Int) := by omega
        clear P
        go_wp2_with fail
        refine (lenP w.heap.size b M M _ r wr P1.out).mono ?_
        rintro e u1 ⟨rfl, rfl⟩
        go_wp2
        go_ret
        exact ⟨by simp, B.out⟩

theorem walk (a0 : Int) (a1 : Option Addr) (len1 cap1 : Nat) (z1 : Nat → Nat → Int) (w : World) (w0 : (Lit.int .u16 a0).wf = true) (w1 : IsInts 2 w a1 len1 cap1 z1) :
    Calls Try.prog 4 #[.int .u16 a0, .slice a1 len1 cap1] w fun e w' => e = .returned (.bool true) ∧ Below w.heap.size w w' := by
  by_cases h : 200 < (len1 : Int)
  · exact walk_long a0 a1 len1 cap1 w h
  · exact walk_short a0 a1 len1 cap1 z1 w (bounds_u16 w0).1 (bounds_u16 w0).2 w1 h

theorem own : ownKnob Try.prog.godebug = none := by kernel_rfl
theorem laidOut : laidOutB Try.prog = true := by kernel_rfl

/-! ### THE ROW's STEP, as the guide has it -/
set_option maxRecDepth 100000 in
theorem lifted (os : Os) (started : os.Started) (H : Type) (enc : TypeId × Value → H) :
    ReturnsInHanded {} Try.checked os 4 .any (Rows.arenaKeepsSpec.pre6 enc Try.prog Try.f4 Rows.arenaKeepsRow.domain false) (Rows.arenaKeepsSpec.post enc Try.prog Try.f4 false true false false) := by
  refine returnsInHanded_of_change (C := Try.checked) own started (by kernel_rfl) Try.func4
    (ChangeSpec.witness6 (enc := enc) (C := Try.checked) false ⟨#[], #[.int .u16 0, .slice none 0 0], []⟩ 8 (by kernel_rfl) (by kernel_rfl) (by kernel_rfl) (by kernel_rfl)) ?_
  intro W base args ds gs before hval0 hW hcnd _
  have hval : ∀ (j : Nat) t v, Try.f4.params[j]? = some t → args[j]? = some v → Value.okWide Try.prog W .any base t v := hval0
  have hW' := hW
  obtain ⟨p, q, hA0, hV, rfl, hfz, hnd⟩ := hW
  have hA : DataW.TrodAll enc Try.prog W 0 (fun _ => true) true Try.f4.params.toList args.toList ds p := hA0
  rw [Try.params4] at hA hval
  obtain ⟨v0, vs0, d0, ds0, p0, q0, hargs, rfl, rfl, h0, r0⟩ := trodAll_cons hA
  obtain ⟨v1, vs1, d1, ds1, p1, q1, rfl, rfl, rfl, h1, r1⟩ := trodAll_cons r0
  obtain ⟨rfl, rfl, rfl⟩ := trodAll_nil r1
  obtain rfl : args = #[v0, v1] := by cases args; simp_all
  obtain ⟨rfl, rfl⟩ := trodVars_none hV
  obtain ⟨a0, rfl, rfl, rfl, w0⟩ := open_int Try.underlying37 (hval 0 37 v0 rfl rfl) h0
  obtain ⟨a1, len1, cap1, rfl⟩ := okWide_slice Try.underlying38 (hval 1 38 v1 rfl rfl)
  have k1 := h1
  have lt1 : ∀ x ∈ p1, x.block < W.heap.size := by obtain ⟨m, hm⟩ := k1; exact DataW.trod_lt m _ _ _ hm
  obtain ⟨z1, w1⟩ : ∃ z, IsInts 2 W a1 len1 cap1 z := by
    obtain ⟨fuel, hf⟩ := h1
    exact isArrs_of Try.underlying38 Try.underlying42 Try.underlying3 (by kernel_rfl) (by kernel_rfl) (by decide) hf
  clear hA0 hval0
  refine (walk a0 a1 len1 cap1 z1 W w0 w1).mono fun e W' ⟨he, bel⟩ => ?_
  subst he
  exact ⟨_, rfl, _, _, _, [], _, [], hW', trodAll_mk1 (shut_bool Try.underlying4 _), (trodAll_cons_mk (shut_int Try.underlying37 w0) (trodAll_cons_mk (Below.trod laidOut (by kernel_rfl) (of_decide_eq_true (by kernel_rfl)) k1 bel lt1) trodAll_mk0)), rfl, bel.frame _, fun h => by cases h⟩

theorem over : Rows.arenaKeepsRow.holds Try.pinned (OpenSpec.ofChange Rows.arenaKeepsSpec) :=
  OpenClaim.holds_of_wide 4 Try.f4 rfl rfl rfl rfl rfl rfl rfl ⟨rfl, rfl, rfl, rfl, rfl⟩ rfl rfl rfl rfl rfl (by kernel_rfl) Try.func4 (by kernel_rfl)
    (of_decide_eq_true (by kernel_rfl)) (by unfold Func.isWrapper; first | (rw [if_pos (by decide +kernel)]; kernel_rfl) | (rw [if_neg (by decide +kernel)]; exact ⟨rfl, rfl⟩))
    (fun os started H enc _ => lifted os started H enc)

theorem proved : Rows.ArenaKeepsSaid := over
#print axioms proved
end Go.Proofs.Ytockjmcbfmbjaaa.arenaKeeps
