/-
  ArenaActs: whatever is put into an arena and looked at, each answer, how many things there are and how many more have room, are the document's all along, for any room and any list of puts and looks; with a room that is not from 1 to 4,096 there is no arena.
  Conditions: none (of a list of more than 200 the law says nothing by itself).
-/
import Derived.Test.YtockjmcbfmbjaaaRows
import Derived.Test.YtockjmcbfmbjaaaOpen
import Derived.Test.YtockjmcbfmbjaaaArena
import Derived.Test.YtockjmcbfmbjaaaAlive02
namespace Go.Proofs.Ytockjmcbfmbjaaa.arenaActs
open Go.ChangeShapes Go.WideShapes Go.ChangeAt Go.RowKit Go.Proofs.Ytockjmcbfmbjaaa.base Go.Proofs.Ytockjmcbfmbjaaa.ar
set_option linter.unusedVariables false

/-- Block c is the document's own arena: its room, its things. -/
abbrev Ref (base : Nat) (w : World) (c : Nat) (room : Int) (n : Nat) (xs : List Value) (r : Option Nat) : Prop := Fld 30 3 1 base w c [.int .i64 room] [] n xs r

/-- At the head of a round: the arena and the document's own one have the same things. -/
def Rel (w : World) (b c : Nat) (N : Int) (len : Nat) (i : Value) (wr : World) : Prop :=
  ∃ (k m : Nat) (y : Nat → Int) (r r2 : Option Nat), k ≤ len ∧ m ≤ k ∧ (m : Int) ≤ N ∧ i = .int .i64 k ∧ ArenaI w.heap.size wr b N m (vals y m) r ∧ Ref w.heap.size wr c N m (vals y m) r2 ∧ Apart b r c r2 ∧ Below w.heap.size w wr

set_option maxRecDepth 100000 in
theorem walk_long (a0 : Int) (a1 : Option Addr) (len1 cap1 : Nat) (w : World) (h : 200 < (len1 : Int)) :
    Calls Try.prog 3 #[.int .i64 a0, .slice a1 len1 cap1] w fun e w' => e = .returned (.bool true) ∧ Below w.heap.size w w' := by
  go_enter Try.func3, Try.ntmps3
  go_wp2_with fail
  refine (alive_any _).mono ?_
  rintro e v1 ⟨rfl, B1⟩
  go_wp2
  go_ret
  exact ⟨rfl, B1.out⟩

set_option maxRecDepth 100000 in
theorem walk_out (a0 : Int) (a1 : Option Addr) (len1 cap1 : Nat) (w : World) (h : ¬ 200 < (len1 : Int)) (ho : a0 < 1 ∨ 4096 < a0) :
    Calls Try.prog 3 #[.int .i64 a0, .slice a1 len1 cap1] w fun e w' => e = .returned (.bool true) ∧ Below w.heap.size w w' := by
  have Ho := Lib.hid ho
  rcases ho with h1 | h1
  all_goals
    go_enter Try.func3, Try.ntmps3
    go_wp2_with fail
    refine (alive_any _).mono ?_
    rintro e v1 ⟨rfl, B1⟩
    go_wp2_with fail
    refine (newI_out _ _ Ho.out).mono ?_
    rintro e v2 ⟨rfl, rfl⟩
    go_wp2
    go_ret
    exact ⟨rfl, B1.out⟩

set_option maxRecDepth 100000 in
set_option maxHeartbeats 1000000 in
theorem walkIn (a0 : Int) (a1 : Option Addr) (len1 cap1 : Nat) (z1 : Nat → Nat → Int) (w : World) (w1 : IsInts 2 w a1 len1 cap1 z1) (h : ¬ 200 < (len1 : Int)) (hl : 1 ≤ a0) (hu : a0 ≤ 4096) :
    Calls Try.prog 3 #[.int .i64 a0, .slice a1 len1 cap1] w fun e w' => e = .returned (.bool true) ∧ Below w.heap.size w w' := by
  have W1 := Lib.hid w1
  obtain ⟨i0, hi0, hz00, hz10, hz20⟩ := info_parts infoI
  have hi := Lib.hid hi0
  have hz0 := Lib.hid hz00
  have hz1 := Lib.hid hz10
  have hz2 := Lib.hid hz20
  clear w1 hi0 hz00 hz10 hz20
  go_enter Try.func3, Try.ntmps3
  go_wp2_with fail
  refine (alive_any _).mono ?_
  rintro e v1 ⟨rfl, B1⟩
  go_wp2_with fail
  refine (newI_in w.heap.size a0 v1 hl hu B1.out.size).mono ?_
  rintro e v2 ⟨b, rfl, hb, A1, g2⟩
  have B2 := Lib.hid (bl_none B1.out g2.out)
  have hs2 := B2.out.size
  clear B1 g2 hb
  go_wp2_with fail
  have R3' : Ref w.heap.size (v2.alloc (.cells #[.int .i64 a0, .slice none 0 0] 30)) v2.heap.size a0 0 [] none := Fld.made v2 _ _ _ hs2 [.int .i64 a0] []
  have A3' : ArenaI w.heap.size (v2.alloc (.cells #[.int .i64 a0, .slice none 0 0] 30)) b a0 0 [] none := A1.out.alloc _
  have B3' : Below w.heap.size w (v2.alloc (.cells #[.int .i64 a0, .slice none 0 0] 30)) := B2.out.alloc hs2 _
  have ap' : Apart b none v2.heap.size none := ⟨by have := A1.out.lt; omega, by simp, by simp, .inl rfl⟩
  generalize (v2.alloc (.cells #[.int .i64 a0, .slice none 0 0] 30)) = v3 at *
  generalize v2.heap.size = c at *
  have R3 := Lib.hid R3'
  have A3 := Lib.hid A3'
  have B3 := Lib.hid B3'
  have ap := Lib.hid ap'
  clear R3' A3' B3' ap' A1 B2 hs2
  go_loopw [8] (fun i wr => Rel w b c a0 len1 i wr) (fun i _ => (len1 - intOf i).toNat)
  case atStart => exact ⟨0, 0, fun _ => 0, none, none, by omega, by omega, by omega, rfl, A3.out, R3.out, ap.out, B3.out⟩
  case round =>
    obtain ⟨k, m, y, r, r2, hk, hm, hmN, rfl, P0, Q0, ap0, B0⟩ := hrel
    have P := Lib.hid P0
    have Q := Lib.hid Q0
    have ap1 := Lib.hid ap0
    have B := Lib.hid B0
    have hsz := B.out.size
    clear P0 Q0 ap0 B0 R3 A3 B3 ap
    by_cases hlt : k < len1
    · obtain ⟨_, _, h0 | ⟨b1, off1, rfl, hb1, hz⟩⟩ := W1.out
      · exfalso; omega
      have hc0 : wr.cell? ⟨b1, off1 + k * 2, none⟩ = some (.int .i64 (z1 k 0)) := (B.out.cell (p := ⟨b1, off1 + (k * 2 + 0), none⟩) hb1).trans (hz k 0 hlt (by omega)).1
      have hc1 : wr.cell? ⟨b1, off1 + k * 2 + 1, none⟩ = some (.int .i64 (z1 k 1)) := (B.out.cell (p := ⟨b1, off1 + (k * 2 + 1), none⟩) hb1).trans (hz k 1 hlt (by omega)).1
      have hlt' : (k : Int) < (len1 : Int) := by omega
      clear hz
      generalize z1 k 0 = x0 at *
      generalize z1 k 1 = x1 at *
      by_cases hx0 : x0 = 0
      · have hx0' : (x0 == 0) = true := by simpa using hx0
        clear hx0
        by_cases hfull : (m : Int) = a0
        · have hf : ((m : Int) == a0) = true := by simpa using hfull
          have hfl := Lib.hid hfull
          clear hfull
          go_wp2_with fail
          refine (putI_full w.heap.size b x1 a0 m _ r wr P.out hfl.out hu).mono ?_
          rintro e u1 ⟨q, rfl, rfl⟩
          have P1 := Lib.hid (P.out.drewN q)
          have Q1 := Lib.hid (Q.out.drewN q)
          have B1 := Lib.hid (bl_drewN B.out q)
          generalize wr.drewN q = u1 at *
          obtain ⟨ao, cap, hq, _, _⟩ := Q1.out.open
          have d1 := hq.cell 1
          clear hq hc0 hc1 P Q B
          go_wp2_with fail
          go_quiet ((first | (go_at_call 11; exact lenI_q w.heap.size b a0 m _ r _ _ (P1.out.drewN _)) | (go_at_call 12; exact leftI_q w.heap.size b a0 m _ r _ _ (P1.out.drewN _) hmN hu)))
          go_wp2
          go_roundw
          case rel => exact ⟨k + 1, m, y, r, r2, by omega, by omega, hmN, by go_num, P1.out.drewN _, Q1.out.drewN _, ap1.out, bl_drewN B1.out _⟩
          case measure => simp [intOf]; omega
        · have hf : ((m : Int) == a0) = false := by simpa using hfull
          have hlt2 : (m : Int) < a0 := by omega
          have hle2 : ((m + 1 : Nat) : Int) ≤ a0 := by omega
          have hm200 : m ≤ 4096 := by omega
          clear hfull
          go_wp2_with fail
          refine (putI w.heap.size b x1 a0 m _ r wr P.out hlt2 hu hsz).mono ?_
          rintro e u1 ⟨r', rfl, P1, c1⟩
          have Q1 := Lib.hid (Q.out.chg c1.out ap1.out)
          have ap2 := Lib.hid (ap1.out.step c1.out Q.out)
          have B1 := Lib.hid (c1.out.bl B.out hsz P.out)
          have hsz1 := Lib.hid B1.out.size
          obtain ⟨ao, cap, hq0, ho0, hr0⟩ := Q1.out.open
          have d1 := hq0.cell 1
          have f1 := hq0.free 1
          have ho := Lib.hid ho0
          have hr := Lib.hid hr0
          clear hq0 ho0 hr0 c1 P Q B ap1 hc0 hc1
          go_wp2_with (at_builtin; refine wpList_append_at _ rfl (.tmp 89) (.tmp 91) 28 rfl w.heap.size 3 i0 (.int .i64 0) 1 8 Try.underlying28 hi.out hz0.out hz1.out hz2.out rfl (by decide) _ _ _ rfl (ho.out.alloc _) ⟨u1.heap.size, 0, none⟩ 1 1 [.int .i64 x1] rfl rfl (new_cells _ _ _) (by intro u hu; simp at hu; subst hu; rfl) (by unfold maxLen; omega) (by omega) (by have := hsz1.out; simp; omega) (by decide) ?_; intro g' c' w1 ho1 hg1 hv1; have hg2 := Lib.hid (show World.grownBy _ w1 r2 from hr.out ▸ hg1); have ho2 := Lib.hid ho1; have hv2 := Lib.hid hv1; obtain ⟨c2, f2⟩ := Q1.out.mid d1 hg2.out; clear ho1 hg1 hv1 d1 f1)
          have hp := (Q1.out.alloc _).put ho2.out hg2.out (by rw [← hr.out]; exact hv2.out)
          have hp2 : Chg c r2 (some g') u1 (w1.setCell ⟨c, 1, none⟩ (.slice (some ⟨g', 0, none⟩) (m + 1) c')) := hp.2.after (gb_alloc (gb_refl _ _) _)
          have hp1 : Ref w.heap.size (w1.setCell ⟨c, 1, none⟩ (.slice (some ⟨g', 0, none⟩) (m + 1) c')) c a0 (m + 1) (vals y m ++ [.int .i64 x1]) (some g') := hp.1
          clear hp c2 f2
          generalize (w1.setCell ⟨c, 1, none⟩ (.slice (some ⟨g', 0, none⟩) (m + 1) c')) = u2 at *
          have Q2 := Lib.hid hp1
          have P2 := Lib.hid (P1.out.chg hp2 ap2.out.symm)
          have ap3 := Lib.hid (ap2.out.symm.step hp2 P1.out).symm
          have B2 := Lib.hid (hp2.bl B1.out hsz1.out Q1.out)
          obtain ⟨ao2, cap2, hq2, _, _⟩ := hp1.open
          have d2 := hq2.cell 1
          clear hq2 hp1 hp2 ho2 hg2 hv2 ho hr P1 Q1 ap2 B1
          go_quiet ((first | (go_at_call 11; exact lenI_q w.heap.size b a0 (m + 1) _ r' _ _ (P2.out.drewN _)) | (go_at_call 12; exact leftI_q w.heap.size b a0 (m + 1) _ r' _ _ (P2.out.drewN _) hle2 hu)))
          go_wp2
          go_roundw
          case rel =>
            obtain ⟨y2, hy, _, _⟩ := vals_push y m x1
            exact ⟨k + 1, m + 1, y2, r', _, by omega, by omega, hle2, by go_num, by rw [hy]; exact P2.out.drewN _, by rw [hy]; exact Q2.out.drewN _, ap3.out, bl_drewN B2.out _⟩
          case measure => simp [intOf]; omega
      · have hx0' : (x0 == 0) = false := by simpa using hx0
        clear hx0
        by_cases hin : 0 ≤ x1 ∧ x1 < (m : Int)
        · obtain ⟨j, rfl⟩ : ∃ j : Nat, x1 = (j : Int) := ⟨x1.toNat, by omega⟩
          have hj : j < m := by omega
          have hjI : (j : Int) < (m : Int) := by omega
          obtain ⟨g, cap, hq, hcell⟩ := Q.out.elem (by omega)
          have d1 := hq.cell 1
          have d2 : wr.cell? ⟨g, j, none⟩ = some (.int .i64 (y j)) := (hcell j (by omega)).trans (vals_get _ _ _ hj)
          clear hin hq hcell
          go_wp2_with fail
          refine (atI w.heap.size b j (y j) a0 m _ r wr P.out hj (by omega) (vals_get _ _ _ hj)).mono ?_
          rintro e u1 ⟨rfl, rfl⟩
          clear hc0 hc1
          go_wp2_with fail
          go_quiet ((first | (go_at_call 11; exact lenI_q w.heap.size b a0 m _ r _ _ (P.out.drewN _)) | (go_at_call 12; exact leftI_q w.heap.size b a0 m _ r _ _ (P.out.drewN _) hmN hu)))
          go_wp2
          go_roundw
          case rel => exact ⟨k + 1, m, y, r, r2, by omega, by omega, hmN, by go_num, P.out.drewN _, Q.out.drewN _, ap1.out, bl_drewN B.out _⟩
          case measure => simp [intOf]; omega
        · obtain ⟨ao, cap, hq, _, _⟩ := Q.out.open
          have d1 := hq.cell 1
          have ho : x1 < 0 ∨ (m : Int) ≤ x1 := by omega
          have Ho := Lib.hid ho
          clear hq hin
          by_cases hneg : x1 < 0
          all_goals
            clear ho
            go_wp2_with fail
            refine (atI_out w.heap.size b x1 a0 m _ r wr P.out Ho.out).mono ?_
            rintro e u1 ⟨rfl, rfl⟩
            clear hc0 hc1
            first | (have hneg2 : (m : Int) ≤ x1 := by have := Ho.out; omega) | skip
            go_wp2_with fail
            go_quiet ((first | (go_at_call 11; exact lenI_q w.heap.size b a0 m _ r _ _ (P.out.drewN _)) | (go_at_call 12; exact leftI_q w.heap.size b a0 m _ r _ _ (P.out.drewN _) hmN hu)))
            go_wp2
            go_roundw
            case rel => exact ⟨k + 1, m, y, r, r2, by omega, by omega, hmN, by go_num, P.out.drewN _, Q.out.drewN _, ap1.out, bl_drewN B.out _⟩
            case measure => simp [intOf]; omega
    · go_wp2
      go_ret
      exact ⟨rfl, B.out⟩

theorem walk (a0 : Int) (a1 : Option Addr) (len1 cap1 : Nat) (z1 : Nat → Nat → Int) (w : World) (w0 : (Lit.int .i64 a0).wf = true) (w1 : IsInts 2 w a1 len1 cap1 z1) :
    Calls Try.prog 3 #[.int .i64 a0, .slice a1 len1 cap1] w fun e w' => e = .returned (.bool true) ∧ Below w.heap.size w w' := by
  by_cases h : 200 < (len1 : Int)
  · exact walk_long a0 a1 len1 cap1 w h
  · by_cases ho : a0 < 1 ∨ 4096 < a0
    · exact walk_out a0 a1 len1 cap1 w h ho
    · exact walkIn a0 a1 len1 cap1 z1 w w1 h (by omega) (by omega)

theorem own : ownKnob Try.prog.godebug = none := by kernel_rfl
theorem laidOut : laidOutB Try.prog = true := by kernel_rfl

/-! ### THE ROW's STEP, as the guide has it -/
set_option maxRecDepth 100000 in
theorem lifted (os : Os) (started : os.Started) (H : Type) (enc : TypeId × Value → H) :
    ReturnsInHanded {} Try.checked os 3 .any (Rows.arenaActsSpec.pre6 enc Try.prog Try.f3 Rows.arenaActsRow.domain false) (Rows.arenaActsSpec.post enc Try.prog Try.f3 false true false false) := by
  refine returnsInHanded_of_change (C := Try.checked) own started (by kernel_rfl) Try.func3
    (ChangeSpec.witness6 (enc := enc) (C := Try.checked) false ⟨#[], #[.int .i64 0, .slice none 0 0], []⟩ 8 (by kernel_rfl) (by kernel_rfl) (by kernel_rfl) (by kernel_rfl)) ?_
  intro W base args ds gs before hval0 hW hcnd _
  have hval : ∀ (j : Nat) t v, Try.f3.params[j]? = some t → args[j]? = some v → Value.okWide Try.prog W .any base t v := hval0
  have hW' := hW
  obtain ⟨p, q, hA0, hV, rfl, hfz, hnd⟩ := hW
  have hA : DataW.TrodAll enc Try.prog W 0 (fun _ => true) true Try.f3.params.toList args.toList ds p := hA0
  rw [Try.params3] at hA hval
  obtain ⟨v0, vs0, d0, ds0, p0, q0, hargs, rfl, rfl, h0, r0⟩ := trodAll_cons hA
  obtain ⟨v1, vs1, d1, ds1, p1, q1, rfl, rfl, rfl, h1, r1⟩ := trodAll_cons r0
  obtain ⟨rfl, rfl, rfl⟩ := trodAll_nil r1
  obtain rfl : args = #[v0, v1] := by cases args; simp_all
  obtain ⟨rfl, rfl⟩ := trodVars_none hV
  obtain ⟨a0, rfl, rfl, rfl, w0⟩ := open_int Try.underlying3 (hval 0 3 v0 rfl rfl) h0
  obtain ⟨a1, len1, cap1, rfl⟩ := okWide_slice Try.underlying22 (hval 1 22 v1 rfl rfl)
  have k1 := h1
  have lt1 : ∀ x ∈ p1, x.block < W.heap.size := by obtain ⟨m, hm⟩ := k1; exact DataW.trod_lt m _ _ _ hm
  obtain ⟨z1, w1⟩ : ∃ z, IsInts 2 W a1 len1 cap1 z := by
    obtain ⟨fuel, hf⟩ := h1
    exact isInts_of Try.underlying22 Try.underlying32 Try.underlying3 (by kernel_rfl) (by kernel_rfl) (by decide) (by decide) hf
  clear hA0 hval0
  refine (walk a0 a1 len1 cap1 z1 W w0 w1).mono fun e W' ⟨he, bel⟩ => ?_
  subst he
  exact ⟨_, rfl, _, _, _, [], _, [], hW', trodAll_mk1 (shut_bool Try.underlying4 _), (trodAll_cons_mk (shut_int Try.underlying3 w0) (trodAll_cons_mk (Below.trod laidOut (by kernel_rfl) (of_decide_eq_true (by kernel_rfl)) k1 bel lt1) trodAll_mk0)), rfl, bel.frame _, fun h => by cases h⟩

theorem over : Rows.arenaActsRow.holds Try.pinned (OpenSpec.ofChange Rows.arenaActsSpec) :=
  OpenClaim.holds_of_wide 3 Try.f3 rfl rfl rfl rfl rfl rfl rfl ⟨rfl, rfl, rfl, rfl, rfl⟩ rfl rfl rfl rfl rfl (by kernel_rfl) Try.func3 (by kernel_rfl)
    (of_decide_eq_true (by kernel_rfl)) (by unfold Func.isWrapper; first | (rw [if_pos (by decide +kernel)]; kernel_rfl) | (rw [if_neg (by decide +kernel)]; exact ⟨rfl, rfl⟩))
    (fun os started H enc _ => lifted os started H enc)

theorem proved : Rows.ArenaActsSaid := over
#print axioms proved
end Go.Proofs.Ytockjmcbfmbjaaa.arenaActs
