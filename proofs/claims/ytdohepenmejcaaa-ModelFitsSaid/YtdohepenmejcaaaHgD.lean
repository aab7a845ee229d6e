/- A try on its way: what an event does to it: a write, a reading. -/
import Derived.Test.YtdohepenmejcaaaHgE
import Derived.Test.YtdohepenmejcaaaHgA
import Derived.Deep.RegionHeldLaw
import Derived.StillTailTactics
namespace Go.Proofs.Ytdohepenmejcaaa.hs
open Go Go.RowKit Go.Proofs.Ytdohepenmejcaaa.base Go.Maps
set_option linter.unusedVariables false
set_option maxRecDepth 100000


theorem Gng.wide {w : World} {F G : Nat → Prop} {b : Nat} {t : Tr} {W W' : Int → Bool} {R R' : Int → List Nat} {N : Nat} (h : Gng w F b t W R N) (hG : ∀ k, F k → G k) (hW : W' = W) (hR : R' = R) : Gng w G b t W' R' N := by
  obtain ⟨v, wm, rm, rd, h⟩ := h
  rw [hW, hR]
  exact ⟨v, wm, rm, rd, h.keep (fun _ _ => rfl) hG⟩
theorem only_later {F S : Nat → Prop} {w u v : World} (h : Only F w u) (k : Only S u v) (hs : ∀ i, i < w.heap.size → S i → F i) : Only F w v :=
  ⟨k.os.trans h.os, k.tape.trans h.tape, k.output.trans h.output, Nat.le_trans h.size k.size, fun i hi hn => (k.block i (Nat.lt_of_lt_of_le hi h.size) (fun e => hn (hs i hi e))).trans (h.block i hi hn)⟩
theorem zeroB (w : World) : (zeroValue 4).run Try.prog w = .ok (.bool false) w := by kernel_rfl

set_option maxHeartbeats 4000000 in
theorem does_write (w : World) (F : Nat → Prop) (b : Nat) (t : Tr) (N : Nat) (pl : Nat)  (th tx at_ ob va re : Int) (ho : (Lit.int .i64 ob).wf = true) (hF : ∀ k, F k → k < w.heap.size) (h : Gng w F b t (wrote t.ac) (readsF t.ac) N) (hen : t.en = -1) (hm : t.ac.length < 100000) (hN : N < 100000) :
    Calls Try.prog 56 #[.pointer (some ⟨b, 0, none⟩), .int .i64 pl, .agg #[.int .i64 3, .int .i64 th, .int .i64 tx, .int .i64 at_, .int .i64 ob, .int .i64 va, .int .i64 re]] w fun r w' => r = .returned (.bool false) ∧ Hid (Gng w' (Up F w w') b { t with ac := t.ac ++ [⟨pl, 3, ob, va, false, false⟩] } (wrote (t.ac ++ [⟨pl, 3, ob, va, false, false⟩])) (readsF (t.ac ++ [⟨pl, 3, ob, va, false, false⟩])) (N + 1)) ∧ Hid (Only F w w') := by
  obtain ⟨v, wm, rm, rd, h0⟩ := h.alloc hF (.cells #[.int .i64 3, .int .i64 th, .int .i64 tx, .int .i64 at_, .int .i64 ob, .int .i64 va, .int .i64 re] 58)
  have GA := Lib.hid (World.grownBy_alloc w (.cells #[.int .i64 3, .int .i64 th, .int .i64 tx, .int .i64 at_, .int .i64 ob, .int .i64 va, .int .i64 re] 58) none)
  have EB := Lib.hid (Blk.made w 58 #[.int .i64 3, .int .i64 th, .int .i64 tx, .int .i64 at_, .int .i64 ob, .int .i64 va, .int .i64 re])
  have H := Lib.hid h0
  have HO := Lib.hid ho
  have EN := Lib.hid hen
  clear h ho hen hF h0
  go_enter Try.func56, Try.ntmps56
  go_upto_region 6 with fail
  generalize w.alloc _ = v1 at *
  generalize hp : w.heap.size = p at *
  have c9 : v1.cell? ⟨b, 9, none⟩ = some (.map (some wm)) := H.out.blk.cell 9
  have e4 : v1.cell? ⟨p, 4, none⟩ = some (.int .i64 ob) := EB.out.cell 4
  have bl := H.out.blk.lt
  have pl0 := EB.out.lt
  obtain ⟨u1, hU, hm1, hg1⟩ := (show MapG Try.prog 3 (Value.int .i64) v1.drew wm N (wroteV (wrote t.ac)) from H.out.wmap).set kInt vint_inj Try.underlying121 (by unfold maxLen; omega) (keyInt HO.out) (.bool true)
  obtain ⟨q1, q2⟩ := H.out.wrotes ob hm1 (gb_trans (gb_drew (gb_refl v1 _)) hg1)
  have E2 := EB.out.drew.grown hg1 (by have := H.out.wmap.ne_blk (show Blk 58 v1 p _ from EB.out); simp; exact fun e => this e.symm)
  have r0 : u1.cell? ⟨p, 0, none⟩ = some (.int .i64 3) := E2.cell 0
  have r1 : u1.cell? ⟨p, 1, none⟩ = some (.int .i64 th) := E2.cell 1
  have r2 : u1.cell? ⟨p, 2, none⟩ = some (.int .i64 tx) := E2.cell 2
  have r3 : u1.cell? ⟨p, 3, none⟩ = some (.int .i64 at_) := E2.cell 3
  have r4 : u1.cell? ⟨p, 4, none⟩ = some (.int .i64 ob) := E2.cell 4
  have r5 : u1.cell? ⟨p, 5, none⟩ = some (.int .i64 va) := E2.cell 5
  have r6 : u1.cell? ⟨p, 6, none⟩ = some (.int .i64 re) := E2.cell 6
  have Q1 := Lib.hid q1
  have Q2 := Lib.hid q2
  clear q1 q2 hm1 hg1 E2
  go_wp2_with fail
  go_region
  all_goals
    go_wp2_with (first | (go_at_call 65; refine (access_any u1 F b t _ _ (N + 1) pl ⟨3, th, tx, at_, ob, va, re⟩ false ⟨_, _, _, _, Q1.out⟩ (by omega)).mono ?_; rintro r u2 ⟨rfl, g2, o2⟩; have c5 : u2.cell? ⟨b, 5, none⟩ = some (.int .i64 (-1)) := g2.out.at 5 (by omega) (by simp [trC, EN.out])) | go_in)
    go_ret
    refine ⟨rfl, g2.out.wide (fun k hk => ?_) (funext fun o => wrote_write _ _ _ _ _ _ _) (readsF_write _ _ _ _ _ _), ((Only.none GA.out).trans Q2.out).trans o2.out⟩
    rcases hk with hk | hk
    · exact .inl hk
    · have h1 := GA.out.size
      have h2 := Q2.out.size
      exact .inr ⟨by omega, hk.2⟩

theorem infoInt : (Try.prog.info? 3).map (fun i => (i.zero, i.size, i.bytes)) = some (some (.int .i64 0), 1, 8) := by kernel_rfl

set_option maxHeartbeats 4000000 in
theorem does_read (w : World) (F : Nat → Prop) (b : Nat) (t : Tr) (N : Nat) (pl : Nat)  (th tx at_ ob va re : Int) (ho : (Lit.int .i64 ob).wf = true) (hF : ∀ k, F k → k < w.heap.size) (h : Gng w F b t (wrote t.ac) (readsF t.ac) N) (hen : t.en = -1) (hm : t.ac.length < 100000) (hN : N < 100000) :
    Calls Try.prog 56 #[.pointer (some ⟨b, 0, none⟩), .int .i64 pl, .agg #[.int .i64 2, .int .i64 th, .int .i64 tx, .int .i64 at_, .int .i64 ob, .int .i64 va, .int .i64 re]] w fun r w' => r = .returned (.bool false) ∧ Hid (Gng w' (Up F w w') b { t with ac := t.ac ++ [⟨pl, 2, ob, va, wrote t.ac ob, false⟩] } (wrote (t.ac ++ [⟨pl, 2, ob, va, wrote t.ac ob, false⟩])) (readsF (t.ac ++ [⟨pl, 2, ob, va, wrote t.ac ob, false⟩])) (N + 1)) ∧ Hid (Only F w w') := by
  obtain ⟨v, wm, rm, rd, h0⟩ := h.alloc hF (.cells #[.int .i64 2, .int .i64 th, .int .i64 tx, .int .i64 at_, .int .i64 ob, .int .i64 va, .int .i64 re] 58)
  obtain ⟨u, hu, hrow⟩ : ∃ u, (rd ob).getD (.slice none 0 0) = u ∧ (w.alloc (.cells #[.int .i64 2, .int .i64 th, .int .i64 tx, .int .i64 at_, .int .i64 ob, .int .i64 va, .int .i64 re] 58)).ownsRow 0 3 1 u (readsF t.ac ob).length ((readsF t.ac ob).map natV) := by
    cases e : rd ob with
    | none => exact ⟨_, rfl, by rw [h0.nope ob e]; exact World.ownsRow_nil _ _ _ _⟩
    | some u => exact ⟨u, rfl, h0.lst ob u e⟩
  obtain ⟨ua, uc, rfl⟩ := owns_slice hrow
  obtain ⟨va', vc', rfl⟩ := owns_slice h0.row
  have hune : ∀ k, (Value.slice ua (readsF t.ac ob).length uc).ownBlock = some k → k ≠ b ∧ k ≠ wm ∧ k ≠ rm ∧ k < (w.alloc (.cells #[.int .i64 2, .int .i64 th, .int .i64 tx, .int .i64 at_, .int .i64 ob, .int .i64 va, .int .i64 re] 58)).heap.size ∧ ∃ cs, (w.alloc (.cells #[.int .i64 2, .int .i64 th, .int .i64 tx, .int .i64 at_, .int .i64 ob, .int .i64 va, .int .i64 re] 58)).heap[k]? = some (.cells cs 3 (0, 0)) := fun k e => by
    cases hrd : rd ob with
    | none =>
      rw [hrd] at hu
      have h2 : (Value.slice none 0 0).ownBlock = some k := by rw [show (Value.slice none 0 0) = .slice ua (readsF t.ac ob).length uc from hu]; exact e
      cases h2
    | some x =>
      rw [hrd] at hu
      have := h0.rd_ne (show rd ob = some (.slice ua (readsF t.ac ob).length uc) by rw [hrd]; exact congrArg some hu) k e
      exact ⟨this.1, this.2.1, this.2.2.1, this.2.2.2.2, ownsRow_type hrow e⟩
  have GA := Lib.hid (World.grownBy_alloc w (.cells #[.int .i64 2, .int .i64 th, .int .i64 tx, .int .i64 at_, .int .i64 ob, .int .i64 va, .int .i64 re] 58) none)
  have EB := Lib.hid (Blk.made w 58 #[.int .i64 2, .int .i64 th, .int .i64 tx, .int .i64 at_, .int .i64 ob, .int .i64 va, .int .i64 re])
  obtain ⟨i0, hi0, hz00, hz10, hz20⟩ := info_parts infoInt
  have hi := Lib.hid hi0
  have hz0 := Lib.hid hz00
  have hz1 := Lib.hid hz10
  have hz2 := Lib.hid hz20
  have H := Lib.hid h0
  have HO := Lib.hid ho
  have EN := Lib.hid hen
  have HU := Lib.hid hu
  have RW := Lib.hid hrow
  have UN := Lib.hid hune
  have hrl := readsAt_len ob t.ac 0
  obtain ⟨n, hn⟩ : ∃ n, n = (readsF t.ac ob).length := ⟨_, rfl⟩
  have hn1 : n < 100000 := by rw [hn]; unfold readsF; omega
  rw [← hn] at HU RW UN
  have HN := Lib.hid hn
  clear h ho hen hF h0 hu hrow hune hi0 hz00 hz10 hz20 hn hrl
  go_enter Try.func56, Try.ntmps56
  go_upto_region 3 with fail
  generalize w.alloc _ = v1 at *
  generalize hp : w.heap.size = p at *
  have HP := Lib.hid hp
  clear hp
  have c8 : v1.cell? ⟨b, 8, none⟩ = some (.slice va' t.ac.length vc') := H.out.blk.cell 8
  have c10 : v1.cell? ⟨b, 10, none⟩ = some (.map (some rm)) := H.out.blk.cell 10
  have e4 : v1.cell? ⟨p, 4, none⟩ = some (.int .i64 ob) := EB.out.cell 4
  have bl := H.out.blk.lt
  have pl0 := EB.out.lt
  have hrb : rm ≠ b := H.out.rm_ne
  have hrp : rm ≠ p := H.out.rmap.ne_blk EB.out
  have hup : ∀ k, (Value.slice ua n uc).ownBlock = some k → k ≠ p := fun k e h => by
    obtain ⟨cs, hc⟩ := (UN.out k e).2.2.2.2
    have h2 := EB.out
    rw [h] at hc
    unfold Blk at h2
    rw [hc] at h2
    injection h2 with h2
    injection h2 with _ h3
    exact absurd h3 (by decide)
  have hget0 : (Instr.lookup 122 (.map (some rm)) (.int .i64 ob) false).run Try.prog v1.drew = .ok (.slice ua n uc) v1.drew := by
    have := (show MapG Try.prog 3 (Value.int .i64) v1.drew rm N rd from H.out.rmap).get kInt Try.underlying122 (zeroL _) (keyInt HO.out)
    rwa [HU.out] at this
  have hget1 : (Instr.lookup 122 (.map (some rm)) (.int .i64 ob) false).run Try.prog (v1.alloc (.cells #[.int .i64 t.ac.length] 3)).drew = .ok (.slice ua n uc) (v1.alloc (.cells #[.int .i64 t.ac.length] 3)).drew := by
    have := (show MapG Try.prog 3 (Value.int .i64) (v1.alloc (.cells #[.int .i64 t.ac.length] 3)).drew rm N rd from H.out.rmap.grown (show World.grownBy v1 (v1.alloc (.cells #[.int .i64 t.ac.length] 3)).drew none from (by repeat (first | exact gb_refl _ _ | refine gb_drewN ?_ _ | refine gb_drew ?_ | refine gb_alloc ?_ _))) (by simp)).get kInt Try.underlying122 (zeroL _) (keyInt HO.out)
    rwa [HU.out] at this
  go_wp2_with fail
  go_region_held_law (fun w' => w'.cell? ⟨b, 8, none⟩ = some (.slice va' t.ac.length vc') ∧ w'.cell? ⟨b, 10, none⟩ = some (.map (some rm)) ∧ w'.cell? ⟨p, 4, none⟩ = some (.int .i64 ob)) (go_keep) ((refine step_append_at rfl (.tmp 23) (.tmp 30) 129 rfl 0 3 i0 (.int .i64 0) 1 8 Try.underlying129 hi.out hz0.out hz1.out hz2.out rfl (by decide) (.slice ua n uc) n ((readsF t.ac ob).map natV) (by simp [Act.eval]) ((RW.out.alloc _).drew) ⟨v1.heap.size, 0, none⟩ 1 1 [.int .i64 t.ac.length] (by simp [Act.eval]) rfl (new_cells v1.drew _ _) (by simp [Value.oneCell']) (by unfold maxLen; omega) (by omega) (by simp) (by decide) ?_; intro g' c' w1 ho1 hg1 hv1; have B1 := ((H.out.blk.alloc (.cells #[.int .i64 t.ac.length] 3)).drew).grown hg1 (by intro h9; exact (UN.out _ h9.symm).1 rfl); have E1 := ((EB.out.alloc (.cells #[.int .i64 t.ac.length] 3)).drew).grown hg1 (by intro h9; exact hup _ h9.symm rfl); obtain ⟨u3, hU, hm3, hg3⟩ := ((H.out.rmap.grown (show World.grownBy v1 (v1.alloc (.cells #[.int .i64 t.ac.length] 3)).drew none from (by repeat (first | exact gb_refl _ _ | refine gb_drewN ?_ _ | refine gb_drew ?_ | refine gb_alloc ?_ _))) (by simp)).grown hg1 (by intro h9; exact (UN.out _ h9.symm).2.2.1 rfl)).set kInt vint_inj Try.underlying122 (by unfold maxLen; omega) (keyInt HO.out) (.slice (some ⟨g', 0, none⟩) (n + 1) c'); have x8 : w1.cell? ⟨b, 8, none⟩ = some (.slice va' t.ac.length vc') := B1.cell 8; have x10 : w1.cell? ⟨b, 10, none⟩ = some (.map (some rm)) := B1.cell 10; have x4 : w1.cell? ⟨p, 4, none⟩ = some (.int .i64 ob) := E1.cell 4; have B3 := Lib.hid (B1.grown hg3 (by simp; exact fun e => hrb e.symm)); have E3 := Lib.hid (E1.grown hg3 (by simp; exact fun e => hrp e.symm)); have y8 : u3.cell? ⟨b, 8, none⟩ = some (.slice va' t.ac.length vc') := B3.out.cell 8; have y10 : u3.cell? ⟨b, 10, none⟩ = some (.map (some rm)) := B3.out.cell 10; have y4 : u3.cell? ⟨p, 4, none⟩ = some (.int .i64 ob) := E3.out.cell 4; have G1 := Lib.hid hg1; have G3 := Lib.hid hg3; have M3 := Lib.hid hm3; have O1 := Lib.hid ho1; have V1 := Lib.hid hv1; clear hg1 hg3 hm3 ho1 hv1 B1 E1))
  all_goals
    have hgm : ∀ k, (some g' : Option Nat) = some k → k ≠ rm := fun k e h => by
      cases e
      obtain ⟨cs, hc⟩ := ownsRow_type O1.out (k := g') rfl
      have hm1 := (H.out.rmap.grown (show World.grownBy v1 (v1.alloc (.cells #[.int .i64 t.ac.length] 3)).drew none from (by repeat (first | exact gb_refl _ _ | refine gb_drewN ?_ _ | refine gb_drew ?_ | refine gb_alloc ?_ _))) (by simp)).grown G1.out (by intro h9; exact (UN.out _ h9.symm).2.2.1 rfl)
      exact hm1.not_cells (h ▸ hc)
    have hns : n + 1 = (readsF t.ac ob ++ [t.ac.length]).length := by rw [List.length_append, ← HN.out]; rfl
    obtain ⟨q1, q2⟩ := H.out.push ob (.slice (some ⟨g', 0, none⟩) (n + 1) c') (readsF t.ac ob ++ [t.ac.length])
      (((Only.none (show World.grownBy v1 (v1.alloc (.cells #[.int .i64 t.ac.length] 3)).drew none from (by repeat (first | exact gb_refl _ _ | refine gb_drewN ?_ _ | refine gb_drew ?_ | refine gb_alloc ?_ _)))).trans (Only.of G1.out (fun k e _ => .inr (by rw [HU.out]; exact e)))).trans (Only.of G3.out (fun k e _ => .inl (by cases e; rfl)))) M3.out
      (by
        rw [← hns, List.map_append]
        exact ownsRow_keep O1.out (fun k e => G3.out.block k ((O1.out).lt k e).2 (by simp; exact hgm k e)))
      (by
        rw [HU.out]
        rcases V1.out with h | h
        · exact .inl h
        · exact .inr ⟨g', rfl, by simp at h; omega⟩)
    have Q1 := Lib.hid q1
    have Q2 := Lib.hid q2
    obtain ⟨u4, hU4⟩ : ∃ u : World, u = u3.drew := ⟨_, rfl⟩
    have Q1 := Lib.hid (q1.keep (w' := u4) (G := Up F v1 u3) (fun _ _ => by rw [hU4]; rfl) (fun _ h => h))
    have Q2 := Lib.hid (show Only F v1 u4 by rw [hU4]; exact q2.trans (Only.none (gb_drew (gb_refl u3 none))))
    have E4 := Lib.hid (show Blk 58 u4 p #[.int .i64 2, .int .i64 th, .int .i64 tx, .int .i64 at_, .int .i64 ob, .int .i64 va, .int .i64 re] by rw [hU4]; exact E3.out)
    have hU5 := Lib.hid hU4
    have HSZ := Lib.hid (show u3.heap.size = u4.heap.size by rw [hU4]; rfl)
    have hgw : (Instr.lookup 121 (.map (some wm)) (.int .i64 ob) false).run Try.prog u4 = .ok (.bool (wrote t.ac ob)) u4 := by
      have := Q1.out.wmap.get kInt Try.underlying121 (zeroB _) (keyInt HO.out)
      rw [this]
      unfold wroteV
      cases wrote t.ac ob <;> rfl
    have c9 : u4.cell? ⟨b, 9, none⟩ = some (.map (some wm)) := Q1.out.blk.cell 9
    have r0 : u4.cell? ⟨p, 0, none⟩ = some (.int .i64 2) := E4.out.cell 0
    have r1 : u4.cell? ⟨p, 1, none⟩ = some (.int .i64 th) := E4.out.cell 1
    have r2 : u4.cell? ⟨p, 2, none⟩ = some (.int .i64 tx) := E4.out.cell 2
    have r3 : u4.cell? ⟨p, 3, none⟩ = some (.int .i64 at_) := E4.out.cell 3
    have r4 : u4.cell? ⟨p, 4, none⟩ = some (.int .i64 ob) := E4.out.cell 4
    have r5 : u4.cell? ⟨p, 5, none⟩ = some (.int .i64 va) := E4.out.cell 5
    have r6 : u4.cell? ⟨p, 6, none⟩ = some (.int .i64 re) := E4.out.cell 6
    go_wp2_with fail
    refine wp_region_still_tail 10 (by kernel_rfl) (by kernel_rfl) ?_
    simp only [List.take_succ_cons, List.take_zero, List.drop_succ_cons, List.drop_zero]
    change wpStill _ _ u3.drew (fun a' => wpList _ _ _ _ a' u3.drew) _ _
    rw [← hU4]
    clear hU4 q1 q2 hgm hns x8 x10 x4 y8 y10 y4 hU M3 O1 V1 G1 G3 E3 B3 hget0 hget1 c8 c10 e4
    repeat still_step
    refine wpStill_nil ?_
    go_wp2_with (first | (go_at_call 65; refine (access_any u4 (Up F v1 u3) b t _ _ (N + 1) pl ⟨2, th, tx, at_, ob, va, re⟩ (wrote t.ac ob) ⟨_, _, _, _, Q1.out⟩ (by omega)).mono ?_; rintro r u5 ⟨rfl, g5, o5⟩; have c5 : u5.cell? ⟨b, 5, none⟩ = some (.int .i64 (-1)) := g5.out.at 5 (by omega) (by simp [trC, EN.out])) | go_in)
    go_ret
    have z1 := GA.out.size
    have z2 := Q2.out.size
    have z3 := o5.out.size
    have z4 := HSZ.out
    have z5 := HP.out
    refine ⟨rfl, g5.out.wide (fun k hk => ?_) (funext fun o => wrote_read _ _ _ _ _ _ _) (readsF_read _ _ _ _ _), only_later ((Only.none GA.out).trans Q2.out) o5.out (fun k hk h => ?_)⟩
    · rcases hk with (hk | hk) | hk
      · exact .inl hk
      · exact .inr ⟨by omega, by omega⟩
      · exact .inr ⟨by omega, hk.2⟩
    · rcases h with h | h
      · exact h
      · omega
end Go.Proofs.Ytdohepenmejcaaa.hs
