/- Package model's States: all states of a trace, in memory of their own. -/
import Derived.Test.YtdohepenmejcaaaMi
import Derived.Test.YtdohepenmejcaaaRr
import Derived.Deep.QuietTactic
namespace Go.Proofs.Ytdohepenmejcaaa.md
open Go Go.RowKit Go.Proofs.Ytdohepenmejcaaa.base Go.Proofs.Ytdohepenmejcaaa.hs Go.Proofs.Ytdohepenmejcaaa.lg Go.Maps
set_option linter.unusedVariables false
set_option maxRecDepth 100000
attribute [local go_sem] Oper.semAt_some

theorem mf_run (fn : Fn) (first cap : Array Value) (w : World) : (Instr.makeFunc fn first cap).run Try.prog w = .ok (.func fn first cap) w := rfl

theorem states_fn (a1 : Option Addr) (n c1 : Nat) (a2 : Option Addr) (len cap : Nat) (w : World) :
    Calls Try.prog 27 #[.slice a1 n c1, .slice a2 len cap] w fun r w' => r = .returned (.func (.func 43) #[] #[.pointer (some ⟨w.heap.size, 0, none⟩), .pointer (some ⟨w.heap.size + 1, 0, none⟩)]) ∧ w' = (w.alloc (.cells #[.slice a1 n c1] 22)).alloc (.cells #[.slice a2 len cap] 23) := by
  have hmf := mf_run
  go_enter Try.func27, Try.ntmps27
  go_wp2
  go_ret
  exact ⟨rfl, rfl⟩

/-- A row of n numbers of one's own, in blocks from B on. -/
def RowAt (w : World) (B n : Nat) (f : Nat → Int) (u : Value) : Prop := ∃ a c, u = .slice a n c ∧ w.ownsRow B 2 1 u n (vals f n)

theorem infoRow : (Try.prog.info? 22).map (fun i => (i.zero, i.size, i.bytes)) = some (some (.slice none 0 0), 1, 24) := by kernel_rfl

/-- What States holds while the states come: us, the rows so far. -/
structure JSP (l D : Nat) (rec : Loop) (bt n : Nat) (st : Nat → Nat → Int) (m : Nat) (W : World) (Fc : Nat → Prop) (a : Option Addr) (c : Nat) (us : List Value) : Prop where
  len : us.length = m
  box : Blk 25 W bt #[.slice a m c]
  row : W.ownsRow 0 22 1 (.slice a m c) m us
  each : ∀ i u, us[i]? = some u → ∃ a c, u = .slice a n c ∧ W.ownsRow 0 2 1 u n (vals (st i) n)
  loop : LoopAt l D rec W
  fbt : Fc bt
  fl : Fc l
  fD : Fc D
  frow : ∀ k, (Value.slice a m c).ownBlock = some k → Fc k
  feach : ∀ u ∈ us, ∀ k, u.ownBlock = some k → Fc k
def JS (l D : Nat) (rec : Loop) (bt n : Nat) (st : Nat → Nat → Int) (pre : List Value) (W : World) (Fc : Nat → Prop) : Prop := ∃ a c us, JSP l D rec bt n st pre.length W Fc a c us

theorem JSP.keep {l D : Nat} {rec : Loop} {bt n : Nat} {st : Nat → Nat → Int} {m : Nat} {W W' : World} {Fc Fd : Nat → Prop} {a : Option Addr} {c : Nat} {us : List Value} (h : JSP l D rec bt n st m W Fc a c us) (hk : ∀ k, Fc k → W'.heap[k]? = W.heap[k]?) (hF : ∀ k, Fc k → Fd k) : JSP l D rec bt n st m W' Fd a c us :=
  ⟨h.len, h.box.keep (hk _ h.fbt), ownsRow_keep h.row (fun k e => hk _ (h.frow k e)), fun i u hu => (by
    obtain ⟨a, c, h1, h2⟩ := h.each i u hu
    exact ⟨a, c, h1, ownsRow_keep h2 (fun k e => hk _ (h.feach u (List.mem_of_getElem? hu) k e))⟩), h.loop.keep (hk _ h.fl) (hk _ h.fD), hF _ h.fbt, hF _ h.fl, hF _ h.fD, fun k e => hF _ (h.frow k e), fun u hu k e => hF _ (h.feach u hu k e)⟩
theorem js_firm (l D : Nat) (rec : Loop) (bt n : Nat) (st : Nat → Nat → Int) : FirmV (JS l D rec bt n st) := by
  rintro pre W W' Fc ⟨a, c, us, h⟩ hk
  exact ⟨a, c, us, h.keep hk (fun _ h => h)⟩

/-- One more state was copied, and appended. -/
theorem js_add {l D : Nat} {rec : Loop} {bt n : Nat} {st : Nat → Nat → Int} {m : Nat} {W W' : World} {Fc G : Nat → Prop} {a : Option Addr} {c : Nat} {us : List Value} (h : JSP l D rec bt n st m W Fc a c us) {av : Option Addr} {vc g c' : Nat}
    (hv : W'.ownsRow 0 2 1 (.slice av n vc) n (vals (st m) n)) (hvG : ∀ k, (Value.slice av n vc).ownBlock = some k → G k)
    (ho : Only (fun k => k = bt ∨ k = l ∨ (Value.slice a m c).ownBlock = some k) W W') (hlt : ∀ k, Fc k → k < W.heap.size) (hb : Blk 25 W' bt #[.slice (some ⟨g, 0, none⟩) (m + 1) c'])
    (hr : W'.ownsRow 0 22 1 (.slice (some ⟨g, 0, none⟩) (m + 1) c') (m + 1) (us ++ [.slice av n vc])) (hL : W'.heap[l]? = some (.loop rec)) (hF : ∀ k, Fc k → G k) (hg : G g) :
    JSP l D rec bt n st (m + 1) W' G (some ⟨g, 0, none⟩) c' (us ++ [.slice av n vc]) := by
  have hcell : ∀ k ty cs, W.heap[k]? = some (.cells cs ty (0, 0)) → ty ≠ 25 → ty ≠ 22 → Fc k → W'.heap[k]? = W.heap[k]? := fun k ty cs hk h1 h2 hf => by
    refine ho.block k (hlt k hf) ?_
    rintro (e | e | e)
    · have := h.box
      unfold Blk at this
      rw [← e, hk] at this
      injection this with this
      injection this with _ this
      exact h1 this
    · have := h.loop.1
      rw [← e, hk] at this
      cases this
    · obtain ⟨ds, hd⟩ := ownsRow_type h.row e
      rw [hk] at hd
      injection hd with hd
      injection hd with _ hd
      exact h2 hd
  refine ⟨by rw [List.length_append, h.len]; rfl, hb, hr, fun i u hu => ?_, ⟨hL, ?_⟩, hF _ h.fbt, hF _ h.fl, hF _ h.fD, fun k e => by cases e; exact hg, fun u hu k e => ?_⟩
  · by_cases hi : i < us.length
    · rw [List.getElem?_append_left hi] at hu
      obtain ⟨a3, c3, h1, h2⟩ := h.each i u hu
      refine ⟨a3, c3, h1, ownsRow_keep h2 (fun k e => ?_)⟩
      obtain ⟨cs, hc⟩ := ownsRow_type h2 e
      exact hcell k _ cs hc (by decide) (by decide) (h.feach u (List.mem_of_getElem? hu) k e)
    · rw [List.getElem?_append_right (by omega)] at hu
      have hi0 : i - us.length = 0 := by have := (List.getElem?_eq_some_iff.1 hu).1; simp at this; omega
      rw [hi0] at hu
      have hi1 : i = m := by have := h.len; omega
      subst hi1
      simp at hu
      subst hu
      exact ⟨av, vc, rfl, hv⟩
  · refine (ho.block D (hlt D h.fD) ?_).trans h.loop.2
    have hd := h.loop.2
    rintro (e | e | e)
    · have := h.box
      unfold Blk at this
      rw [← e, hd] at this
      cases this
    · have := h.loop.1
      rw [← e, hd] at this
      cases this
    · obtain ⟨ds, hd2⟩ := ownsRow_type h.row e
      rw [hd] at hd2
      cases hd2
  · rcases List.mem_append.1 hu with hu | hu
    · exact hF _ (h.feach u hu k e)
    · rw [List.mem_singleton.1 hu] at e
      exact hvG k e

/-- .. and the round has ended. -/
theorem js_end {l D : Nat} {rec : Loop} {bt n : Nat} {st : Nat → Nat → Int} {pre : List Value} {x : Value} {W W4 u5 w6 : World} {Fc : Nat → Prop} {ya : Option Addr} {yc : Nat} {us : List Value} {lo : Loop} {a5 : Option Addr} {c5 g' c' : Nat} (HJ : JSP l D rec bt n st pre.length W Fc ya yc us) (FLT : ∀ k, Fc k → k < W.heap.size) (OA : Only (fun k => k = l) W W4) (L4 : W4.heap[l]? = some (.loop lo)) (S4 : W4.heap.size = W.heap.size)
    (g5 : W4.drew.grownBy u5 none) (V5 : u5.ownsRow W4.drew.heap.size 2 1 (.slice a5 n c5) n (vals (st pre.length) n)) (B6 : Blk 25 w6 bt #[.slice ya pre.length yc]) (R4 : W4.drew.ownsRow 0 22 1 (.slice ya pre.length yc) pre.length us)
    (HO : w6.ownsRow 0 22 1 (.slice (some ⟨g', 0, none⟩) (pre.length + 1) c') (pre.length + 1) (us ++ [.slice a5 n c5])) (HG : (u5.alloc (.cells #[.slice a5 n c5] 22)).grownBy w6 (Value.slice ya pre.length yc).ownBlock) (HV : some g' = (Value.slice ya pre.length yc).ownBlock ∨ (u5.alloc (.cells #[.slice a5 n c5] 22)).heap.size ≤ g') :
    (w6.setCell ⟨bt, 0, none⟩ (.slice (some ⟨g', 0, none⟩) (pre.length + 1) c')).heap[l]? = some (.loop lo) ∧ ∃ Fc', JS l D rec bt n st (pre ++ [x]) ((w6.setCell ⟨bt, 0, none⟩ (.slice (some ⟨g', 0, none⟩) (pre.length + 1) c')).putObj l (.loop rec)) Fc' ∧
      (∀ k, Fc' k → Fc k ∨ (W.heap.size ≤ k ∧ k < (w6.setCell ⟨bt, 0, none⟩ (.slice (some ⟨g', 0, none⟩) (pre.length + 1) c')).heap.size)) ∧ Only Fc W ((w6.setCell ⟨bt, 0, none⟩ (.slice (some ⟨g', 0, none⟩) (pre.length + 1) c')).putObj l (.loop rec)) := by
  have s5 : W4.heap.size ≤ u5.heap.size := g5.size
  have s6 : u5.heap.size + 1 ≤ w6.heap.size := by have := HG.size; rwa [World.size_alloc] at this
  have hl4 : l < W4.heap.size := (Array.getElem?_eq_some_iff.1 L4).1
  have nlb : bt ≠ l := fun e => by
    have h1 := HJ.box
    unfold Blk at h1
    rw [e, HJ.loop.1] at h1
    cases h1
  have nlr : (Value.slice ya pre.length yc).ownBlock ≠ some l := fun e => by
    obtain ⟨cs, hc⟩ := ownsRow_type R4 e
    have h1 : W4.drew.heap[l]? = some (.loop lo) := L4
    rw [h1] at hc
    cases hc
  have nbr : (Value.slice ya pre.length yc).ownBlock ≠ some bt := fun e => by
    obtain ⟨cs, hc⟩ := ownsRow_type HJ.row e
    have h1 := HJ.box
    unfold Blk at h1
    rw [h1] at hc
    injection hc with hc
    injection hc with _ hc
    exact absurd hc (by decide)
  have L5 : u5.heap[l]? = some (.loop lo) := (g5.block l hl4 (by simp)).trans L4
  have L6 : w6.heap[l]? = some (.loop lo) := (HG.block l (by rw [World.size_alloc]; omega) (fun e => nlr e.symm)).trans ((Below.heap_alloc u5 _ l (by omega)).trans L5)
  have L7 : (w6.setCell ⟨bt, 0, none⟩ (.slice (some ⟨g', 0, none⟩) (pre.length + 1) c')).heap[l]? = some (.loop lo) := (Below.heap_setCell _ _ _ _ (fun e => nlb e.symm)).trans L6
  have hgl : g' ≠ l := by
    rcases HV with h | h
    · exact fun e => nlr (by rw [← h, e])
    · rw [World.size_alloc] at h; omega
  have hbl : bt < W.heap.size := HJ.box.lt
  have hgb : g' ≠ bt := by
    rcases HV with h | h
    · exact fun e => nbr (by rw [← h, e])
    · rw [World.size_alloc] at h; omega
  have OZ : Only (fun k => k = bt ∨ k = l ∨ (Value.slice ya pre.length yc).ownBlock = some k) W ((w6.setCell ⟨bt, 0, none⟩ (.slice (some ⟨g', 0, none⟩) (pre.length + 1) c')).putObj l (.loop rec)) :=
    (((((OA.mono (fun k _ h => .inr (.inl h))).trans (Only.none (gb_drew (gb_refl W4 none)))).trans (Only.none (gb_alloc g5 _))).trans (Only.of HG (fun k e _ => .inr (.inr e)))).trans (Only.of (gb_setB (gb_refl w6 _) _) (fun k e _ => .inl (by cases e; rfl)))).trans ((only_put _ _ _).mono (fun k _ h => .inr (.inl h)))
  have OZF : Only Fc W ((w6.setCell ⟨bt, 0, none⟩ (.slice (some ⟨g', 0, none⟩) (pre.length + 1) c')).putObj l (.loop rec)) := OZ.mono (fun k _ hk => by
    rcases hk with rfl | rfl | hk
    · exact HJ.fbt
    · exact HJ.fl
    · exact HJ.frow k hk)
  have hs7 : (w6.setCell ⟨bt, 0, none⟩ (.slice (some ⟨g', 0, none⟩) (pre.length + 1) c')).heap.size = w6.heap.size := by simp [World.setCell]
  have V6 : w6.ownsRow 0 2 1 (.slice a5 n c5) n (vals (st pre.length) n) := by
    refine ownsRow_keep (ownsRow_drop V5 (Nat.zero_le _)) (fun k e => ?_)
    have h1 := V5.lt k e
    refine (HG.block k (by rw [World.size_alloc]; omega) (fun e2 => ?_)).trans (Below.heap_alloc u5 _ k h1.2)
    have h2 := (R4.lt k e2.symm).2
    have h3 : W4.drew.heap.size = W4.heap.size := rfl
    omega
  refine ⟨L7, fun k => Fc k ∨ (W.heap.size ≤ k ∧ k < w6.heap.size), ⟨some ⟨g', 0, none⟩, c', us ++ [.slice a5 n c5], ?_⟩, fun k hk => by rw [hs7]; exact hk, OZF⟩
  rw [List.length_append]
  refine js_add HJ (ownsRow_keep V6 (fun k e => ?_)) (fun k e => .inr ?_) OZ FLT ?_ ?_ (World.putObj_heap_same (by simp [World.setCell]; omega)) (fun k hk => .inl hk) ?_
  · have h1 := V5.lt k e
    have h3 : W4.drew.heap.size = W4.heap.size := rfl
    exact (World.putObj_heap_other (by omega)).trans (Below.heap_setCell _ _ _ _ (by dsimp only; omega))
  · have h1 := V5.lt k e
    have h3 : W4.drew.heap.size = W4.heap.size := rfl
    omega
  · exact (B6.set 0 (.slice (some ⟨g', 0, none⟩) (pre.length + 1) c')).keep (World.putObj_heap_other nlb)
  · exact ownsRow_keep HO (fun k e => by cases e; exact (World.putObj_heap_other hgl).trans (Below.heap_setCell _ _ _ _ hgb))
  · rcases HV with h | h
    · exact .inl (HJ.frow g' h.symm)
    · rw [World.size_alloc] at h
      exact .inr ⟨by omega, (HO.lt g' rfl).2⟩

set_option maxHeartbeats 4000000 in
theorem states_any (a1 : Option Addr) (n c1 : Nat) (z : Nat → Int) (a2 : Option Addr) (len cap : Nat) (e : Evs) (w : World) (hZ : IsNums .i64 w a1 n z) (hL : IsEvs w a2 len e) (hn : n ≤ 1000000) (hlen : len ≤ 10000) :
    Calls Try.prog 11 #[.slice a1 n c1, .slice a2 len cap] w fun r w' => ∃ a c us, r = .returned (.slice a us.length c) ∧ Hid (us.length = (cacs e len).length + 1) ∧ Hid (w.grownBy w' none) ∧ Hid (w'.ownsRow w.heap.size 22 1 (.slice a us.length c) us.length us) ∧ Hid (∀ i u, us[i]? = some u → RowAt w' w.heap.size n (stAt z (cacs e len) i) u) := by
  have HZ := Lib.hid hZ
  have HL := Lib.hid hL
  clear hZ hL
  refine (callsIn_wide (n := 5)).1 ?_
  refine callsIn_of_wp_marks Try.func11 rfl trivial ?_ rfl
  simp only [Try.ntmps11, List.size_toArray, List.length_cons, List.length_nil, Nat.reduceAdd, Nat.reduceSub, Array.replicate_succ, Array.replicate_zero, List.push_toArray, List.append_toArray, List.nil_append, List.cons_append]
  have BT := Lib.hid (Blk.made w 25 #[.slice none 0 0])
  have GA := Lib.hid (World.grownBy_alloc w (.cells #[.slice none 0 0] 25) none)
  gi_wp2_with (first | (refine ⟨trivial, ?_⟩; gi_at_call 27; refine (callsIn_wide.2 (states_fn a1 n c1 a2 len cap _)).mono ?_; rintro r u1 ⟨rfl, rfl⟩) | gi_in)
  obtain ⟨i0, hi0, hz00, hz10, hz20⟩ := info_parts infoRow
  have hi := Lib.hid hi0
  have hz0 := Lib.hid hz00
  have hz1 := Lib.hid hz10
  have hz2 := Lib.hid hz20
  clear hi0 hz00 hz10 hz20
  have BF := Lib.hid (Blk.made (w.alloc (.cells #[.slice none 0 0] 25)) 22 #[.slice a1 n c1])
  have BL := Lib.hid (Blk.made ((w.alloc (.cells #[.slice none 0 0] 25)).alloc (.cells #[.slice a1 n c1] 22)) 23 #[.slice a2 len cap])
  have BF2 := Lib.hid (BF.out.alloc (.cells #[.slice a2 len cap] 23))
  have BT2 := Lib.hid ((BT.out.alloc (.cells #[.slice a1 n c1] 22)).alloc (.cells #[.slice a2 len cap] 23))
  have G2 := Lib.hid (gb_alloc (gb_alloc GA.out (.cells #[.slice a1 n c1] 22)) (.cells #[.slice a2 len cap] 23))
  have S2 := Lib.hid (show (((w.alloc (.cells #[.slice none 0 0] 25)).alloc (.cells #[.slice a1 n c1] 22)).alloc (.cells #[.slice a2 len cap] 23)).heap.size = w.heap.size + 3 by simp)
  clear BT GA BF
  generalize ((w.alloc (.cells #[.slice none 0 0] 25)).alloc (.cells #[.slice a1 n c1] 22)).alloc (.cells #[.slice a2 len cap] 23) = u2 at *
  simp only [size_alloc] at BF2 BL
  generalize hbt : w.heap.size = bt at *
  have HBT := Lib.hid hbt
  clear hbt
  generalize hst : stAt z (cacs e len) = st at *
  have HST := Lib.hid hst
  clear hst
  refine wpIn_range_take rfl (by omega) (gf := 43) (bnd := #[]) (lb := #[.pointer (some ⟨bt + 1, 0, none⟩), .pointer (some ⟨bt + 1 + 1, 0, none⟩)]) rfl trivial (enters_of Try.func43 (by kernel_rfl) rfl) ?_
  intro fn hfn rec hrec
  have HREC := Lib.hid hrec
  clear hrec
  have HT : TakesV 3 (u2.heap.size + 1) n st (JS (u2.heap.size + 1) u2.heap.size rec bt n st) := by
    intro pre a c W Fc hJ hall hrow hdis hFl hpre
    obtain ⟨ya, yc, us, J⟩ := hJ
    have HJ := Lib.hid J
    have HROW := Lib.hid hrow
    have HDIS := Lib.hid hdis
    have FLT : Hid (∀ k, Fc k → k < W.heap.size) := Lib.hid hFl
    refine yield_take HREC.out J.loop.1 rfl hfn ?_
    clear J hrow hdis hFl hall
    gi_wp2
    refine ⟨HJ.out.loop.1, ?_⟩
    obtain ⟨W4, hW4⟩ : ∃ W4, W4 = W.putObj (u2.heap.size + 1) (.loop { rec with state := .busy }) := ⟨_, rfl⟩
    rw [← hW4]
    have lt1 := FLT.out _ HJ.out.fl
    have K4 : Hid (∀ k, k ≠ u2.heap.size + 1 → W4.heap[k]? = W.heap[k]?) := Lib.hid (fun k hne => by rw [hW4, World.putObj_heap_other hne])
    have L4 : Hid (W4.heap[u2.heap.size + 1]? = some (.loop { rec with state := .busy })) := Lib.hid (by rw [hW4]; exact World.putObj_heap_same lt1)
    have S4 : Hid (W4.heap.size = W.heap.size) := Lib.hid (by rw [hW4]; simp)
    have OA : Hid (Only (fun k => k = u2.heap.size + 1) W W4) := Lib.hid (by rw [hW4]; exact only_put W _ _)
    clear hW4
    have ncl : ∀ k ty cs, W.heap[k]? = some (.cells cs ty (0, 0)) → k ≠ u2.heap.size + 1 := fun k ty cs hk e => by
      have := HJ.out.loop.1
      rw [← e, hk] at this
      cases this
    have B4 : Hid (Blk 25 W4.drew bt #[.slice ya pre.length yc]) := Lib.hid (HJ.out.box.keep (K4.out _ (ncl _ _ _ HJ.out.box)))
    have R4 : Hid (W4.drew.ownsRow 0 22 1 (.slice ya pre.length yc) pre.length us) := Lib.hid (ownsRow_keep HJ.out.row (fun k e => K4.out k (by obtain ⟨cs, hc⟩ := ownsRow_type HJ.out.row e; exact ncl _ _ _ hc)))
    have NV : Hid (IsNums .i64 W4.drew a n (st pre.length)) := Lib.hid (IsNums.of_own (ownsRow_keep HROW.out (fun k e => K4.out k (by obtain ⟨cs, hc⟩ := ownsRow_type HROW.out e; exact ncl _ _ _ hc))))
    have NBT : Hid ((Value.slice ya pre.length yc).ownBlock ≠ some bt) := Lib.hid (fun e => by
      obtain ⟨cs, hc⟩ := ownsRow_type R4.out e
      have h9 := B4.out
      unfold Blk at h9
      rw [hc] at h9
      injection h9 with h9
      injection h9 with _ h9
      exact absurd h9 (by decide))
    have b4 : W4.drew.cell? ⟨bt, 0, none⟩ = some (.slice ya pre.length yc) := B4.out.cell 0
    gi_wp2_with fail
    refine wpIn_region_round (by kernel_rfl) (by kernel_rfl) ?_
    refine wpAnyIn_ready (rs := [0, 1]) (by kernel_rfl) (by simp) ?_
    refine AllReadyIn.cons rfl (fun K hK => ?_) (AllReadyIn.cons rfl (fun K hK => ?_) AllReadyIn.nil)
    · go_simp; refine hK _ _ ?_; clear hK K
      refine wpAnyIn_ready (rs := [1]) (by kernel_rfl) (by simp) ?_; refine AllReadyIn.cons rfl (fun K hK => ?_) AllReadyIn.nil; go_simp; refine hK _ _ ?_; clear hK K
      refine wpAnyIn_ready (rs := [2]) (by kernel_rfl) (by simp) ?_; refine AllReadyIn.cons rfl (fun K hK => ?_) AllReadyIn.nil; refine stepIn_call rfl 28 #[.slice a n c] (by simp [Act.eval, Act.put, go_sem]) (copied_any a n c (st pre.length) _ NV.out hn) ?_; rintro r5 u5 ⟨a5, c5, rfl, hr5, g5⟩; refine ⟨_, rfl, hK _ _ ?_⟩; clear hK K; have V5 := Lib.hid hr5.out; have G5 := Lib.hid g5.out; have B5 := Lib.hid (B4.out.grown g5.out (by simp)); have R5 := Lib.hid (ownsRow_keep R4.out (fun k e => g5.out.block k (R4.out.lt k e).2 (by simp))); have b5 : u5.cell? ⟨bt, 0, none⟩ = some (.slice ya pre.length yc) := B5.out.cell 0; have b6 : (u5.alloc (.cells #[.slice a5 n c5] 22)).cell? ⟨bt, 0, none⟩ = some (.slice ya pre.length yc) := (B5.out.alloc _).cell 0; clear hr5 g5
      refine wpAnyIn_ready (rs := [3]) (by kernel_rfl) (by simp) ?_; refine AllReadyIn.cons rfl (fun K hK => ?_) AllReadyIn.nil; go_simp; refine hK _ _ ?_; clear hK K
      refine wpAnyIn_ready (rs := [4]) (by kernel_rfl) (by simp) ?_; refine AllReadyIn.cons rfl (fun K hK => ?_) AllReadyIn.nil; refine stepIn_append_at rfl (.tmp 11) (.tmp 14) 25 rfl 0 22 i0 (.slice none 0 0) 1 24 Try.underlying25 hi.out hz0.out hz1.out hz2.out rfl (by decide) (.slice ya pre.length yc) pre.length us rfl (R5.out.alloc _) ⟨u5.heap.size, 0, none⟩ 1 1 [.slice a5 n c5] rfl rfl (new_cells u5 _ _) (by intro u hu; simp at hu; subst hu; rfl) (by unfold maxLen; omega) (by omega) (by simp) (by decide) ?_; intro g' c' w6 ho hg hv; refine hK _ _ ?_; clear hK K; have HO := Lib.hid ho; have HG := Lib.hid hg; have HV := Lib.hid hv; have B6 := Lib.hid ((B5.out.alloc (.cells #[.slice a5 n c5] 22)).grown hg (fun e => NBT.out e.symm)); have b7 : w6.cell? ⟨bt, 0, none⟩ = some (.slice ya pre.length yc) := B6.out.cell 0; have f7 := B6.out.free 0; clear ho hg hv
      refine wpAnyIn_ready (rs := [5]) (by kernel_rfl) (by simp) ?_; refine AllReadyIn.cons rfl (fun K hK => ?_) AllReadyIn.nil; go_simp; refine hK _ _ ?_; clear hK K
      refine wpAnyIn_done (by kernel_rfl) ?_ _; obtain ⟨q1, q2⟩ := js_end (x := .slice a n c) HJ.out FLT.out OA.out L4.out S4.out G5.out V5.out B6.out R4.out HO.out HG.out HV.out; exact ⟨rfl, q1, q2⟩
    · go_simp; refine hK _ _ ?_; clear hK K
      refine wpAnyIn_ready (rs := [0, 2]) (by kernel_rfl) (by simp) ?_
      refine AllReadyIn.cons rfl (fun K hK => ?_) (AllReadyIn.cons rfl (fun K hK => ?_) AllReadyIn.nil)
      · go_simp; refine hK _ _ ?_; clear hK K
        refine wpAnyIn_ready (rs := [2]) (by kernel_rfl) (by simp) ?_; refine AllReadyIn.cons rfl (fun K hK => ?_) AllReadyIn.nil; refine stepIn_call rfl 28 #[.slice a n c] (by simp [Act.eval, Act.put, go_sem]) (copied_any a n c (st pre.length) _ NV.out hn) ?_; rintro r5 u5 ⟨a5, c5, rfl, hr5, g5⟩; refine ⟨_, rfl, hK _ _ ?_⟩; clear hK K; have V5 := Lib.hid hr5.out; have G5 := Lib.hid g5.out; have B5 := Lib.hid (B4.out.grown g5.out (by simp)); have R5 := Lib.hid (ownsRow_keep R4.out (fun k e => g5.out.block k (R4.out.lt k e).2 (by simp))); have b5 : u5.cell? ⟨bt, 0, none⟩ = some (.slice ya pre.length yc) := B5.out.cell 0; have b6 : (u5.alloc (.cells #[.slice a5 n c5] 22)).cell? ⟨bt, 0, none⟩ = some (.slice ya pre.length yc) := (B5.out.alloc _).cell 0; clear hr5 g5
        refine wpAnyIn_ready (rs := [3]) (by kernel_rfl) (by simp) ?_; refine AllReadyIn.cons rfl (fun K hK => ?_) AllReadyIn.nil; go_simp; refine hK _ _ ?_; clear hK K
        refine wpAnyIn_ready (rs := [4]) (by kernel_rfl) (by simp) ?_; refine AllReadyIn.cons rfl (fun K hK => ?_) AllReadyIn.nil; refine stepIn_append_at rfl (.tmp 11) (.tmp 14) 25 rfl 0 22 i0 (.slice none 0 0) 1 24 Try.underlying25 hi.out hz0.out hz1.out hz2.out rfl (by decide) (.slice ya pre.length yc) pre.length us rfl (R5.out.alloc _) ⟨u5.heap.size, 0, none⟩ 1 1 [.slice a5 n c5] rfl rfl (new_cells u5 _ _) (by intro u hu; simp at hu; subst hu; rfl) (by unfold maxLen; omega) (by omega) (by simp) (by decide) ?_; intro g' c' w6 ho hg hv; refine hK _ _ ?_; clear hK K; have HO := Lib.hid ho; have HG := Lib.hid hg; have HV := Lib.hid hv; have B6 := Lib.hid ((B5.out.alloc (.cells #[.slice a5 n c5] 22)).grown hg (fun e => NBT.out e.symm)); have b7 : w6.cell? ⟨bt, 0, none⟩ = some (.slice ya pre.length yc) := B6.out.cell 0; have f7 := B6.out.free 0; clear ho hg hv
        refine wpAnyIn_ready (rs := [5]) (by kernel_rfl) (by simp) ?_; refine AllReadyIn.cons rfl (fun K hK => ?_) AllReadyIn.nil; go_simp; refine hK _ _ ?_; clear hK K
        refine wpAnyIn_done (by kernel_rfl) ?_ _; obtain ⟨q1, q2⟩ := js_end (x := .slice a n c) HJ.out FLT.out OA.out L4.out S4.out G5.out V5.out B6.out R4.out HO.out HG.out HV.out; exact ⟨rfl, q1, q2⟩
      · refine stepIn_call rfl 28 #[.slice a n c] (by simp [Act.eval, Act.put, go_sem]) (copied_any a n c (st pre.length) _ NV.out hn) ?_; rintro r5 u5 ⟨a5, c5, rfl, hr5, g5⟩; refine ⟨_, rfl, hK _ _ ?_⟩; clear hK K; have V5 := Lib.hid hr5.out; have G5 := Lib.hid g5.out; have B5 := Lib.hid (B4.out.grown g5.out (by simp)); have R5 := Lib.hid (ownsRow_keep R4.out (fun k e => g5.out.block k (R4.out.lt k e).2 (by simp))); have b5 : u5.cell? ⟨bt, 0, none⟩ = some (.slice ya pre.length yc) := B5.out.cell 0; have b6 : (u5.alloc (.cells #[.slice a5 n c5] 22)).cell? ⟨bt, 0, none⟩ = some (.slice ya pre.length yc) := (B5.out.alloc _).cell 0; clear hr5 g5
        refine wpAnyIn_ready (rs := [0, 3]) (by kernel_rfl) (by simp) ?_
        refine AllReadyIn.cons rfl (fun K hK => ?_) (AllReadyIn.cons rfl (fun K hK => ?_) AllReadyIn.nil)
        · go_simp; refine hK _ _ ?_; clear hK K
          refine wpAnyIn_ready (rs := [3]) (by kernel_rfl) (by simp) ?_; refine AllReadyIn.cons rfl (fun K hK => ?_) AllReadyIn.nil; go_simp; refine hK _ _ ?_; clear hK K
          refine wpAnyIn_ready (rs := [4]) (by kernel_rfl) (by simp) ?_; refine AllReadyIn.cons rfl (fun K hK => ?_) AllReadyIn.nil; refine stepIn_append_at rfl (.tmp 11) (.tmp 14) 25 rfl 0 22 i0 (.slice none 0 0) 1 24 Try.underlying25 hi.out hz0.out hz1.out hz2.out rfl (by decide) (.slice ya pre.length yc) pre.length us rfl (R5.out.alloc _) ⟨u5.heap.size, 0, none⟩ 1 1 [.slice a5 n c5] rfl rfl (new_cells u5 _ _) (by intro u hu; simp at hu; subst hu; rfl) (by unfold maxLen; omega) (by omega) (by simp) (by decide) ?_; intro g' c' w6 ho hg hv; refine hK _ _ ?_; clear hK K; have HO := Lib.hid ho; have HG := Lib.hid hg; have HV := Lib.hid hv; have B6 := Lib.hid ((B5.out.alloc (.cells #[.slice a5 n c5] 22)).grown hg (fun e => NBT.out e.symm)); have b7 : w6.cell? ⟨bt, 0, none⟩ = some (.slice ya pre.length yc) := B6.out.cell 0; have f7 := B6.out.free 0; clear ho hg hv
          refine wpAnyIn_ready (rs := [5]) (by kernel_rfl) (by simp) ?_; refine AllReadyIn.cons rfl (fun K hK => ?_) AllReadyIn.nil; go_simp; refine hK _ _ ?_; clear hK K
          refine wpAnyIn_done (by kernel_rfl) ?_ _; obtain ⟨q1, q2⟩ := js_end (x := .slice a n c) HJ.out FLT.out OA.out L4.out S4.out G5.out V5.out B6.out R4.out HO.out HG.out HV.out; exact ⟨rfl, q1, q2⟩
        · go_simp; refine hK _ _ ?_; clear hK K
          refine wpAnyIn_ready (rs := [0]) (by kernel_rfl) (by simp) ?_; refine AllReadyIn.cons rfl (fun K hK => ?_) AllReadyIn.nil; go_simp; refine hK _ _ ?_; clear hK K
          refine wpAnyIn_ready (rs := [4]) (by kernel_rfl) (by simp) ?_; refine AllReadyIn.cons rfl (fun K hK => ?_) AllReadyIn.nil; refine stepIn_append_at rfl (.tmp 11) (.tmp 14) 25 rfl 0 22 i0 (.slice none 0 0) 1 24 Try.underlying25 hi.out hz0.out hz1.out hz2.out rfl (by decide) (.slice ya pre.length yc) pre.length us rfl (R5.out.alloc _) ⟨u5.heap.size, 0, none⟩ 1 1 [.slice a5 n c5] rfl rfl (new_cells u5 _ _) (by intro u hu; simp at hu; subst hu; rfl) (by unfold maxLen; omega) (by omega) (by simp) (by decide) ?_; intro g' c' w6 ho hg hv; refine hK _ _ ?_; clear hK K; have HO := Lib.hid ho; have HG := Lib.hid hg; have HV := Lib.hid hv; have B6 := Lib.hid ((B5.out.alloc (.cells #[.slice a5 n c5] 22)).grown hg (fun e => NBT.out e.symm)); have b7 : w6.cell? ⟨bt, 0, none⟩ = some (.slice ya pre.length yc) := B6.out.cell 0; have f7 := B6.out.free 0; clear ho hg hv
          refine wpAnyIn_ready (rs := [5]) (by kernel_rfl) (by simp) ?_; refine AllReadyIn.cons rfl (fun K hK => ?_) AllReadyIn.nil; go_simp; refine hK _ _ ?_; clear hK K
          refine wpAnyIn_done (by kernel_rfl) ?_ _; obtain ⟨q1, q2⟩ := js_end (x := .slice a n c) HJ.out FLT.out OA.out L4.out S4.out G5.out V5.out B6.out R4.out HO.out HG.out HV.out; exact ⟨rfl, q1, q2⟩
  have HT2 := Lib.hid HT
  clear HT
  have hst := HST.out
  subst hst
  refine (states_in 4 (by omega) (u2.heap.size + 1) a1 n c1 z a2 len cap e (bt + 1) (bt + 1 + 1) _ (js_firm (u2.heap.size + 1) u2.heap.size rec bt n _) HT2.out w ((u2.alloc (.deferred (some []))).alloc (.loop rec)) HZ.out HL.out hn hlen ((BF2.out.alloc _).alloc _) ((BL.out.alloc _).alloc _) (fun k => k = bt ∨ (u2.heap.size ≤ k ∧ k < u2.heap.size + 2))
    ⟨none, 0, [], ⟨rfl, (BT2.out.alloc _).alloc _, World.ownsRow_nil _ _ _ _, by simp, ⟨?_, ?_⟩, .inl rfl, .inr ⟨by omega, by omega⟩, .inr ⟨by omega, by omega⟩, (by intro k e; cases e), (by simp)⟩⟩ ?_ ?_ ?_).mono ?_
  · have := World.alloc_heap_new (u2.alloc (.deferred (some []))) (.loop rec)
    rwa [World.size_alloc] at this
  · exact (Below.heap_alloc _ _ _ (by simp)).trans (World.alloc_heap_new u2 _)
  · have hsz := S2.out
    rintro (h | h) <;> omega
  · have hsz := S2.out
    have hbt := HBT.out
    rintro k (rfl | h)
    · exact ⟨by omega, by simp; omega⟩
    · exact ⟨by omega, by simp; omega⟩
  · exact bl_none (Below.refl _ _) (gb_alloc (gb_alloc G2.out _) _)
  rintro r W' ⟨rfl, xs, Fc, a, c, ⟨ya, yc, us, J⟩, hxl, hall, hrow, hfr, hFc, hBel⟩
  refine ⟨⟨_, rfl⟩, J.loop, fun o' => ?_⟩
  obtain ⟨W5, hW5⟩ : ∃ W5, W5 = W'.putObj (u2.heap.size + 1) o' := ⟨_, rfl⟩
  rw [← hW5]
  have ncl : ∀ (k : Nat) (ty : TypeId) (cs : Array Value), W'.heap[k]? = some (.cells cs ty (0, 0)) → W5.heap[k]? = W'.heap[k]? := fun k ty cs hk => by
    rw [hW5]
    refine World.putObj_heap_other (fun e => ?_)
    have := J.loop.1
    rw [← e, hk] at this
    cases this
  have hul := J.len
  have BT5 := Lib.hid (J.box.keep (ncl _ _ _ J.box))
  have RO5 : Hid (W5.ownsRow w.heap.size 22 1 (.slice ya us.length yc) us.length us) := Lib.hid (by
    rw [hul]
    have h := ownsRow_keep (w' := W5) J.row (fun k e => by obtain ⟨cs, hc⟩ := ownsRow_type J.row e; exact ncl _ _ _ hc)
    refine ⟨h.1, h.2.imp id ?_⟩
    rintro ⟨q, cap', cur, e1, _, rest⟩
    exact ⟨q, cap', cur, e1, (hFc q (J.frow q (by rw [e1]; rfl))).1, rest⟩)
  have EA5 : Hid (∀ i u, us[i]? = some u → RowAt W5 w.heap.size n (stAt z (cacs e len) i) u) := Lib.hid (fun i u hu => by
    obtain ⟨a3, c3, e1, h3⟩ := J.each i u hu
    have h := ownsRow_keep (w' := W5) h3 (fun k e => by obtain ⟨cs, hc⟩ := ownsRow_type h3 e; exact ncl _ _ _ hc)
    refine ⟨a3, c3, e1, h.1, h.2.imp id ?_⟩
    rintro ⟨q, cap', cur, e2, _, rest⟩
    exact ⟨q, cap', cur, e2, (hFc q (J.feach u (List.mem_of_getElem? hu) q (by rw [e2]; rfl))).1, rest⟩)
  have BE5 : Hid (Below w.heap.size w W5) := Lib.hid (by rw [hW5]; exact (only_put W' _ o').below hBel hBel.size (fun k hk => by have := S2.out; have := HBT.out; omega))
  have D5 : Hid (W5.heap[u2.heap.size]? = some (.deferred (some []))) := Lib.hid (by rw [hW5, World.putObj_heap_other (by omega)]; exact J.loop.2)
  have ULEN := Lib.hid (show us.length = (cacs e len).length + 1 by rw [hul, hxl])
  have hxu : xs.length = us.length := hul.symm
  rw [hxu] at BT5
  have t0 : W5.cell? ⟨bt, 0, none⟩ = some (.slice ya us.length yc) := BT5.out.cell 0
  clear J hW5 ncl HT2 HREC hxl hall hrow hfr hFc hBel hul hxu
  have ldef : ∀ (k : Nat) (ty : TypeId) (cs : Array Value), W5.heap[k]? = some (.cells cs ty (0, 0)) → (W5.putObj u2.heap.size (.deferred none)).heap[k]? = W5.heap[k]? := fun k ty cs hk => World.putObj_heap_other (fun e => by
    have := D5.out
    rw [← e, hk] at this
    cases this)
  have LDEF := Lib.hid ldef
  clear ldef
  gi_wp2
  refine ⟨by simp, .inl ⟨_, _, rfl, run_takeDeferred D5.out, ?_⟩⟩
  refine ⟨_, results_tmp rfl _ _ _, ya, yc, us, rfl, ULEN.out, gb_of_below ((only_put _ _ _).below BE5.out BE5.out.size (fun k hk => by have := S2.out; have := HBT.out; rw [hk]; omega)), ?_, fun i u hu => ?_⟩
  · exact ownsRow_keep RO5.out (fun k e => by obtain ⟨cs, hc⟩ := ownsRow_type RO5.out e; exact LDEF.out _ _ _ hc)
  · obtain ⟨a3, c3, e1, h3⟩ := EA5.out i u hu
    exact ⟨a3, c3, e1, ownsRow_keep h3 (fun k e => by obtain ⟨cs, hc⟩ := ownsRow_type h3 e; exact LDEF.out _ _ _ hc)⟩
end Go.Proofs.Ytdohepenmejcaaa.md
