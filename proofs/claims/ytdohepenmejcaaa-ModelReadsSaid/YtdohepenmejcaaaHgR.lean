/- A try on its way: readings are released. -/
import Derived.Test.YtdohepenmejcaaaHg
namespace Go.Proofs.Ytdohepenmejcaaa.hs
open Go Go.RowKit Go.Proofs.Ytdohepenmejcaaa.base Go.Maps
set_option linter.unusedVariables false
set_option maxRecDepth 100000

theorem ownsRow_set {w : World} {base : Nat} {e : TypeId} {sz g n cap : Nat} {xs : List Value} (h : w.ownsRow base e sz (.slice (some ⟨g, 0, none⟩) n cap) n xs) (j : Nat) (hj : j < n * sz) (u : Value) : (w.setCell ⟨g, j, none⟩ u).ownsRow base e sz (.slice (some ⟨g, 0, none⟩) n cap) n (xs.set j u) := by
  obtain ⟨h1, h2⟩ := h
  refine ⟨by simpa using h1, ?_⟩
  rcases h2 with ⟨h2, _⟩ | ⟨g', cap', cur, h2, h3, h4, h5, h6, h7, h8⟩
  · cases h2
  · cases h2
    refine .inr ⟨g, cap, cur.setIfInBounds j u, rfl, h3, Blk.set (t := e) h4 j u, h5, h6, by simpa using h7, ?_⟩
    rw [Array.toList_setIfInBounds, List.take_set, h8]

def setRel (l : List Acc) (n : Nat) : List Acc := l.modify n fun a => { a with rel := true }
def relAt (l : List Acc) (ns : List Nat) : List Acc := ns.foldl setRel l
theorem setRel_len (l : List Acc) (n : Nat) : (setRel l n).length = l.length := by simp [setRel]
theorem relAt_len (ns : List Nat) : ∀ l : List Acc, (relAt l ns).length = l.length := by
  induction ns with
  | nil => intro l; rfl
  | cons n ns ih => intro l; unfold relAt; rw [List.foldl_cons]; exact (ih _).trans (setRel_len l n)
theorem relAt_snoc (l : List Acc) (ns : List Nat) (n : Nat) : relAt l (ns ++ [n]) = setRel (relAt l ns) n := by simp [relAt]
theorem relAt_append (l : List Acc) (ns ms : List Nat) : relAt l (ns ++ ms) = relAt (relAt l ns) ms := by simp [relAt]
theorem rows_setRel : ∀ (l : List Acc) (n : Nat), n < l.length → rows accC (setRel l n) = (rows accC l).set (n * 6 + 5) (.bool true)
  | [], _, h => by simp at h
  | a :: l, 0, _ => by
    simp [setRel, rows, accC]
  | a :: l, n + 1, h => by
    have ih := rows_setRel l n (by simpa using h)
    have e1 : setRel (a :: l) (n + 1) = a :: setRel l n := by simp [setRel]
    rw [e1, show rows accC (a :: setRel l n) = accC a ++ rows accC (setRel l n) from by simp [rows], ih, show rows accC (a :: l) = accC a ++ rows accC l from by simp [rows], List.set_append_right _ _ (by rw [accC_len]; omega)]
    congr 2
    rw [accC_len]
    omega

def updR (R : Int → List Nat) (o : Int) : Int → List Nat := fun p => if p = o then [] else R p

/-- A key is struck from the readings. -/
theorem GngP.strike {w w' : World} {F : Nat → Prop} {b : Nat} {t : Tr} {W : Int → Bool} {R : Int → List Nat} {N : Nat} {v : Value} {wm rm : Nat} {rd : Int → Option Value} (h : GngP w F b t W R N v wm rm rd) (o : Int)
    (hm : MapG Try.prog 3 (Value.int .i64) w' rm N (upd rd o none)) (g : w.grownBy w' (some rm)) : GngP w' F b t W (updR R o) N v wm rm (upd rd o none) ∧ Only F w w' := by
  refine ⟨⟨h.blk.grown g (by simp; exact fun e => h.rm_ne e.symm), ownsRow_keep h.row (fun k e => g.block k (h.v_lt k e) (by simp; exact (h.v_ne k e).2.2)), h.wmap.grown g (by simp; exact h.ne), hm, fun p hp => ?_, fun p u hp => ?_, h.ne, fun p q u x k hp hq => ?_, h.fb, h.fv, h.fw, h.fr, fun p u k hp => ?_⟩, Only.of g (fun k e _ => by cases e; exact h.fr)⟩
  · by_cases e : p = o
    · simp [updR, e]
    · rw [upd_other _ _ e] at hp
      simp only [updR, if_neg e]
      exact h.nope p hp
  · by_cases e : p = o
    · subst e
      rw [upd_same] at hp
      cases hp
    · rw [upd_other _ _ e] at hp
      simp only [updR, if_neg e]
      exact ownsRow_keep (h.lst p u hp) (fun k e2 => g.block k (h.rd_ne hp k e2).2.2.2.2 (by simp; exact (h.rd_ne hp k e2).2.2.1))
  · by_cases e : p = o
    · subst e
      rw [upd_same] at hp
      cases hp
    · by_cases e' : q = o
      · subst e'
        rw [upd_same] at hq
        cases hq
      · rw [upd_other _ _ e] at hp
        rw [upd_other _ _ e'] at hq
        exact h.apart p q u x k hp hq
  · by_cases e : p = o
    · subst e
      rw [upd_same] at hp
      cases hp
    · rw [upd_other _ _ e] at hp
      exact h.frd p u k hp

theorem zeroL (w : World) : (zeroValue 129).run Try.prog w = .ok (.slice none 0 0) w := by kernel_rfl

set_option maxHeartbeats 1000000 in
theorem release_any (w : World) (F : Nat → Prop) (b : Nat) (t : Tr) (W : Int → Bool) (R : Int → List Nat) (N : Nat) (o : Int) (ho : (Lit.int .i64 o).wf = true) (h : Gng w F b t W R N) (hR : ∀ n ∈ R o, n < t.ac.length) (hm : t.ac.length ≤ 1000000) (hl : (R o).length ≤ 1000000) :
    Calls Try.prog 66 #[.pointer (some ⟨b, 0, none⟩), .int .i64 o] w fun r w' => r = .returned (.tuple #[]) ∧ Hid (Gng w' F b { t with ac := relAt t.ac (R o) } W (updR R o) N) ∧ Hid (Only F w w') := by
  obtain ⟨v, wm, rm, rd, h0⟩ := h
  obtain ⟨u, hu, hrow⟩ : ∃ u, (rd o).getD (.slice none 0 0) = u ∧ w.ownsRow 0 3 1 u (R o).length ((R o).map natV) := by
    cases e : rd o with
    | none => exact ⟨_, rfl, by rw [h0.nope o e]; exact World.ownsRow_nil _ _ _ _⟩
    | some u => exact ⟨u, rfl, h0.lst o u e⟩
  obtain ⟨a, c, rfl⟩ := owns_slice hrow
  have H := Lib.hid h0
  have HO := Lib.hid ho
  have HR := Lib.hid hR
  have HU := Lib.hid hu
  clear hu
  have c10 : w.cell? ⟨b, 10, none⟩ = some (.map (some rm)) := h0.blk.cell 10
  by_cases hz : R o = []
  · have hz0 : (R o).length = 0 := by rw [hz]; rfl
    rw [hz0] at HU
    have HN := Lib.hid hz0.symm
    clear h0 hrow ho hR hl hz hz0
    go_enter Try.func66, Try.ntmps66
    go_wp2_with (first | (at_lookup; refine wpList_get_mapG rfl _ _ 122 rfl 3 129 kInt Try.underlying122 _ (zeroL _) (Value.int .i64) rm N rd rfl H.out.rmap o _ rfl (keyInt HO.out) (.slice a 0 c) HU.out ?_) | go_in)
    go_loopw [13] (fun iv wr => ∃ (k : Nat) (ac : List Acc), k ≤ 0 ∧ iv = .int .i64 k ∧ Hid (ac = relAt t.ac ((R o).take k)) ∧ Hid (GngP wr F b { t with ac := ac } W R N (v) wm rm rd) ∧ Hid (Only F w wr)) (fun iv _ => (0 - intOf iv).toNat)
    case atStart => exact ⟨0, t.ac, by omega, rfl, rfl, H, Only.refl _ _⟩
    case round =>
      obtain ⟨k, ac, hk, rfl, HA, HP, HW⟩ := hrel
      have c10 : wr.cell? ⟨b, 10, none⟩ = some (.map (some rm)) := HP.out.blk.cell 10
      obtain rfl : k = 0 := by omega
      have HF := Lib.hid (show ac = relAt t.ac (R o) by rw [HA.out, HN.out, List.take_length])
      go_wp2_with (first | (at_delete; refine wpList_del_mapG rfl _ _ 122 3 rfl 129 kInt (Value.int .i64) vint_inj Try.underlying122 rm N rd rfl HP.out.rmap o _ rfl (keyInt HO.out) ?_; intro u1 m1 g1) | go_in)
      go_end0
      obtain ⟨q1, q2⟩ := HP.out.strike o m1 g1
      rw [HF.out] at q1
      exact ⟨rfl, ⟨_, _, _, _, q1⟩, HW.out.trans q2⟩
  · have hr : ∃ u, rd o = some u := by
      cases e : rd o with
      | none => exact absurd (h0.nope o e) hz
      | some u => exact ⟨u, rfl⟩
    obtain ⟨u', hr⟩ := hr
    rw [hr] at HU
    obtain rfl : u' = .slice a (R o).length c := HU.out
    obtain ⟨n, hn⟩ : ∃ n, n = (R o).length := ⟨_, rfl⟩
    have hn0 : 0 < n := by rw [hn]; exact List.length_pos_iff.2 hz
    obtain ⟨g2, rfl⟩ : ∃ g2, a = some ⟨g2, 0, none⟩ := by
      rcases hrow.2 with ⟨_, e2⟩ | ⟨g2, cap, cur, e1, _⟩
      · omega
      · cases e1
        exact ⟨g2, rfl⟩
    obtain ⟨g3, cv, rfl⟩ : ∃ g3 cv, v = .slice (some ⟨g3, 0, none⟩) t.ac.length cv := by
      rcases h0.row.2 with ⟨_, e2⟩ | ⟨g3, cv, cur, e1, _⟩
      · have : 0 < t.ac.length := by
          obtain ⟨m, hm'⟩ := List.exists_mem_of_ne_nil _ hz
          have := hR m hm'
          omega
        omega
      · exact ⟨g3, cv, e1⟩
    rw [← hr] at HU
    have HRD := Lib.hid hr
    have HN := Lib.hid hn
    rw [← hn] at hl HU HRD
    clear h0 hrow ho hR hz hr hn
    go_enter Try.func66, Try.ntmps66
    go_wp2_with (first | (at_lookup; refine wpList_get_mapG rfl _ _ 122 rfl 3 129 kInt Try.underlying122 _ (zeroL _) (Value.int .i64) rm N rd rfl H.out.rmap o _ rfl (keyInt HO.out) (.slice (some ⟨g2, 0, none⟩) n c) HU.out ?_) | go_in)
    go_loopw [13] (fun iv wr => ∃ (k : Nat) (ac : List Acc), k ≤ n ∧ iv = .int .i64 k ∧ Hid (ac = relAt t.ac ((R o).take k)) ∧ Hid (GngP wr F b { t with ac := ac } W R N (.slice (some ⟨g3, 0, none⟩) t.ac.length cv) wm rm rd) ∧ Hid (Only F w wr)) (fun iv _ => (n - intOf iv).toNat)
    case atStart => exact ⟨0, t.ac, by omega, rfl, rfl, H, Only.refl _ _⟩
    case round =>
      obtain ⟨k, ac, hk, rfl, HA, HP, HW⟩ := hrel
      have c10 : wr.cell? ⟨b, 10, none⟩ = some (.map (some rm)) := HP.out.blk.cell 10
      by_cases hlt : k < n
      · obtain ⟨m, hm1, hm2⟩ : ∃ m, (R o)[k]? = some m ∧ m < t.ac.length := by
          have h1 : k < (R o).length := by rw [← HN.out]; exact hlt
          exact ⟨_, List.getElem?_eq_getElem h1, HR.out _ (List.getElem_mem h1)⟩
        have hlt' : (k : Int) < (n : Int) := by omega
        have hkn : (k : Int) < 1000000 := by omega
        have hm3 : (m : Int) < (t.ac.length : Int) := by omega
        have hm4 : (m : Int) < 1000000 := by omega
        have hm0 : (0 : Int) ≤ (m : Int) := by omega
        have hacl : ac.length = t.ac.length := by rw [HA.out]; exact relAt_len _ _
        have RW2 := Lib.hid (show wr.ownsRow 0 3 1 (.slice (some ⟨g2, 0, none⟩) n c) n ((R o).map natV) by
          have := HP.out.lst o _ HRD.out
          rwa [← HN.out] at this)
        have d0 : wr.cell? ⟨g2, k, none⟩ = some (.int .i64 m) := by
          have := RW2.out.cells (g := g2) rfl k (natV m) (by simp [hm1])
          rw [add_eq] at this
          simpa [natV] using this
        have c8 : wr.cell? ⟨b, 8, none⟩ = some (.slice (some ⟨g3, 0, none⟩) t.ac.length cv) := HP.out.blk.cell 8
        have ROW := Lib.hid HP.out.row
        have hrl : (rows accC ac).length = t.ac.length * 6 := by rw [rows_length accC_len, hacl]
        have d5 : ∃ u, wr.cell? ⟨g3, m * 6 + 5, none⟩ = some u := by
          have := HP.out.row.cells (g := g3) rfl (m * 6 + 5) _ (List.getElem?_eq_getElem (by rw [hrl]; omega))
          rw [add_eq] at this
          exact ⟨_, by simpa using this⟩
        obtain ⟨u5, d5⟩ := d5
        have f0 : wr.frozen? ⟨g3, m * 6 + 5, none⟩ = false := by
          obtain ⟨cs, hc⟩ := ownsRow_type HP.out.row (k := g3) rfl
          exact Blk.free (t := 54) hc _
        go_wp2
        go_roundw
        case rel =>
          have hsz : (wr.setCell ⟨g3, m * 6 + 5, none⟩ (.bool true)).heap.size = wr.heap.size := by simp [World.setCell]
          have gb1 : wr.grownBy (wr.setCell ⟨g3, m * 6 + 5, none⟩ (.bool true)) (some g3) := gb_setB (gb_refl _ _) _
          have hne := (HP.out.v_ne g3 rfl).1
          obtain ⟨q1, q2⟩ := HP.out.change (t' := { t with ac := setRel ac m }) (Only.of gb1 (fun k e _ => .inr e)) (HP.out.blk.grown gb1 (by simp; exact fun e => hne e.symm)) (by
            have h1 := HP.out.row
            have h2 : ac.length = (setRel ac m).length := (setRel_len _ _).symm
            show World.ownsRow _ 0 _ 6 _ (setRel ac m).length (rows accC (setRel ac m))
            rw [rows_setRel _ _ (by rw [hacl]; exact hm2), ← h2]
            have h3 : (Value.slice (some ⟨g3, 0, none⟩) t.ac.length cv) = .slice (some ⟨g3, 0, none⟩) ac.length cv := by rw [hacl]
            rw [h3] at h1 ⊢
            exact ownsRow_set h1 _ (by rw [hacl]; omega) _) (.inl rfl)
          refine ⟨k + 1, setRel ac m, by omega, by go_num, ?_, q1.keep (fun _ _ => rfl) (fun k' h' => h'.elim id (by rw [hsz]; omega)), HW.out.trans q2⟩
          rw [List.take_add_one, hm1, relAt_append, ← HA.out]
          rfl
        case measure => simp [intOf]; omega
      · obtain rfl : k = n := by omega
        have HF := Lib.hid (show ac = relAt t.ac (R o) by rw [HA.out, HN.out, List.take_length])
        go_wp2_with (first | (at_delete; refine wpList_del_mapG rfl _ _ 122 3 rfl 129 kInt (Value.int .i64) vint_inj Try.underlying122 rm N rd rfl HP.out.rmap o _ rfl (keyInt HO.out) ?_; intro u1 m1 g1) | go_in)
        go_end0
        obtain ⟨q1, q2⟩ := HP.out.strike o m1 g1
        rw [HF.out] at q1
        exact ⟨rfl, ⟨_, _, _, _, q1⟩, HW.out.trans q2⟩
end Go.Proofs.Ytdohepenmejcaaa.hs
