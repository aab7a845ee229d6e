/- A try on its way (hist's going): where it lies. -/
import Derived.Test.YtdohepenmejcaaaHr
import Derived.Test.YtdohepenmejcaaaRdM
import Derived.Deep.RegionLaw
import Derived.Deep.RegionHeldLaw
import Derived.Deep.CutRange
import Derived.Deep.DeepCutAuto
namespace Go.Proofs.Ytdohepenmejcaaa.hs
open Go Go.RowKit Go.Proofs.Ytdohepenmejcaaa.base Go.Maps
set_option linter.unusedVariables false
set_option maxRecDepth 100000

def accC (a : Acc) : List Value := [.int .i64 a.pl, .int .i64 a.k, .int .i64 a.ob, .int .i64 a.va, .bool a.own, .bool a.rel]
theorem accC_len (a : Acc) : (accC a).length = 6 := rfl
theorem accC_one (l : List Acc) : ∀ u ∈ rows accC l, u.oneCell' = true := by
  intro u hu
  unfold rows at hu
  obtain ⟨a, _, h⟩ := List.mem_flatMap.1 hu
  simp [accC] at h
  rcases h with rfl | rfl | rfl | rfl | rfl | rfl <;> rfl
def trC (t : Tr) (v : Value) : List Value := [.int .i64 t.th, .int .i64 t.tx, .int .i64 t.at_, .int .i64 t.st, .int .i64 t.b, .int .i64 t.en, .int .i64 t.re, .bool t.co, v]

/-- F, and the blocks that are new. -/
def Up (F : Nat → Prop) (w w' : World) : Nat → Prop := fun k => F k ∨ (w.heap.size ≤ k ∧ k < w'.heap.size)
theorem Up.old {F : Nat → Prop} {w w' : World} {k : Nat} (h : F k) : Up F w w' k := .inl h

def wroteV (W : Int → Bool) : Int → Option Value := fun o => if W o then some (.bool true) else none
def natV (n : Nat) : Value := .int .i64 n

/-- Block b is a try on its way, as t says; W says what it wrote, R the places of its readings of an object that aren't released; all of it in the blocks of F. -/
structure GngP (w : World) (F : Nat → Prop) (b : Nat) (t : Tr) (W : Int → Bool) (R : Int → List Nat) (N : Nat) (v : Value) (wm rm : Nat) (rd : Int → Option Value) : Prop where
  blk : Blk 124 w b ⟨trC t v ++ [.map (some wm), .map (some rm)]⟩
  row : w.ownsRow 0 54 6 v t.ac.length (rows accC t.ac)
  wmap : MapG Try.prog 3 (Value.int .i64) w wm N (wroteV W)
  rmap : MapG Try.prog 3 (Value.int .i64) w rm N rd
  nope : ∀ o, rd o = none → R o = []
  lst : ∀ o u, rd o = some u → w.ownsRow 0 3 1 u (R o).length ((R o).map natV)
  ne : wm ≠ rm
  apart : ∀ o p u x k, rd o = some u → rd p = some x → u.ownBlock = some k → x.ownBlock = some k → o = p
  fb : F b
  fv : ∀ k, v.ownBlock = some k → F k
  fw : F wm
  fr : F rm
  frd : ∀ o u k, rd o = some u → u.ownBlock = some k → F k

def Gng (w : World) (F : Nat → Prop) (b : Nat) (t : Tr) (W : Int → Bool) (R : Int → List Nat) (N : Nat) : Prop := ∃ v wm rm rd, GngP w F b t W R N v wm rm rd

section
variable {w w' : World} {F G : Nat → Prop} {b : Nat} {t : Tr} {W : Int → Bool} {R : Int → List Nat} {N : Nat} {v : Value} {wm rm : Nat} {rd : Int → Option Value}
theorem GngP.keep (h : GngP w F b t W R N v wm rm rd) (hk : ∀ k, F k → w'.heap[k]? = w.heap[k]?) (hG : ∀ k, F k → G k) : GngP w' G b t W R N v wm rm rd :=
  ⟨h.blk.keep (hk _ h.fb), ownsRow_keep h.row (fun k e => hk _ (h.fv k e)), h.wmap.keep (hk _ h.fw), h.rmap.keep (hk _ h.fr), h.nope, fun o u e => ownsRow_keep (h.lst o u e) (fun k e2 => hk _ (h.frd o u k e e2)), h.ne, h.apart, hG _ h.fb, fun k e => hG _ (h.fv k e), hG _ h.fw, hG _ h.fr, fun o u k e e2 => hG _ (h.frd o u k e e2)⟩
theorem Gng.keep (h : Gng w F b t W R N) (hk : ∀ k, F k → w'.heap[k]? = w.heap[k]?) : Gng w' F b t W R N := by
  obtain ⟨v, wm, rm, rd, h⟩ := h
  exact ⟨v, wm, rm, rd, h.keep hk (fun _ h => h)⟩
theorem GngP.v_lt (h : GngP w F b t W R N v wm rm rd) : ∀ k, v.ownBlock = some k → k < w.heap.size := fun k e => (h.row.lt k e).2
theorem GngP.v_ne (h : GngP w F b t W R N v wm rm rd) : ∀ k, v.ownBlock = some k → k ≠ b ∧ k ≠ wm ∧ k ≠ rm := fun k e => by
  obtain ⟨cs, hc⟩ := ownsRow_type h.row e
  refine ⟨fun e2 => ?_, fun e2 => ?_, fun e2 => ?_⟩
  · have := h.blk
    unfold Blk at this
    rw [← e2, hc] at this
    cases this
  · exact h.wmap.not_cells (e2 ▸ hc)
  · exact h.rmap.not_cells (e2 ▸ hc)
theorem GngP.rd_ne (h : GngP w F b t W R N v wm rm rd) {o : Int} {u : Value} (hu : rd o = some u) : ∀ k, u.ownBlock = some k → k ≠ b ∧ k ≠ wm ∧ k ≠ rm ∧ v.ownBlock ≠ some k ∧ k < w.heap.size := fun k e => by
  have hs := h.lst o u hu
  obtain ⟨cs, hc⟩ := ownsRow_type hs e
  refine ⟨fun e2 => ?_, fun e2 => ?_, fun e2 => ?_, fun e2 => ?_, (hs.lt k e).2⟩
  · have := h.blk
    unfold Blk at this
    rw [← e2, hc] at this
    cases this
  · exact h.wmap.not_cells (e2 ▸ hc)
  · exact h.rmap.not_cells (e2 ▸ hc)
  · obtain ⟨ds, hd⟩ := ownsRow_type h.row e2
    rw [hc] at hd
    cases hd
theorem GngP.wm_ne (h : GngP w F b t W R N v wm rm rd) : wm ≠ b := h.wmap.ne_blk h.blk
theorem GngP.rm_ne (h : GngP w F b t W R N v wm rm rd) : rm ≠ b := h.rmap.ne_blk h.blk
end

theorem owns_slice {w : World} {base : Nat} {e : TypeId} {sz : Nat} {v : Value} {n : Nat} {xs : List Value} (h : w.ownsRow base e sz v n xs) : ∃ a c, v = .slice a n c := by
  rcases h.2 with ⟨rfl, rfl⟩ | ⟨g, cap, cur, rfl, _⟩
  · exact ⟨none, 0, rfl⟩
  · exact ⟨_, cap, rfl⟩

/-- The struct and its accesses were changed. -/
theorem GngP.change {w w' : World} {F : Nat → Prop} {b : Nat} {t t' : Tr} {W : Int → Bool} {R : Int → List Nat} {N : Nat} {v v' : Value} {wm rm : Nat} {rd : Int → Option Value}
    (h : GngP w F b t W R N v wm rm rd) (hw : Only (fun k => k = b ∨ v.ownBlock = some k) w w') (hb : Blk 124 w' b ⟨trC t' v' ++ [.map (some wm), .map (some rm)]⟩) (hr : w'.ownsRow 0 54 6 v' t'.ac.length (rows accC t'.ac))
    (hv : v'.ownBlock = v.ownBlock ∨ ∃ k, v'.ownBlock = some k ∧ w.heap.size ≤ k) : GngP w' (Up F w w') b t' W R N v' wm rm rd ∧ Only F w w' := by
  refine ⟨⟨hb, hr, h.wmap.keep (hw.block _ h.wmap.lt ?_), h.rmap.keep (hw.block _ h.rmap.lt ?_), h.nope, fun o u e => ownsRow_keep (h.lst o u e) (fun k e2 => hw.block _ (h.rd_ne e k e2).2.2.2.2 ?_), h.ne, h.apart, .inl h.fb, fun k e => ?_, .inl h.fw, .inl h.fr, fun o u k e e2 => .inl (h.frd o u k e e2)⟩, hw.mono fun k _ hk => ?_⟩
  · rintro (e | e)
    · exact h.wm_ne e
    · exact (h.v_ne _ e).2.1 rfl
  · rintro (e | e)
    · exact h.rm_ne e
    · exact (h.v_ne _ e).2.2 rfl
  · rintro (e3 | e3)
    · exact (h.rd_ne e k e2).1 e3
    · exact (h.rd_ne e k e2).2.2.2.1 e3
  · rcases hv with hv | ⟨k', hv, hk'⟩
    · exact .inl (h.fv k (hv ▸ e))
    · rw [e] at hv
      cases hv
      exact .inr ⟨hk', (hr.lt k e).2⟩
  · rcases hk with rfl | e
    · exact h.fb
    · exact h.fv k e

end Go.Proofs.Ytdohepenmejcaaa.hs
