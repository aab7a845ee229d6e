/- Two rows of operations, one behind the other. -/
import Derived.Test.YtjajhkgbhckdeaaStr
namespace Go.Proofs.Ytjajhkgbhckdeaa.lg
open Go Go.RowKit Go.Proofs.Ytjajhkgbhckdeaa.base
set_option linter.unusedVariables false

/-- la of za, and then those of zb. -/
def cat (za : Nat → Nat → Int) (la : Nat) (zb : Nat → Nat → Int) (i j : Nat) : Int := if i < la then za i j else zb (i - la) j
theorem cat_lt {za zb : Nat → Nat → Int} {la i : Nat} (h : i < la) (j : Nat) : cat za la zb i j = za i j := by simp [cat, h]
theorem cat_ge {za zb : Nat → Nat → Int} {la : Nat} (i j : Nat) : cat za la zb (la + i) j = zb i j := by simp [cat, show ¬ la + i < la by omega]
theorem ops_cat (za : Nat → Nat → Int) (la : Nat) (zb : Nat → Nat → Int) (lb : Nat) : ops (cat za la zb) (la + lb) = ops za la ++ ops zb lb := by
  induction lb with
  | zero =>
    rw [Nat.add_zero, ops_congr (fun i j hi _ => cat_lt (za := za) (zb := zb) hi j)]
    simp [ops]
  | succ lb ih =>
    rw [← Nat.add_assoc, ops_succ, ih, ops_succ, List.append_assoc]
    simp only [opc, cat_ge]
theorem opens_congr {z z' : Nat → Nat → Int} {n : Nat} (h : ∀ i, i < n → z i 0 = z' i 0) : opens z n = opens z' n := by
  induction n with
  | zero => rfl
  | succ n ih => rw [opens, opens, ih (fun i hi => h i (by omega)), h n (by omega)]
theorem opens_cat (za : Nat → Nat → Int) (la : Nat) (zb : Nat → Nat → Int) (lb : Nat) : opens (cat za la zb) (la + lb) = opens za la + opens zb lb := by
  induction lb with
  | zero => rw [Nat.add_zero, opens_congr (fun i hi => cat_lt (za := za) (zb := zb) hi 0)]; simp [opens]
  | succ lb ih =>
    rw [← Nat.add_assoc, opens, ih, opens, cat_ge]
    omega
theorem pb_cat_lt {za zb : Nat → Nat → Int} {la i : Nat} (h : i < la * 3) : pb (cat za la zb) i = pb za i := by
  unfold pb
  rw [cat_lt (by omega)]
theorem pb_cat_ge {za zb : Nat → Nat → Int} {la : Nat} (i : Nat) : pb (cat za la zb) (la * 3 + i) = pb zb i := by
  unfold pb
  rw [show (la * 3 + i) / 3 = la + i / 3 by omega, show (la * 3 + i) % 3 = i % 3 by omega, cat_ge]
theorem bs_cat (za : Nat → Nat → Int) (la : Nat) (zb : Nat → Nat → Int) (lb : Nat) : bs (pb (cat za la zb)) ((la + lb) * 3) = bs (pb za) (la * 3) ++ bs (pb zb) (lb * 3) := by
  rw [Nat.add_mul, bs_add, bs_congr (fun i hi => pb_cat_lt (za := za) (zb := zb) hi), bs_congr (n := lb * 3) (fun i _ => pb_cat_ge (za := za) (zb := zb) i)]
theorem gz_cat (za : Nat → Nat → Int) (la : Nat) (zb : Nat → Nat → Int) (i j : Nat) (hj : j < 3) : gz (pb (cat za la zb)) i j = cat (gz (pb za)) la (gz (pb zb)) i j := by
  rw [gzpb _ _ _ hj]
  by_cases h : i < la
  · rw [cat_lt h, cat_lt h, cat_lt h, gzpb _ _ _ hj]
  · obtain ⟨k, rfl⟩ : ∃ k, i = la + k := ⟨i - la, by omega⟩
    rw [cat_ge, cat_ge, cat_ge, gzpb _ _ _ hj]
theorem gz_cat_lt {za zb : Nat → Nat → Int} {la i : Nat} (h : i < la) (j : Nat) (hj : j < 3) : gz (pb (cat za la zb)) i j = gz (pb za) i j := by rw [gz_cat _ _ _ _ _ hj, cat_lt h]
theorem gz_cat_ge {za zb : Nat → Nat → Int} {la : Nat} (i : Nat) (j : Nat) (hj : j < 3) : gz (pb (cat za la zb)) (la + i) j = gz (pb zb) i j := by rw [gz_cat _ _ _ _ _ hj, cat_ge]
theorem okN_cat {za zb : Nat → Nat → Int} {la k : Nat} {n : Int} (ha : okN (gz (pb za)) n la = true) (hb : okN (gz (pb zb)) n k = true) : okN (gz (pb (cat za la zb))) n (la + k) = true :=
  okN_of fun i hi => by
    by_cases h : i < la
    · rw [gz_cat_lt h 0 (by omega), gz_cat_lt h 1 (by omega), gz_cat_lt h 2 (by omega)]
      exact okN_at ha h
    · obtain ⟨j, rfl⟩ : ∃ j, i = la + j := ⟨i - la, by omega⟩
      rw [gz_cat_ge j 0 (by omega), gz_cat_ge j 1 (by omega), gz_cat_ge j 2 (by omega)]
      exact okN_at hb (by omega)

/-- Both are got: so is the row of both. -/
theorem cat_A {za zb : Nat → Nat → Int} {la lb : Nat} {n : Int} (ha : okN (gz (pb za)) n la = true) (hb : okN (gz (pb zb)) n lb = true) : GA (pb (cat za la zb)) ((la + lb) * 3) n (la + lb) := ⟨rfl, okN_cat ha hb⟩
/-- The first one is not. -/
theorem first_C {za : Nat → Nat → Int} {la : Nat} {n : Int} (ha : okN (gz (pb za)) n la = false) : ∃ m, m < la ∧ GC (pb za) (la * 3) n m := by
  obtain ⟨m, hm, h1, h2⟩ := okN_first ha
  exact ⟨m, hm, by omega, h1, h2⟩
theorem cat_C1 {za zb : Nat → Nat → Int} {la lb m : Nat} {n : Int} (hm : m < la) (h : GC (pb za) (la * 3) n m) : GC (pb (cat za la zb)) ((la + lb) * 3) n m := by
  obtain ⟨h1, h2, h3⟩ := h
  refine ⟨by omega, okN_of fun i hi => ?_, ?_⟩
  · rw [gz_cat_lt (by omega) 0 (by omega), gz_cat_lt (by omega) 1 (by omega), gz_cat_lt (by omega) 2 (by omega)]
    exact okN_at h2 hi
  · rw [gz_cat_lt hm 0 (by omega), gz_cat_lt hm 1 (by omega), gz_cat_lt hm 2 (by omega)]
    exact h3
theorem cat_C2 {za zb : Nat → Nat → Int} {la lb m : Nat} {n : Int} (ha : okN (gz (pb za)) n la = true) (hm : m < lb) (h : GC (pb zb) (lb * 3) n m) : GC (pb (cat za la zb)) ((la + lb) * 3) n (la + m) := by
  obtain ⟨h1, h2, h3⟩ := h
  refine ⟨by omega, okN_cat ha h2, ?_⟩
  rw [gz_cat_ge m 0 (by omega), gz_cat_ge m 1 (by omega), gz_cat_ge m 2 (by omega)]
  exact h3

/-- append, where a guard lets it. -/
theorem appendOpG (w : World) {ops : Array Oper} {rest : List Oper} {o : Oper} {a : Act} {Q : Exit → Act → World → Prop}
    (hw : Region.wanted o (yielded ops a.tmps) = true) (s x : Operand) (hop : o.op = Op.call { callee := Callee.builtin Builtin.append, args := #[s, x], argTypes := #[22, 22] }) (base : Nat)
    (v : Value) (n : Nat) (xs : List Value) (hs : a.eval s = v) (hown : w.ownsRow base 24 3 v n xs)
    (ao : Option Addr) (m c : Nat) (news : List Value) (hx : a.eval x = .slice ao m c) (hl : news.length = m * 3) (hsrc : (m = 0 ∧ news = []) ∨ ∃ ad, ao = some ad ∧ ∀ j u, news[j]? = some u → w.cell? (ad.add j) = some u) (h1c : ∀ u ∈ news, u.oneCell' = true)
    (hn : n + m ≤ 1000000) (hbase : base ≤ w.heap.size)
    (hK : ∀ b' cap w', w'.ownsRow base 24 3 (.slice b' (n + m) cap) (n + m) (xs ++ news) → w.grownBy w' v.ownBlock → ((Value.slice b' (n + m) cap).ownBlock = v.ownBlock ∨ ∃ k, (Value.slice b' (n + m) cap).ownBlock = some k ∧ w.heap.size ≤ k) → wpList Try.prog ops Q rest (a.put o.dst (.slice b' (n + m) cap)) w') :
    wpList Try.prog ops Q (o :: rest) a w := by
  refine wpList_step fun K hK' => ?_
  rw [if_pos hw]
  obtain ⟨i0, hi, hz0, hz1, hz2⟩ := info_parts infoOp
  obtain ⟨v', w', hrun, r1, r2, r3⟩ := run_append_any (P := Try.prog) w base 22 o.type 24 i0 (.agg #[.int .i64 0, .int .i64 0, .int .i64 0]) 3 24 Try.underlying22 hi hz0 hz1 hz2 rfl (by decide) v n xs hown ao m c news hl hsrc h1c (by unfold maxLen; omega) (by omega) hbase
  obtain ⟨b', cap, rfl⟩ : ∃ b' cap, v' = .slice b' (n + m) cap := by
    rcases r1.2 with ⟨rfl, h0⟩ | ⟨g, cap, cur, rfl, _⟩
    · exact ⟨none, 0, by rw [h0]⟩
    · exact ⟨_, cap, rfl⟩
  unfold Oper.wp
  simp [execOp, hop, resolve, invoke, builtin, hs, hx, hrun, Result.andThen]
  exact hK' _ _ (hK b' cap w' r1 r2 r3)
end Go.Proofs.Ytjajhkgbhckdeaa.lg
