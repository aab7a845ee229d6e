/- Package floor: its events: Note, Trace. -/
import Derived.Test.YtnaagcofgnmmlaaFlX
import Derived.Deep.RegionLaw
namespace Go.Proofs.Ytnaagcofgnmmlaa.fl
open Go Go.RowKit Go.Proofs.Ytnaagcofgnmmlaa.base Go.Proofs.Ytnaagcofgnmmlaa.lg
set_option linter.unusedVariables false

theorem infoEv : (Try.prog.info? 139).map (fun i => (i.zero, i.size, i.bytes)) = some (some (.agg #[.int .i64 0, .int .i64 0, .int .i64 0, .int .i64 0, .int .i64 0, .int .i64 0, .int .i64 0]), 7, 56) := by kernel_rfl

theorem appendEv (w : World) {ops : Array Oper} {rest : List Oper} {o : Oper} {a : Act} {Q : Exit → Act → World → Prop}
    (hgd : o.guard = none) (s x : Operand) (hop : o.op = Op.call { callee := Callee.builtin Builtin.append, args := #[s, x], argTypes := #[63, 63] }) (base : Nat)
    (v : Value) (n : Nat) (xs : List Value) (hs : a.eval s = v) (hown : w.ownsRow base 139 7 v n xs)
    (ao : Option Addr) (m c : Nat) (news : List Value) (hx : a.eval x = .slice ao m c) (hl : news.length = m * 7) (hsrc : (m = 0 ∧ news = []) ∨ ∃ ad, ao = some ad ∧ ∀ j u, news[j]? = some u → w.cell? (ad.add j) = some u) (h1c : ∀ u ∈ news, u.oneCell' = true)
    (hn : n + m ≤ 1000000) (hbase : base ≤ w.heap.size)
    (hK : ∀ b' cap w', w'.ownsRow base 139 7 (.slice b' (n + m) cap) (n + m) (xs ++ news) → w.grownBy w' v.ownBlock → ((Value.slice b' (n + m) cap).ownBlock = v.ownBlock ∨ ∃ k, (Value.slice b' (n + m) cap).ownBlock = some k ∧ w.heap.size ≤ k) → wpList Try.prog ops Q rest (a.put o.dst (.slice b' (n + m) cap)) w') :
    wpList Try.prog ops Q (o :: rest) a w := by
  obtain ⟨i0, hi, hz0, hz1, hz2⟩ := info_parts infoEv
  exact wpList_append_any w hgd s x 63 hop base 139 i0 (.agg #[.int .i64 0, .int .i64 0, .int .i64 0, .int .i64 0, .int .i64 0, .int .i64 0, .int .i64 0]) 7 56 Try.underlying63 hi hz0 hz1 hz2 rfl (by decide) v n xs hs hown ao m c news hx hl hsrc h1c (by unfold maxLen; omega) (by omega) hbase hK

/-- What stands at the end, in front. -/
theorem own_behind {w0 : Bas} {w : World} {Z LE R : Blks} : base.Own w0 w ((Z ++ LE) ++ R) ↔ base.Own w0 w (LE ++ (Z ++ R)) := by
  constructor
  · intro h
    rw [List.append_assoc] at h
    exact h.comm
  · intro h
    rw [List.append_assoc]
    exact h.comm

section
variable {w0 : Bas} {w : World} {fb n : Nat} {ds : List Int} {nx : Nat → Nat} {ev : List (Nat → Int)} {C : Core} {R : Blks}

end

end Go.Proofs.Ytnaagcofgnmmlaa.fl
