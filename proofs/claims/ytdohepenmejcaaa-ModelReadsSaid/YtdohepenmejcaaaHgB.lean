/- A try begins: hist's begun. -/
import Derived.Test.YtdohepenmejcaaaHg
namespace Go.Proofs.Ytdohepenmejcaaa.hs
open Go Go.RowKit Go.Proofs.Ytdohepenmejcaaa.base Go.Maps
set_option linter.unusedVariables false
set_option maxRecDepth 100000

set_option maxHeartbeats 1000000 in
theorem begun_any (pl : Nat) (e : Ev) (w : World) :
    Calls Try.prog 55 #[.int .i64 pl, .agg #[.int .i64 e.k, .int .i64 e.th, .int .i64 e.tx, .int .i64 e.at_, .int .i64 e.ob, .int .i64 e.va, .int .i64 e.re]] w fun r w' => ∃ b, r = .returned (.pointer (some ⟨b, 0, none⟩)) ∧ Hid (Gng w' (fun k => w.heap.size ≤ k ∧ k < w'.heap.size) b (init pl e) (fun _ => false) (fun _ => []) 0) ∧ Hid (w.grownBy w' none) := by
  have hmm := @run_makeMap Try.prog
  go_enter Try.func55, Try.ntmps55
  go_wp2
  go_ret
  have G : w.grownBy (((((w.alloc (.cells #[.int .i64 e.k, .int .i64 e.th, .int .i64 e.tx, .int .i64 e.at_, .int .i64 e.ob, .int .i64 e.va, .int .i64 e.re] 58)).alloc (.cells #[.int .i64 e.th, .int .i64 e.tx, .int .i64 e.at_, .int .i64 e.va, .int .i64 pl, .int .i64 (-1), .int .i64 0, .bool false, .slice none 0 0] 33)).alloc (.map #[] 0)).alloc (.map #[] 0)).alloc (.cells #[.int .i64 e.th, .int .i64 e.tx, .int .i64 e.at_, .int .i64 e.va, .int .i64 pl, .int .i64 (-1), .int .i64 0, .bool false, .slice none 0 0, .map (some (w.heap.size + 2)), .map (some (w.heap.size + 3))] 124)) none := (by repeat (first | exact gb_refl _ _ | refine gb_drewN ?_ _ | refine gb_drew ?_ | refine gb_alloc ?_ _))
  refine ⟨w.heap.size + 4, rfl, ⟨.slice none 0 0, w.heap.size + 2, w.heap.size + 3, fun _ => none, ?_, ?_, ?_, ?_, fun _ _ => rfl, by simp, by omega, by simp, by simp, by simp [Value.ownBlock], by simp, by simp, by simp⟩, G⟩
  · have := Blk.made ((((w.alloc (.cells #[.int .i64 e.k, .int .i64 e.th, .int .i64 e.tx, .int .i64 e.at_, .int .i64 e.ob, .int .i64 e.va, .int .i64 e.re] 58)).alloc (.cells #[.int .i64 e.th, .int .i64 e.tx, .int .i64 e.at_, .int .i64 e.va, .int .i64 pl, .int .i64 (-1), .int .i64 0, .bool false, .slice none 0 0] 33)).alloc (.map #[] 0)).alloc (.map #[] 0)) 124 #[.int .i64 e.th, .int .i64 e.tx, .int .i64 e.at_, .int .i64 e.va, .int .i64 pl, .int .i64 (-1), .int .i64 0, .bool false, .slice none 0 0, .map (some (w.heap.size + 2)), .map (some (w.heap.size + 3))]
    simp only [World.size_alloc] at this
    exact this
  · exact World.ownsRow_nil _ _ _ _
  · have := (MapG.made ((w.alloc (.cells #[.int .i64 e.k, .int .i64 e.th, .int .i64 e.tx, .int .i64 e.at_, .int .i64 e.ob, .int .i64 e.va, .int .i64 e.re] 58)).alloc (.cells #[.int .i64 e.th, .int .i64 e.tx, .int .i64 e.at_, .int .i64 e.va, .int .i64 pl, .int .i64 (-1), .int .i64 0, .bool false, .slice none 0 0] 33)) Try.prog 3 (Value.int .i64)).grown (w' := (((((w.alloc (.cells #[.int .i64 e.k, .int .i64 e.th, .int .i64 e.tx, .int .i64 e.at_, .int .i64 e.ob, .int .i64 e.va, .int .i64 e.re] 58)).alloc (.cells #[.int .i64 e.th, .int .i64 e.tx, .int .i64 e.at_, .int .i64 e.va, .int .i64 pl, .int .i64 (-1), .int .i64 0, .bool false, .slice none 0 0] 33)).alloc (.map #[] 0)).alloc (.map #[] 0)).alloc (.cells #[.int .i64 e.th, .int .i64 e.tx, .int .i64 e.at_, .int .i64 e.va, .int .i64 pl, .int .i64 (-1), .int .i64 0, .bool false, .slice none 0 0, .map (some (w.heap.size + 2)), .map (some (w.heap.size + 3))] 124))) (r := none) (by repeat (first | exact gb_refl _ _ | refine gb_drewN ?_ _ | refine gb_drew ?_ | refine gb_alloc ?_ _)) (by simp)
    simp only [World.size_alloc] at this
    exact this.congr (fun x kl _ => by simp [wroteV])
  · have := (MapG.made (((w.alloc (.cells #[.int .i64 e.k, .int .i64 e.th, .int .i64 e.tx, .int .i64 e.at_, .int .i64 e.ob, .int .i64 e.va, .int .i64 e.re] 58)).alloc (.cells #[.int .i64 e.th, .int .i64 e.tx, .int .i64 e.at_, .int .i64 e.va, .int .i64 pl, .int .i64 (-1), .int .i64 0, .bool false, .slice none 0 0] 33)).alloc (.map #[] 0)) Try.prog 3 (Value.int .i64)).grown (w' := (((((w.alloc (.cells #[.int .i64 e.k, .int .i64 e.th, .int .i64 e.tx, .int .i64 e.at_, .int .i64 e.ob, .int .i64 e.va, .int .i64 e.re] 58)).alloc (.cells #[.int .i64 e.th, .int .i64 e.tx, .int .i64 e.at_, .int .i64 e.va, .int .i64 pl, .int .i64 (-1), .int .i64 0, .bool false, .slice none 0 0] 33)).alloc (.map #[] 0)).alloc (.map #[] 0)).alloc (.cells #[.int .i64 e.th, .int .i64 e.tx, .int .i64 e.at_, .int .i64 e.va, .int .i64 pl, .int .i64 (-1), .int .i64 0, .bool false, .slice none 0 0, .map (some (w.heap.size + 2)), .map (some (w.heap.size + 3))] 124))) (r := none) (by repeat (first | exact gb_refl _ _ | refine gb_drewN ?_ _ | refine gb_drew ?_ | refine gb_alloc ?_ _)) (by simp)
    simp only [World.size_alloc] at this
    exact this
end Go.Proofs.Ytdohepenmejcaaa.hs
