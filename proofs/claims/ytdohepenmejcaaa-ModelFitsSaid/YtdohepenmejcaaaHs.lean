/- The order of tries: what slices.SortFunc asks (laid by hand: its bodies are those of the kit's own, the kernel compares them), and the two orders. -/
import Derived.Shelf.SlSortCmp.WholeK
import Derived.Shelf.SlSortCmp.NoneTotal
import Derived.Shelf.SlicesG.Cmp
import Derived.Test.YtdohepenmejcaaaHt
namespace Go.Proofs.Ytdohepenmejcaaa.hs
open Go Go.RowKit Go.Proofs.Ytdohepenmejcaaa.base Go.Maps Go.Shelf Go.Lib Go.Sort
set_option linter.unusedVariables false
set_option maxRecDepth 100000

def sortTryRen : Go.Shelf.Ren where
  f := fun x => match x with
    | 6 => 51
    | 15 => 58
    | 14 => 57
    | 28 => 75
    | 29 => 76
    | 20 => 67
    | 21 => 68
    | 22 => 69
    | 23 => 70
    | 24 => 71
    | 25 => 72
    | 26 => 73
    | 27 => 74
    | 46 => 79
    | 47 => 80
    | 48 => 81
    | 49 => 82
    | 50 => 83
    | 57 => 84
    | n => n
  t := fun x => match x with
    | 22 => 73
    | 24 => 33
    | 25 => 95
    | 3 => 3
    | 39 => 127
    | 0 => 0
    | 53 => 141
    | 55 => 143
    | 4 => 4
    | 46 => 134
    | 45 => 133
    | 50 => 138
    | 5 => 5
    | 9 => 9
    | 66 => 144
    | 70 => 148
    | 76 => 150
    | 77 => 151
    | n => n
  g := fun n => n

theorem sortTryLaid : SlLaysF0.n6 Try.prog sortTryRen where
  mixed := by kernel_rfl
  f6 := ⟨"slices.SortFunc[[]quarrel/hist.Try,quarrel/hist.Try]", by kernel_rfl, Try.func51.trans (congrArg some (by kernel_rfl))⟩
  f14 := ⟨"slices.pdqsortCmpFunc[quarrel/hist.Try]", by kernel_rfl, Try.func57.trans (congrArg some (by kernel_rfl))⟩
  f20 := ⟨"slices.insertionSortCmpFunc[quarrel/hist.Try]", by kernel_rfl, Try.func67.trans (congrArg some (by kernel_rfl))⟩
  f21 := ⟨"slices.heapSortCmpFunc[quarrel/hist.Try]", by kernel_rfl, Try.func68.trans (congrArg some (by kernel_rfl))⟩
  f22 := ⟨"slices.breakPatternsCmpFunc[quarrel/hist.Try]", by kernel_rfl, Try.func69.trans (congrArg some (by kernel_rfl))⟩
  f23 := ⟨"slices.choosePivotCmpFunc[quarrel/hist.Try]", by kernel_rfl, Try.func70.trans (congrArg some (by kernel_rfl))⟩
  f24 := ⟨"slices.reverseRangeCmpFunc[quarrel/hist.Try]", by kernel_rfl, Try.func71.trans (congrArg some (by kernel_rfl))⟩
  f25 := ⟨"slices.partialInsertionSortCmpFunc[quarrel/hist.Try]", by kernel_rfl, Try.func72.trans (congrArg some (by kernel_rfl))⟩
  f26 := ⟨"slices.partitionEqualCmpFunc[quarrel/hist.Try]", by kernel_rfl, Try.func73.trans (congrArg some (by kernel_rfl))⟩
  f27 := ⟨"slices.partitionCmpFunc[quarrel/hist.Try]", by kernel_rfl, Try.func74.trans (congrArg some (by kernel_rfl))⟩
  f46 := ⟨"slices.siftDownCmpFunc[quarrel/hist.Try]", by kernel_rfl, Try.func79.trans (congrArg some (by kernel_rfl))⟩
  f49 := ⟨"slices.medianAdjacentCmpFunc[quarrel/hist.Try]", by kernel_rfl, Try.func82.trans (congrArg some (by kernel_rfl))⟩
  f50 := ⟨"slices.medianCmpFunc[quarrel/hist.Try]", by kernel_rfl, Try.func83.trans (congrArg some (by kernel_rfl))⟩
  f57 := ⟨"slices.order2CmpFunc[quarrel/hist.Try]", by kernel_rfl, Try.func84.trans (congrArg some (by kernel_rfl))⟩
  f15 := Try.func58.trans (congrArg some (by kernel_rfl))
  f28 := Try.func75.trans (congrArg some (by kernel_rfl))
  f29 := Try.func76.trans (congrArg some (by kernel_rfl))
  f47 := Try.func80.trans (congrArg some (by kernel_rfl))
  f48 := Try.func81.trans (congrArg some (by kernel_rfl))
  t0 := Try.underlying0
  a0 := Try.isAgg0
  z0 := Try.sizeOf0
  v0 := Try.zeroValue0
  t3 := Try.underlying3
  a3 := Try.isAgg3
  z3 := Try.sizeOf3
  v3 := Try.zeroValue3
  t4 := Try.underlying4
  a4 := Try.isAgg4
  z4 := Try.sizeOf4
  v4 := Try.zeroValue4
  t5 := Try.underlying5
  a5 := Try.isAgg5
  z5 := Try.sizeOf5
  v5 := Try.zeroValue5
  t9 := Try.underlying9
  a9 := Try.isAgg9
  z9 := Try.sizeOf9
  v9 := Try.zeroValue9
  t22 := Try.underlying73
  a22 := Try.isAgg73
  z22 := Try.sizeOf73
  v22 := Try.zeroValue73
  t25 := Try.underlying95
  a25 := Try.isAgg95
  z25 := Try.sizeOf95
  v25 := Try.zeroValue95
  t39 := Try.underlying127
  a39 := Try.isAgg127
  z39 := Try.sizeOf127
  v39 := Try.zeroValue127
  t45 := Try.underlying133
  a45 := Try.isAgg133
  z45 := Try.sizeOf133
  v45 := Try.zeroValue133
  t46 := Try.underlying134
  a46 := Try.isAgg134
  z46 := Try.sizeOf134
  v46 := Try.zeroValue134
  t50 := Try.underlying138
  a50 := Try.isAgg138
  z50 := Try.sizeOf138
  v50 := Try.zeroValue138
  t53 := Try.underlying141
  a53 := Try.isAgg141
  z53 := Try.sizeOf141
  v53 := Try.zeroValue141
  t55 := Try.underlying143
  a55 := Try.isAgg143
  z55 := Try.sizeOf143
  v55 := Try.zeroValue143
  t66 := Try.underlying144
  a66 := Try.isAgg144
  z66 := Try.sizeOf144
  v66 := Try.zeroValue144
  t70 := Try.underlying148
  a70 := Try.isAgg148
  z70 := Try.sizeOf148
  v70 := Try.zeroValue148
  t76 := Try.underlying150
  a76 := Try.isAgg150
  z76 := Try.sizeOf150
  v76 := Try.zeroValue150
  t77 := Try.underlying151
  a77 := Try.isAgg151
  z77 := Try.sizeOf151
  v77 := Try.zeroValue151

def cmpIntRen : Go.Shelf.Ren where
  f := fun x => match x with
    | 5 => 52
    | 7 => 59
    | n => n
  t := fun x => match x with
    | 22 => 3
    | 3 => 3
    | 4 => 4
    | n => n
  g := fun n => n

theorem cmpIntLaid : SlLaysC2.n5 Try.prog cmpIntRen where
  mixed := by kernel_rfl
  f5 := ⟨"cmp.Compare[int]", by kernel_rfl, Try.func52.trans (congrArg some (by kernel_rfl))⟩
  f7 := ⟨"cmp.isNaN[int]", by kernel_rfl, Try.func59.trans (congrArg some (by kernel_rfl))⟩
  t3 := Try.underlying3
  a3 := Try.isAgg3
  z3 := Try.sizeOf3
  v3 := Try.zeroValue3
  t4 := Try.underlying4
  a4 := Try.isAgg4
  z4 := Try.sizeOf4
  v4 := Try.zeroValue4
  t22 := Try.underlying3
  a22 := Try.isAgg3
  z22 := Try.sizeOf3
  v22 := Try.zeroValue3

theorem aggTry : ∀ w, (isAgg (sortTryRen.t 24)).run Try.prog w = .ok true w := Try.isAgg33

theorem sizeTry : ∀ w, (Go.sizeOf (sortTryRen.t 24)).run Try.prog w = .ok 9 w := Try.sizeOf33

def tvI (x : Tr × Value) : Tr × Value := (x.1, if x.2.oneCell' = true then x.2 else .slice none 0 0)
/-- A try's cells, whatever its accesses are. -/
def encT (x : Tr × Value) : List Value := tvC (tvI x)

theorem encT_len (x : Tr × Value) : (encT x).length = 9 := rfl

theorem encT_one (x : Tr × Value) : ∀ v ∈ encT x, v.oneCell' = true := by
  intro v hv
  simp [encT, tvC, trC, tvI] at hv
  rcases hv with rfl | rfl | rfl | rfl | rfl | rfl | rfl | rfl | rfl
  all_goals first | rfl | (split <;> first | assumption | rfl)

theorem encT_slice (t : Tr) (a : Option Addr) (n c : Nat) : encT (t, .slice a n c) = tvC (t, .slice a n c) := rfl

theorem ltOf_cmp {α : Type} (f : α → Int) (x y : α) : ltOf (fun x y : α => Lib.compareInt (f x) (f y)) x y = decide (f x < f y) := by
  unfold ltOf Lib.compareInt
  by_cases h1 : f x < f y
  · simp [h1]
  · by_cases h2 : f y < f x <;> simp [h1, h2]

theorem swo_cmp {α : Type} (f : α → Int) : SWO (ltOf fun x y : α => Lib.compareInt (f x) (f y)) where
  irrefl x := by rw [ltOf_cmp]; simp
  trans x y z h1 h2 := by rw [ltOf_cmp] at *; simp at *; omega
  ntrans x y z h1 h2 := by rw [ltOf_cmp] at *; simp at *; omega

set_option maxHeartbeats 1000000 in
theorem byEnd_any : ∀ (x y : Tr × Value) (W : World), Calls Try.prog 47 #[.agg ⟨encT x⟩, .agg ⟨encT y⟩] W fun e w' => e = .returned (.int .i64 (Lib.compareInt x.1.en y.1.en)) ∧ ∃ q os', w' = grow (W.drewN q) os' := by
  intro x y W
  have hcon := fun W' => AnyG.cmp_Compare_int cmpIntLaid x.1.en y.1.en W'
  change ∀ W', Calls Try.prog 52 _ _ _ at hcon
  generalize Lib.compareInt x.1.en y.1.en = r at hcon ⊢
  show Calls Try.prog 47 #[.agg #[.int .i64 x.1.th, .int .i64 x.1.tx, .int .i64 x.1.at_, .int .i64 x.1.st, .int .i64 x.1.b, .int .i64 x.1.en, .int .i64 x.1.re, .bool x.1.co, (tvI x).2], .agg #[.int .i64 y.1.th, .int .i64 y.1.tx, .int .i64 y.1.at_, .int .i64 y.1.st, .int .i64 y.1.b, .int .i64 y.1.en, .int .i64 y.1.re, .bool y.1.co, (tvI y).2]] W _
  generalize (tvI x).2 = vx
  generalize (tvI y).2 = vy
  go_enter Try.func47, Try.ntmps47
  go_wp2_with (go_at_call 52; refine (hcon _).mono ?_; rintro e w' ⟨rfl, rfl⟩)
  go_ret
  exact ⟨rfl, 0, _, by rw [alloc_eq_grow, alloc_eq_grow, grow_grow]; rfl⟩

theorem byEnd_lays (blk off size : Nat) (w : World) : CmpLays Try.prog 47 #[] encT 9 (fun x y : Tr × Value => Lib.compareInt x.1.en y.1.en) blk off size w :=
  fun _ _ _ _ x y => byEnd_any x y _

/-- What the order that told is given must do: it goes by a number. -/
def Orders (go : Nat) (f : Tr → Int) : Prop := (∀ args w, (callFunc go args).run Try.prog w = .ok (.enter go args) w) ∧ ∀ blk off size w, CmpLays Try.prog go #[] encT 9 (fun x y : Tr × Value => Lib.compareInt (f x.1) (f y.1)) blk off size w

theorem byEnd_orders : Orders 47 Tr.en := ⟨enters_of Try.func47 (by kernel_rfl) rfl, byEnd_lays⟩

/-- The tries of ys lie there. -/
def IsTries (w : World) (a : Option Addr) (ys : List (Tr × Value)) : Prop :=
  (ys = [] ∨ ∃ g, a = some ⟨g, 0, none⟩ ∧ g < w.heap.size ∧ ∀ i x, ys[i]? = some x → ∀ j u, (tvC x)[j]? = some u → w.cell? ⟨g, i * 9 + j, none⟩ = some u) ∧
  ∀ x ∈ ys, w.ownsRow 0 54 6 x.2 x.1.ac.length (rows accC x.1.ac)

theorem IsTries.grown {w w' : World} {a : Option Addr} {ys : List (Tr × Value)} (h : IsTries w a ys) (g : w.grownBy w' none) : IsTries w' a ys := by
  refine ⟨?_, fun x hx => ownsRow_keep (h.2 x hx) (fun k e => g.block k ((h.2 x hx).lt k e).2 (by simp))⟩
  rcases h.1 with h1 | ⟨b, rfl, hb, hc⟩
  · exact .inl h1
  · exact .inr ⟨b, rfl, Nat.lt_of_lt_of_le hb g.size, fun i x hx j u hu => g.cell (hc i x hx j u hu) (by simp)⟩

/-- A row's elements, in their cells. -/
theorem holdsK_of {w : World} {g n cap : Nat} {ys : List (Tr × Value)} (hs : ∀ x ∈ ys, ∃ a m c, x.2 = .slice a m c) (hn : n = ys.length) (h : w.ownsRow 0 33 9 (.slice (some ⟨g, 0, none⟩) n cap) n (rows tvC ys)) : HoldsK encT 9 w g 0 ys.toArray := by
  intro t ht
  simp only [size_flatK, List.size_toArray] at ht
  rw [get_flatK _ _ _ _ (by simpa using ht)]
  have h1 : t / 9 < ys.length := by omega
  have h2 : t % 9 < 9 := Nat.mod_lt _ (by omega)
  have e1 : ys.toArray[t / 9]! = ys[t / 9] := by simp [h1]
  rw [e1]
  obtain ⟨va, vm, vc, hx⟩ := hs _ (List.getElem_mem h1)
  have e2 : encT ys[t / 9] = tvC ys[t / 9] := by
    generalize ys[t / 9] = x at hx
    obtain ⟨tt, v⟩ := x
    dsimp only at hx
    subst hx
    rfl
  rw [e2]
  have h3 := rows_get tvC_len ys (t / 9) (t % 9) ys[t / 9] (List.getElem?_eq_getElem h1) h2
  have e3 : t / 9 * 9 + t % 9 = t := Nat.div_add_mod' t 9
  rw [e3] at h3
  have h4 : (tvC ys[t / 9])[t % 9]? = some ((tvC ys[t / 9])[t % 9]!) := by
    rw [List.getElem?_eq_getElem (by rw [tvC_len]; exact h2), getElem!_pos _ _ (by rw [tvC_len]; exact h2)]
  rw [h4] at h3
  have h5 := h.cells (g := g) rfl t _ h3
  rw [add_eq] at h5
  obtain ⟨cs, hc⟩ := ownsRow_type h (k := g) rfl
  exact ⟨h5, Blk.free (t := 33) hc _⟩

theorem sortW_block {w : World} {g n : Nat} {d : Array (Tr × Value)} {os : Array Obj} {k : Nat} (hk : k < w.heap.size) (hne : k ≠ g) : (sortWorldK encT 9 w g 0 n d os).heap[k]? = w.heap[k]? := by
  unfold sortWorldK grow putRowK putRow mapBlock
  simp only
  rw [Array.getElem?_append_left (by simp [Sort.ahead]; exact hk)]
  rw [Array.getElem?_modify]
  rw [if_neg (fun e => hne e.symm)]
  rfl

theorem sortW_only {w : World} {g n : Nat} {d : Array (Tr × Value)} {os : Array Obj} : Only (fun k => k = g) w (sortWorldK encT 9 w g 0 n d os) :=
  ⟨rfl, rfl, rfl, by simp [sortWorldK, grow, putRowK, putRow, mapBlock, Sort.ahead], fun k hk hn => sortW_block hk hn⟩
end Go.Proofs.Ytdohepenmejcaaa.hs
