/- The order of tries: what slices.SortFunc asks (laid by hand: its bodies are those of the kit's own, the kernel compares them), and the two orders. -/
import Derived.Shelf.SlSortCmp.WholeK
import Derived.Shelf.SlSortCmp.NoneTotal
import Derived.Shelf.SlicesG.Cmp
import Derived.Test.YtgnakcahmmdncaaHt
namespace Go.Proofs.Ytgnakcahmmdncaa.hs
open Go Go.RowKit Go.Proofs.Ytgnakcahmmdncaa.base Go.Maps Go.Shelf Go.Lib Go.Sort
set_option linter.unusedVariables false
set_option maxRecDepth 100000

def sortTryRen : Go.Shelf.Ren where
  f := fun x => match x with
    | 6 => 31
    | 15 => 36
    | 14 => 35
    | 28 => 48
    | 29 => 49
    | 20 => 40
    | 21 => 41
    | 22 => 42
    | 23 => 43
    | 24 => 44
    | 25 => 45
    | 26 => 46
    | 27 => 47
    | 46 => 50
    | 47 => 51
    | 48 => 52
    | 49 => 53
    | 50 => 54
    | 57 => 55
    | n => n
  t := fun x => match x with
    | 22 => 25
    | 24 => 41
    | 25 => 57
    | 3 => 3
    | 39 => 79
    | 0 => 0
    | 53 => 93
    | 55 => 95
    | 4 => 4
    | 46 => 86
    | 45 => 85
    | 50 => 90
    | 5 => 5
    | 9 => 9
    | 66 => 96
    | 70 => 100
    | 76 => 102
    | 77 => 103
    | n => n
  g := fun n => n
theorem sortTryLaid : SlLaysF0.n6 Try.prog sortTryRen where
  mixed := by kernel_rfl
  f6 := ⟨"slices.SortFunc[[]quarrel/hist.Try,quarrel/hist.Try]", by kernel_rfl, Try.func31.trans (congrArg some (by kernel_rfl))⟩
  f14 := ⟨"slices.pdqsortCmpFunc[quarrel/hist.Try]", by kernel_rfl, Try.func35.trans (congrArg some (by kernel_rfl))⟩
  f20 := ⟨"slices.insertionSortCmpFunc[quarrel/hist.Try]", by kernel_rfl, Try.func40.trans (congrArg some (by kernel_rfl))⟩
  f21 := ⟨"slices.heapSortCmpFunc[quarrel/hist.Try]", by kernel_rfl, Try.func41.trans (congrArg some (by kernel_rfl))⟩
  f22 := ⟨"slices.breakPatternsCmpFunc[quarrel/hist.Try]", by kernel_rfl, Try.func42.trans (congrArg some (by kernel_rfl))⟩
  f23 := ⟨"slices.choosePivotCmpFunc[quarrel/hist.Try]", by kernel_rfl, Try.func43.trans (congrArg some (by kernel_rfl))⟩
  f24 := ⟨"slices.reverseRangeCmpFunc[quarrel/hist.Try]", by kernel_rfl, Try.func44.trans (congrArg some (by kernel_rfl))⟩
  f25 := ⟨"slices.partialInsertionSortCmpFunc[quarrel/hist.Try]", by kernel_rfl, Try.func45.trans (congrArg some (by kernel_rfl))⟩
  f26 := ⟨"slices.partitionEqualCmpFunc[quarrel/hist.Try]", by kernel_rfl, Try.func46.trans (congrArg some (by kernel_rfl))⟩
  f27 := ⟨"slices.partitionCmpFunc[quarrel/hist.Try]", by kernel_rfl, Try.func47.trans (congrArg some (by kernel_rfl))⟩
  f46 := ⟨"slices.siftDownCmpFunc[quarrel/hist.Try]", by kernel_rfl, Try.func50.trans (congrArg some (by kernel_rfl))⟩
  f49 := ⟨"slices.medianAdjacentCmpFunc[quarrel/hist.Try]", by kernel_rfl, Try.func53.trans (congrArg some (by kernel_rfl))⟩
  f50 := ⟨"slices.medianCmpFunc[quarrel/hist.Try]", by kernel_rfl, Try.func54.trans (congrArg some (by kernel_rfl))⟩
  f57 := ⟨"slices.order2CmpFunc[quarrel/hist.Try]", by kernel_rfl, Try.func55.trans (congrArg some (by kernel_rfl))⟩
  f15 := Try.func36.trans (congrArg some (by kernel_rfl))
  f28 := Try.func48.trans (congrArg some (by kernel_rfl))
  f29 := Try.func49.trans (congrArg some (by kernel_rfl))
  f47 := Try.func51.trans (congrArg some (by kernel_rfl))
  f48 := Try.func52.trans (congrArg some (by kernel_rfl))
  t0 := Try.underlying0
  a0 := Try.isAgg0
  z0 := Try.sizeOf0
  v0 := Try.zeroValue0
  t3 := Try.underlying3
  a3 := Try.isAgg3
  z3 := Try.sizeOf3
  v3 := Try.zeroValue3
  t4 := Try.underlying4
  a4 := Try.isAgg4
  z4 := Try.sizeOf4
  v4 := Try.zeroValue4
  t5 := Try.underlying5
  a5 := Try.isAgg5
  z5 := Try.sizeOf5
  v5 := Try.zeroValue5
  t9 := Try.underlying9
  a9 := Try.isAgg9
  z9 := Try.sizeOf9
  v9 := Try.zeroValue9
  t22 := Try.underlying25
  a22 := Try.isAgg25
  z22 := Try.sizeOf25
  v22 := Try.zeroValue25
  t25 := Try.underlying57
  a25 := Try.isAgg57
  z25 := Try.sizeOf57
  v25 := Try.zeroValue57
  t39 := Try.underlying79
  a39 := Try.isAgg79
  z39 := Try.sizeOf79
  v39 := Try.zeroValue79
  t45 := Try.underlying85
  a45 := Try.isAgg85
  z45 := Try.sizeOf85
  v45 := Try.zeroValue85
  t46 := Try.underlying86
  a46 := Try.isAgg86
  z46 := Try.sizeOf86
  v46 := Try.zeroValue86
  t50 := Try.underlying90
  a50 := Try.isAgg90
  z50 := Try.sizeOf90
  v50 := Try.zeroValue90
  t53 := Try.underlying93
  a53 := Try.isAgg93
  z53 := Try.sizeOf93
  v53 := Try.zeroValue93
  t55 := Try.underlying95
  a55 := Try.isAgg95
  z55 := Try.sizeOf95
  v55 := Try.zeroValue95
  t66 := Try.underlying96
  a66 := Try.isAgg96
  z66 := Try.sizeOf96
  v66 := Try.zeroValue96
  t70 := Try.underlying100
  a70 := Try.isAgg100
  z70 := Try.sizeOf100
  v70 := Try.zeroValue100
  t76 := Try.underlying102
  a76 := Try.isAgg102
  z76 := Try.sizeOf102
  v76 := Try.zeroValue102
  t77 := Try.underlying103
  a77 := Try.isAgg103
  z77 := Try.sizeOf103
  v77 := Try.zeroValue103
def cmpIntRen : Go.Shelf.Ren where
  f := fun x => match x with
    | 5 => 32
    | 7 => 37
    | n => n
  t := fun x => match x with
    | 22 => 3
    | 3 => 3
    | 4 => 4
    | n => n
  g := fun n => n
theorem cmpIntLaid : SlLaysC2.n5 Try.prog cmpIntRen where
  mixed := by kernel_rfl
  f5 := ⟨"cmp.Compare[int]", by kernel_rfl, Try.func32.trans (congrArg some (by kernel_rfl))⟩
  f7 := ⟨"cmp.isNaN[int]", by kernel_rfl, Try.func37.trans (congrArg some (by kernel_rfl))⟩
  t3 := Try.underlying3
  a3 := Try.isAgg3
  z3 := Try.sizeOf3
  v3 := Try.zeroValue3
  t4 := Try.underlying4
  a4 := Try.isAgg4
  z4 := Try.sizeOf4
  v4 := Try.zeroValue4
  t22 := Try.underlying3
  a22 := Try.isAgg3
  z22 := Try.sizeOf3
  v22 := Try.zeroValue3

theorem aggTry : ∀ w, (isAgg (sortTryRen.t 24)).run Try.prog w = .ok true w := Try.isAgg41
theorem sizeTry : ∀ w, (Go.sizeOf (sortTryRen.t 24)).run Try.prog w = .ok 9 w := Try.sizeOf41

def tvI (x : Tr × Value) : Tr × Value := (x.1, if x.2.oneCell' = true then x.2 else .slice none 0 0)
/-- A try's cells, whatever its accesses are. -/
def encT (x : Tr × Value) : List Value := tvC (tvI x)
theorem encT_len (x : Tr × Value) : (encT x).length = 9 := rfl
theorem encT_one (x : Tr × Value) : ∀ v ∈ encT x, v.oneCell' = true := by
  intro v hv
  simp [encT, tvC, trC, tvI] at hv
  rcases hv with rfl | rfl | rfl | rfl | rfl | rfl | rfl | rfl | rfl
  all_goals first | rfl | (split <;> first | assumption | rfl)
theorem encT_slice (t : Tr) (a : Option Addr) (n c : Nat) : encT (t, .slice a n c) = tvC (t, .slice a n c) := rfl

theorem ltOf_cmp {α : Type} (f : α → Int) (x y : α) : ltOf (fun x y : α => Lib.compareInt (f x) (f y)) x y = decide (f x < f y) := by
  unfold ltOf Lib.compareInt
  by_cases h1 : f x < f y
  · simp [h1]
  · by_cases h2 : f y < f x <;> simp [h1, h2]
theorem swo_cmp {α : Type} (f : α → Int) : SWO (ltOf fun x y : α => Lib.compareInt (f x) (f y)) where
  irrefl x := by rw [ltOf_cmp]; simp
  trans x y z h1 h2 := by rw [ltOf_cmp] at *; simp at *; omega
  ntrans x y z h1 h2 := by rw [ltOf_cmp] at *; simp at *; omega

set_option maxHeartbeats 1000000 in
theorem byBegin_any : ∀ (x y : Tr × Value) (W : World), Calls Try.prog 25 #[.agg ⟨encT x⟩, .agg ⟨encT y⟩] W fun e w' => e = .returned (.int .i64 (Lib.compareInt x.1.b y.1.b)) ∧ ∃ q os', w' = grow (W.drewN q) os' := by
  intro x y W
  have hcon := fun W' => AnyG.cmp_Compare_int cmpIntLaid x.1.b y.1.b W'
  change ∀ W', Calls Try.prog 32 _ _ _ at hcon
  generalize Lib.compareInt x.1.b y.1.b = r at hcon ⊢
  show Calls Try.prog 25 #[.agg #[.int .i64 x.1.th, .int .i64 x.1.tx, .int .i64 x.1.at_, .int .i64 x.1.st, .int .i64 x.1.b, .int .i64 x.1.en, .int .i64 x.1.re, .bool x.1.co, (tvI x).2], .agg #[.int .i64 y.1.th, .int .i64 y.1.tx, .int .i64 y.1.at_, .int .i64 y.1.st, .int .i64 y.1.b, .int .i64 y.1.en, .int .i64 y.1.re, .bool y.1.co, (tvI y).2]] W _
  generalize (tvI x).2 = vx
  generalize (tvI y).2 = vy
  go_enter Try.func25, Try.ntmps25
  go_wp2_with (go_at_call 32; refine (hcon _).mono ?_; rintro e w' ⟨rfl, rfl⟩)
  go_ret
  exact ⟨rfl, 0, _, by rw [alloc_eq_grow, alloc_eq_grow, grow_grow]; rfl⟩
theorem byBegin_lays (blk off size : Nat) (w : World) : CmpLays Try.prog 25 #[] encT 9 (fun x y : Tr × Value => Lib.compareInt x.1.b y.1.b) blk off size w :=
  fun _ _ _ _ x y => byBegin_any x y _

set_option maxHeartbeats 1000000 in
theorem byEnd_any : ∀ (x y : Tr × Value) (W : World), Calls Try.prog 27 #[.agg ⟨encT x⟩, .agg ⟨encT y⟩] W fun e w' => e = .returned (.int .i64 (Lib.compareInt x.1.en y.1.en)) ∧ ∃ q os', w' = grow (W.drewN q) os' := by
  intro x y W
  have hcon := fun W' => AnyG.cmp_Compare_int cmpIntLaid x.1.en y.1.en W'
  change ∀ W', Calls Try.prog 32 _ _ _ at hcon
  generalize Lib.compareInt x.1.en y.1.en = r at hcon ⊢
  show Calls Try.prog 27 #[.agg #[.int .i64 x.1.th, .int .i64 x.1.tx, .int .i64 x.1.at_, .int .i64 x.1.st, .int .i64 x.1.b, .int .i64 x.1.en, .int .i64 x.1.re, .bool x.1.co, (tvI x).2], .agg #[.int .i64 y.1.th, .int .i64 y.1.tx, .int .i64 y.1.at_, .int .i64 y.1.st, .int .i64 y.1.b, .int .i64 y.1.en, .int .i64 y.1.re, .bool y.1.co, (tvI y).2]] W _
  generalize (tvI x).2 = vx
  generalize (tvI y).2 = vy
  go_enter Try.func27, Try.ntmps27
  go_wp2_with (go_at_call 32; refine (hcon _).mono ?_; rintro e w' ⟨rfl, rfl⟩)
  go_ret
  exact ⟨rfl, 0, _, by rw [alloc_eq_grow, alloc_eq_grow, grow_grow]; rfl⟩
theorem byEnd_lays (blk off size : Nat) (w : World) : CmpLays Try.prog 27 #[] encT 9 (fun x y : Tr × Value => Lib.compareInt x.1.en y.1.en) blk off size w :=
  fun _ _ _ _ x y => byEnd_any x y _

/-- What the order that told is given must do: it goes by a number. -/
def Orders (go : Nat) (f : Tr → Int) : Prop := (∀ args w, (callFunc go args).run Try.prog w = .ok (.enter go args) w) ∧ ∀ blk off size w, CmpLays Try.prog go #[] encT 9 (fun x y : Tr × Value => Lib.compareInt (f x.1) (f y.1)) blk off size w
theorem byBegin_orders : Orders 25 Tr.b := ⟨enters_of Try.func25 (by kernel_rfl) rfl, byBegin_lays⟩
theorem byEnd_orders : Orders 27 Tr.en := ⟨enters_of Try.func27 (by kernel_rfl) rfl, byEnd_lays⟩

/-- The tries of ys lie there. -/
def IsTries (w : World) (a : Option Addr) (ys : List (Tr × Value)) : Prop :=
  (ys = [] ∨ ∃ g, a = some ⟨g, 0, none⟩ ∧ g < w.heap.size ∧ ∀ i x, ys[i]? = some x → ∀ j u, (tvC x)[j]? = some u → w.cell? ⟨g, i * 9 + j, none⟩ = some u) ∧
  ∀ x ∈ ys, w.ownsRow 0 46 6 x.2 x.1.ac.length (rows accC x.1.ac)
theorem IsTries.grown {w w' : World} {a : Option Addr} {ys : List (Tr × Value)} (h : IsTries w a ys) (g : w.grownBy w' none) : IsTries w' a ys := by
  refine ⟨?_, fun x hx => ownsRow_keep (h.2 x hx) (fun k e => g.block k ((h.2 x hx).lt k e).2 (by simp))⟩
  rcases h.1 with h1 | ⟨b, rfl, hb, hc⟩
  · exact .inl h1
  · exact .inr ⟨b, rfl, Nat.lt_of_lt_of_le hb g.size, fun i x hx j u hu => g.cell (hc i x hx j u hu) (by simp)⟩

/-- A row's elements, in their cells. -/
theorem holdsK_of {w : World} {g n cap : Nat} {ys : List (Tr × Value)} (hs : ∀ x ∈ ys, ∃ a m c, x.2 = .slice a m c) (hn : n = ys.length) (h : w.ownsRow 0 41 9 (.slice (some ⟨g, 0, none⟩) n cap) n (rows tvC ys)) : HoldsK encT 9 w g 0 ys.toArray := by
  intro t ht
  simp only [size_flatK, List.size_toArray] at ht
  rw [get_flatK _ _ _ _ (by simpa using ht)]
  have h1 : t / 9 < ys.length := by omega
  have h2 : t % 9 < 9 := Nat.mod_lt _ (by omega)
  have e1 : ys.toArray[t / 9]! = ys[t / 9] := by simp [h1]
  rw [e1]
  obtain ⟨va, vm, vc, hx⟩ := hs _ (List.getElem_mem h1)
  have e2 : encT ys[t / 9] = tvC ys[t / 9] := by
    generalize ys[t / 9] = x at hx
    obtain ⟨tt, v⟩ := x
    dsimp only at hx
    subst hx
    rfl
  rw [e2]
  have h3 := rows_get tvC_len ys (t / 9) (t % 9) ys[t / 9] (List.getElem?_eq_getElem h1) h2
  have e3 : t / 9 * 9 + t % 9 = t := Nat.div_add_mod' t 9
  rw [e3] at h3
  have h4 : (tvC ys[t / 9])[t % 9]? = some ((tvC ys[t / 9])[t % 9]!) := by
    rw [List.getElem?_eq_getElem (by rw [tvC_len]; exact h2), getElem!_pos _ _ (by rw [tvC_len]; exact h2)]
  rw [h4] at h3
  have h5 := h.cells (g := g) rfl t _ h3
  rw [add_eq] at h5
  obtain ⟨cs, hc⟩ := ownsRow_type h (k := g) rfl
  exact ⟨h5, Blk.free (t := 41) hc _⟩

theorem sortW_block {w : World} {g n : Nat} {d : Array (Tr × Value)} {os : Array Obj} {k : Nat} (hk : k < w.heap.size) (hne : k ≠ g) : (sortWorldK encT 9 w g 0 n d os).heap[k]? = w.heap[k]? := by
  unfold sortWorldK grow putRowK putRow mapBlock
  simp only
  rw [Array.getElem?_append_left (by simp [Sort.ahead]; exact hk)]
  rw [Array.getElem?_modify]
  rw [if_neg (fun e => hne e.symm)]
  rfl

theorem sortW_only {w : World} {g n : Nat} {d : Array (Tr × Value)} {os : Array Obj} : Only (fun k => k = g) w (sortWorldK encT 9 w g 0 n d os) :=
  ⟨rfl, rfl, rfl, by simp [sortWorldK, grow, putRowK, putRow, mapBlock, Sort.ahead], fun k hk hn => sortW_block hk hn⟩
end Go.Proofs.Ytgnakcahmmdncaa.hs
