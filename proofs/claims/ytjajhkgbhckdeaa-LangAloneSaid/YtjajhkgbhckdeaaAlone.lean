/- The contracts of package lang's Alone, and of the document's own (quarrelref11.Alone, quarrelref01.Vals). -/
import Derived.Test.YtjajhkgbhckdeaaCrsB
import Derived.Test.YtjajhkgbhckdeaaApp
namespace Go.Proofs.Ytjajhkgbhckdeaa.lg
open Go Go.RowKit Go.Proofs.Ytjajhkgbhckdeaa.base
set_option linter.unusedVariables false

/-- The values of a list. -/
theorem nums_eq (f : Nat → Int) (n : Nat) : (List.range n).map (fun i => Value.int .i64 (f i)) = vals f n := rfl

theorem alone_bad (a1 : Option Addr) (len cap : Nat) (z : Nat → Nat → Int) (a2 : Option Addr) (n cap2 : Nat) (w : World) (hz : IsOps w a1 len z) (hr : rightB z len n = false) :
    Calls Try.prog 17 #[.slice a1 len cap, .slice a2 n cap2] w fun e w' => e = .returned (.tuple #[.slice none 0 0, .int .i64 3]) ∧ Hid (w.grownBy w' none) := by
  have HR := Lib.hid (hr ▸ right_any a1 len cap z n w hz)
  clear hr hz
  go_enter Try.func17, Try.ntmps17
  go_wp2_with fail
  refine HR.out.mono ?_
  rintro e u ⟨rfl, g⟩
  go_wp2
  go_ret2
  exact ⟨rfl, g⟩

theorem crs_of_row {w u : World} {val : Value} {n : Nat} {f : Nat → Int} (s : Int) (h : u.ownsRow w.heap.size 2 1 val n (vals f n)) (hb : w.heap.size ≤ u.heap.size) : Crs w.heap.size (u.alloc (.cells #[.int .i64 s, val] 49)) u.heap.size s n f val.ownBlock :=
  ⟨hb, fun e => by have := (h.lt _ e).2; omega, val, Blk.made u _ _, ownsRow_keep h (fun k e => Below.heap_alloc u _ k (h.lt k e).2), rfl⟩

/-- What is known at the head of a round. -/
structure AR (w : World) (cb : Nat) (r : Option Nat) (z : Nat → Nat → Int) (v : Nat → Int) (n mb k : Nat) (wr : World) : Prop where
  crs : Crs w.heap.size wr cb (run z v k).1 n (run z v k).2 r
  map : MapF Try.prog 3 wr mb 5 (allF cb)
  grow : w.grownBy wr none

section
variable {w wr w' : World} {cb mb n k : Nat} {r : Option Nat} {z : Nat → Nat → Int} {v : Nat → Int}
theorem AR.grown (h : AR w cb r z v n mb k wr) (g : wr.grownBy w' none) : AR w cb r z v n mb k w' :=
  ⟨h.crs.grown g, h.map.keep (g.block mb h.map.lt (by simp)), gb_trans h.grow g⟩
theorem AR.step (h : AR w cb r z v n mb k wr) {s : Int} {f : Nat → Int} (c : Crs w.heap.size w' cb s n f r) (g : Chg cb r r wr w') (e : run z v (k + 1) = (s, f)) : AR w cb r z v n mb (k + 1) w' := by
  have h1 : mb ≠ cb := by
    obtain ⟨_, _, _, hb, _⟩ := h.crs
    exact ne_map h.map hb
  have h2 : some mb ≠ r := by
    obtain ⟨_, _, val, _, ho, hr⟩ := h.crs
    intro e
    obtain ⟨cs, hcs⟩ := ownsRow_type ho (hr.trans e.symm)
    exact h.map.not_cells hcs
  refine ⟨by rw [e]; exact c, h.map.keep (g.block mb h.map.lt h1 h2), ?_⟩
  refine ⟨g.os.trans h.grow.os, g.tape.trans h.grow.tape, g.output.trans h.grow.output, Nat.le_trans h.grow.size g.size, fun i hi _ => (g.block i (Nat.lt_of_lt_of_le hi h.grow.size) ?_ ?_).trans (h.grow.block i hi (by simp))⟩
  · have := h.crs.base_le; omega
  · intro e2; have := (h.crs.row_lt i e2.symm).1; omega
end

set_option maxHeartbeats 1000000 in
theorem alone_any (a1 : Option Addr) (len cap : Nat) (z : Nat → Nat → Int) (a2 : Option Addr) (n cap2 : Nat) (v : Nat → Int) (w : World) (hz : IsOps w a1 len z) (hv : IsNums .i64 w a2 n v) (hr : rightB z len n = true) (hn : n ≤ 100000) :
    Calls Try.prog 17 #[.slice a1 len cap, .slice a2 n cap2] w fun e w' => ∃ b' c', e = .returned (.tuple #[.slice b' n c', .int .i64 0]) ∧ Hid (w'.ownsRow w.heap.size 2 1 (.slice b' n c') n (vals (run z v len).2 n)) ∧ Hid (w.grownBy w' none) := by
  have HR := Lib.hid (hr ▸ right_any a1 len cap z n w hz)
  have hok : okN z n len = true ∧ len < 9 := by simp only [rightB, Bool.and_eq_true, decide_eq_true_eq] at hr; exact ⟨hr.2, hr.1.2⟩
  have HK := Lib.hid hok.1
  have h9 := hok.2
  have Z := Lib.hid hz
  have V := Lib.hid hv
  clear hr hz hok hv
  go_enter Try.func17, Try.ntmps17
  go_wp2_with fail
  refine HR.out.mono ?_
  rintro e u ⟨rfl, G⟩
  have Vu := Lib.hid (V.out.grown G.out).src
  go_wp2_with (at_builtin; refine append64 _ rfl (.const (.slice none 0 0)) (.tmp 16) rfl w.heap.size _ 0 [] rfl (World.ownsRow_nil _ _ _ _) a2 n cap2 (vals v n) rfl (by simp [vals]) Vu.out (one_nums _ _ _) (by omega) G.out.size ?_; intro b' c' u2 ho hg hv; clear hv)
  simp only [Nat.zero_add, List.nil_append] at ho
  have G2 := Lib.hid (gb_trans G.out (show u.grownBy u2 none from hg))
  have C0 := Lib.hid (crs_of_row 0 ho G2.out.size)
  have G3 := Lib.hid (gb_alloc G2.out (.cells #[.int .i64 0, .slice b' n c'] 49))
  generalize (Value.slice b' n c').ownBlock = r at C0
  clear ho hg Vu G
  generalize u2.alloc _ = u3 at *
  generalize u2.heap.size = cb at *
  refine (all_any cb _).mono ?_
  rintro e u4 ⟨rfl, M4, G4⟩
  generalize u3.heap.size = mb at *
  have A0 : Hid (AR w cb r z v n mb 0 u4) := ⟨C0.out.grown G4.out, M4.out, gb_trans G3.out G4.out⟩
  clear C0 G3 G4 M4 G2 V
  go_wp2_with fail
  go_loopw [24] (fun iv wr => ∃ k : Nat, k ≤ len ∧ iv = .int .i64 k ∧ Hid (AR w cb r z v n mb k wr)) (fun iv _ => (len - intOf iv).toNat)
  case atStart => exact ⟨0, by omega, rfl, A0⟩
  case round =>
    obtain ⟨k, hk, rfl, A⟩ := hrel
    clear A0
    by_cases hlt : k < len
    · obtain ⟨b1, off1, rfl, hb1, c0, c1, c2⟩ := (Z.out.grown A.out.grow).at3 hlt
      have hlt' : (k : Int) < (len : Int) := by omega
      have hB := okN_at HK.out hlt
      have A2 := Lib.hid (A.out.grown (World.grownBy_alloc wr (.cells #[.int .i64 (z k 0), .int .i64 (z k 1), .int .i64 (z k 2)] 24) none))
      have hS : Hid (run z v (k + 1) = if z k 0 = 1 then ((run z v k).2 (z k 1).toNat, (run z v k).2) else if z k 0 = 2 then ((run z v k).1, fun i => if i = (z k 1).toNat then (run z v k).1 else (run z v k).2 i) else (sumI (z k 0) (z k 2) (run z v k).1, (run z v k).2)) := rfl
      clear A
      generalize z k 0 = z0 at *
      generalize z k 1 = z1 at *
      generalize z k 2 = z2 at *
      rcases okB_kind hB with rfl | rfl | rfl | rfl | rfl
      · obtain ⟨i, rfl, hin⟩ := okB_obj hB (.inl rfl)
        have S1 := Lib.hid (show run z v (k + 1) = ((run z v k).2 i, (run z v k).2) by rw [hS.out]; simp)
        clear hB hS
        go_wp2_with (at_lookup; refine wpList_get_mapF _ rfl _ _ 52 rfl 3 50 Try.underlying3 Try.underlying52 .nilFunc (zeroF _) mb 5 _ rfl A2.out.map 1 rfl (by decide) (.func (Fn.func 29) #[.pointer (some ⟨cb, 0, none⟩)] #[]) rfl ?_)
        refine (read_any _ _ cb _ n _ r 1 z2 i hin A2.out.crs).mono ?_
        rintro e u5 ⟨rfl, C5, G5⟩
        have A5 := Lib.hid (A2.out.step C5.out G5.out S1.out)
        clear C5 G5 A2 c0 c1 c2
        go_wp2
        go_roundw
        case rel => exact ⟨k + 1, by omega, by go_num, A5⟩
        case measure => simp [intOf]; omega
      · obtain ⟨i, rfl, hin⟩ := okB_obj hB (.inr rfl)
        have S1 := Lib.hid (show run z v (k + 1) = ((run z v k).1, fun j => if j = i then (run z v k).1 else (run z v k).2 j) by rw [hS.out]; simp)
        clear hB hS
        go_wp2_with (at_lookup; refine wpList_get_mapF _ rfl _ _ 52 rfl 3 50 Try.underlying3 Try.underlying52 .nilFunc (zeroF _) mb 5 _ rfl A2.out.map 2 rfl (by decide) (.func (Fn.func 30) #[.pointer (some ⟨cb, 0, none⟩)] #[]) rfl ?_)
        refine (write_any _ _ cb _ n _ r 2 z2 i hin A2.out.crs).mono ?_
        rintro e u5 ⟨rfl, C5, G5⟩
        have A5 := Lib.hid (A2.out.step C5.out G5.out S1.out)
        clear C5 G5 A2 c0 c1 c2
        go_wp2
        go_roundw
        case rel => exact ⟨k + 1, by omega, by go_num, A5⟩
        case measure => simp [intOf]; omega
      · have S1 := Lib.hid (show run z v (k + 1) = (z2, (run z v k).2) by rw [hS.out]; simp [sumI])
        clear hB hS
        go_wp2_with (at_lookup; refine wpList_get_mapF _ rfl _ _ 52 rfl 3 50 Try.underlying3 Try.underlying52 .nilFunc (zeroF _) mb 5 _ rfl A2.out.map 3 rfl (by decide) (.func (Fn.func 27) #[.pointer (some ⟨cb, 0, none⟩)] #[]) rfl ?_)
        refine (set_any _ _ cb _ n _ r 3 z1 z2 A2.out.crs).mono ?_
        rintro e u5 ⟨rfl, C5, G5⟩
        have A5 := Lib.hid (A2.out.step C5.out G5.out S1.out)
        clear C5 G5 A2 c0 c1 c2
        go_wp2
        go_roundw
        case rel => exact ⟨k + 1, by omega, by go_num, A5⟩
        case measure => simp [intOf]; omega
      · have S1 := Lib.hid (show run z v (k + 1) = (wrap64 ((run z v k).1 + z2), (run z v k).2) by rw [hS.out]; simp [sumI])
        clear hB hS
        go_wp2_with (at_lookup; refine wpList_get_mapF _ rfl _ _ 52 rfl 3 50 Try.underlying3 Try.underlying52 .nilFunc (zeroF _) mb 5 _ rfl A2.out.map 4 rfl (by decide) (.func (Fn.func 28) #[.pointer (some ⟨cb, 0, none⟩)] #[]) rfl ?_)
        refine (add_any _ _ cb _ n _ r 4 z1 z2 A2.out.crs).mono ?_
        rintro e u5 ⟨rfl, C5, G5⟩
        have A5 := Lib.hid (A2.out.step C5.out G5.out S1.out)
        clear C5 G5 A2 c0 c1 c2
        go_wp2
        go_roundw
        case rel => exact ⟨k + 1, by omega, by go_num, A5⟩
        case measure => simp [intOf]; omega
      · have S1 := Lib.hid (show run z v (k + 1) = ((run z v k).1, (run z v k).2) by rw [hS.out]; simp [sumI])
        clear hB hS
        go_wp2_with (at_lookup; refine wpList_get_mapF _ rfl _ _ 52 rfl 3 50 Try.underlying3 Try.underlying52 .nilFunc (zeroF _) mb 5 _ rfl A2.out.map 5 rfl (by decide) (.func (Fn.func 31) #[.pointer (some ⟨cb, 0, none⟩)] #[]) rfl ?_)
        refine (release_any _ _ cb _ n _ r 5 z1 z2 A2.out.crs).mono ?_
        rintro e u5 ⟨rfl, C5, G5⟩
        have A5 := Lib.hid (A2.out.step C5.out G5.out S1.out)
        clear C5 G5 A2 c0 c1 c2
        go_wp2
        go_roundw
        case rel => exact ⟨k + 1, by omega, by go_num, A5⟩
        case measure => simp [intOf]; omega
    · obtain rfl : k = len := by omega
      have AA := Lib.hid A.out
      obtain ⟨_, _, val, hb, ho, _⟩ := A.out.crs
      obtain ⟨b2, c2, rfl⟩ : ∃ b2 c2, val = .slice b2 n c2 := by
        rcases ho.2 with ⟨rfl, h0⟩ | ⟨g, cap, cur, rfl, _⟩
        · exact ⟨none, 0, by rw [h0]⟩
        · exact ⟨_, cap, rfl⟩
      have c1 : wr.cell? ⟨cb, 1, none⟩ = some (.slice b2 n c2) := hb.cell 1
      have HO := Lib.hid ho
      clear hb ho A
      go_wp2
      go_ret2
      exact ⟨b2, c2, rfl, HO.out, AA.out.grow⟩
end Go.Proofs.Ytjajhkgbhckdeaa.lg
