/- Bytes as a string; the bytes of operations, and the operations of bytes. -/
import Derived.Test.YtjajhkgbhckdeaaGetR
import Derived.Test.YtjajhkgbhckdeaaPut
import Derived.Laws.BytesString
import Derived.Laws.Concat
namespace Go.Proofs.Ytjajhkgbhckdeaa.lg
open Go Go.RowKit Go.Proofs.Ytjajhkgbhckdeaa.base
set_option linter.unusedVariables false

/-- The first n bytes of f, as a string. -/
def bs (f : Nat → Int) (n : Nat) : ByteArray := ⟨((List.range n).map fun i => UInt8.ofNat (f i).toNat).toArray⟩
theorem bs_size (f : Nat → Int) (n : Nat) : (bs f n).size = n := by simp [bs, ByteArray.size]
theorem bs_congr {f g : Nat → Int} {n : Nat} (h : ∀ i, i < n → f i = g i) : bs f n = bs g n := by
  unfold bs
  congr 2
  exact List.map_congr_left fun i hi => by rw [h i (by simpa using hi)]
theorem bs_add (f : Nat → Int) (m n : Nat) : bs f (m + n) = bs f m ++ bs (fun i => f (m + i)) n := by
  unfold bs
  rw [ByteArray.mk_append_mk]
  simp [List.range_add]
theorem fold_push (g : Int → UInt8) : ∀ (l : List Int) (s : ByteArray), l.foldl (fun r n => r.push (g n)) s = ⟨s.data ++ (l.map g).toArray⟩ := by
  intro l
  induction l with
  | nil => intro s; simp
  | cons n l ih =>
    intro s
    rw [List.foldl_cons, ih]
    simp [ByteArray.push]

theorem conv_str (w : World) (a : Option Addr) (n c : Nat) (f : Nat → Int) (h : IsNums .u8 w a n f) : (convert 38 9 (.slice a n c)).run Try.prog w = .ok (.string (bs f n)) w := by
  rw [run_convert_bytes_string w _ _ 5 a n c Try.underlying38 Try.underlying5 Try.underlying9]
  cases a with
  | none =>
    obtain rfl : n = 0 := by
      rcases h with h | ⟨_, _, h, _⟩
      · exact h
      · cases h
    simp [Conv.bytesToString, bs]
    rfl
  | some ad =>
    have hl := run_loadCells_list (P := Try.prog) w ad (((List.range n).map f).map (Value.int .u8)) (by
      rcases h.src with ⟨rfl, _⟩ | ⟨ad', e, h⟩
      · intro j v hj; simp at hj
      · cases e
        intro j v hj
        exact h j v (by simpa using hj))
    have hlen : (((List.range n).map f).map (Value.int .u8)).length = n := by simp
    rw [hlen] at hl
    rw [run_bytesToString w ad n c ((List.range n).map f) hl, fold_push]
    simp [bs]

theorem pb_range (z : Nat → Nat → Int) (n : Nat) : ∀ i, i < n → 0 ≤ pb z i ∧ pb z i ≤ 255 := by
  intro i _
  unfold pb
  omega
/-- The operations of the bytes of operations. -/
theorem gzpb (z : Nat → Nat → Int) (i j : Nat) (hj : j < 3) : gz (pb z) i j = if j = 2 then s8 (z i 2 % 256) else z i j % 256 := by
  rcases (by omega : j = 0 ∨ j = 1 ∨ j = 2) with rfl | rfl | rfl
  · rw [gz0, pb0]; simp
  · rw [gz1, pb1]; simp
  · rw [gz2, pb2]; simp
theorem gz_pb {z : Nat → Nat → Int} {i : Nat} {n : Int} (h : okB (z i 0) (z i 1) (z i 2) n = true) (hn : n ≤ 256) (j : Nat) (hj : j < 3) : gz (pb z) i j = z i j := by
  rw [gzpb z i j hj]
  have hk := okB_kind h
  unfold okB at h
  rcases (by omega : j = 0 ∨ j = 1 ∨ j = 2) with rfl | rfl | rfl
  · simp; omega
  · simp only [show ¬ (1 = 2) by decide, if_false]
    split at h <;> simp at h <;> omega
  · simp only [if_true]
    unfold s8
    split at h <;> simp at h <;> split <;> omega
theorem pb_gz {f : Nat → Int} {n : Nat} (h : ∀ i, i < n → 0 ≤ f i ∧ f i ≤ 255) : ∀ i, i < n → pb (gz f) i = f i := by
  intro i hi
  have hb := h i hi
  unfold pb gz
  split
  · rw [show i / 3 * 3 + 2 = i by omega]
    unfold s8
    split <;> omega
  · rw [show i / 3 * 3 + i % 3 = i by omega]
    omega
theorem okN_pb {z : Nat → Nat → Int} {n : Int} {m : Nat} (h : okN z n m = true) (hn : n ≤ 256) : okN (gz (pb z)) n m = true :=
  okN_of fun i hi => by
    have := okN_at h hi
    rw [gz_pb this hn 0 (by omega), gz_pb this hn 1 (by omega), gz_pb this hn 2 (by omega)]
    exact this

/-- Get, whatever it answers. -/
theorem get_some (a1 : Option Addr) (n cap : Nat) (bf : Nat → Int) (objs : Int) (w : World) (hz : IsNums .u8 w a1 n bf) (hb : ∀ i, i < n → 0 ≤ bf i ∧ bf i ≤ 255) (hc : n ≤ cap) (hm : cap ≤ maxLen) (hn : n ≤ 100000) :
    Calls Try.prog 20 #[.slice a1 n cap, .int .i64 objs] w fun e w' => ∃ b' m c' p q, e = .returned (.tuple #[.slice b' m c', .int .i64 p, .int .i64 q]) ∧ Hid (w.grownBy w' none) :=
  (get_any a1 n cap bf objs w hz hb hc hm hn).mono fun e w' h => by
    obtain ⟨g, ⟨m, b', c', _, _, h, _⟩ | ⟨m, _, _, _, h⟩ | ⟨m, _, _, _, h⟩⟩ := h
    · exact ⟨b', m, c', _, _, h, g⟩
    · exact ⟨none, 0, 0, _, _, h, g⟩
    · exact ⟨none, 0, 0, _, _, h, g⟩
end Go.Proofs.Ytjajhkgbhckdeaa.lg
