/- Package cells: locators and versions. -/
import Derived.Test.YtnaagcofgnmmlaaCelB
namespace Go.Proofs.Ytnaagcofgnmmlaa.ce
open Go Go.RowKit Go.Proofs.Ytnaagcofgnmmlaa.base Go.Proofs.Ytnaagcofgnmmlaa.ar Go.Proofs.Ytnaagcofgnmmlaa.wd Go.Proofs.Ytnaagcofgnmmlaa.rf Go.Proofs.Ytnaagcofgnmmlaa.mm Go.Proofs.Ytnaagcofgnmmlaa.vl Go.Proofs.Ytnaagcofgnmmlaa.ds
set_option linter.unusedVariables false

theorem Cel.c0 {base : Nat} {w : World} {cb tb ab m : Nat} {room : Int} {rs : List Rc} {hd : List Int} {is : Int → Bool} {num : Int → Nat → Int} {B : Int} {F : Nat → Prop} (h : Cel base w cb tb ab room rs hd m is num B F) : w.cell? ⟨cb, 0, none⟩ = some (.pointer (some ⟨ab, 0, none⟩)) ∧ cb < w.heap.size := by
  obtain ⟨G, r, wb, M, K, hs, hl, rfl⟩ := h
  obtain ⟨ao, cap, b1, _, _⟩ := K.fld.open
  exact ⟨b1.cell 0, b1.lt⟩

theorem value_in (base cb tb ab m : Nat) (room : Int) (rs : List Rc) (hd : List Int) (is : Int → Bool) (num : Int → Nat → Int) (B : Int) (F : Nat → Prop) (w : World) (h : Cel base w cb tb ab room rs hd m is num B F) (hroom : room ≤ 4096) (k : Int) (x : Rc) (hx : recAt rs k = some x) (hk : x.kind = 1) :
    Calls Try.prog 27 #[.pointer (some ⟨cb, 0, none⟩), .int .i64 k] w fun e w' => e = .returned (.tuple #[.int .i64 x.val, .int .i64 0]) ∧ Hid (w.grownBy w' none) := by
  have H := Lib.hid h
  clear h
  go_enter Try.func27, Try.ntmps27
  go_wp2_with fail
  refine (record_hit base cb tb ab m room rs hd is num B F _ H.out hroom k 1 x hx hk).mono ?_
  rintro e u1 ⟨rfl, g1⟩
  go_wp2
  go_ret2
  exact ⟨rfl, gb_alloc g1.out _⟩

theorem value_none (base cb tb ab m : Nat) (room : Int) (rs : List Rc) (hd : List Int) (is : Int → Bool) (num : Int → Nat → Int) (B : Int) (F : Nat → Prop) (w : World) (h : Cel base w cb tb ab room rs hd m is num B F) (hroom : room ≤ 4096) (k : Int) (hk : ¬ IsK rs k 1) :
    Calls Try.prog 27 #[.pointer (some ⟨cb, 0, none⟩), .int .i64 k] w fun e w' => e = .returned (.tuple #[.int .i64 0, .int .i64 6]) ∧ Hid (w.grownBy w' none) := by
  have H := Lib.hid h
  clear h
  go_enter Try.func27, Try.ntmps27
  go_wp2_with fail
  refine (record_none base cb tb ab m room rs hd is num B F _ H.out hroom k 1 hk).mono ?_
  rintro e u1 ⟨rfl, g1⟩
  go_wp2
  go_ret2
  exact ⟨rfl, gb_alloc g1.out _⟩

theorem cells_value (base cb tb ab m : Nat) (room : Int) (rs : List Rc) (hd : List Int) (is : Int → Bool) (num : Int → Nat → Int) (B : Int) (F : Nat → Prop) (w : World) (h : Cel base w cb tb ab room rs hd m is num B F) (hB : B ≤ 900000) (hroom : room ≤ 4096) (k : Int) (x : Rc) (hx : recAt rs k = some x) (hk : x.kind = 1) :
    Calls Try.prog 27 #[.pointer (some ⟨cb, 0, none⟩), .int .i64 k] w fun e w' => e = .returned (.tuple #[.int .i64 x.val, .int .i64 0]) ∧ Hid (Cel base w' cb tb ab room rs hd m is num (B + 100) F) ∧ Hid (Step F F w w') := by
  refine (value_in base cb tb ab m room rs hd is num B F w h hroom k x hx hk).mono ?_
  rintro e w' ⟨rfl, g⟩
  have := h.looked g.out
  exact ⟨rfl, this.1, this.2⟩

theorem cells_value_none (base cb tb ab m : Nat) (room : Int) (rs : List Rc) (hd : List Int) (is : Int → Bool) (num : Int → Nat → Int) (B : Int) (F : Nat → Prop) (w : World) (h : Cel base w cb tb ab room rs hd m is num B F) (hB : B ≤ 900000) (hroom : room ≤ 4096) (k : Int) (hk : ¬ IsK rs k 1) :
    Calls Try.prog 27 #[.pointer (some ⟨cb, 0, none⟩), .int .i64 k] w fun e w' => e = .returned (.tuple #[.int .i64 0, .int .i64 6]) ∧ Hid (Cel base w' cb tb ab room rs hd m is num (B + 100) F) ∧ Hid (Step F F w w') := by
  refine (value_none base cb tb ab m room rs hd is num B F w h hroom k hk).mono ?_
  rintro e w' ⟨rfl, g⟩
  have := h.looked g.out
  exact ⟨rfl, this.1, this.2⟩

theorem is_version (base cb tb ab m : Nat) (room : Int) (rs : List Rc) (hd : List Int) (is : Int → Bool) (num : Int → Nat → Int) (B : Int) (F : Nat → Prop) (w : World) (h : Cel base w cb tb ab room rs hd m is num B F) (hroom : room ≤ 4096) (k : Int) (hk : IsK rs k 1) :
    Calls Try.prog 26 #[.pointer (some ⟨cb, 0, none⟩), .int .i64 k] w fun e w' => e = .returned (.bool true) ∧ Hid (w.grownBy w' none) := by
  have H := Lib.hid h
  clear h
  obtain ⟨x, hx, hk⟩ := hk
  go_enter Try.func26, Try.ntmps26
  go_wp2_with fail
  refine (value_in base cb tb ab m room rs hd is num B F _ H.out hroom k x hx hk).mono ?_
  rintro e u1 ⟨rfl, g1⟩
  go_wp2
  go_ret
  exact ⟨rfl, g1.out⟩

theorem is_version_not (base cb tb ab m : Nat) (room : Int) (rs : List Rc) (hd : List Int) (is : Int → Bool) (num : Int → Nat → Int) (B : Int) (F : Nat → Prop) (w : World) (h : Cel base w cb tb ab room rs hd m is num B F) (hroom : room ≤ 4096) (k : Int) (hk : ¬ IsK rs k 1) :
    Calls Try.prog 26 #[.pointer (some ⟨cb, 0, none⟩), .int .i64 k] w fun e w' => e = .returned (.bool false) ∧ Hid (w.grownBy w' none) := by
  have H := Lib.hid h
  clear h
  go_enter Try.func26, Try.ntmps26
  go_wp2_with fail
  refine (value_none base cb tb ab m room rs hd is num B F _ H.out hroom k hk).mono ?_
  rintro e u1 ⟨rfl, g1⟩
  go_wp2
  go_ret
  exact ⟨rfl, g1.out⟩

theorem version_in (base cb tb ab m : Nat) (room : Int) (rs : List Rc) (hd : List Int) (is : Int → Bool) (num : Int → Nat → Int) (B : Int) (F : Nat → Prop) (w : World) (h : Cel base w cb tb ab room rs hd m is num B F) (hB : B ≤ 900000) (hroom : room ≤ 4096) (v : Int) (n : Nat) (hn : rs.length = n) (hl : (n : Int) < room) :
    Calls Try.prog 22 #[.pointer (some ⟨cb, 0, none⟩), .int .i64 v] w fun e w' => ∃ F', e = .returned (.tuple #[.int .i64 n, .int .i64 0]) ∧ Hid (Cel base w' cb tb ab room (rs ++ [⟨1, v, 0, 0, 0, 0, 0, 0, 0⟩]) hd m is num B F') ∧ Hid (Step F F' w w') := by
  obtain ⟨c0, lb⟩ := h.c0
  obtain ⟨G, M, back⟩ := h.mem
  have HM := Lib.hid M
  have HB := Lib.hid back
  clear h M back
  go_enter Try.func22, Try.ntmps22
  go_wp2_with fail
  refine (mem_put base tb ab m room rs is num B G _ HM.out ⟨1, v, 0, 0, 0, 0, 0, 0, 0⟩ (by omega) hroom).mono ?_
  rintro e u1 ⟨G', rfl, M', S'⟩
  obtain ⟨F', C', T'⟩ := HB.out _ _ _ _ _ _ _ (by rw [List.length_append]; simp; omega) M'.out S'.out (Int.le_refl _)
  have C1 := Lib.hid C'
  have T1 := Lib.hid T'
  clear C' T' M' S' HB HM
  rw [hn]
  go_wp2
  go_ret2
  exact ⟨F', rfl, C1.out, T1.out⟩

theorem cells_version (base cb tb ab m : Nat) (room : Int) (rs : List Rc) (hd : List Int) (is : Int → Bool) (num : Int → Nat → Int) (B : Int) (F : Nat → Prop) (w : World) (h : Cel base w cb tb ab room rs hd m is num B F) (hB : B ≤ 900000) (hroom : room ≤ 4096) (v : Int) (n : Nat) (hn : rs.length = n) (hl : (n : Int) < room) :
    Calls Try.prog 22 #[.pointer (some ⟨cb, 0, none⟩), .int .i64 v] w fun e w' => ∃ F', e = .returned (.tuple #[.int .i64 n, .int .i64 0]) ∧ Hid (Cel base w' cb tb ab room (rs ++ [⟨1, v, 0, 0, 0, 0, 0, 0, 0⟩]) hd m is num (B + 100) F') ∧ Hid (Step F F' w w') := by
  refine (version_in base cb tb ab m room rs hd is num B F w h hB hroom v n hn hl).mono ?_
  rintro e w' ⟨F', rfl, C1, S1⟩
  exact ⟨F', rfl, C1.out.mono (by omega), S1⟩

theorem cells_version_full (base cb tb ab m : Nat) (room : Int) (rs : List Rc) (hd : List Int) (is : Int → Bool) (num : Int → Nat → Int) (B : Int) (F : Nat → Prop) (w : World) (h : Cel base w cb tb ab room rs hd m is num B F) (hB : B ≤ 900000) (hroom : room ≤ 4096) (v : Int) (hl : (rs.length : Int) = room) :
    Calls Try.prog 22 #[.pointer (some ⟨cb, 0, none⟩), .int .i64 v] w fun e w' => e = .returned (.tuple #[.int .i64 0, .int .i64 4]) ∧ Hid (Cel base w' cb tb ab room rs hd m is num (B + 100) F) ∧ Hid (Step F F w w') := by
  have H := Lib.hid h
  obtain ⟨c0, lb⟩ := h.c0
  obtain ⟨G, M, _⟩ := h.mem
  have HM := Lib.hid M
  clear h M
  go_enter Try.func22, Try.ntmps22
  go_wp2_with fail
  refine (mem_put_full base tb ab m room rs is num B G _ HM.out ⟨1, v, 0, 0, 0, 0, 0, 0, 0⟩ hl hroom).mono ?_
  rintro e u1 ⟨rfl, g1⟩
  go_wp2
  go_ret2
  have := H.out.looked g1.out
  exact ⟨rfl, this.1, this.2⟩

theorem build_in (base cb tb ab m : Nat) (room : Int) (rs : List Rc) (hd : List Int) (is : Int → Bool) (num : Int → Nat → Int) (B : Int) (F : Nat → Prop) (w : World) (h : Cel base w cb tb ab room rs hd m is num B F) (hB : B ≤ 900000) (hroom : room ≤ 4096) (o p q : Int) (ho : -1 ≤ o) (hp : IsK rs p 1) (hq : IsK rs q 1) (n : Nat) (hn : rs.length = n) (hl : (n : Int) < room) :
    Calls Try.prog 23 #[.pointer (some ⟨cb, 0, none⟩), .int .i64 o, .int .i64 p, .int .i64 q] w fun e w' => ∃ F', e = .returned (.tuple #[.int .i64 n, .int .i64 0]) ∧ Hid (Cel base w' cb tb ab room (rs ++ [⟨2, 0, o, p, q, 0, 0, 0, 0⟩]) hd m is num B F') ∧ Hid (Step F F' w w') := by
  have H := Lib.hid h
  have HP := Lib.hid hp
  have HQ := Lib.hid hq
  have ho' : ¬ o < -1 := by omega
  clear h hp hq
  go_enter Try.func23, Try.ntmps23
  go_wp2_with fail
  refine (is_version base cb tb ab m room rs hd is num B F _ H.out hroom p HP.out).mono ?_
  rintro e u1 ⟨rfl, g1⟩
  go_wp2_with fail
  refine (is_version base cb tb ab m room rs hd is num B F _ (H.out.grown g1.out) hroom q HQ.out).mono ?_
  rintro e u2 ⟨rfl, g2⟩
  have g := Lib.hid (gb_trans g1.out g2.out)
  have H2 := Lib.hid (H.out.grown g.out)
  obtain ⟨c0, lb⟩ := H2.out.c0
  obtain ⟨G, M, back⟩ := H2.out.mem
  have HM := Lib.hid M
  have HB := Lib.hid back
  clear M back g1 g2
  go_wp2_with fail
  refine (mem_put base tb ab m room rs is num B G _ HM.out ⟨2, 0, o, p, q, 0, 0, 0, 0⟩ (by omega) hroom).mono ?_
  rintro e u3 ⟨G', rfl, M', S'⟩
  obtain ⟨F', C', T'⟩ := HB.out _ _ _ _ _ _ _ (by rw [List.length_append]; simp; omega) M'.out S'.out (Int.le_refl _)
  have C1 := Lib.hid C'
  have T1 := Lib.hid ((Step.none g.out).trans T')
  clear C' T' M' S' HB HM
  rw [hn]
  go_wp2
  go_ret2
  exact ⟨F', rfl, C1.out, T1.out⟩

theorem cells_build (base cb tb ab m : Nat) (room : Int) (rs : List Rc) (hd : List Int) (is : Int → Bool) (num : Int → Nat → Int) (B : Int) (F : Nat → Prop) (w : World) (h : Cel base w cb tb ab room rs hd m is num B F) (hB : B ≤ 900000) (hroom : room ≤ 4096) (o p q : Int) (ho : -1 ≤ o) (hp : IsK rs p 1) (hq : IsK rs q 1) (n : Nat) (hn : rs.length = n) (hl : (n : Int) < room) :
    Calls Try.prog 23 #[.pointer (some ⟨cb, 0, none⟩), .int .i64 o, .int .i64 p, .int .i64 q] w fun e w' => ∃ F', e = .returned (.tuple #[.int .i64 n, .int .i64 0]) ∧ Hid (Cel base w' cb tb ab room (rs ++ [⟨2, 0, o, p, q, 0, 0, 0, 0⟩]) hd m is num (B + 100) F') ∧ Hid (Step F F' w w') := by
  refine (build_in base cb tb ab m room rs hd is num B F w h hB hroom o p q ho hp hq n hn hl).mono ?_
  rintro e w' ⟨F', rfl, C1, S1⟩
  exact ⟨F', rfl, C1.out.mono (by omega), S1⟩

theorem cells_build_full (base cb tb ab m : Nat) (room : Int) (rs : List Rc) (hd : List Int) (is : Int → Bool) (num : Int → Nat → Int) (B : Int) (F : Nat → Prop) (w : World) (h : Cel base w cb tb ab room rs hd m is num B F) (hB : B ≤ 900000) (hroom : room ≤ 4096) (o p q : Int) (ho : -1 ≤ o) (hp : IsK rs p 1) (hq : IsK rs q 1) (hl : (rs.length : Int) = room) :
    Calls Try.prog 23 #[.pointer (some ⟨cb, 0, none⟩), .int .i64 o, .int .i64 p, .int .i64 q] w fun e w' => e = .returned (.tuple #[.int .i64 0, .int .i64 4]) ∧ Hid (Cel base w' cb tb ab room rs hd m is num (B + 100) F) ∧ Hid (Step F F w w') := by
  have H := Lib.hid h
  have HP := Lib.hid hp
  have HQ := Lib.hid hq
  have ho' : ¬ o < -1 := by omega
  clear h hp hq
  go_enter Try.func23, Try.ntmps23
  go_wp2_with fail
  refine (is_version base cb tb ab m room rs hd is num B F _ H.out hroom p HP.out).mono ?_
  rintro e u1 ⟨rfl, g1⟩
  go_wp2_with fail
  refine (is_version base cb tb ab m room rs hd is num B F _ (H.out.grown g1.out) hroom q HQ.out).mono ?_
  rintro e u2 ⟨rfl, g2⟩
  have g := Lib.hid (gb_trans g1.out g2.out)
  have H2 := Lib.hid (H.out.grown g.out)
  obtain ⟨c0, lb⟩ := H2.out.c0
  obtain ⟨G, M, _⟩ := H2.out.mem
  have HM := Lib.hid M
  clear M g1 g2
  go_wp2_with fail
  refine (mem_put_full base tb ab m room rs is num B G _ HM.out ⟨2, 0, o, p, q, 0, 0, 0, 0⟩ hl hroom).mono ?_
  rintro e u3 ⟨rfl, g3⟩
  go_wp2
  go_ret2
  have := H.out.looked (gb_trans g.out g3.out)
  exact ⟨rfl, this.1, this.2⟩

theorem cells_build_bad (base cb tb ab m : Nat) (room : Int) (rs : List Rc) (hd : List Int) (is : Int → Bool) (num : Int → Nat → Int) (B : Int) (F : Nat → Prop) (w : World) (h : Cel base w cb tb ab room rs hd m is num B F) (hB : B ≤ 900000) (hroom : room ≤ 4096) (o p q : Int) (hb : o < -1 ∨ ¬ IsK rs p 1 ∨ ¬ IsK rs q 1) :
    Calls Try.prog 23 #[.pointer (some ⟨cb, 0, none⟩), .int .i64 o, .int .i64 p, .int .i64 q] w fun e w' => e = .returned (.tuple #[.int .i64 0, .int .i64 1]) ∧ Hid (Cel base w' cb tb ab room rs hd m is num (B + 100) F) ∧ Hid (Step F F w w') := by
  have H := Lib.hid h
  obtain ⟨c0, lb⟩ := h.c0
  clear h
  by_cases ho : o < -1
  · go_enter Try.func23, Try.ntmps23
    go_wp2
    go_ret2
    have := H.out.looked (gb_refl _ _)
    exact ⟨rfl, this.1, this.2⟩
  · by_cases hp : IsK rs p 1
    · have hq : ¬ IsK rs q 1 := by
        rcases hb with h | h | h
        · exact absurd h ho
        · exact absurd hp h
        · exact h
      have HP := Lib.hid hp
      have HQ := Lib.hid hq
      clear hb hp hq
      go_enter Try.func23, Try.ntmps23
      go_wp2_with fail
      refine (is_version base cb tb ab m room rs hd is num B F _ H.out hroom p HP.out).mono ?_
      rintro e u1 ⟨rfl, g1⟩
      go_wp2_with fail
      refine (is_version_not base cb tb ab m room rs hd is num B F _ (H.out.grown g1.out) hroom q HQ.out).mono ?_
      rintro e u2 ⟨rfl, g2⟩
      go_wp2
      go_ret2
      have := H.out.looked (gb_trans g1.out g2.out)
      exact ⟨rfl, this.1, this.2⟩
    · have HP := Lib.hid hp
      clear hb hp
      go_enter Try.func23, Try.ntmps23
      go_wp2_with fail
      refine (is_version_not base cb tb ab m room rs hd is num B F _ H.out hroom p HP.out).mono ?_
      rintro e u1 ⟨rfl, g1⟩
      go_wp2
      go_ret2
      have := H.out.looked g1.out
      exact ⟨rfl, this.1, this.2⟩

end Go.Proofs.Ytnaagcofgnmmlaa.ce
