/- The document's own answer of chapter 17: Commits. -/
import Derived.Test.YtgnakcahmmdncaaHy
import Derived.Test.YtgnakcahmmdncaaHmR
namespace Go.Proofs.Ytgnakcahmmdncaa.hs
open Go Go.RowKit Go.Proofs.Ytgnakcahmmdncaa.base Go.Maps
set_option linter.unusedVariables false
set_option maxRecDepth 100000

theorem take_filter {α : Type} (l : List α) (p : α → Bool) {k : Nat} {x : α} (h : l[k]? = some x) : (l.take (k + 1)).filter p = (l.take k).filter p ++ (if p x = true then [x] else []) := by
  rw [List.take_add_one, h, List.filter_append]
  by_cases hp : p x = true
  · simp [hp]
  · simp [hp]

theorem in_snoc {α : Type} {ts ys : List α} {x : α} (h : ∀ y ∈ ys, y ∈ ts) (hx : x ∈ ts) : ∀ y ∈ ys ++ [x], y ∈ ts := by
  intro y hy
  rcases List.mem_append.1 hy with hy | hy
  · exact h y hy
  · rw [List.mem_singleton.1 hy]
    exact hx
/-- One more try of those that lie there. -/
theorem ts_snoc {u w : World} {ys : List (Tr × Value)} {L : Blks} {oa : Option Addr} {oc : Nat} {x : Tr × Value} {g' c' : Nat} (HROW : Row tvC 9 32 ys (.slice oa ys.length oc) L) (HO : base.Own u w L) {o : Obj} {w5 : World}
    (ho : w5.ownsRow u.heap.size 32 9 (.slice (some ⟨g', 0, none⟩) (ys.length + 1) c') (ys.length + 1) (rows tvC ys ++ tvC x)) (hg : (w.alloc o).grownBy w5 (Value.slice oa ys.length oc).ownBlock) (hv : some g' = (Value.slice oa ys.length oc).ownBlock ∨ (w.alloc o).heap.size ≤ g') :
    ∃ L', Row tvC 9 32 (ys ++ [x]) (.slice (some ⟨g', 0, none⟩) (ys.length + 1) c') L' ∧ base.Own u w5 L' := by
  obtain ⟨L', r1, r2⟩ := base.Row.snoc (x := x) HROW (R := []) (by rw [List.append_nil]; exact HO) (World.grownBy_alloc w o none) ho hg hv
  rw [List.append_nil] at r2
  exact ⟨L', r1, r2⟩

set_option maxHeartbeats 4000000 in
theorem comms_doc (a : Option Addr) (len cap : Nat) (e : Evs) (w : World) (hl : IsEvs w a len e) (hr : right e len = true) (hlen : len ≤ 1000) :
    Calls Try.prog 16 #[.slice a len cap] w fun r w' => ∃ a' c ys, r = .returned (.slice a' ys.length c) ∧ Hid (TsAt w' a' ys) ∧ Hid (ys.map Prod.fst = commsD e len) ∧ Hid (w.grownBy w' none) := by
  have HL := Lib.hid hl
  have HR := Lib.hid hr
  have HLEN := Lib.hid hlen
  obtain ⟨i0, hi0, hz00, hz10, hz20⟩ := info_parts infoTryD
  have hi := Lib.hid hi0
  have hz0 := Lib.hid hz00
  have hz1 := Lib.hid hz10
  have hz2 := Lib.hid hz20
  clear hl hr hlen hi0 hz00 hz10 hz20
  go_enter Try.func16, Try.ntmps16
  go_wp2_with fail
  refine (tries_doc a len cap e _ HL.out HR.out (by have := HLEN.out; omega)).mono ?_
  rintro r u1 ⟨ta, tc, ts, rfl, HT, HTS, g1⟩
  have hlen' : (len : Int) ≤ 1000 := by have := HLEN.out; omega
  have htl : ts.length ≤ 1000 := by
    have h9 := congrArg List.length HTS.out
    rw [List.length_map] at h9
    have h8 := tries_n e len
    have h7 := HLEN.out
    omega
  have htl2 : (ts.length : Int) ≤ 1000 := by omega
  have HLT := Lib.hid (show ts.length = (tries e len).length by rw [← HTS.out, List.length_map])
  go_wp2
  go_loopw [3, 5] (fun ov iv wr => ∃ (i : Nat) (ys : List (Tr × Value)) (L : Blks), i ≤ len ∧ iv = .int .i64 i ∧ Hid (Row tvC 9 32 ys ov L) ∧ Hid (base.Own u1 wr L) ∧ Hid (ys.map Prod.fst = (List.range i).flatMap fun (j : Nat) => (tries e len).filter fun t => t.co && decide (t.en = (j : Int))) ∧ Hid (∀ x ∈ ys, x ∈ ts) ∧ Hid (ys.length ≤ i * 1000)) (fun _ iv _ => (len - intOf iv).toNat)
  case atStart => exact ⟨0, [], [], by omega, rfl, Row.nil, base.Own.start u1, rfl, fun x hx => by simp at hx, Nat.zero_le _⟩
  case round =>
    obtain ⟨i, ys, L, hi1, rfl, HROW, HO, HYS, HIN, HN⟩ := hrel
    obtain ⟨oa, oc, rfl⟩ := HROW.out.slice
    by_cases hlt : i < len
    · have hlt' : (i : Int) < (len : Int) := by omega
      have HYS0 := Lib.hid HYS.out
      obtain ⟨B, hB⟩ : ∃ B, B = (List.range i).flatMap fun (j : Nat) => (tries e len).filter fun t => t.co && decide (t.en = (j : Int)) := ⟨_, rfl⟩
      rw [← hB] at HYS
      have HB := Lib.hid hB
      clear hB HYS0
      go_wp2
      go_loopw [3, 6] (fun ov kv wr => ∃ (k : Nat) (ys : List (Tr × Value)) (L : Blks), k ≤ ts.length ∧ kv = .int .i64 k ∧ Hid (Row tvC 9 32 ys ov L) ∧ Hid (base.Own u1 wr L) ∧ Hid (ys.map Prod.fst = B ++ ((tries e len).take k).filter fun t => t.co && decide (t.en = (i : Int))) ∧ Hid (∀ x ∈ ys, x ∈ ts) ∧ Hid (ys.length ≤ i * 1000 + k)) (fun _ kv _ => (ts.length - intOf kv).toNat)
      case atStart => exact ⟨0, ys, L, by omega, rfl, HROW, HO, by show _ = _; rw [HYS.out]; simp, HIN, HN⟩
      case round =>
        clear HROW HO HYS HIN HN
        obtain ⟨k, ys, L, hk1, rfl, HROW, HO, HYS, HIN, HN⟩ := hrel
        obtain ⟨oa, oc, rfl⟩ := HROW.out.slice
        by_cases hkl : k < ts.length
        · have hkl' : (k : Int) < (ts.length : Int) := by omega
          have hkx : (tries e len)[k]? = some ts[k].1 := by rw [← HTS.out, List.getElem?_map, List.getElem?_eq_getElem hkl]; rfl
          obtain ⟨b, off, va, vc, rfl, hb, hx2, HI, q0, q1, q2, q3, q4, q5, q6, q7, q8⟩ := (HT.out.grown HO.out.grow).at (List.getElem?_eq_getElem hkl)
          have hmem : ts[k] ∈ ts := List.getElem_mem hkl
          obtain ⟨t, ht⟩ : ∃ t, t = ts[k].1 := ⟨_, rfl⟩
          rw [← ht] at hkx hx2 q0 q1 q2 q3 q4 q5 q6 q7 q8
          have hpair : ts[k] = (t, .slice va t.ac.length vc) := Prod.ext ht.symm hx2
          rw [hpair] at hmem
          have HMEM := Lib.hid hmem
          have TF := Lib.hid (take_filter (tries e len) (fun t => t.co && decide (t.en = (i : Int))) hkx)
          clear hpair ht hkx hx2 hmem HI
          obtain ⟨xth, xtx, xat, xst, xb, xen, xre, xco, xac⟩ := t
          dsimp only at q0 q1 q2 q3 q4 q5 q6 q7 q8 HMEM TF
          have HOWN := Lib.hid (HROW.out.owns tvC_len (R := []) (by rw [List.append_nil]; exact HO.out))
          have hyn : ys.length ≤ 2000000 := by have := HN.out; have := HLEN.out; omega
          have hsz := HO.out.grow.size
          have hk6 : (k : Int) < 1000000 := by omega
          cases xco with
          | true =>
            by_cases hen : xen = (i : Int)
            · have fe : (xen == (i : Int)) = true := by simp [hen]
              have HP := Lib.hid (show ((tries e len).take (k + 1)).filter (fun t => t.co && decide (t.en = (i : Int))) = ((tries e len).take k).filter (fun t => t.co && decide (t.en = (i : Int))) ++ [(⟨xth, xtx, xat, xst, xb, xen, xre, true, xac⟩ : Tr)] by rw [TF.out, if_pos (by simp [hen])])
              clear hen TF
              go_wp2_with (first | (at_builtin; refine wpList_append_at _ rfl (.tmp 35) (.tmp 40) 28 rfl u1.heap.size 32 i0 (.agg #[.int .i64 0, .int .i64 0, .int .i64 0, .int .i64 0, .int .i64 0, .int .i64 0, .int .i64 0, .bool false, .slice none 0 0]) 9 88 Try.underlying28 hi.out hz0.out hz1.out hz2.out rfl (by decide) (.slice oa ys.length oc) ys.length (rows tvC ys) rfl (HOWN.out.alloc _) ⟨wr.heap.size, 0, none⟩ 1 1 (tvC ((⟨xth, xtx, xat, xst, xb, xen, xre, true, xac⟩ : Tr), .slice va ((⟨xth, xtx, xat, xst, xb, xen, xre, true, xac⟩ : Tr)).ac.length vc)) rfl rfl (new_cells wr _ _) (by intro u hu; simp [tvC, trC] at hu; rcases hu with rfl | rfl | rfl | rfl | rfl | rfl | rfl | rfl | rfl <;> rfl) (by unfold maxLen; omega) (by omega) (by simp; omega) (by decide) ?_; intro g' c' w5 ho hg hv; obtain ⟨L', r1, r2⟩ := ts_snoc (x := ((⟨xth, xtx, xat, xst, xb, xen, xre, true, xac⟩ : Tr), .slice va ((⟨xth, xtx, xat, xst, xb, xen, xre, true, xac⟩ : Tr)).ac.length vc)) HROW.out HO.out ho hg hv; have R1 := Lib.hid r1; have R2 := Lib.hid r2; clear ho hg hv r1 r2) | go_in)
              go_roundw
              case rel => exact ⟨k + 1, ys ++ [((⟨xth, xtx, xat, xst, xb, xen, xre, true, xac⟩ : Tr), .slice va xac.length vc)], L', by omega, by go_num, R1, R2, by show _ = _; rw [List.map_append, HYS.out, HP.out, List.append_assoc]; rfl, in_snoc HIN.out HMEM.out, by show _ ≤ _; rw [List.length_append]; have := HN.out; simp; omega⟩
              case measure => simp [intOf] <;> omega
            · have fe : (xen == (i : Int)) = false := by simp [hen]
              have HP := Lib.hid (show ((tries e len).take (k + 1)).filter (fun t => t.co && decide (t.en = (i : Int))) = ((tries e len).take k).filter (fun t => t.co && decide (t.en = (i : Int))) by rw [TF.out, if_neg (by simp [hen]), List.append_nil])
              clear hen TF
              go_wp2
              go_roundw
              case rel => exact ⟨k + 1, ys, L, by omega, by go_num, HROW, HO, by show _ = _; rw [HYS.out, HP.out], HIN, by show _ ≤ _; have := HN.out; omega⟩
              case measure => simp [intOf] <;> omega
          | false =>
            have HP := Lib.hid (show ((tries e len).take (k + 1)).filter (fun t => t.co && decide (t.en = (i : Int))) = ((tries e len).take k).filter (fun t => t.co && decide (t.en = (i : Int))) by rw [TF.out, if_neg (by simp), List.append_nil])
            clear TF
            go_wp2
            go_roundw
            case rel => exact ⟨k + 1, ys, L, by omega, by go_num, HROW, HO, by show _ = _; rw [HYS.out, HP.out], HIN, by show _ ≤ _; have := HN.out; omega⟩
            case measure => simp [intOf] <;> omega
        · obtain rfl : k = ts.length := by omega
          go_wp2
          go_roundw
          case rel => exact ⟨i + 1, ys, L, by omega, by go_num, HROW, HO, by (show _ = _; rw [HYS.out, HLT.out, List.take_length, HB.out, List.range_succ, List.flatMap_append]; simp), HIN, by show _ ≤ _; have := HN.out; omega⟩
          case measure => simp [intOf] <;> omega
    · obtain rfl : i = len := by omega
      go_wp2
      go_ret
      obtain ⟨a', c', hv, HZ⟩ := TsAt.of_row HROW.out (R := []) (by rw [List.append_nil]; exact HO.out) (fun x hx => (HT.out.grown HO.out.grow).2 x (HIN.out x hx))
      cases hv
      exact ⟨_, _, ys, rfl, HZ, HYS.out, gb_trans g1.out HO.out.grow⟩
end Go.Proofs.Ytgnakcahmmdncaa.hs
