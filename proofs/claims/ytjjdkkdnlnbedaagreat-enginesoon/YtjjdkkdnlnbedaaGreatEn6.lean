/- What an engine is asked. -/
import Derived.Test.YtjjdkkdnlnbedaaGreatEn4
namespace Go.Proofs.YtjjdkkdnlnbedaaGreat
open Go.RowKit Kt Qu
set_option linter.unusedVariables false

theorem find_range {p : Nat → Bool} : ∀ {n j : Nat}, j < n → (∀ k, k < j → p k = false) → p j = true → (List.range n).find? p = some j := by
  intro n j hj hk hp
  rw [List.find?_range_eq_some]
  exact ⟨hp, by simpa using hj, fun k h => by simpa using hk k h⟩
theorem find_range_none {p : Nat → Bool} {n : Nat} (hk : ∀ k, k < n → p k = false) : (List.range n).find? p = none := by
  rw [List.find?_eq_none]
  intro x hx
  rw [List.mem_range] at hx
  rw [hk x hx]; decide
/-- An answer on where something is. -/
def whV (o : Option Nat) : Value := .tuple #[.int .i64 (match o with | none => 0 | some i => (i : Int)), .bool o.isSome]
section
variable {w w' : World} {l : Loc} {e : En}
theorem all_any (h : Es w l e) (w' : World) (hb : Below w.heap.size w w') : Calls Tryz.prog 55 #[.pointer (some ⟨l.g, 0, none⟩)] w' fun r w2 => r = .returned (.slice (some ⟨l.r, 0, none⟩) e.n l.cap) ∧ w2 = w' := by
  have g1 : w'.cell? ⟨l.g, 1, none⟩ = some (.slice (some ⟨l.r, 0, none⟩) e.n l.cap) := blkAt (h.below hb).box 1 _ rfl
  clear h hb
  go_enter Tryz.func55, Tryz.ntmps55
  go_wp2
  go_ret
  exact ⟨rfl, rfl⟩
theorem all_nil (w : World) : Calls Tryz.prog 55 #[.pointer none] w fun r w2 => r = .returned (.slice none 0 0) ∧ w2 = w := by
  go_enter Tryz.func55, Tryz.ntmps55
  go_wp2
  go_ret
  exact ⟨rfl, rfl⟩
theorem Es.bhas (h : Es w l e) {i : Nat} (hi : i < e.n) (id : Int) (hid : isI id) : Calls Tryz.prog 85 #[.pointer (some ⟨l.b i, 0, none⟩), .int .i64 id] w fun r w' => r = .returned (.bool (e.hasId id i)) ∧ Below w.heap.size w w' := by
  obtain ⟨R, hR, hL⟩ := h.bs i hi
  refine (_root_.Go.Proofs.YtjjdkkdnlnbedaaGreat.bhas hR id hid).mono ?_
  rintro r w2 ⟨rfl, hb⟩
  exact ⟨by unfold En.hasId; rw [← hL], hb⟩
theorem Es.blen (h : Es w l e) {i : Nat} (hi : i < e.n) : Calls Tryz.prog 56 #[.pointer (some ⟨l.b i, 0, none⟩)] w fun r w' => r = .returned (.int .i64 ((e.cp i).L.length : Int)) ∧ Below w.heap.size w w' := by
  obtain ⟨R, hR, hL⟩ := h.bs i hi
  rw [← hL]
  exact _root_.Go.Proofs.YtjjdkkdnlnbedaaGreat.blen hR
theorem Es.ball (h : Es w l e) {i : Nat} (hi : i < e.n) : Calls Tryz.prog 29 #[.pointer (some ⟨l.b i, 0, none⟩)] w fun r w' => ∃ v, r = .returned v ∧ Rg rtm w' w.heap.size v (e.cp i).L ∧ Below w.heap.size w w' := by
  obtain ⟨R, hR, hL⟩ := h.bs i hi
  rw [← hL]
  exact _root_.Go.Proofs.YtjjdkkdnlnbedaaGreat.ball hR
set_option maxRecDepth 20000 in
set_option maxHeartbeats 1000000 in
theorem where_any (h : Es w l e) (id : Int) (hid : isI id) : Calls Tryz.prog 53 #[.pointer (some ⟨l.g, 0, none⟩), .int .i64 id] w fun r w' => r = .returned (whV (e.wher id)) ∧ Below w.heap.size w w' := by
  have HH := hide h
  have CA := fun w' hb => hide (all_any h w' hb)
  have hn16 := h.n16
  have hcap := h.cap
  obtain ⟨n, hn⟩ : ∃ n, e.n = n := ⟨_, rfl⟩
  rw [hn] at hn16 hcap CA
  have HN := hide hn
  clear h hn
  have HB0 := hide (Below.refl w.heap.size w)
  go_enter Tryz.func53, Tryz.ntmps53
  go_wp2_with (go_at_call 55; refine (unhide (CA _ (unhide HB0))).mono ?_; rintro r w1 ⟨rfl, rfl⟩)
  go_loopw [11] (fun d w' => ∃ j : Nat, d = .int .i64 (j : Int) ∧ j ≤ n ∧ Hid (Below w1.heap.size w1 w' ∧ ∀ k, k < j → e.hasId id k = false)) (fun d _ => n - (intOf d).toNat)
  case atStart => exact ⟨0, rfl, by omega, hide ⟨unhide HB0, fun k hk => by omega⟩⟩
  case round =>
    obtain ⟨j, rfl, hj, HJ⟩ := hrel
    by_cases hlt : j < n
    · have hr := (unhide HH).below (unhide HJ).1
      obtain ⟨r0, r1, r2, r3⟩ := hr.row j (by rw [unhide HN]; exact hlt)
      generalize (e.cp j).ra = ra at *
      generalize (e.cp j).ki = ki at *
      obtain ⟨W3, hW3⟩ : ∃ W3, W3 = wr.alloc (.cells #[.pointer (some ⟨l.b j, 0, none⟩), .pointer (some ⟨l.d j, 0, none⟩), .bool ra, .bool ki] 71) := ⟨_, rfl⟩
      have b3 : Below wr.heap.size wr W3 := by rw [hW3]; exact one_below _ _
      obtain ⟨bx, hbx⟩ : ∃ b, wr.heap.size = b := ⟨_, rfl⟩
      have k3 : Blk W3 bx 71 #[.pointer (some ⟨l.b j, 0, none⟩), .pointer (some ⟨l.d j, 0, none⟩), .bool ra, .bool ki] := by rw [hW3]; exact Blk.new_at _ _ _ hbx.symm
      have z0 : W3.cell? ⟨bx, 0, none⟩ = some (.pointer (some ⟨l.b j, 0, none⟩)) := blkAt k3 0 _ rfl
      have CB := hide ((hr.below b3).bhas (i := j) (by rw [unhide HN]; exact hlt) id hid)
      have HB3 := hide ((unhide HJ).1.trans (b3.mono (unhide HJ).1.size))
      have HK := hide (unhide HJ).2
      have HW3 := hide hW3
      clear hr b3 k3 hW3 HJ
      generalize l.b j = bj at *
      generalize l.d j = dj at *
      obtain ⟨x, hx⟩ : ∃ x, e.hasId id j = x := ⟨_, rfl⟩
      rw [hx] at CB
      have HX := hide hx
      clear hx
      cases x with
      | true =>
        go_wp2_with (go_at_call 85; refine Hid.out ?_)
        refine hide ?_
        rw [← unhide HW3]
        refine (unhide CB).mono ?_
        rintro r w4 ⟨rfl, hb4⟩
        go_wp2_with fail
        go_ret2
        refine ⟨?_, (unhide HB3).trans (hb4.mono (unhide HB3).size)⟩
        rw [show e.wher id = some j from find_range (by rw [unhide HN]; exact hlt) (unhide HK) (unhide HX)]
        rfl
      | false =>
        go_wp2_with (go_at_call 85; refine Hid.out ?_)
        refine hide ?_
        rw [← unhide HW3]
        refine (unhide CB).mono ?_
        rintro r w4 ⟨rfl, hb4⟩
        have HB4 := hide ((unhide HB3).trans (hb4.mono (unhide HB3).size))
        clear hb4
        go_wp2_with fail
        go_roundw
        case rel =>
          refine ⟨j + 1, by first | rfl | go_num, by omega, hide ⟨unhide HB4, fun k hk => ?_⟩⟩
          by_cases q : k = j
          · subst q; exact unhide HX
          · exact unhide HK k (by omega)
        case measure => simp [intOf]; omega
    · obtain rfl : j = n := by omega
      go_wp2_with fail
      go_ret2
      refine ⟨?_, (unhide HJ).1⟩
      rw [show e.wher id = none from find_range_none (by rw [unhide HN]; exact (unhide HJ).2)]
      rfl
set_option maxRecDepth 20000 in
set_option maxHeartbeats 1000000 in
theorem len_any15 (h : Es w l e) : Calls Tryz.prog 19 #[.pointer (some ⟨l.g, 0, none⟩)] w fun r w' => r = .returned (.int .i64 (e.len : Int)) ∧ Below w.heap.size w w' := by
  have HH := hide h
  have CA := fun w' hb => hide (all_any h w' hb)
  have hn16 := h.n16
  have hcap := h.cap
  have HL := hide (fun (i : Nat) (hi : i < e.n) => h.len_le hi)
  obtain ⟨n, hn⟩ : ∃ n, e.n = n := ⟨_, rfl⟩
  rw [hn] at hn16 hcap CA HL
  have HN := hide hn
  have eL : e.len = lenTo e n := by unfold En.len; rw [hn]
  rw [eL]
  clear h hn eL
  have HB0 := hide (Below.refl w.heap.size w)
  go_enter Tryz.func19, Tryz.ntmps19
  go_wp2_with (go_at_call 55; refine (unhide (CA _ (unhide HB0))).mono ?_; rintro r w1 ⟨rfl, rfl⟩)
  go_loopw [3, 9] (fun s d w' => ∃ j s0 : Nat, d = .int .i64 (j : Int) ∧ j ≤ n ∧ s = .int .i64 (s0 : Int) ∧ s0 ≤ 384 * j ∧ Hid (Below w1.heap.size w1 w' ∧ s0 = lenTo e j)) (fun _ d _ => n - (intOf d).toNat)
  case atStart => exact ⟨0, 0, rfl, by omega, rfl, by omega, hide ⟨unhide HB0, rfl⟩⟩
  case round =>
    obtain ⟨j, s0, rfl, hj, rfl, hs0, HJ⟩ := hrel
    by_cases hlt : j < n
    · have hr := (unhide HH).below (unhide HJ).1
      obtain ⟨r0, r1, r2, r3⟩ := hr.row j (by rw [unhide HN]; exact hlt)
      generalize hra : (e.cp j).ra = ra at *
      generalize hki : (e.cp j).ki = ki at *
      obtain ⟨W3, hW3⟩ : ∃ W3, W3 = wr.alloc (.cells #[.pointer (some ⟨l.b j, 0, none⟩), .pointer (some ⟨l.d j, 0, none⟩), .bool ra, .bool ki] 71) := ⟨_, rfl⟩
      have b3 : Below wr.heap.size wr W3 := by rw [hW3]; exact one_below _ _
      obtain ⟨bx, hbx⟩ : ∃ b, wr.heap.size = b := ⟨_, rfl⟩
      have k3 : Blk W3 bx 71 #[.pointer (some ⟨l.b j, 0, none⟩), .pointer (some ⟨l.d j, 0, none⟩), .bool ra, .bool ki] := by rw [hW3]; exact Blk.new_at _ _ _ hbx.symm
      have z0 : W3.cell? ⟨bx, 0, none⟩ = some (.pointer (some ⟨l.b j, 0, none⟩)) := blkAt k3 0 _ rfl
      have CB := hide ((hr.below b3).blen (i := j) (by rw [unhide HN]; exact hlt))
      have HB3 := hide ((unhide HJ).1.trans (b3.mono (unhide HJ).1.size))
      have hlj := unhide HL j hlt
      have HK := hide (show s0 + (e.cp j).L.length = lenTo e (j + 1) by rw [(unhide HJ).2]; rfl)
      have HW3 := hide hW3
      clear hr b3 k3 hW3 HJ hra hki
      generalize l.b j = bj at *
      generalize l.d j = dj at *
      generalize (e.cp j).L.length = q at *
      go_wp2_with (go_at_call 56; refine Hid.out ?_)
      refine hide ?_
      rw [← unhide HW3]
      refine (unhide CB).mono ?_
      rintro r w4 ⟨rfl, hb4⟩
      have HB4 := hide ((unhide HB3).trans (hb4.mono (unhide HB3).size))
      clear hb4
      go_wp2_with fail
      go_roundw
      case rel => exact ⟨j + 1, s0 + q, by first | rfl | go_num, by omega, by first | rfl | go_num, by omega, hide ⟨unhide HB4, unhide HK⟩⟩
      case measure => simp [intOf]; omega
    · obtain rfl : j = n := by omega
      go_wp2_with fail
      go_ret
      exact ⟨by rw [(unhide HJ).2]; rfl, (unhide HJ).1⟩
theorem len_nil15 (w : World) : Calls Tryz.prog 19 #[.pointer none] w fun r w' => r = .returned (.int .i64 0) ∧ Below w.heap.size w w' := by
  go_enter Tryz.func19, Tryz.ntmps19
  go_wp2_with (go_at_call 55; refine (all_nil _).mono ?_; rintro r w1 ⟨rfl, rfl⟩)
  go_loopw [3, 9] (fun s d w' => d = .int .i64 0 ∧ s = .int .i64 0 ∧ w' = w1) (fun _ d _ => 0)
  case atStart => exact ⟨rfl, rfl, rfl⟩
  case round =>
    obtain ⟨rfl, rfl, rfl⟩ := hrel
    go_wp2_with fail
    go_ret
    exact ⟨rfl, Below.refl _ _⟩
/-- A processor, shown. -/
theorem show_in (h : Es w l e) {i : Nat} (hi : i < e.n) (w' : World) (hb : Below w.heap.size w w') : Calls Tryz.prog 28 #[.pointer (some ⟨l.g, 0, none⟩), .int .i64 (i : Int)] w' fun r w2 => r = .returned (.agg #[.pointer (some ⟨l.b i, 0, none⟩), .pointer (some ⟨l.d i, 0, none⟩), .bool (e.cp i).ra, .bool (e.cp i).ki]) ∧ Below w'.heap.size w' w2 := by
  have h' := h.below hb
  have CA := fun w2 hb => hide (all_any h' w2 hb)
  have hn16 := h.n16
  have hcap := h.cap
  obtain ⟨n, hn⟩ : ∃ n, e.n = n := ⟨_, rfl⟩
  rw [hn] at hn16 hcap CA hi
  obtain ⟨W1, hW1⟩ : ∃ W1, W1 = w'.alloc (.cells #[.pointer none, .pointer none, .bool false, .bool false] 71) := ⟨_, rfl⟩
  have b1 : Below w'.heap.size w' W1 := by rw [hW1]; exact one_below _ _
  obtain ⟨B, hB⟩ : ∃ b, w'.heap.size = b := ⟨_, rfl⟩
  have k1 : Blk W1 B 71 #[.pointer none, .pointer none, .bool false, .bool false] := by rw [hW1]; exact Blk.new_at _ _ _ hB.symm
  have CA1 := CA _ b1
  obtain ⟨r0, r1, r2, r3⟩ := (h'.below b1).row i (by rw [hn]; exact hi)
  have hf := k1.free
  have q0 : W1.cell? ⟨B, 0, none⟩ = some (.pointer none) := blkAt k1 0 _ rfl
  have q1 : W1.cell? ⟨B, 1, none⟩ = some (.pointer none) := blkAt k1 1 _ rfl
  have q2 : W1.cell? ⟨B, 2, none⟩ = some (.bool false) := blkAt k1 2 _ rfl
  have q3 : W1.cell? ⟨B, 3, none⟩ = some (.bool false) := blkAt k1 3 _ rfl
  generalize (e.cp i).ra = ra at *
  generalize (e.cp i).ki = ki at *
  generalize l.b i = bi at *
  generalize l.d i = di at *
  have kF := (((k1.put 0 (.pointer (some ⟨bi, 0, none⟩))).put 1 (.pointer (some ⟨di, 0, none⟩))).put 2 (.bool ra)).put 3 (.bool ki)
  have x0 := blkAt kF 0 (.pointer (some ⟨bi, 0, none⟩)) rfl
  have x1 := blkAt kF 1 (.pointer (some ⟨di, 0, none⟩)) rfl
  have x2 := blkAt kF 2 (.bool ra) rfl
  have x3 := blkAt kF 3 (.bool ki) rfl
  have HBB := hide b1
  have HW1 := hide hW1
  rw [hB]
  clear h h' hb k1 kF CA b1 hW1 hn
  go_enter Tryz.func28, Tryz.ntmps28
  go_wp2_with (go_at_call 55; refine Hid.out ?_)
  refine hide ?_
  rw [← unhide HW1]
  refine (unhide CA1).mono ?_
  rintro r w2 ⟨rfl, rfl⟩
  clear HW1 CA1
  go_wp2_with fail
  (try simp only [Exit.inBlock, Exit.then])
  refine bodyPost_ret (v := .agg #[.pointer (some ⟨bi, 0, none⟩), .pointer (some ⟨di, 0, none⟩), .bool ra, .bool ki]) ?hr rfl ?_
  case hr => simp [results, Tryz.results28, go_sem, x0, x1, x2, x3]
  refine ⟨rfl, ?_⟩
  have hb := unhide HBB
  rw [hB] at hb
  exact below_set (below_set (below_set (below_set hb (Nat.le_refl _) _ _) (Nat.le_refl _) _ _) (Nat.le_refl _) _ _) (Nat.le_refl _) _ _
end
end Go.Proofs.YtjjdkkdnlnbedaaGreat
