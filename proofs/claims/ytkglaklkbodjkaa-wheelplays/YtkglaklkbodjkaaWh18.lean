import Derived.Test.YtkglaklkbodjkaaWh17
namespace Go.Proofs.Ytkglaklkbodjkaa
open Go.RowKit Wh
set_option linter.unusedVariables false

section
variable {B C H Mb now n : Nat} {sv : Nat → Value} {L : List Wh.Item} {w0 w : World}
set_option maxRecDepth 100000 in
set_option maxHeartbeats 1000000 in
theorem drop_none (w : World) (h : Has1 w B H Mb now n L sv) (id : Int) (hid : isI id) (hm : id ∉ L.map (·.1)) :
    Calls Try.prog 14 #[.pointer (some ⟨H, 0, none⟩), .int .i64 id] w fun e w' => e = .returned (.bool false) ∧ Below w.heap.size w w' := by
  obtain ⟨sl, hw, hs⟩ := h
  obtain ⟨bq, hbq⟩ : ∃ b, w.heap.size = b := ⟨_, rfl⟩
  obtain ⟨W1, hW1⟩ : ∃ W1, W1 = w.alloc (.cells #[.int .i64 id] 3) := ⟨_, rfl⟩
  have hb1 : Below w.heap.size w W1 := by rw [hW1]; exact below1 _ _
  have kb : Blk W1 bq 3 #[.int .i64 id] := by rw [hW1]; exact Blk.new_at _ _ _ hbq.symm
  have k1 := hw.below hb1
  have c1 := k1.c1
  have q0 := kb.cell 0
  have hl := fun m => (k1.below (below_drewN W1 m)).mp.look_ok id hid
  rw [mapOf_none hm] at hl
  simp only [Option.getD_none, Option.isSome_none] at hl
  have HB := hide hb1
  have HW := hide hW1
  clear hw hs hb1 kb k1 hm hW1
  go_enter Try.func14, Try.ntmps14
  go_wp2
  rw [← unhide HW]
  go_quiet (fail)
  go_wp2
  go_ret
  exact ⟨rfl, (unhide HB).trans ((below_drewN _ _).mono (unhide HB).size)⟩
set_option maxRecDepth 100000 in
set_option maxHeartbeats 1000000 in
theorem drop_ok (w : World) (h : Has1 w B H Mb now n L sv) (hB : B ≤ w.heap.size) (hr : Rw now L) (hnow : now ≤ 100000000000) (id : Int) (hid : isI id) (t : Nat) (hm : (id, t) ∈ L) :
    Calls Try.prog 14 #[.pointer (some ⟨H, 0, none⟩), .int .i64 id] w fun e w' => e = .returned (.bool true) ∧ ∃ sv', Has1 w' B H Mb now n (but id L) sv' ∧ Fr w w' (Foot H Mb sv) (Foot H Mb sv') := by
  obtain ⟨sl, hw, hs⟩ := h
  obtain ⟨bq, hbq⟩ : ∃ b, w.heap.size = b := ⟨_, rfl⟩
  obtain ⟨W1, hW1⟩ : ∃ W1, W1 = w.alloc (.cells #[.int .i64 id] 3) := ⟨_, rfl⟩
  have hb1 : Below w.heap.size w W1 := by rw [hW1]; exact below1 _ _
  have kb : Blk W1 bq 3 #[.int .i64 id] := by rw [hW1]; exact Blk.new_at _ _ _ hbq.symm
  have k1 := hw.below hb1
  have c1 := k1.c1
  have q0 := kb.cell 0
  have hl := fun m => (k1.below (below_drewN W1 m)).mp.look_ok id hid
  rw [mapOf_mem hr.fresh hm] at hl
  simp only [Option.getD_some, Option.isSome_some] at hl
  have hdue := hr.due _ hm
  have hlv := lev_le now t
  have hdg := dig_lt t (lev now t)
  have hT : t < 1099511627776 := by have := hdue.2; simp only at this; omega
  have h0 := hs (lev now t) (dig t (lev now t)) (by omega) hdg
  have hin := slotBy_has hm (lev now)
  rw [← h0] at hin
  have hnd := slotBy_nodup hr.fresh (lev now) (lev now t) (dig t (lev now t))
  rw [← h0] at hnd
  unfold two at hin hnd
  obtain ⟨k, hkl, hk0⟩ := List.getElem_of_mem hin
  have hk : (sl (16 * lev now t + dig t (lev now t)))[k]? = some id := by rw [List.getElem?_eq_getElem hkl, hk0]
  clear hk0
  have hds := drop_slots hr hm hs hk
  have hlen := slot_len hs (16 * lev now t + dig t (lev now t)) (by omega)
  have hlen2 := hr.len
  have CL := hide (fun m => level_any (W1.drewN m) (k1.below (below_drewN W1 m)) t)
  have CD := hide (fun w' => digit_any t (lev now t) hT (by omega) w')
  generalize lev now t = lv at *
  generalize dig t lv = D at *
  have cs := k1.cs (16 * lv + D) (by omega)
  obtain ⟨g, cap, cur, hf, hBg, hbl, hn1, hn2, hn3, hn4⟩ := (k1.rows (16 * lv + D) (by omega)).blk (fun e => by rw [e] at hkl; exact absurd hkl (by simp))
  have hgb : bq ≠ g := by have := (hw.rows (16 * lv + D) (by omega)).lt g (by rw [hf]; rfl); omega
  have hHb : H ≠ bq := by have := hw.blk.lt; omega
  have hgH : H ≠ g := by have := hw.lo.1; omega
  have CF := hide (fun w' (hb : Below W1.heap.size W1 w') => delf_any w' g (sl (16 * lv + D)).length cap bq cur (sl (16 * lv + D)) id k (hbl.below hb hbl.lt) hn4 rfl (by omega) (by omega) hn1 hk hnd (by rw [(kb.below hb kb.lt).cell]; rfl) hgb)
  obtain ⟨o, ho⟩ : ∃ o, 2 + (16 * lv + D) = o := ⟨_, rfl⟩
  rw [ho, hf] at cs
  obtain ⟨N, hN⟩ : ∃ N, (sl (16 * lv + D)).length = N := ⟨_, rfl⟩
  have hNE : ((sl (16 * lv + D)).eraseIdx k).length = N - 1 := by rw [List.length_eraseIdx, if_pos hkl, hN]
  have HAFT : Hid (∀ wX w4 cur', Below W1.heap.size W1 wX → Blk w4 g 3 cur' → cur'.size = cur.size → (∀ (j : Nat) (x : Int), ((sl (16 * lv + D)).eraseIdx k)[j]? = some x → cur'[j]? = some (Value.int .i64 x)) → Tch g wX w4 →
      (w4.cell? ⟨H, o, none⟩ = some (.slice (some ⟨g, 0, none⟩) N cap) ∧ w4.frozen? ⟨H, o, none⟩ = false) ∧
      (Whl (w4.setCell ⟨H, o, none⟩ (.slice (some ⟨g, 0, none⟩) (N - 1) cap)) B H Mb now n (mapOf L) L.length (at1 sv (16 * lv + D) (.slice (some ⟨g, 0, none⟩) (N - 1) cap)) (at1 sl (16 * lv + D) ((sl (16 * lv + D)).eraseIdx k)) ∧
        Fr w (w4.setCell ⟨H, o, none⟩ (.slice (some ⟨g, 0, none⟩) (N - 1) cap)) (Foot H Mb sv) (Foot H Mb (at1 sv (16 * lv + D) (.slice (some ⟨g, 0, none⟩) (N - 1) cap)))) ∧
      (w4.setCell ⟨H, o, none⟩ (.slice (some ⟨g, 0, none⟩) (N - 1) cap)).cell? ⟨bq, 0, none⟩ = some (.int .i64 id)) := hide (by
    intro wX w4 cur' hX b4 s4 c4 t4
    have kX := k1.below hX
    have hg4 : wX.grownBy w4 (sv (16 * lv + D)).ownBlock := by
      rw [hf]
      exact ⟨t4.os, t4.tape, t4.output, t4.size, fun j hj hne => t4.block j hj (fun e => hne (by rw [e]; rfl))⟩
    have hbk : Blk w4 H 77 (wc (now : Int) Mb sv) := by
      unfold Blk
      rw [t4.block H kX.blk.lt hgH]; exact kX.blk
    have hr4 : Ir w4 B (.slice (some ⟨g, 0, none⟩) (N - 1) cap) ((sl (16 * lv + D)).eraseIdx k) := by
      rw [← hNE]
      exact Ir.of_blk hBg b4 (by rw [hNE]; omega) hn2 (by rw [s4, hn3]) c4
    obtain ⟨r1, r2⟩ := kX.relay (w1 := w4) (16 * lv + D) (by omega) hg4 hr4 (fun a ha => .inl (by rw [hf]; exact ha))
    rw [ho] at r1 r2
    refine ⟨⟨?_, hbk.free _⟩, ⟨r1, (Fr.of_below _ (hb1.trans (hX.mono hb1.size))).trans r2⟩, ?_⟩
    · rw [hbk.cell, ← ho, wc_at _ _ _ _ (by omega), hf, hN]
    · have hq4 : Blk w4 bq 3 #[.int .i64 id] := by
        have h1 := kb.below hX kb.lt
        have h2 := h1.lt
        unfold Blk at *
        rw [t4.block bq h2 hgb]; exact h1
      rw [(hq4.other hHb o _).cell]; rfl)
  rw [hN] at CF hlen hn1 cs
  have HW := hide hW1
  have HLB := hide (but_len hr.fresh hm)
  have HMB := hide (mapOf_but hr.fresh id)
  have HML := hide (mapOf_mem hr.fresh hm)
  have HDS := hide hds
  clear hw hs hb1 kb k1 hm hW1 hr h0 hin hnd hk hkl hds hf hBg hbl hn2 hn3 hn4 hdue hN hNE hgb hHb hgH
  rcases (show lv = 0 ∨ lv = 1 ∨ lv = 2 ∨ lv = 3 by omega) with rfl | rfl | rfl | rfl
  · obtain rfl : o = 2 + D := by omega
    clear ho
    have CD2 : ∀ w', Calls Try.prog 52 #[.int .i64 (t : Int), .int .i64 0] w' fun e w2 => e = .returned (.int .i64 (D : Int)) ∧ w2 = w' := unhide CD
    have CD3 := hide CD2
    clear CD2
    go_enter Try.func14, Try.ntmps14
    go_wp2
    rw [← unhide HW]
    go_quiet (fail)
    go_wp2_with (go_at_call 51; refine (unhide CL _).mono ?_; rintro e w2 ⟨rfl, m, rfl⟩)
    go_quiet (first | (go_at_call 52; refine (unhide CD3 _).mono ?_; rintro e w9 ⟨rfl, rfl⟩; exact ⟨rfl, _, rfl⟩))
    have hmf : ∀ (fn : Fn) (first cap : Array Value) (w : World), (Instr.makeFunc fn first cap).run Try.prog w = .ok (.func fn first cap) w := fun _ _ _ _ => rfl
    go_wp2_with (go_at_call 53; refine Hid.out ?_)
    refine hide ?_
    refine (unhide CF _ (below_drewN _ _)).mono ?_
    rintro e w4 ⟨rfl, cur', b4, s4, k4, t4⟩
    obtain ⟨⟨x1, x2⟩, ⟨x3, x4⟩, x5⟩ := unhide HAFT _ w4 cur' (below_drewN _ _) b4 s4 k4 t4
    obtain ⟨W5, hW5⟩ : ∃ W5, W5 = w4.setCell ⟨H, 2 + D, none⟩ (.slice (some ⟨g, 0, none⟩) (N - 1) cap) := ⟨_, rfl⟩
    rw [← hW5] at x3 x4 x5
    have y1 := x3.c1
    obtain ⟨w6, z1, z2, z3⟩ := (x3.below ((Below.refl _ _).drew)).del id hid 0
    have HZ := hide (And.intro z2 (x4.trans ((Fr.of_below _ ((Below.refl _ _).drew)).trans z3)))
    have HW5 := hide hW5
    clear b4 s4 k4 t4 x3 x4 z2 z3 hW5 cs c1 q0 hl
    go_wp2_with fail
    rw [← unhide HW5]
    go_region
    go_wp2_with fail
    go_ret
    refine ⟨rfl, _, ⟨_, ?_, unhide HDS⟩, (unhide HZ).2⟩
    have h9 := (unhide HZ).1
    rw [unhide HML] at h9
    simp only [Option.isSome_some, if_true] at h9
    rw [unhide HMB, ← unhide HLB] at h9
    exact h9
  · obtain rfl : o = 18 + D := by omega
    clear ho
    have CD2 : ∀ w', Calls Try.prog 52 #[.int .i64 (t : Int), .int .i64 1] w' fun e w2 => e = .returned (.int .i64 (D : Int)) ∧ w2 = w' := unhide CD
    have CD3 := hide CD2
    clear CD2
    go_enter Try.func14, Try.ntmps14
    go_wp2
    rw [← unhide HW]
    go_quiet (fail)
    go_wp2_with (go_at_call 51; refine (unhide CL _).mono ?_; rintro e w2 ⟨rfl, m, rfl⟩)
    go_quiet (first | (go_at_call 52; refine (unhide CD3 _).mono ?_; rintro e w9 ⟨rfl, rfl⟩; exact ⟨rfl, _, rfl⟩))
    have hmf : ∀ (fn : Fn) (first cap : Array Value) (w : World), (Instr.makeFunc fn first cap).run Try.prog w = .ok (.func fn first cap) w := fun _ _ _ _ => rfl
    go_wp2_with (go_at_call 53; refine Hid.out ?_)
    refine hide ?_
    refine (unhide CF _ (below_drewN _ _)).mono ?_
    rintro e w4 ⟨rfl, cur', b4, s4, k4, t4⟩
    obtain ⟨⟨x1, x2⟩, ⟨x3, x4⟩, x5⟩ := unhide HAFT _ w4 cur' (below_drewN _ _) b4 s4 k4 t4
    obtain ⟨W5, hW5⟩ : ∃ W5, W5 = w4.setCell ⟨H, 18 + D, none⟩ (.slice (some ⟨g, 0, none⟩) (N - 1) cap) := ⟨_, rfl⟩
    rw [← hW5] at x3 x4 x5
    have y1 := x3.c1
    obtain ⟨w6, z1, z2, z3⟩ := (x3.below ((Below.refl _ _).drew)).del id hid 0
    have HZ := hide (And.intro z2 (x4.trans ((Fr.of_below _ ((Below.refl _ _).drew)).trans z3)))
    have HW5 := hide hW5
    clear b4 s4 k4 t4 x3 x4 z2 z3 hW5 cs c1 q0 hl
    go_wp2_with fail
    rw [← unhide HW5]
    go_region
    go_wp2_with fail
    go_ret
    refine ⟨rfl, _, ⟨_, ?_, unhide HDS⟩, (unhide HZ).2⟩
    have h9 := (unhide HZ).1
    rw [unhide HML] at h9
    simp only [Option.isSome_some, if_true] at h9
    rw [unhide HMB, ← unhide HLB] at h9
    exact h9
  · obtain rfl : o = 34 + D := by omega
    clear ho
    have CD2 : ∀ w', Calls Try.prog 52 #[.int .i64 (t : Int), .int .i64 2] w' fun e w2 => e = .returned (.int .i64 (D : Int)) ∧ w2 = w' := unhide CD
    have CD3 := hide CD2
    clear CD2
    go_enter Try.func14, Try.ntmps14
    go_wp2
    rw [← unhide HW]
    go_quiet (fail)
    go_wp2_with (go_at_call 51; refine (unhide CL _).mono ?_; rintro e w2 ⟨rfl, m, rfl⟩)
    go_quiet (first | (go_at_call 52; refine (unhide CD3 _).mono ?_; rintro e w9 ⟨rfl, rfl⟩; exact ⟨rfl, _, rfl⟩))
    have hmf : ∀ (fn : Fn) (first cap : Array Value) (w : World), (Instr.makeFunc fn first cap).run Try.prog w = .ok (.func fn first cap) w := fun _ _ _ _ => rfl
    go_wp2_with (go_at_call 53; refine Hid.out ?_)
    refine hide ?_
    refine (unhide CF _ (below_drewN _ _)).mono ?_
    rintro e w4 ⟨rfl, cur', b4, s4, k4, t4⟩
    obtain ⟨⟨x1, x2⟩, ⟨x3, x4⟩, x5⟩ := unhide HAFT _ w4 cur' (below_drewN _ _) b4 s4 k4 t4
    obtain ⟨W5, hW5⟩ : ∃ W5, W5 = w4.setCell ⟨H, 34 + D, none⟩ (.slice (some ⟨g, 0, none⟩) (N - 1) cap) := ⟨_, rfl⟩
    rw [← hW5] at x3 x4 x5
    have y1 := x3.c1
    obtain ⟨w6, z1, z2, z3⟩ := (x3.below ((Below.refl _ _).drew)).del id hid 0
    have HZ := hide (And.intro z2 (x4.trans ((Fr.of_below _ ((Below.refl _ _).drew)).trans z3)))
    have HW5 := hide hW5
    clear b4 s4 k4 t4 x3 x4 z2 z3 hW5 cs c1 q0 hl
    go_wp2_with fail
    rw [← unhide HW5]
    go_region
    go_wp2_with fail
    go_ret
    refine ⟨rfl, _, ⟨_, ?_, unhide HDS⟩, (unhide HZ).2⟩
    have h9 := (unhide HZ).1
    rw [unhide HML] at h9
    simp only [Option.isSome_some, if_true] at h9
    rw [unhide HMB, ← unhide HLB] at h9
    exact h9
  · obtain rfl : o = 50 + D := by omega
    clear ho
    have CD2 : ∀ w', Calls Try.prog 52 #[.int .i64 (t : Int), .int .i64 3] w' fun e w2 => e = .returned (.int .i64 (D : Int)) ∧ w2 = w' := unhide CD
    have CD3 := hide CD2
    clear CD2
    go_enter Try.func14, Try.ntmps14
    go_wp2
    rw [← unhide HW]
    go_quiet (fail)
    go_wp2_with (go_at_call 51; refine (unhide CL _).mono ?_; rintro e w2 ⟨rfl, m, rfl⟩)
    go_quiet (first | (go_at_call 52; refine (unhide CD3 _).mono ?_; rintro e w9 ⟨rfl, rfl⟩; exact ⟨rfl, _, rfl⟩))
    have hmf : ∀ (fn : Fn) (first cap : Array Value) (w : World), (Instr.makeFunc fn first cap).run Try.prog w = .ok (.func fn first cap) w := fun _ _ _ _ => rfl
    go_wp2_with (go_at_call 53; refine Hid.out ?_)
    refine hide ?_
    refine (unhide CF _ (below_drewN _ _)).mono ?_
    rintro e w4 ⟨rfl, cur', b4, s4, k4, t4⟩
    obtain ⟨⟨x1, x2⟩, ⟨x3, x4⟩, x5⟩ := unhide HAFT _ w4 cur' (below_drewN _ _) b4 s4 k4 t4
    obtain ⟨W5, hW5⟩ : ∃ W5, W5 = w4.setCell ⟨H, 50 + D, none⟩ (.slice (some ⟨g, 0, none⟩) (N - 1) cap) := ⟨_, rfl⟩
    rw [← hW5] at x3 x4 x5
    have y1 := x3.c1
    obtain ⟨w6, z1, z2, z3⟩ := (x3.below ((Below.refl _ _).drew)).del id hid 0
    have HZ := hide (And.intro z2 (x4.trans ((Fr.of_below _ ((Below.refl _ _).drew)).trans z3)))
    have HW5 := hide hW5
    clear b4 s4 k4 t4 x3 x4 z2 z3 hW5 cs c1 q0 hl
    go_wp2_with fail
    rw [← unhide HW5]
    go_region
    go_wp2_with fail
    go_ret
    refine ⟨rfl, _, ⟨_, ?_, unhide HDS⟩, (unhide HZ).2⟩
    have h9 := (unhide HZ).1
    rw [unhide HML] at h9
    simp only [Option.isSome_some, if_true] at h9
    rw [unhide HMB, ← unhide HLB] at h9
    exact h9
theorem wdrop (h : Wv C w0 w B H Mb now n L sv) (hnow : now ≤ 100000000000) (id : Int) (hid : isI id) (t : Nat) (hm : (id, t) ∈ L) :
    Calls Try.prog 14 #[.pointer (some ⟨H, 0, none⟩), .int .i64 id] w fun e w' => e = .returned (.bool true) ∧ ∃ sv', Wv C w0 w' B H Mb now n (but id L) sv' ∧ Fr w w' (Foot H Mb sv) (Foot H Mb sv') := by
  refine (drop_ok w h.has h.bs h.rw hnow id hid t hm).mono ?_
  rintro e w' ⟨rfl, sv', h1, h2⟩
  exact ⟨rfl, sv', h.step h1 (rw_but h.rw id) h2, h2⟩
theorem wdrop_none (h : Wv C w0 w B H Mb now n L sv) (id : Int) (hid : isI id) (hm : id ∉ L.map (·.1)) :
    Calls Try.prog 14 #[.pointer (some ⟨H, 0, none⟩), .int .i64 id] w fun e w' => e = .returned (.bool false) ∧ Wv C w0 w' B H Mb now n L sv ∧ Below w.heap.size w w' := by
  refine (drop_none w h.has id hid hm).mono ?_
  rintro e w' ⟨rfl, h1⟩
  exact ⟨rfl, h.below h1, h1⟩
end
end Go.Proofs.Ytkglaklkbodjkaa
