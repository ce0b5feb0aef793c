import Derived.Test.YtpkadbjgkoijiaaTq
namespace Go.Proofs.Ytpkadbjgkoijiaa
open Go.RowKit

set_option maxRecDepth 100000 in
set_option maxHeartbeats 4000000 in
theorem lput_some (C g cap : Nat) (pre post : List It) (y : It) (w : World) (hr : w.ownsRow C 46 4 (.slice (some ⟨g, 0, none⟩) (pre ++ post).length cap) (pre ++ post).length (irow (pre ++ post)))
    (hpre : ∀ z ∈ pre, klt y.a y.b z.a z.b = false) (hpost : ∀ z ∈ post, klt y.a y.b z.a z.b = true) (hl : (pre ++ post).length ≤ 5000) :
    Calls Try.prog 12 #[.slice (some ⟨g, 0, none⟩) (pre ++ post).length cap, .agg #[.int .i64 y.a, .int .i64 y.b, .int .i64 y.n, .int .i64 y.tu]] w fun e w' => ∃ v', e = .returned v' ∧ w'.ownsRow w.heap.size 46 4 v' ((pre ++ post).length + 1) (irow (pre ++ y :: post)) ∧ Below w.heap.size w w' := by
  obtain ⟨B, hB⟩ : ∃ B, w.heap.size = B := ⟨_, rfl⟩
  obtain ⟨W0, hW0⟩ : ∃ W0, W0 = w.alloc (.cells #[.int .i64 y.a, .int .i64 y.b, .int .i64 y.n, .int .i64 y.tu] 46) := ⟨_, rfl⟩
  have b0 : Below B w W0 := by rw [hW0, ← hB]; exact one_below _ _
  have k0 : Blk W0 B 46 #[.int .i64 y.a, .int .i64 y.b, .int .i64 y.n, .int .i64 y.tu] := by rw [hW0]; exact Blk.new_at _ _ _ hB.symm
  have hgC : C ≤ g ∧ g < B := by have := hr.lt g rfl; omega
  have hcap : (pre ++ post).length ≤ cap ∧ cap ≤ maxLen := by
    rcases hr.2 with ⟨h, _⟩ | ⟨g', cap', cur, h, _, _, h2, h3, _⟩
    · cases h
    · cases h; exact ⟨h2, h3⟩
  unfold maxLen at hcap
  have hr0 : W0.ownsRow C 46 4 (.slice (some ⟨g, 0, none⟩) (pre ++ post).length cap) (pre ++ post).length (irow (pre ++ post)) := row_keep hr (fun j _ hj => b0.block j (by omega))
  obtain ⟨N, hN⟩ : ∃ N, (pre ++ post).length = N := ⟨_, rfl⟩
  have hpN : pre.length ≤ N := by rw [← hN]; simp
  have HAT := hide (show ∀ t z, (pre ++ post)[t]? = some z → W0.cell? ⟨g, t * 4, none⟩ = some (.int .i64 z.a) ∧ W0.cell? ⟨g, t * 4 + 1, none⟩ = some (.int .i64 z.b) from fun t z hz => by
    obtain ⟨ht, hz2⟩ := List.getElem?_eq_some_iff.1 hz
    obtain ⟨h1, h2, _⟩ := irow_at (pre ++ post) t ht
    rw [hz2] at h1 h2
    have e1 := hr0.cells (g := g) rfl _ _ h1
    have e2 := hr0.cells (g := g) rfl _ _ h2
    rw [add0] at e1 e2
    exact ⟨e1, e2⟩)
  have H0 := hide (And.intro b0 (And.intro k0 hr0))
  have HPR := hide hpre
  have HPO := hide hpost
  have HCA := fun c d w' => hide (laws_ahead y.a y.b c d w')
  have HNN := hide hN
  obtain ⟨i0, hi0, hz0, hz1, hz2⟩ := info_parts itemInfo
  rw [hN] at hcap hl
  rw [hB, hN]
  clear b0 k0 hr0 hr hpre hpost hN
  obtain ⟨yn, yt, ya, yb⟩ := y
  simp only at *
  have HW0 := hide hW0
  clear hW0
  go_enter Try.func12, Try.ntmps12
  go_wp2_with fail
  rw [← unhide HW0]
  go_loopw [5] (fun d w' => ∃ t : Nat, t ≤ pre.length ∧ d = .int .i64 (t : Int) ∧ Hid (Below W0.heap.size W0 w')) (fun d _ => 5001 - (intOf d).toNat)
  case atStart => exact ⟨0, by omega, rfl, hide (Below.refl _ _)⟩
  case round =>
    obtain ⟨t, ht, rfl, HT⟩ := hrel
    have q0 : wr.cell? ⟨B, 0, none⟩ = some (.int .i64 ya) := hold ((unhide H0).2.1.cell 0) wr (unhide HT)
    have q1 : wr.cell? ⟨B, 1, none⟩ = some (.int .i64 yb) := hold ((unhide H0).2.1.cell 1) wr (unhide HT)
    have r0 := hold (W := wr) q0
    have r1 := hold (W := wr) q1
    have hN1 : (pre ++ post).length = N := unhide HNN
    rw [List.length_append] at hN1
    by_cases htN : t < N
    · obtain ⟨z, hz⟩ : ∃ z, (pre ++ post)[t]? = some z := ⟨_, List.getElem?_eq_getElem (by rw [List.length_append]; omega)⟩
      obtain ⟨x0, x1⟩ := unhide HAT t z hz
      have r2 := hold (W := wr) (hold x0 wr (unhide HT))
      have r3 := hold (W := wr) (hold x1 wr (unhide HT))
      have CA := HCA z.a z.b
      have hd1 : decide ((t : Int) < (N : Int)) = true := decide_eq_true (by omega)
      by_cases htp : t < pre.length
      · have hkb : klt ya yb z.a z.b = false := unhide HPR z (by
          rw [List.getElem?_append_left htp] at hz
          exact List.mem_of_getElem? hz)
        rw [hkb] at CA
        clear hkb x0 x1 hz
        generalize z.a = za at *
        generalize z.b = zb at *
        go_wp2_with fail
        refine wp_region_held_drew (S := (fun w' => Below wr.heap.size wr w')) (by kernel_rfl) ?_ (fun hHeld => ?_)
        · (first | (first | exact (Below.refl _ _).drew | assumption))
        refine wpAnyH_take (i := 0) (oi := ?o1) (v := ?v1) ?hi1 (by kernel_rfl) (by kernel_rfl) (by kernel_rfl) ?hQ1 (Or.inl ⟨?hw1, ?hy1⟩) (by assumption) ?_
        case hi1 => (simp only [List.getElem?_toArray, List.getElem?_cons_zero]; rfl)
        case hQ1 => exact fun _ _ _ h => h
        case hw1 => rfl
        case hy1 => (intro w hSw; (try dsimp only at hSw); go_simp; (try with_reducible rfl))
        simp only [Act.put, List.setIfInBounds_toArray, List.set_cons_zero, List.set_cons_succ]
        refine wpAnyH_take (i := 1) (oi := ?o2) (v := ?v2) ?hi2 (by kernel_rfl) (by kernel_rfl) (by kernel_rfl) ?hQ2 (Or.inl ⟨?hw2, ?hy2⟩) (by assumption) ?_
        case hi2 => (simp only [List.getElem?_toArray, List.getElem?_cons_succ, List.getElem?_cons_zero]; rfl)
        case hQ2 => exact fun _ _ _ h => h
        case hw2 => rfl
        case hy2 => (intro w hSw; (try dsimp only at hSw); go_simp; (try with_reducible rfl))
        simp only [Act.put, List.setIfInBounds_toArray, List.set_cons_zero, List.set_cons_succ]
        refine wpAnyH_take (i := 2) (oi := ?o3) (v := ?v3) ?hi3 (by kernel_rfl) (by kernel_rfl) (by kernel_rfl) ?hQ3 (Or.inl ⟨?hw3, ?hy3⟩) (by assumption) ?_
        case hi3 => (simp only [List.getElem?_toArray, List.getElem?_cons_succ, List.getElem?_cons_zero]; rfl)
        case hQ3 => exact fun _ _ _ h => h
        case hw3 => rfl
        case hy3 => (intro w hSw; (try dsimp only at hSw); go_simp; (try with_reducible rfl))
        simp only [Act.put, List.setIfInBounds_toArray, List.set_cons_zero, List.set_cons_succ]
        refine wpAnyH_take (i := 3) (oi := ?o4) (v := ?v4) ?hi4 (by kernel_rfl) (by kernel_rfl) (by kernel_rfl) ?hQ4 (Or.inl ⟨?hw4, ?hy4⟩) (by assumption) ?_
        case hi4 => (simp only [List.getElem?_toArray, List.getElem?_cons_succ, List.getElem?_cons_zero]; rfl)
        case hQ4 => exact fun _ _ _ h => h
        case hw4 => rfl
        case hy4 => (intro w hSw; (try dsimp only at hSw); go_simp; (try with_reducible rfl))
        simp only [Act.put, List.setIfInBounds_toArray, List.set_cons_zero, List.set_cons_succ]
        refine wpAnyH_take (i := 4) (oi := ?o5) (v := ?v5) ?hi5 (by kernel_rfl) (by kernel_rfl) (by kernel_rfl) ?hQ5 (Or.inl ⟨?hw5, ?hy5⟩) (by assumption) ?_
        case hi5 => (simp only [List.getElem?_toArray, List.getElem?_cons_succ, List.getElem?_cons_zero]; rfl)
        case hQ5 => exact fun _ _ _ h => h
        case hw5 => rfl
        case hy5 => (intro w hSw; (try dsimp only at hSw); go_simp; (try with_reducible rfl))
        simp only [Act.put, List.setIfInBounds_toArray, List.set_cons_zero, List.set_cons_succ]
        refine wpAnyH_take (i := 5) (oi := ?o6) (v := ?v6) ?hi6 (by kernel_rfl) (by kernel_rfl) (by kernel_rfl) ?hQ6 (Or.inl ⟨?hw6, ?hy6⟩) (by assumption) ?_
        case hi6 => (simp only [List.getElem?_toArray, List.getElem?_cons_succ, List.getElem?_cons_zero]; rfl)
        case hQ6 => exact fun _ _ _ h => h
        case hw6 => rfl
        case hy6 => (intro w hSw; (try dsimp only at hSw); go_simp; (try with_reducible rfl))
        simp only [Act.put, List.setIfInBounds_toArray, List.set_cons_zero, List.set_cons_succ]
        refine wpAnyH_take (i := 6) (oi := ?o7) (v := ?v7) ?hi7 (by kernel_rfl) (by kernel_rfl) (by kernel_rfl) ?hQ7 (Or.inl ⟨?hw7, ?hy7⟩) (by assumption) ?_
        case hi7 => (simp only [List.getElem?_toArray, List.getElem?_cons_succ, List.getElem?_cons_zero]; rfl)
        case hQ7 => exact fun _ _ _ h => h
        case hw7 => rfl
        case hy7 => (intro w hSw; (try dsimp only at hSw); go_simp; (try with_reducible rfl))
        simp only [Act.put, List.setIfInBounds_toArray, List.set_cons_zero, List.set_cons_succ]
        refine wpAnyH_take (i := 7) (oi := ?o8) (v := ?v8) ?hi8 (by kernel_rfl) (by kernel_rfl) (by kernel_rfl) ?hQ8 (Or.inl ⟨?hw8, ?hy8⟩) (by assumption) ?_
        case hi8 => (simp only [List.getElem?_toArray, List.getElem?_cons_succ, List.getElem?_cons_zero]; rfl)
        case hQ8 => exact fun _ _ _ h => h
        case hw8 => rfl
        case hy8 => (intro w hSw; (try dsimp only at hSw); go_simp; (try with_reducible rfl))
        simp only [Act.put, List.setIfInBounds_toArray, List.set_cons_zero, List.set_cons_succ]
        refine wpAnyH_take (i := 8) (oi := ?o9) (v := ?v9) ?hi9 (by kernel_rfl) (by kernel_rfl) (by kernel_rfl) ?hQ9 (Or.inl ⟨?hw9, ?hy9⟩) (by assumption) ?_
        case hi9 => (simp only [List.getElem?_toArray, List.getElem?_cons_succ, List.getElem?_cons_zero]; rfl)
        case hQ9 => exact fun _ _ _ h => h
        case hw9 => rfl
        case hy9 => (intro w hSw; (try dsimp only at hSw); go_simp; (try with_reducible rfl))
        simp only [Act.put, List.setIfInBounds_toArray, List.set_cons_zero, List.set_cons_succ]
        refine wpAnyH_take (i := 9) (oi := ?o10) (v := ?v10) ?hi10 (by kernel_rfl) (by kernel_rfl) (by kernel_rfl) ?hQ10 (Or.inl ⟨?hw10, ?hy10⟩) (by assumption) ?_
        case hi10 => (simp only [List.getElem?_toArray, List.getElem?_cons_succ, List.getElem?_cons_zero]; rfl)
        case hQ10 => exact fun _ _ _ h => h
        case hw10 => rfl
        case hy10 => (intro w hSw; (try dsimp only at hSw); go_simp; (try with_reducible rfl))
        simp only [Act.put, List.setIfInBounds_toArray, List.set_cons_zero, List.set_cons_succ]
        refine wpAnyH_take (i := 10) (oi := ?o11) (v := ?v11) ?hi11 (by kernel_rfl) (by kernel_rfl) (by kernel_rfl) ?hQ11 (Or.inl ⟨?hw11, ?hy11⟩) (by assumption) ?_
        case hi11 => (simp only [List.getElem?_toArray, List.getElem?_cons_succ, List.getElem?_cons_zero]; rfl)
        case hQ11 => exact fun _ _ _ h => h
        case hw11 => rfl
        case hy11 => (intro w hSw; (try dsimp only at hSw); go_simp; (try with_reducible rfl))
        simp only [Act.put, List.setIfInBounds_toArray, List.set_cons_zero, List.set_cons_succ]
        refine wpAnyH_take (i := 11) (oi := ?o12) (v := ?v12) ?hi12 (by kernel_rfl) (by kernel_rfl) (by kernel_rfl) ?hQ12 (Or.inl ⟨?hw12, ?hy12⟩) (by assumption) ?_
        case hi12 => (simp only [List.getElem?_toArray, List.getElem?_cons_succ, List.getElem?_cons_zero]; rfl)
        case hQ12 => exact fun _ _ _ h => h
        case hw12 => rfl
        case hy12 => (intro w hSw; (try dsimp only at hSw); go_simp; (try with_reducible rfl))
        simp only [Act.put, List.setIfInBounds_toArray, List.set_cons_zero, List.set_cons_succ]
        refine wpAnyH_ready (rs := [12]) (by kernel_rfl) (by simp) ?_
        refine AllReadyH.cons (o := ?o13) ?hi13 (fun K hK => ?_) AllReadyH.nil
        case hi13 => (simp only [List.getElem?_toArray, List.getElem?_cons_succ, List.getElem?_cons_zero]; rfl)
        go_simp
        (go_at_call 23; refine (unhide (CA _)).mono ?_; rintro e w5 ⟨rfl, hb5⟩; have hk5 := Below.trans (by assumption) (hb5.mono (Below.size (by assumption)))); go_wp2_with fail
        refine hK.out _ _ ?_ (fun hHeld => ?_)
        · (first | (first | exact (Below.refl _ _).drew | assumption))
        clear hK K
        refine wpAnyH_take (i := 13) (oi := ?o14) (v := ?v14) ?hi14 (by kernel_rfl) (by kernel_rfl) (by kernel_rfl) ?hQ14 (Or.inl ⟨?hw14, ?hy14⟩) (by assumption) ?_
        case hi14 => (simp only [List.getElem?_toArray, List.getElem?_cons_succ, List.getElem?_cons_zero]; rfl)
        case hQ14 => exact fun _ _ _ h => h
        case hw14 => rfl
        case hy14 => (intro w hSw; (try dsimp only at hSw); go_simp; (try with_reducible rfl))
        simp only [Act.put, List.setIfInBounds_toArray, List.set_cons_zero, List.set_cons_succ]
        refine wpAnyH_take (i := 14) (oi := ?o15) (v := ?v15) ?hi15 (by kernel_rfl) (by kernel_rfl) (by kernel_rfl) ?hQ15 (Or.inl ⟨?hw15, ?hy15⟩) (by assumption) ?_
        case hi15 => (simp only [List.getElem?_toArray, List.getElem?_cons_succ, List.getElem?_cons_zero]; rfl)
        case hQ15 => exact fun _ _ _ h => h
        case hw15 => rfl
        case hy15 => (intro w hSw; (try dsimp only at hSw); go_simp; (try with_reducible rfl))
        simp only [Act.put, List.setIfInBounds_toArray, List.set_cons_zero, List.set_cons_succ]
        refine wpAnyH_done (by kernel_rfl) ?_ _
        go_wp2_with fail
        have HT2 := hide ((unhide HT).trans (hk5.mono (unhide HT).size))
        go_roundw
        case rel => exact ⟨t + 1, by omega, by go_num, HT2⟩
        case measure => simp [intOf]; omega
      · obtain rfl : t = pre.length := by omega
        have hkb : klt ya yb z.a z.b = true := unhide HPO z (by
          rw [List.getElem?_append_right (Nat.le_refl _), Nat.sub_self] at hz
          exact List.mem_of_getElem? hz)
        rw [hkb] at CA
        clear hkb x0 x1 hz
        generalize z.a = za at *
        generalize z.b = zb at *
        go_wp2_with fail
        refine wp_region_held_drew (S := (fun w' => Below wr.heap.size wr w')) (by kernel_rfl) ?_ (fun hHeld => ?_)
        · (first | (first | exact (Below.refl _ _).drew | assumption))
        refine wpAnyH_take (i := 0) (oi := ?o16) (v := ?v16) ?hi16 (by kernel_rfl) (by kernel_rfl) (by kernel_rfl) ?hQ16 (Or.inl ⟨?hw16, ?hy16⟩) (by assumption) ?_
        case hi16 => (simp only [List.getElem?_toArray, List.getElem?_cons_zero]; rfl)
        case hQ16 => exact fun _ _ _ h => h
        case hw16 => rfl
        case hy16 => (intro w hSw; (try dsimp only at hSw); go_simp; (try with_reducible rfl))
        simp only [Act.put, List.setIfInBounds_toArray, List.set_cons_zero, List.set_cons_succ]
        refine wpAnyH_take (i := 1) (oi := ?o17) (v := ?v17) ?hi17 (by kernel_rfl) (by kernel_rfl) (by kernel_rfl) ?hQ17 (Or.inl ⟨?hw17, ?hy17⟩) (by assumption) ?_
        case hi17 => (simp only [List.getElem?_toArray, List.getElem?_cons_succ, List.getElem?_cons_zero]; rfl)
        case hQ17 => exact fun _ _ _ h => h
        case hw17 => rfl
        case hy17 => (intro w hSw; (try dsimp only at hSw); go_simp; (try with_reducible rfl))
        simp only [Act.put, List.setIfInBounds_toArray, List.set_cons_zero, List.set_cons_succ]
        refine wpAnyH_take (i := 2) (oi := ?o18) (v := ?v18) ?hi18 (by kernel_rfl) (by kernel_rfl) (by kernel_rfl) ?hQ18 (Or.inl ⟨?hw18, ?hy18⟩) (by assumption) ?_
        case hi18 => (simp only [List.getElem?_toArray, List.getElem?_cons_succ, List.getElem?_cons_zero]; rfl)
        case hQ18 => exact fun _ _ _ h => h
        case hw18 => rfl
        case hy18 => (intro w hSw; (try dsimp only at hSw); go_simp; (try with_reducible rfl))
        simp only [Act.put, List.setIfInBounds_toArray, List.set_cons_zero, List.set_cons_succ]
        refine wpAnyH_take (i := 3) (oi := ?o19) (v := ?v19) ?hi19 (by kernel_rfl) (by kernel_rfl) (by kernel_rfl) ?hQ19 (Or.inl ⟨?hw19, ?hy19⟩) (by assumption) ?_
        case hi19 => (simp only [List.getElem?_toArray, List.getElem?_cons_succ, List.getElem?_cons_zero]; rfl)
        case hQ19 => exact fun _ _ _ h => h
        case hw19 => rfl
        case hy19 => (intro w hSw; (try dsimp only at hSw); go_simp; (try with_reducible rfl))
        simp only [Act.put, List.setIfInBounds_toArray, List.set_cons_zero, List.set_cons_succ]
        refine wpAnyH_take (i := 4) (oi := ?o20) (v := ?v20) ?hi20 (by kernel_rfl) (by kernel_rfl) (by kernel_rfl) ?hQ20 (Or.inl ⟨?hw20, ?hy20⟩) (by assumption) ?_
        case hi20 => (simp only [List.getElem?_toArray, List.getElem?_cons_succ, List.getElem?_cons_zero]; rfl)
        case hQ20 => exact fun _ _ _ h => h
        case hw20 => rfl
        case hy20 => (intro w hSw; (try dsimp only at hSw); go_simp; (try with_reducible rfl))
        simp only [Act.put, List.setIfInBounds_toArray, List.set_cons_zero, List.set_cons_succ]
        refine wpAnyH_take (i := 5) (oi := ?o21) (v := ?v21) ?hi21 (by kernel_rfl) (by kernel_rfl) (by kernel_rfl) ?hQ21 (Or.inl ⟨?hw21, ?hy21⟩) (by assumption) ?_
        case hi21 => (simp only [List.getElem?_toArray, List.getElem?_cons_succ, List.getElem?_cons_zero]; rfl)
        case hQ21 => exact fun _ _ _ h => h
        case hw21 => rfl
        case hy21 => (intro w hSw; (try dsimp only at hSw); go_simp; (try with_reducible rfl))
        simp only [Act.put, List.setIfInBounds_toArray, List.set_cons_zero, List.set_cons_succ]
        refine wpAnyH_take (i := 6) (oi := ?o22) (v := ?v22) ?hi22 (by kernel_rfl) (by kernel_rfl) (by kernel_rfl) ?hQ22 (Or.inl ⟨?hw22, ?hy22⟩) (by assumption) ?_
        case hi22 => (simp only [List.getElem?_toArray, List.getElem?_cons_succ, List.getElem?_cons_zero]; rfl)
        case hQ22 => exact fun _ _ _ h => h
        case hw22 => rfl
        case hy22 => (intro w hSw; (try dsimp only at hSw); go_simp; (try with_reducible rfl))
        simp only [Act.put, List.setIfInBounds_toArray, List.set_cons_zero, List.set_cons_succ]
        refine wpAnyH_take (i := 7) (oi := ?o23) (v := ?v23) ?hi23 (by kernel_rfl) (by kernel_rfl) (by kernel_rfl) ?hQ23 (Or.inl ⟨?hw23, ?hy23⟩) (by assumption) ?_
        case hi23 => (simp only [List.getElem?_toArray, List.getElem?_cons_succ, List.getElem?_cons_zero]; rfl)
        case hQ23 => exact fun _ _ _ h => h
        case hw23 => rfl
        case hy23 => (intro w hSw; (try dsimp only at hSw); go_simp; (try with_reducible rfl))
        simp only [Act.put, List.setIfInBounds_toArray, List.set_cons_zero, List.set_cons_succ]
        refine wpAnyH_take (i := 8) (oi := ?o24) (v := ?v24) ?hi24 (by kernel_rfl) (by kernel_rfl) (by kernel_rfl) ?hQ24 (Or.inl ⟨?hw24, ?hy24⟩) (by assumption) ?_
        case hi24 => (simp only [List.getElem?_toArray, List.getElem?_cons_succ, List.getElem?_cons_zero]; rfl)
        case hQ24 => exact fun _ _ _ h => h
        case hw24 => rfl
        case hy24 => (intro w hSw; (try dsimp only at hSw); go_simp; (try with_reducible rfl))
        simp only [Act.put, List.setIfInBounds_toArray, List.set_cons_zero, List.set_cons_succ]
        refine wpAnyH_take (i := 9) (oi := ?o25) (v := ?v25) ?hi25 (by kernel_rfl) (by kernel_rfl) (by kernel_rfl) ?hQ25 (Or.inl ⟨?hw25, ?hy25⟩) (by assumption) ?_
        case hi25 => (simp only [List.getElem?_toArray, List.getElem?_cons_succ, List.getElem?_cons_zero]; rfl)
        case hQ25 => exact fun _ _ _ h => h
        case hw25 => rfl
        case hy25 => (intro w hSw; (try dsimp only at hSw); go_simp; (try with_reducible rfl))
        simp only [Act.put, List.setIfInBounds_toArray, List.set_cons_zero, List.set_cons_succ]
        refine wpAnyH_take (i := 10) (oi := ?o26) (v := ?v26) ?hi26 (by kernel_rfl) (by kernel_rfl) (by kernel_rfl) ?hQ26 (Or.inl ⟨?hw26, ?hy26⟩) (by assumption) ?_
        case hi26 => (simp only [List.getElem?_toArray, List.getElem?_cons_succ, List.getElem?_cons_zero]; rfl)
        case hQ26 => exact fun _ _ _ h => h
        case hw26 => rfl
        case hy26 => (intro w hSw; (try dsimp only at hSw); go_simp; (try with_reducible rfl))
        simp only [Act.put, List.setIfInBounds_toArray, List.set_cons_zero, List.set_cons_succ]
        refine wpAnyH_take (i := 11) (oi := ?o27) (v := ?v27) ?hi27 (by kernel_rfl) (by kernel_rfl) (by kernel_rfl) ?hQ27 (Or.inl ⟨?hw27, ?hy27⟩) (by assumption) ?_
        case hi27 => (simp only [List.getElem?_toArray, List.getElem?_cons_succ, List.getElem?_cons_zero]; rfl)
        case hQ27 => exact fun _ _ _ h => h
        case hw27 => rfl
        case hy27 => (intro w hSw; (try dsimp only at hSw); go_simp; (try with_reducible rfl))
        simp only [Act.put, List.setIfInBounds_toArray, List.set_cons_zero, List.set_cons_succ]
        refine wpAnyH_ready (rs := [12]) (by kernel_rfl) (by simp) ?_
        refine AllReadyH.cons (o := ?o28) ?hi28 (fun K hK => ?_) AllReadyH.nil
        case hi28 => (simp only [List.getElem?_toArray, List.getElem?_cons_succ, List.getElem?_cons_zero]; rfl)
        go_simp
        (go_at_call 23; refine (unhide (CA _)).mono ?_; rintro e w5 ⟨rfl, hb5⟩; have hk5 := Below.trans (by assumption) (hb5.mono (Below.size (by assumption)))); go_wp2_with fail
        refine hK.out _ _ ?_ (fun hHeld => ?_)
        · (first | (first | exact (Below.refl _ _).drew | assumption))
        clear hK K
        refine wpAnyH_take (i := 13) (oi := ?o29) (v := ?v29) ?hi29 (by kernel_rfl) (by kernel_rfl) (by kernel_rfl) ?hQ29 (Or.inl ⟨?hw29, ?hy29⟩) (by assumption) ?_
        case hi29 => (simp only [List.getElem?_toArray, List.getElem?_cons_succ, List.getElem?_cons_zero]; rfl)
        case hQ29 => exact fun _ _ _ h => h
        case hw29 => rfl
        case hy29 => (intro w hSw; (try dsimp only at hSw); go_simp; (try with_reducible rfl))
        simp only [Act.put, List.setIfInBounds_toArray, List.set_cons_zero, List.set_cons_succ]
        refine wpAnyH_take (i := 14) (oi := ?o30) (v := ?v30) ?hi30 (by kernel_rfl) (by kernel_rfl) (by kernel_rfl) ?hQ30 (Or.inl ⟨?hw30, ?hy30⟩) (by assumption) ?_
        case hi30 => (simp only [List.getElem?_toArray, List.getElem?_cons_succ, List.getElem?_cons_zero]; rfl)
        case hQ30 => exact fun _ _ _ h => h
        case hw30 => rfl
        case hy30 => (intro w hSw; (try dsimp only at hSw); go_simp; (try with_reducible rfl))
        simp only [Act.put, List.setIfInBounds_toArray, List.set_cons_zero, List.set_cons_succ]
        refine wpAnyH_done (by kernel_rfl) ?_ _
        go_wp2_with fail
        have HT2 := hide ((unhide HT).trans (hk5.mono (unhide HT).size))
        obtain ⟨b0, k0, hr0⟩ := unhide H0
        have rW := row_keep hr0 (fun j _ hj => (unhide HT2).block j hj)
        have kx := k0.below (unhide HT2) k0.lt
        have c0 := hold (kx.cell 0)
        have c1 := hold (kx.cell 1)
        have c2 := hold (kx.cell 2)
        have c3 := hold (kx.cell 3)
        obtain ⟨D, hD⟩ : ∃ D, w5.heap.size = D := ⟨_, rfl⟩
        have e0 : ∀ o : Obj, (w5.alloc o).drew.cell? ⟨B, 0, none⟩ = some (.int .i64 ya) := fun o => (kx.alloc o).cell 0
        have e1 : ∀ o : Obj, (w5.alloc o).drew.cell? ⟨B, 1, none⟩ = some (.int .i64 yb) := fun o => (kx.alloc o).cell 1
        have e2 : ∀ o : Obj, (w5.alloc o).drew.cell? ⟨B, 2, none⟩ = some (.int .i64 (yn : Int)) := fun o => (kx.alloc o).cell 2
        have e3 : ∀ o : Obj, (w5.alloc o).drew.cell? ⟨B, 3, none⟩ = some (.int .i64 yt) := fun o => (kx.alloc o).cell 3
        have f0 : w5.drew.cell? ⟨B, 0, none⟩ = some (.int .i64 ya) := kx.cell 0
        have f1 : w5.drew.cell? ⟨B, 1, none⟩ = some (.int .i64 yb) := kx.cell 1
        have f2 : w5.drew.cell? ⟨B, 2, none⟩ = some (.int .i64 (yn : Int)) := kx.cell 2
        have f3 : w5.drew.cell? ⟨B, 3, none⟩ = some (.int .i64 yt) := kx.cell 3
        have n1 := fun w' (h : Below D w5 w') => (news_pre rW cap).held w' (by rw [hD]; exact h)
        have n3 := fun w' (h : Below D w5 w') => (news_from rW (unhide HNN) hcap.1 (cap - pre.length)).held w' (by rw [hD]; exact h)
        have hp0 : (0 : Int) ≤ (pre.length : Int) := by omega
        have hp1 : (pre.length : Int) ≤ (cap : Int) := by omega
        have hp2 : (pre.length : Int) ≤ (N : Int) := by omega
        have hp3 : (N : Int) ≤ (cap : Int) := by omega
        obtain ⟨X, hX⟩ : ∃ X : Obj, X = (.cells #[.int .i64 ya, .int .i64 yb, .int .i64 yn, .int .i64 yt] 46 : Obj) := ⟨_, rfl⟩
        have HL := hide (show pre.length ≤ 5000 ∧ post.length ≤ 5000 by omega)
        have HI := hide (And.intro n1 (And.intro n3 (And.intro rW b0)))
        have BE : ∀ o : Obj, Below D w5 (w5.alloc o).drew := fun o => by rw [← hD]; exact (one_below w5 o).drew
        have BE2 : ∀ o p : Obj, Below D w5 ((w5.alloc o).alloc p).drew := fun o p => by rw [← hD]; exact (box2_below w5 o p).drew
        have HBE := hide (And.intro BE BE2)
        clear BE BE2 n1 n3 rW b0
        go_region_law (first
          | (refine step_own rfl _ _ rfl hD _ 0 [] rfl (by first | exact own_empty (Nat.le_refl _) hD | exact World.ownsRow.alloc (own_empty (Nat.le_refl _) hD) _ | exact own_empty (Nat.le_succ _) (by simp [hD])) pre.length (irow pre) (by first | exact (unhide HI).1 _ ((unhide HBE).1 _) | exact (unhide HI).1 _ ((unhide HBE).2 _ _)) (by have := (unhide HL).1; omega) (by first | exact (unhide HBE).1 _ | exact (unhide HBE).2 _ _) ?_; intro v1 w1 o1 S1 K1; rw [Nat.zero_add, List.nil_append] at o1)
          | (refine step_own rfl _ _ rfl hD _ pre.length (irow pre) rfl (by first | exact o1 | exact World.ownsRow.alloc o1 _) 1 (irow [⟨yn, yt, ya, yb⟩]) (by first | exact news_box (y := ⟨yn, yt, ya, yb⟩) (Blk.new _ _ _) | exact news_box (y := ⟨yn, yt, ya, yb⟩) (K1 _ _ _ (Blk.new_at _ _ _ (show D + 1 = _ by simp [hD])) (fun e => Nat.ne_of_gt (Nat.lt_succ_self D) (Option.some.inj e))) | exact news_box (y := ⟨yn, yt, ya, yb⟩) (K1 _ _ _ (Blk.alloc (Blk.new_at _ _ _ hD.symm) _) (fun e => Nat.ne_of_lt (Nat.lt_succ_self D) (Option.some.inj e)))) (by have := (unhide HL).1; omega) (by first | exact S1 | exact S1.alloc (by have := S1.size; omega) _) ?_; intro v2 w2 o2 S2 K2)
          | (refine step_own rfl _ _ rfl hD _ (pre.length + 1) (irow pre ++ irow [⟨yn, yt, ya, yb⟩]) rfl o2 post.length (irow post) ((unhide HI).2.1 _ S2) (by have := (unhide HL).1; have := (unhide HL).2; omega) S2 ?_; intro v3 w3 o3 S3 K3))
        all_goals go_wp2_with fail
        all_goals
          go_ret
          refine ⟨v3, rfl, ?_, ?_⟩
          · have hb := (unhide HI).2.2.2.size
            have hs := (unhide HT2).size
            have e : irow pre ++ irow [⟨yn, yt, ya, yb⟩] ++ irow post = irow (pre ++ ⟨yn, yt, ya, yb⟩ :: post) := by
              rw [irow_append, List.append_assoc]; rfl
            rw [e, show pre.length + 1 + post.length = N + 1 by omega] at o3
            exact World.ownsRow.mono o3 (by omega)
          · have hb := (unhide HI).2.2.2
            exact (hb.trans ((unhide HT2).mono (hB ▸ hb.size))).trans (S3.mono (by have := hb.size; have := (unhide HT2).size; omega))
    · obtain rfl : t = pre.length := by omega
      have hd1 : decide ((pre.length : Int) < (N : Int)) = false := decide_eq_false (by omega)
      go_wp2_with fail
      go_quiet (fail)
      go_wp2_with fail
      have HT2 := hide ((unhide HT).trans ((drew_below wr nq).mono (unhide HT).size))
      generalize wr.drewN nq = w5 at *
      obtain ⟨b0, k0, hr0⟩ := unhide H0
      have rW := row_keep hr0 (fun j _ hj => (unhide HT2).block j hj)
      have kx := k0.below (unhide HT2) k0.lt
      have c0 := hold (kx.cell 0)
      have c1 := hold (kx.cell 1)
      have c2 := hold (kx.cell 2)
      have c3 := hold (kx.cell 3)
      obtain ⟨D, hD⟩ : ∃ D, w5.heap.size = D := ⟨_, rfl⟩
      have e0 : ∀ o : Obj, (w5.alloc o).drew.cell? ⟨B, 0, none⟩ = some (.int .i64 ya) := fun o => (kx.alloc o).cell 0
      have e1 : ∀ o : Obj, (w5.alloc o).drew.cell? ⟨B, 1, none⟩ = some (.int .i64 yb) := fun o => (kx.alloc o).cell 1
      have e2 : ∀ o : Obj, (w5.alloc o).drew.cell? ⟨B, 2, none⟩ = some (.int .i64 (yn : Int)) := fun o => (kx.alloc o).cell 2
      have e3 : ∀ o : Obj, (w5.alloc o).drew.cell? ⟨B, 3, none⟩ = some (.int .i64 yt) := fun o => (kx.alloc o).cell 3
      have f0 : w5.drew.cell? ⟨B, 0, none⟩ = some (.int .i64 ya) := kx.cell 0
      have f1 : w5.drew.cell? ⟨B, 1, none⟩ = some (.int .i64 yb) := kx.cell 1
      have f2 : w5.drew.cell? ⟨B, 2, none⟩ = some (.int .i64 (yn : Int)) := kx.cell 2
      have f3 : w5.drew.cell? ⟨B, 3, none⟩ = some (.int .i64 yt) := kx.cell 3
      have n1 := fun w' (h : Below D w5 w') => (news_pre rW cap).held w' (by rw [hD]; exact h)
      have n3 := fun w' (h : Below D w5 w') => (news_from rW (unhide HNN) hcap.1 (cap - pre.length)).held w' (by rw [hD]; exact h)
      have hp0 : (0 : Int) ≤ (pre.length : Int) := by omega
      have hp1 : (pre.length : Int) ≤ (cap : Int) := by omega
      have hp2 : (pre.length : Int) ≤ (N : Int) := by omega
      have hp3 : (N : Int) ≤ (cap : Int) := by omega
      obtain ⟨X, hX⟩ : ∃ X : Obj, X = (.cells #[.int .i64 ya, .int .i64 yb, .int .i64 yn, .int .i64 yt] 46 : Obj) := ⟨_, rfl⟩
      have HL := hide (show pre.length ≤ 5000 ∧ post.length ≤ 5000 by omega)
      have HI := hide (And.intro n1 (And.intro n3 (And.intro rW b0)))
      have BE : ∀ o : Obj, Below D w5 (w5.alloc o).drew := fun o => by rw [← hD]; exact (one_below w5 o).drew
      have BE2 : ∀ o p : Obj, Below D w5 ((w5.alloc o).alloc p).drew := fun o p => by rw [← hD]; exact (box2_below w5 o p).drew
      have HBE := hide (And.intro BE BE2)
      clear BE BE2 n1 n3 rW b0
      go_region_law (first
        | (refine step_own rfl _ _ rfl hD _ 0 [] rfl (by first | exact own_empty (Nat.le_refl _) hD | exact World.ownsRow.alloc (own_empty (Nat.le_refl _) hD) _ | exact own_empty (Nat.le_succ _) (by simp [hD])) pre.length (irow pre) (by first | exact (unhide HI).1 _ ((unhide HBE).1 _) | exact (unhide HI).1 _ ((unhide HBE).2 _ _)) (by have := (unhide HL).1; omega) (by first | exact (unhide HBE).1 _ | exact (unhide HBE).2 _ _) ?_; intro v1 w1 o1 S1 K1; rw [Nat.zero_add, List.nil_append] at o1)
        | (refine step_own rfl _ _ rfl hD _ pre.length (irow pre) rfl (by first | exact o1 | exact World.ownsRow.alloc o1 _) 1 (irow [⟨yn, yt, ya, yb⟩]) (by first | exact news_box (y := ⟨yn, yt, ya, yb⟩) (Blk.new _ _ _) | exact news_box (y := ⟨yn, yt, ya, yb⟩) (K1 _ _ _ (Blk.new_at _ _ _ (show D + 1 = _ by simp [hD])) (fun e => Nat.ne_of_gt (Nat.lt_succ_self D) (Option.some.inj e))) | exact news_box (y := ⟨yn, yt, ya, yb⟩) (K1 _ _ _ (Blk.alloc (Blk.new_at _ _ _ hD.symm) _) (fun e => Nat.ne_of_lt (Nat.lt_succ_self D) (Option.some.inj e)))) (by have := (unhide HL).1; omega) (by first | exact S1 | exact S1.alloc (by have := S1.size; omega) _) ?_; intro v2 w2 o2 S2 K2)
        | (refine step_own rfl _ _ rfl hD _ (pre.length + 1) (irow pre ++ irow [⟨yn, yt, ya, yb⟩]) rfl o2 post.length (irow post) ((unhide HI).2.1 _ S2) (by have := (unhide HL).1; have := (unhide HL).2; omega) S2 ?_; intro v3 w3 o3 S3 K3))
      all_goals go_wp2_with fail
      all_goals
        go_ret
        refine ⟨v3, rfl, ?_, ?_⟩
        · have hb := (unhide HI).2.2.2.size
          have hs := (unhide HT2).size
          have e : irow pre ++ irow [⟨yn, yt, ya, yb⟩] ++ irow post = irow (pre ++ ⟨yn, yt, ya, yb⟩ :: post) := by
            rw [irow_append, List.append_assoc]; rfl
          rw [e, show pre.length + 1 + post.length = N + 1 by omega] at o3
          exact World.ownsRow.mono o3 (by omega)
        · have hb := (unhide HI).2.2.2
          exact (hb.trans ((unhide HT2).mono (hB ▸ hb.size))).trans (S3.mono (by have := hb.size; have := (unhide HT2).size; omega))
end Go.Proofs.Ytpkadbjgkoijiaa
