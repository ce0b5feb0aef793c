import Derived.Test.YtabmjaioejacaaaLb1
import Derived.Test.YtabmjaioejacaaaQueD
namespace Go.Proofs.Ytabmjaioejacaaa
open Go.RowKit Kt Qu
set_option linter.unusedVariables false

/-- The five cells of a timer of a row. -/
theorem tcells {w : World} {C n cap : Nat} {a : Option Addr} {L : List Tmr} (h : Rd rtm w C a n cap L) {j : Nat} {t : Tmr} (hj : L[j]? = some t) : ∃ g o, a = some ⟨g, o, none⟩ ∧ g < w.heap.size ∧
    w.cell? ⟨g, o + j * 5, none⟩ = some (.int .i64 t.id) ∧ w.cell? ⟨g, o + j * 5 + 1, none⟩ = some (.int .i64 t.clock) ∧ w.cell? ⟨g, o + j * 5 + 2, none⟩ = some (.int .i64 t.soft) ∧ w.cell? ⟨g, o + j * 5 + 3, none⟩ = some (.int .i64 t.hard) ∧ w.cell? ⟨g, o + j * 5 + 4, none⟩ = some (.bool t.lazy) := by
  obtain ⟨g, o, e, hc⟩ := h.cell j t hj
  exact ⟨g, o, e, (h.blk _ e).2.1, hc 0 _ rfl, hc 1 _ rfl, hc 2 _ rfl, hc 3 _ rfl, hc 4 _ rfl⟩
theorem split_at {α : Type} {L : List α} {k : Nat} {t : α} (h : L[k]? = some t) : L = L.take k ++ t :: L.drop (k + 1) ∧ (L.take k).length = k := by
  obtain ⟨hi, he⟩ := List.getElem?_eq_some_iff.1 h
  exact ⟨by rw [← he, List.getElem_cons_drop, List.take_append_drop], by rw [List.length_take]; omega⟩
theorem box2 (w : World) (a b : Obj) : Below w.heap.size w ((w.alloc a).alloc b) := (one_below w a).trans ((one_below _ b).mono (one_below w a).size)
set_option maxRecDepth 100000 in
set_option maxHeartbeats 2000000 in
theorem tput_some (w : World) (C n cap g o : Nat) (pre post : List Tmr) (h : Rd rtm w C (some ⟨g, o, none⟩) n cap (pre ++ post)) (hl : n ≤ 1000) (t : Tmr)
    (hpre : ∀ y ∈ pre, befB y t = true) (hpost : ∀ y S, post = y :: S → befB y t = false) :
    Calls Try.prog 7 #[.slice (some ⟨g, o, none⟩) n cap, tv t] w fun e w' => ∃ v', e = .returned v' ∧ Rg rtm w' w.heap.size v' (pre ++ t :: post) ∧ Below w.heap.size w w' := by
  obtain ⟨B, hB⟩ : ∃ B, w.heap.size = B := ⟨_, rfl⟩
  obtain ⟨i1, i2, i3, i4, i5⟩ := t
  obtain ⟨W0, hW0⟩ : ∃ W0, W0 = w.alloc (.cells #[.int .i64 i1, .int .i64 i2, .int .i64 i3, .int .i64 i4, .bool i5] 29) := ⟨_, rfl⟩
  have b0 : Below B w W0 := by rw [hW0, ← hB]; exact one_below _ _
  have k0 : Blk W0 B 29 #[.int .i64 i1, .int .i64 i2, .int .i64 i3, .int .i64 i4, .bool i5] := by rw [hW0]; exact Blk.new_at _ _ _ hB.symm
  have hr0 : Rd rtm W0 C (some ⟨g, o, none⟩) n cap (pre ++ post) := h.below (hB ▸ b0)
  have hle := h.le
  have hmax := h.max
  unfold maxLen at hmax
  have hN := h.len
  have hpN : pre.length ≤ n := by rw [hN]; simp
  have HAT := hide (fun (j : Nat) (y : Tmr) (hj : (pre ++ post)[j]? = some y) => (tcells hr0 hj))
  have H0 := hide (And.intro b0 (And.intro k0 hr0))
  have HPR := hide hpre
  have HPO := hide hpost
  have CB := hide (fun w' z => before_any w' z ⟨i1, i2, i3, i4, i5⟩)
  have HN := hide hN
  have HW0 := hide hW0
  rw [hB]
  clear b0 k0 hr0 h hpre hpost hN hW0
  unfold tv
  simp only
  go_enter Try.func7, Try.ntmps7
  go_wp2_with fail
  rw [← unhide HW0]
  go_loopw [5] (fun d w' => ∃ t : Nat, t ≤ pre.length ∧ d = .int .i64 (t : Int) ∧ Hid (Below W0.heap.size W0 w')) (fun d _ => 5001 - (intOf d).toNat)
  case atStart => exact ⟨0, by omega, rfl, hide (Below.refl _ _)⟩
  case round =>
    obtain ⟨t, ht, rfl, HT⟩ := hrel
    have q0 := hkHeld ((unhide H0).2.1.below (unhide HT) (unhide H0).2.1.lt) 0 (.int .i64 i1) rfl
    have q1 := hkHeld ((unhide H0).2.1.below (unhide HT) (unhide H0).2.1.lt) 1 (.int .i64 i2) rfl
    have q2 := hkHeld ((unhide H0).2.1.below (unhide HT) (unhide H0).2.1.lt) 2 (.int .i64 i3) rfl
    have q3 := hkHeld ((unhide H0).2.1.below (unhide HT) (unhide H0).2.1.lt) 3 (.int .i64 i4) rfl
    have q4 := hkHeld ((unhide H0).2.1.below (unhide HT) (unhide H0).2.1.lt) 4 (.bool i5) rfl
    by_cases htN : t < n
    · obtain ⟨z, hz⟩ : ∃ z, (pre ++ post)[t]? = some z := ⟨_, List.getElem?_eq_getElem (by rw [← unhide HN]; exact htN)⟩
      obtain ⟨g', o', he, -, x0, x1, x2, x3, x4⟩ := unhide HAT t z hz
      cases he
      have y0 := fun w' (hb : Below wr.heap.size wr w') => cellB hb (cellB (unhide HT) x0)
      have y1 := fun w' (hb : Below wr.heap.size wr w') => cellB hb (cellB (unhide HT) x1)
      have y2 := fun w' (hb : Below wr.heap.size wr w') => cellB hb (cellB (unhide HT) x2)
      have y3 := fun w' (hb : Below wr.heap.size wr w') => cellB hb (cellB (unhide HT) x3)
      have y4 := fun w' (hb : Below wr.heap.size wr w') => cellB hb (cellB (unhide HT) x4)
      have hd1 : decide ((t : Int) < (n : Int)) = true := decide_eq_true (by omega)
      have hd2 : (t : Int) < (n : Int) := by omega
      have hd3 : (0 : Int) ≤ (t : Int) := by omega
      by_cases htp : t < pre.length
      · have CZ := hide (fun w' => unhide CB w' z)
        rw [unhide HPR z (by
          rw [List.getElem?_append_left htp] at hz
          exact List.mem_of_getElem? hz)] at CZ
        obtain ⟨z1, z2, z3, z4, z5⟩ := z
        simp only [tv] at CZ y0 y1 y2 y3 y4
        clear x0 x1 x2 x3 x4 hz
        go_wp2_with fail
        refine wp_region_held_drew (S := (fun w' => Below wr.heap.size wr w')) (by kernel_rfl) ?_ (fun hHeld => ?_)
        · (first | (first | exact (Below.refl _ _).drew | assumption))
        refine wpAnyH_take (i := 0) (oi := ?o1) (v := ?v1) ?hi1 (by kernel_rfl) (by kernel_rfl) (by kernel_rfl) ?hQ1 (Or.inl ⟨?hw1, ?hy1⟩) (by assumption) ?_
        case hi1 => (simp only [List.getElem?_toArray, List.getElem?_cons_zero]; rfl)
        case hQ1 => exact fun _ _ _ h => h
        case hw1 => rfl
        case hy1 => (intro w hSw; (try dsimp only at hSw); go_simp; (try with_reducible rfl))
        simp only [Act.put, List.setIfInBounds_toArray, List.set_cons_zero, List.set_cons_succ]
        refine wpAnyH_take (i := 1) (oi := ?o2) (v := ?v2) ?hi2 (by kernel_rfl) (by kernel_rfl) (by kernel_rfl) ?hQ2 (Or.inl ⟨?hw2, ?hy2⟩) (by assumption) ?_
        case hi2 => (simp only [List.getElem?_toArray, List.getElem?_cons_succ, List.getElem?_cons_zero]; rfl)
        case hQ2 => exact fun _ _ _ h => h
        case hw2 => rfl
        case hy2 => (intro w hSw; (try dsimp only at hSw); go_simp; (try with_reducible rfl))
        simp only [Act.put, List.setIfInBounds_toArray, List.set_cons_zero, List.set_cons_succ]
        refine wpAnyH_take (i := 2) (oi := ?o3) (v := ?v3) ?hi3 (by kernel_rfl) (by kernel_rfl) (by kernel_rfl) ?hQ3 (Or.inl ⟨?hw3, ?hy3⟩) (by assumption) ?_
        case hi3 => (simp only [List.getElem?_toArray, List.getElem?_cons_succ, List.getElem?_cons_zero]; rfl)
        case hQ3 => exact fun _ _ _ h => h
        case hw3 => rfl
        case hy3 => (intro w hSw; (try dsimp only at hSw); go_simp; (try with_reducible rfl))
        simp only [Act.put, List.setIfInBounds_toArray, List.set_cons_zero, List.set_cons_succ]
        refine wpAnyH_take (i := 3) (oi := ?o4) (v := ?v4) ?hi4 (by kernel_rfl) (by kernel_rfl) (by kernel_rfl) ?hQ4 (Or.inl ⟨?hw4, ?hy4⟩) (by assumption) ?_
        case hi4 => (simp only [List.getElem?_toArray, List.getElem?_cons_succ, List.getElem?_cons_zero]; rfl)
        case hQ4 => exact fun _ _ _ h => h
        case hw4 => rfl
        case hy4 => (intro w hSw; (try dsimp only at hSw); go_simp; (try with_reducible rfl))
        simp only [Act.put, List.setIfInBounds_toArray, List.set_cons_zero, List.set_cons_succ]
        refine wpAnyH_take (i := 4) (oi := ?o5) (v := ?v5) ?hi5 (by kernel_rfl) (by kernel_rfl) (by kernel_rfl) ?hQ5 (Or.inl ⟨?hw5, ?hy5⟩) (by assumption) ?_
        case hi5 => (simp only [List.getElem?_toArray, List.getElem?_cons_succ, List.getElem?_cons_zero]; rfl)
        case hQ5 => exact fun _ _ _ h => h
        case hw5 => rfl
        case hy5 => (intro w hSw; (try dsimp only at hSw); go_simp; (try with_reducible rfl))
        simp only [Act.put, List.setIfInBounds_toArray, List.set_cons_zero, List.set_cons_succ]
        refine wpAnyH_take (i := 5) (oi := ?o6) (v := ?v6) ?hi6 (by kernel_rfl) (by kernel_rfl) (by kernel_rfl) ?hQ6 (Or.inl ⟨?hw6, ?hy6⟩) (by assumption) ?_
        case hi6 => (simp only [List.getElem?_toArray, List.getElem?_cons_succ, List.getElem?_cons_zero]; rfl)
        case hQ6 => exact fun _ _ _ h => h
        case hw6 => rfl
        case hy6 => (intro w hSw; (try dsimp only at hSw); go_simp; (try with_reducible rfl))
        simp only [Act.put, List.setIfInBounds_toArray, List.set_cons_zero, List.set_cons_succ]
        refine wpAnyH_take (i := 6) (oi := ?o7) (v := ?v7) ?hi7 (by kernel_rfl) (by kernel_rfl) (by kernel_rfl) ?hQ7 (Or.inl ⟨?hw7, ?hy7⟩) (by assumption) ?_
        case hi7 => (simp only [List.getElem?_toArray, List.getElem?_cons_succ, List.getElem?_cons_zero]; rfl)
        case hQ7 => exact fun _ _ _ h => h
        case hw7 => rfl
        case hy7 => (intro w hSw; (try dsimp only at hSw); go_simp; (try with_reducible rfl))
        simp only [Act.put, List.setIfInBounds_toArray, List.set_cons_zero, List.set_cons_succ]
        refine wpAnyH_take (i := 7) (oi := ?o8) (v := ?v8) ?hi8 (by kernel_rfl) (by kernel_rfl) (by kernel_rfl) ?hQ8 (Or.inl ⟨?hw8, ?hy8⟩) (by assumption) ?_
        case hi8 => (simp only [List.getElem?_toArray, List.getElem?_cons_succ, List.getElem?_cons_zero]; rfl)
        case hQ8 => exact fun _ _ _ h => h
        case hw8 => rfl
        case hy8 => (intro w hSw; (try dsimp only at hSw); go_simp; (try with_reducible rfl))
        simp only [Act.put, List.setIfInBounds_toArray, List.set_cons_zero, List.set_cons_succ]
        refine wpAnyH_take (i := 8) (oi := ?o9) (v := ?v9) ?hi9 (by kernel_rfl) (by kernel_rfl) (by kernel_rfl) ?hQ9 (Or.inl ⟨?hw9, ?hy9⟩) (by assumption) ?_
        case hi9 => (simp only [List.getElem?_toArray, List.getElem?_cons_succ, List.getElem?_cons_zero]; rfl)
        case hQ9 => exact fun _ _ _ h => h
        case hw9 => rfl
        case hy9 => (intro w hSw; (try dsimp only at hSw); go_simp; (try with_reducible rfl))
        simp only [Act.put, List.setIfInBounds_toArray, List.set_cons_zero, List.set_cons_succ]
        refine wpAnyH_take (i := 9) (oi := ?o10) (v := ?v10) ?hi10 (by kernel_rfl) (by kernel_rfl) (by kernel_rfl) ?hQ10 (Or.inl ⟨?hw10, ?hy10⟩) (by assumption) ?_
        case hi10 => (simp only [List.getElem?_toArray, List.getElem?_cons_succ, List.getElem?_cons_zero]; rfl)
        case hQ10 => exact fun _ _ _ h => h
        case hw10 => rfl
        case hy10 => (intro w hSw; (try dsimp only at hSw); go_simp; (try with_reducible rfl))
        simp only [Act.put, List.setIfInBounds_toArray, List.set_cons_zero, List.set_cons_succ]
        refine wpAnyH_ready (rs := [10]) (by kernel_rfl) (by simp) ?_
        refine AllReadyH.cons (o := ?o11) ?hi11 (fun K hK => ?_) AllReadyH.nil
        case hi11 => (simp only [List.getElem?_toArray, List.getElem?_cons_succ, List.getElem?_cons_zero]; rfl)
        go_simp
        (go_at_call 18; refine (unhide CZ _).mono ?_; rintro e w5 ⟨rfl, hb5⟩; have hk5 := Below.trans (by assumption) (hb5.mono (Below.size (by assumption)))); go_wp2_with fail
        refine hK.out _ _ ?_ (fun hHeld => ?_)
        · (first | (first | exact (Below.refl _ _).drew | assumption))
        clear hK K
        refine wpAnyH_take (i := 11) (oi := ?o12) (v := ?v12) ?hi12 (by kernel_rfl) (by kernel_rfl) (by kernel_rfl) ?hQ12 (Or.inl ⟨?hw12, ?hy12⟩) (by assumption) ?_
        case hi12 => (simp only [List.getElem?_toArray, List.getElem?_cons_succ, List.getElem?_cons_zero]; rfl)
        case hQ12 => exact fun _ _ _ h => h
        case hw12 => rfl
        case hy12 => (intro w hSw; (try dsimp only at hSw); go_simp; (try with_reducible rfl))
        simp only [Act.put, List.setIfInBounds_toArray, List.set_cons_zero, List.set_cons_succ]
        refine wpAnyH_done (by kernel_rfl) ?_ _
        have HT2 := hide ((unhide HT).trans (hk5.mono (unhide HT).size))
        clear q0 q1 q2 q3 q4 y0 y1 y2 y3 y4 hk5 hb5
        go_wp2_with fail
        go_roundw
        case rel => exact ⟨t + 1, by omega, by first | rfl | go_num, HT2⟩
        case measure => simp [intOf]; omega
      · obtain rfl : t = pre.length := by omega
        have CZ := hide (fun w' => unhide CB w' z)
        rw [show befB z ⟨i1, i2, i3, i4, i5⟩ = false from by
          rw [List.getElem?_append_right (Nat.le_refl _), Nat.sub_self] at hz
          cases hp : post with
          | nil => rw [hp] at hz; cases hz
          | cons y S =>
            rw [hp] at hz
            cases hz
            exact unhide HPO _ _ hp] at CZ
        obtain ⟨z1, z2, z3, z4, z5⟩ := z
        simp only [tv] at CZ y0 y1 y2 y3 y4
        clear x0 x1 x2 x3 x4 hz
        go_wp2_with fail
        refine wp_region_held_drew (S := (fun w' => Below wr.heap.size wr w')) (by kernel_rfl) ?_ (fun hHeld => ?_)
        · (first | (first | exact (Below.refl _ _).drew | assumption))
        refine wpAnyH_take (i := 0) (oi := ?o13) (v := ?v13) ?hi13 (by kernel_rfl) (by kernel_rfl) (by kernel_rfl) ?hQ13 (Or.inl ⟨?hw13, ?hy13⟩) (by assumption) ?_
        case hi13 => (simp only [List.getElem?_toArray, List.getElem?_cons_zero]; rfl)
        case hQ13 => exact fun _ _ _ h => h
        case hw13 => rfl
        case hy13 => (intro w hSw; (try dsimp only at hSw); go_simp; (try with_reducible rfl))
        simp only [Act.put, List.setIfInBounds_toArray, List.set_cons_zero, List.set_cons_succ]
        refine wpAnyH_take (i := 1) (oi := ?o14) (v := ?v14) ?hi14 (by kernel_rfl) (by kernel_rfl) (by kernel_rfl) ?hQ14 (Or.inl ⟨?hw14, ?hy14⟩) (by assumption) ?_
        case hi14 => (simp only [List.getElem?_toArray, List.getElem?_cons_succ, List.getElem?_cons_zero]; rfl)
        case hQ14 => exact fun _ _ _ h => h
        case hw14 => rfl
        case hy14 => (intro w hSw; (try dsimp only at hSw); go_simp; (try with_reducible rfl))
        simp only [Act.put, List.setIfInBounds_toArray, List.set_cons_zero, List.set_cons_succ]
        refine wpAnyH_take (i := 2) (oi := ?o15) (v := ?v15) ?hi15 (by kernel_rfl) (by kernel_rfl) (by kernel_rfl) ?hQ15 (Or.inl ⟨?hw15, ?hy15⟩) (by assumption) ?_
        case hi15 => (simp only [List.getElem?_toArray, List.getElem?_cons_succ, List.getElem?_cons_zero]; rfl)
        case hQ15 => exact fun _ _ _ h => h
        case hw15 => rfl
        case hy15 => (intro w hSw; (try dsimp only at hSw); go_simp; (try with_reducible rfl))
        simp only [Act.put, List.setIfInBounds_toArray, List.set_cons_zero, List.set_cons_succ]
        refine wpAnyH_take (i := 3) (oi := ?o16) (v := ?v16) ?hi16 (by kernel_rfl) (by kernel_rfl) (by kernel_rfl) ?hQ16 (Or.inl ⟨?hw16, ?hy16⟩) (by assumption) ?_
        case hi16 => (simp only [List.getElem?_toArray, List.getElem?_cons_succ, List.getElem?_cons_zero]; rfl)
        case hQ16 => exact fun _ _ _ h => h
        case hw16 => rfl
        case hy16 => (intro w hSw; (try dsimp only at hSw); go_simp; (try with_reducible rfl))
        simp only [Act.put, List.setIfInBounds_toArray, List.set_cons_zero, List.set_cons_succ]
        refine wpAnyH_take (i := 4) (oi := ?o17) (v := ?v17) ?hi17 (by kernel_rfl) (by kernel_rfl) (by kernel_rfl) ?hQ17 (Or.inl ⟨?hw17, ?hy17⟩) (by assumption) ?_
        case hi17 => (simp only [List.getElem?_toArray, List.getElem?_cons_succ, List.getElem?_cons_zero]; rfl)
        case hQ17 => exact fun _ _ _ h => h
        case hw17 => rfl
        case hy17 => (intro w hSw; (try dsimp only at hSw); go_simp; (try with_reducible rfl))
        simp only [Act.put, List.setIfInBounds_toArray, List.set_cons_zero, List.set_cons_succ]
        refine wpAnyH_take (i := 5) (oi := ?o18) (v := ?v18) ?hi18 (by kernel_rfl) (by kernel_rfl) (by kernel_rfl) ?hQ18 (Or.inl ⟨?hw18, ?hy18⟩) (by assumption) ?_
        case hi18 => (simp only [List.getElem?_toArray, List.getElem?_cons_succ, List.getElem?_cons_zero]; rfl)
        case hQ18 => exact fun _ _ _ h => h
        case hw18 => rfl
        case hy18 => (intro w hSw; (try dsimp only at hSw); go_simp; (try with_reducible rfl))
        simp only [Act.put, List.setIfInBounds_toArray, List.set_cons_zero, List.set_cons_succ]
        refine wpAnyH_take (i := 6) (oi := ?o19) (v := ?v19) ?hi19 (by kernel_rfl) (by kernel_rfl) (by kernel_rfl) ?hQ19 (Or.inl ⟨?hw19, ?hy19⟩) (by assumption) ?_
        case hi19 => (simp only [List.getElem?_toArray, List.getElem?_cons_succ, List.getElem?_cons_zero]; rfl)
        case hQ19 => exact fun _ _ _ h => h
        case hw19 => rfl
        case hy19 => (intro w hSw; (try dsimp only at hSw); go_simp; (try with_reducible rfl))
        simp only [Act.put, List.setIfInBounds_toArray, List.set_cons_zero, List.set_cons_succ]
        refine wpAnyH_take (i := 7) (oi := ?o20) (v := ?v20) ?hi20 (by kernel_rfl) (by kernel_rfl) (by kernel_rfl) ?hQ20 (Or.inl ⟨?hw20, ?hy20⟩) (by assumption) ?_
        case hi20 => (simp only [List.getElem?_toArray, List.getElem?_cons_succ, List.getElem?_cons_zero]; rfl)
        case hQ20 => exact fun _ _ _ h => h
        case hw20 => rfl
        case hy20 => (intro w hSw; (try dsimp only at hSw); go_simp; (try with_reducible rfl))
        simp only [Act.put, List.setIfInBounds_toArray, List.set_cons_zero, List.set_cons_succ]
        refine wpAnyH_take (i := 8) (oi := ?o21) (v := ?v21) ?hi21 (by kernel_rfl) (by kernel_rfl) (by kernel_rfl) ?hQ21 (Or.inl ⟨?hw21, ?hy21⟩) (by assumption) ?_
        case hi21 => (simp only [List.getElem?_toArray, List.getElem?_cons_succ, List.getElem?_cons_zero]; rfl)
        case hQ21 => exact fun _ _ _ h => h
        case hw21 => rfl
        case hy21 => (intro w hSw; (try dsimp only at hSw); go_simp; (try with_reducible rfl))
        simp only [Act.put, List.setIfInBounds_toArray, List.set_cons_zero, List.set_cons_succ]
        refine wpAnyH_take (i := 9) (oi := ?o22) (v := ?v22) ?hi22 (by kernel_rfl) (by kernel_rfl) (by kernel_rfl) ?hQ22 (Or.inl ⟨?hw22, ?hy22⟩) (by assumption) ?_
        case hi22 => (simp only [List.getElem?_toArray, List.getElem?_cons_succ, List.getElem?_cons_zero]; rfl)
        case hQ22 => exact fun _ _ _ h => h
        case hw22 => rfl
        case hy22 => (intro w hSw; (try dsimp only at hSw); go_simp; (try with_reducible rfl))
        simp only [Act.put, List.setIfInBounds_toArray, List.set_cons_zero, List.set_cons_succ]
        refine wpAnyH_ready (rs := [10]) (by kernel_rfl) (by simp) ?_
        refine AllReadyH.cons (o := ?o23) ?hi23 (fun K hK => ?_) AllReadyH.nil
        case hi23 => (simp only [List.getElem?_toArray, List.getElem?_cons_succ, List.getElem?_cons_zero]; rfl)
        go_simp
        (go_at_call 18; refine (unhide CZ _).mono ?_; rintro e w5 ⟨rfl, hb5⟩; have hk5 := Below.trans (by assumption) (hb5.mono (Below.size (by assumption)))); go_wp2_with fail
        refine hK.out _ _ ?_ (fun hHeld => ?_)
        · (first | (first | exact (Below.refl _ _).drew | assumption))
        clear hK K
        refine wpAnyH_take (i := 11) (oi := ?o24) (v := ?v24) ?hi24 (by kernel_rfl) (by kernel_rfl) (by kernel_rfl) ?hQ24 (Or.inl ⟨?hw24, ?hy24⟩) (by assumption) ?_
        case hi24 => (simp only [List.getElem?_toArray, List.getElem?_cons_succ, List.getElem?_cons_zero]; rfl)
        case hQ24 => exact fun _ _ _ h => h
        case hw24 => rfl
        case hy24 => (intro w hSw; (try dsimp only at hSw); go_simp; (try with_reducible rfl))
        simp only [Act.put, List.setIfInBounds_toArray, List.set_cons_zero, List.set_cons_succ]
        refine wpAnyH_done (by kernel_rfl) ?_ _
        have HT2 := hide ((unhide HT).trans (hk5.mono (unhide HT).size))
        clear q0 q1 q2 q3 q4 y0 y1 y2 y3 y4 hk5 hb5
        go_wp2_with fail
        obtain ⟨b0, k0, hr0⟩ := unhide H0
        have rW := hr0.below (unhide HT2)
        have kx := k0.below (unhide HT2) k0.lt
        obtain ⟨D, hD⟩ : ∃ D, w5.heap.size = D := ⟨_, rfl⟩
        have e0 : ∀ o : Obj, (w5.alloc o).drew.cell? ⟨B, 0, none⟩ = some (.int .i64 i1) := fun o => (kx.alloc o).cell 0
        have e1 : ∀ o : Obj, (w5.alloc o).drew.cell? ⟨B, 1, none⟩ = some (.int .i64 i2) := fun o => (kx.alloc o).cell 1
        have e2 : ∀ o : Obj, (w5.alloc o).drew.cell? ⟨B, 2, none⟩ = some (.int .i64 i3) := fun o => (kx.alloc o).cell 2
        have e3 : ∀ o : Obj, (w5.alloc o).drew.cell? ⟨B, 3, none⟩ = some (.int .i64 i4) := fun o => (kx.alloc o).cell 3
        have e4 : ∀ o : Obj, (w5.alloc o).drew.cell? ⟨B, 4, none⟩ = some (.bool i5) := fun o => (kx.alloc o).cell 4
        have f0 : w5.drew.cell? ⟨B, 0, none⟩ = some (.int .i64 i1) := kx.cell 0
        have f1 : w5.drew.cell? ⟨B, 1, none⟩ = some (.int .i64 i2) := kx.cell 1
        have f2 : w5.drew.cell? ⟨B, 2, none⟩ = some (.int .i64 i3) := kx.cell 2
        have f3 : w5.drew.cell? ⟨B, 3, none⟩ = some (.int .i64 i4) := kx.cell 3
        have f4 : w5.drew.cell? ⟨B, 4, none⟩ = some (.bool i5) := kx.cell 4
        have c0 : ∀ w', Below D w5 w' → w'.cell? ⟨B, 0, none⟩ = some (.int .i64 i1) := fun w' hb => cellB (hD ▸ hb) (kx.cell 0)
        have c1 : ∀ w', Below D w5 w' → w'.cell? ⟨B, 1, none⟩ = some (.int .i64 i2) := fun w' hb => cellB (hD ▸ hb) (kx.cell 1)
        have c2 : ∀ w', Below D w5 w' → w'.cell? ⟨B, 2, none⟩ = some (.int .i64 i3) := fun w' hb => cellB (hD ▸ hb) (kx.cell 2)
        have c3 : ∀ w', Below D w5 w' → w'.cell? ⟨B, 3, none⟩ = some (.int .i64 i4) := fun w' hb => cellB (hD ▸ hb) (kx.cell 3)
        have c4 : ∀ w', Below D w5 w' → w'.cell? ⟨B, 4, none⟩ = some (.bool i5) := fun w' hb => cellB (hD ▸ hb) (kx.cell 4)
        have n1 := fun w' (h : Below D w5 w') => dnews_pre (rW.below (hD ▸ h)) cap (fun e => by cases e)
        have n3 := fun w' (h : Below D w5 w') => dnews_from (rW.below (hD ▸ h)) (unhide HN).symm (cap - pre.length)
        have hp0 : (0 : Int) ≤ (pre.length : Int) := by omega
        have hp1 : (pre.length : Int) ≤ (cap : Int) := by omega
        have hp2 : (pre.length : Int) ≤ (n : Int) := by omega
        have hp3 : (n : Int) ≤ (cap : Int) := by omega
        have HL := hide (show pre.length ≤ 5000 ∧ post.length ≤ 5000 by have := unhide HN; rw [List.length_append] at this; omega)
        have HI := hide (And.intro n1 (And.intro n3 b0))
        have BE : ∀ o : Obj, Below D w5 (w5.alloc o).drew := fun o => by rw [← hD]; exact below_drew (one_below w5 o)
        have BE2 : ∀ o p : Obj, Below D w5 ((w5.alloc o).alloc p).drew := fun o p => by rw [← hD]; exact below_drew (box2 w5 o p)
        have HBE := hide (And.intro BE BE2)
        clear BE BE2 n1 n3 rW b0 hr0 k0 kx
        go_region_law (first
          | (refine rstep_own rtm rfl _ _ rfl hD _ [] rfl (by first | exact rown_empty rtm (Nat.le_refl _) hD | exact World.ownsRow.alloc (rown_empty rtm (Nat.le_refl _) hD) _ | exact rown_empty rtm (Nat.le_succ _) (by simp [hD])) pre (by first | exact (unhide HI).1 _ ((unhide HBE).1 _) | exact (unhide HI).1 _ ((unhide HBE).2 _ _)) (by have := (unhide HL).1; simp; omega) (by first | exact (unhide HBE).1 _ | exact (unhide HBE).2 _ _) ?_; intro v1 w1 o1 S1 K1; rw [List.nil_append] at o1)
          | (refine rstep_own rtm rfl _ _ rfl hD _ pre rfl (by first | exact o1 | exact World.ownsRow.alloc o1 _) [⟨i1, i2, i3, i4, i5⟩] (by first | exact rnews_box rtm (Blk.new _ _ _) rfl | exact rnews_box rtm (K1 _ _ _ (Blk.new_at _ _ _ (show D + 1 = _ by simp [hD])) (fun e => Nat.ne_of_gt (Nat.lt_succ_self D) (Option.some.inj e))) rfl | exact rnews_box rtm (K1 _ _ _ (Blk.alloc (Blk.new_at _ _ _ hD.symm) _) (fun e => Nat.ne_of_lt (Nat.lt_succ_self D) (Option.some.inj e))) rfl) (by have := (unhide HL).1; simp; omega) (by first | exact S1 | exact S1.alloc (by have := S1.size; omega) _) ?_; intro v2 w2 o2 S2 K2)
          | (refine rstep_own rtm rfl _ _ rfl hD _ (pre ++ [(⟨i1, i2, i3, i4, i5⟩ : Tmr)]) rfl o2 post ((unhide HI).2.1 _ S2) (by have := (unhide HL).1; have := (unhide HL).2; simp; omega) S2 ?_; intro v3 w3 o3 S3 K3))
        all_goals go_wp2_with fail
        all_goals
          go_ret
          refine ⟨v3, rfl, ?_, ?_⟩
          · have hb := (unhide HI).2.2.size
            have hs := (unhide HT2).size
            rw [List.append_assoc] at o3
            exact Rg.mono o3 (by omega)
          · have hb := (unhide HI).2.2
            exact (hb.trans ((unhide HT2).mono (hB ▸ hb.size))).trans (S3.mono (by have := hb.size; have := (unhide HT2).size; omega))
    · obtain rfl : t = pre.length := by omega
      have hd1 : decide ((pre.length : Int) < (n : Int)) = false := decide_eq_false (by omega)
      clear q0 q1 q2 q3 q4
      go_wp2_with fail
      go_quiet (fail)
      go_wp2_with fail
      have HT2 := hide ((unhide HT).trans ((show Below wr.heap.size wr (wr.drewN nq) from ⟨rfl, rfl, rfl, Nat.le_refl _, fun _ _ => rfl⟩).mono (unhide HT).size))
      generalize wr.drewN nq = w5 at *
      obtain ⟨b0, k0, hr0⟩ := unhide H0
      have rW := hr0.below (unhide HT2)
      have kx := k0.below (unhide HT2) k0.lt
      obtain ⟨D, hD⟩ : ∃ D, w5.heap.size = D := ⟨_, rfl⟩
      have e0 : ∀ o : Obj, (w5.alloc o).drew.cell? ⟨B, 0, none⟩ = some (.int .i64 i1) := fun o => (kx.alloc o).cell 0
      have e1 : ∀ o : Obj, (w5.alloc o).drew.cell? ⟨B, 1, none⟩ = some (.int .i64 i2) := fun o => (kx.alloc o).cell 1
      have e2 : ∀ o : Obj, (w5.alloc o).drew.cell? ⟨B, 2, none⟩ = some (.int .i64 i3) := fun o => (kx.alloc o).cell 2
      have e3 : ∀ o : Obj, (w5.alloc o).drew.cell? ⟨B, 3, none⟩ = some (.int .i64 i4) := fun o => (kx.alloc o).cell 3
      have e4 : ∀ o : Obj, (w5.alloc o).drew.cell? ⟨B, 4, none⟩ = some (.bool i5) := fun o => (kx.alloc o).cell 4
      have f0 : w5.drew.cell? ⟨B, 0, none⟩ = some (.int .i64 i1) := kx.cell 0
      have f1 : w5.drew.cell? ⟨B, 1, none⟩ = some (.int .i64 i2) := kx.cell 1
      have f2 : w5.drew.cell? ⟨B, 2, none⟩ = some (.int .i64 i3) := kx.cell 2
      have f3 : w5.drew.cell? ⟨B, 3, none⟩ = some (.int .i64 i4) := kx.cell 3
      have f4 : w5.drew.cell? ⟨B, 4, none⟩ = some (.bool i5) := kx.cell 4
      have c0 : ∀ w', Below D w5 w' → w'.cell? ⟨B, 0, none⟩ = some (.int .i64 i1) := fun w' hb => cellB (hD ▸ hb) (kx.cell 0)
      have c1 : ∀ w', Below D w5 w' → w'.cell? ⟨B, 1, none⟩ = some (.int .i64 i2) := fun w' hb => cellB (hD ▸ hb) (kx.cell 1)
      have c2 : ∀ w', Below D w5 w' → w'.cell? ⟨B, 2, none⟩ = some (.int .i64 i3) := fun w' hb => cellB (hD ▸ hb) (kx.cell 2)
      have c3 : ∀ w', Below D w5 w' → w'.cell? ⟨B, 3, none⟩ = some (.int .i64 i4) := fun w' hb => cellB (hD ▸ hb) (kx.cell 3)
      have c4 : ∀ w', Below D w5 w' → w'.cell? ⟨B, 4, none⟩ = some (.bool i5) := fun w' hb => cellB (hD ▸ hb) (kx.cell 4)
      have n1 := fun w' (h : Below D w5 w') => dnews_pre (rW.below (hD ▸ h)) cap (fun e => by cases e)
      have n3 := fun w' (h : Below D w5 w') => dnews_from (rW.below (hD ▸ h)) (unhide HN).symm (cap - pre.length)
      have hp0 : (0 : Int) ≤ (pre.length : Int) := by omega
      have hp1 : (pre.length : Int) ≤ (cap : Int) := by omega
      have hp2 : (pre.length : Int) ≤ (n : Int) := by omega
      have hp3 : (n : Int) ≤ (cap : Int) := by omega
      have HL := hide (show pre.length ≤ 5000 ∧ post.length ≤ 5000 by have := unhide HN; rw [List.length_append] at this; omega)
      have HI := hide (And.intro n1 (And.intro n3 b0))
      have BE : ∀ o : Obj, Below D w5 (w5.alloc o).drew := fun o => by rw [← hD]; exact below_drew (one_below w5 o)
      have BE2 : ∀ o p : Obj, Below D w5 ((w5.alloc o).alloc p).drew := fun o p => by rw [← hD]; exact below_drew (box2 w5 o p)
      have HBE := hide (And.intro BE BE2)
      clear BE BE2 n1 n3 rW b0 hr0 k0 kx
      go_region_law (first
        | (refine rstep_own rtm rfl _ _ rfl hD _ [] rfl (by first | exact rown_empty rtm (Nat.le_refl _) hD | exact World.ownsRow.alloc (rown_empty rtm (Nat.le_refl _) hD) _ | exact rown_empty rtm (Nat.le_succ _) (by simp [hD])) pre (by first | exact (unhide HI).1 _ ((unhide HBE).1 _) | exact (unhide HI).1 _ ((unhide HBE).2 _ _)) (by have := (unhide HL).1; simp; omega) (by first | exact (unhide HBE).1 _ | exact (unhide HBE).2 _ _) ?_; intro v1 w1 o1 S1 K1; rw [List.nil_append] at o1)
        | (refine rstep_own rtm rfl _ _ rfl hD _ pre rfl (by first | exact o1 | exact World.ownsRow.alloc o1 _) [⟨i1, i2, i3, i4, i5⟩] (by first | exact rnews_box rtm (Blk.new _ _ _) rfl | exact rnews_box rtm (K1 _ _ _ (Blk.new_at _ _ _ (show D + 1 = _ by simp [hD])) (fun e => Nat.ne_of_gt (Nat.lt_succ_self D) (Option.some.inj e))) rfl | exact rnews_box rtm (K1 _ _ _ (Blk.alloc (Blk.new_at _ _ _ hD.symm) _) (fun e => Nat.ne_of_lt (Nat.lt_succ_self D) (Option.some.inj e))) rfl) (by have := (unhide HL).1; simp; omega) (by first | exact S1 | exact S1.alloc (by have := S1.size; omega) _) ?_; intro v2 w2 o2 S2 K2)
        | (refine rstep_own rtm rfl _ _ rfl hD _ (pre ++ [(⟨i1, i2, i3, i4, i5⟩ : Tmr)]) rfl o2 post ((unhide HI).2.1 _ S2) (by have := (unhide HL).1; have := (unhide HL).2; simp; omega) S2 ?_; intro v3 w3 o3 S3 K3))
      all_goals go_wp2_with fail
      all_goals
        go_ret
        refine ⟨v3, rfl, ?_, ?_⟩
        · have hb := (unhide HI).2.2.size
          have hs := (unhide HT2).size
          rw [List.append_assoc] at o3
          exact Rg.mono o3 (by omega)
        · have hb := (unhide HI).2.2
          exact (hb.trans ((unhide HT2).mono (hB ▸ hb.size))).trans (S3.mono (by have := hb.size; have := (unhide HT2).size; omega))
set_option maxRecDepth 100000 in
set_option maxHeartbeats 2000000 in
theorem tput_none (w : World) (t : Tmr) :
    Calls Try.prog 7 #[.slice none 0 0, tv t] w fun e w' => ∃ v', e = .returned v' ∧ Rg rtm w' w.heap.size v' [t] ∧ Below w.heap.size w w' := by
  obtain ⟨B, hB⟩ : ∃ B, w.heap.size = B := ⟨_, rfl⟩
  obtain ⟨i1, i2, i3, i4, i5⟩ := t
  obtain ⟨W0, hW0⟩ : ∃ W0, W0 = w.alloc (.cells #[.int .i64 i1, .int .i64 i2, .int .i64 i3, .int .i64 i4, .bool i5] 29) := ⟨_, rfl⟩
  have b0 : Below B w W0 := by rw [hW0, ← hB]; exact one_below _ _
  have k0 : Blk W0 B 29 #[.int .i64 i1, .int .i64 i2, .int .i64 i3, .int .i64 i4, .bool i5] := by rw [hW0]; exact Blk.new_at _ _ _ hB.symm
  have H0 := hide (And.intro b0 k0)
  have HW0 := hide hW0
  rw [hB]
  clear b0 k0 hW0
  unfold tv
  simp only
  go_enter Try.func7, Try.ntmps7
  go_wp2_with fail
  rw [← unhide HW0]
  go_loopw [5] (fun d w' => d = .int .i64 0 ∧ Hid (Below W0.heap.size W0 w')) (fun d _ => 5001 - (intOf d).toNat)
  case atStart => exact ⟨rfl, hide (Below.refl _ _)⟩
  case round =>
    obtain ⟨rfl, HT⟩ := hrel
    go_wp2_with fail
    go_quiet (fail)
    go_wp2_with fail
    have HT2 := hide ((unhide HT).trans ((show Below wr.heap.size wr (wr.drewN nq) from ⟨rfl, rfl, rfl, Nat.le_refl _, fun _ _ => rfl⟩).mono (unhide HT).size))
    generalize wr.drewN nq = w5 at *
    obtain ⟨b0, k0⟩ := unhide H0
    have kx := k0.below (unhide HT2) k0.lt
    obtain ⟨D, hD⟩ : ∃ D, w5.heap.size = D := ⟨_, rfl⟩
    have e0 : ∀ o : Obj, (w5.alloc o).drew.cell? ⟨B, 0, none⟩ = some (.int .i64 i1) := fun o => (kx.alloc o).cell 0
    have e1 : ∀ o : Obj, (w5.alloc o).drew.cell? ⟨B, 1, none⟩ = some (.int .i64 i2) := fun o => (kx.alloc o).cell 1
    have e2 : ∀ o : Obj, (w5.alloc o).drew.cell? ⟨B, 2, none⟩ = some (.int .i64 i3) := fun o => (kx.alloc o).cell 2
    have e3 : ∀ o : Obj, (w5.alloc o).drew.cell? ⟨B, 3, none⟩ = some (.int .i64 i4) := fun o => (kx.alloc o).cell 3
    have e4 : ∀ o : Obj, (w5.alloc o).drew.cell? ⟨B, 4, none⟩ = some (.bool i5) := fun o => (kx.alloc o).cell 4
    have f0 : w5.drew.cell? ⟨B, 0, none⟩ = some (.int .i64 i1) := kx.cell 0
    have f1 : w5.drew.cell? ⟨B, 1, none⟩ = some (.int .i64 i2) := kx.cell 1
    have f2 : w5.drew.cell? ⟨B, 2, none⟩ = some (.int .i64 i3) := kx.cell 2
    have f3 : w5.drew.cell? ⟨B, 3, none⟩ = some (.int .i64 i4) := kx.cell 3
    have f4 : w5.drew.cell? ⟨B, 4, none⟩ = some (.bool i5) := kx.cell 4
    have c0 : ∀ w', Below D w5 w' → w'.cell? ⟨B, 0, none⟩ = some (.int .i64 i1) := fun w' hb => cellB (hD ▸ hb) (kx.cell 0)
    have c1 : ∀ w', Below D w5 w' → w'.cell? ⟨B, 1, none⟩ = some (.int .i64 i2) := fun w' hb => cellB (hD ▸ hb) (kx.cell 1)
    have c2 : ∀ w', Below D w5 w' → w'.cell? ⟨B, 2, none⟩ = some (.int .i64 i3) := fun w' hb => cellB (hD ▸ hb) (kx.cell 2)
    have c3 : ∀ w', Below D w5 w' → w'.cell? ⟨B, 3, none⟩ = some (.int .i64 i4) := fun w' hb => cellB (hD ▸ hb) (kx.cell 3)
    have c4 : ∀ w', Below D w5 w' → w'.cell? ⟨B, 4, none⟩ = some (.bool i5) := fun w' hb => cellB (hD ▸ hb) (kx.cell 4)
    have BE : ∀ o : Obj, Below D w5 (w5.alloc o).drew := fun o => by rw [← hD]; exact below_drew (one_below w5 o)
    have BE2 : ∀ o p : Obj, Below D w5 ((w5.alloc o).alloc p).drew := fun o p => by rw [← hD]; exact below_drew (box2 w5 o p)
    have HBE := hide (And.intro BE BE2)
    have HI := hide b0
    clear BE BE2 b0 k0 kx
    go_region_law (first
      | (refine rstep_own rtm rfl _ _ rfl hD _ [] rfl (by first | exact rown_empty rtm (Nat.le_refl _) hD | exact World.ownsRow.alloc (rown_empty rtm (Nat.le_refl _) hD) _ | exact rown_empty rtm (Nat.le_succ _) (by simp [hD])) [] (rnews_nil rtm _) (by simp) (by first | exact (unhide HBE).1 _ | exact (unhide HBE).2 _ _) ?_; intro v1 w1 o1 S1 K1; rw [List.nil_append] at o1)
      | (refine rstep_own rtm rfl _ _ rfl hD _ [] rfl (by first | exact o1 | exact World.ownsRow.alloc o1 _) [⟨i1, i2, i3, i4, i5⟩] (by first | exact rnews_box rtm (Blk.new _ _ _) rfl | exact rnews_box rtm (K1 _ _ _ (Blk.new_at _ _ _ (show D + 1 = _ by simp [hD])) (fun e => Nat.ne_of_gt (Nat.lt_succ_self D) (Option.some.inj e))) rfl | exact rnews_box rtm (K1 _ _ _ (Blk.alloc (Blk.new_at _ _ _ hD.symm) _) (fun e => Nat.ne_of_lt (Nat.lt_succ_self D) (Option.some.inj e))) rfl) (by simp) (by first | exact S1 | exact S1.alloc (by have := S1.size; omega) _) ?_; intro v2 w2 o2 S2 K2)
      | (refine rstep_own rtm rfl _ _ rfl hD _ [(⟨i1, i2, i3, i4, i5⟩ : Tmr)] rfl o2 [] (rnews_nil rtm _) (by simp) S2 ?_; intro v3 w3 o3 S3 K3))
    all_goals go_wp2_with fail
    all_goals
      go_ret
      refine ⟨v3, rfl, ?_, ?_⟩
      · have hb := (unhide HI).size
        have hs := (unhide HT2).size
        rw [List.append_nil] at o3
        exact Rg.mono o3 (by omega)
      · have hb := (unhide HI)
        exact (hb.trans ((unhide HT2).mono (hB ▸ hb.size))).trans (S3.mono (by have := hb.size; have := (unhide HT2).size; omega))
/-- The row that a timer is put into, whatever it is. -/
theorem tput_any (w : World) (C n cap : Nat) (a : Option Addr) {R : Rows6} (hok : Rok R) (h : Rd rtm w C a n cap (allT R)) (hl : n ≤ 1000) (t : Tmr) (h0 : 0 ≤ t.clock) (h2 : t.clock ≤ 2) :
    Calls Try.prog 7 #[.slice a n cap, tv t] w fun e w' => ∃ v', e = .returned v' ∧ Rg rtm w' w.heap.size v' (allT (putT R t)) ∧ Below w.heap.size w w' := by
  obtain ⟨X, Y, e1, e2, e3, e4⟩ := put_parts hok h0 h2
  rw [e1] at h
  rw [e2]
  cases a with
  | some x =>
    obtain ⟨-, -, g, o, rfl⟩ := h.blk _ rfl
    exact tput_some w C n cap g o X Y h hl t e3 e4
  | none =>
    have h1 := h.nil rfl
    have h2 := h.le
    have h3 := h.len
    rw [List.length_append] at h3
    obtain rfl : X = [] := List.length_eq_zero_iff.1 (by omega)
    obtain rfl : Y = [] := List.length_eq_zero_iff.1 (by omega)
    obtain rfl : cap = 0 := h1
    obtain rfl : n = 0 := by omega
    exact tput_none w t
end Go.Proofs.Ytabmjaioejacaaa
