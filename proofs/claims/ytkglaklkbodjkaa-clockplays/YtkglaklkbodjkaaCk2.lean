import Derived.Test.YtkglaklkbodjkaaCk1
namespace Go.Proofs.Ytkglaklkbodjkaa
open Go.RowKit Kt

theorem eq3 (a b c d e f : Int) (w : World) : (Op.equalIn 10000 83 (.agg #[.int .i64 a, .int .i64 b, .int .i64 c]) (.agg #[.int .i64 d, .int .i64 e, .int .i64 f])).run Try.prog w = .ok (a == d && (b == e && c == f)) w := by
  have u3 := Try.underlying3
  have a3 := Try.isAgg3
  have z3 := Try.sizeOf3
  rw [show (10000 : Nat) = 9999 + 1 from rfl, Op.equalIn]
  simp only [Sem.run_bind, run_underlying Try.underlying83, Result.andThen_ok]
  simp only [Std.Legacy.Range.forIn_eq_forIn_range', Std.Legacy.Range.size, Nat.sub_zero, Nat.add_sub_cancel, Nat.div_one, List.range'_succ, List.range'_zero, List.forIn_cons, List.forIn_nil]
  go_simp
  by_cases h1 : a = d <;> by_cases h2 : b = e <;> by_cases h3 : c = f <;> simp [h1, h2, h3]
section
variable {g : Nat} {c m r b n : Int} {s : Bool}
theorem below_alloc1 (w : World) (o : Obj) : Below w.heap.size w (w.alloc o) := (Below.refl _ _).alloc (Nat.le_refl _) _
theorem grow_same (w : World) (h : Clk w g c m r b s n) (r1 : -4611686018427387904 ≤ r) (r2 : r ≤ 4611686018427387904) (b1 : -4611686018427387904 ≤ b) (b2 : b ≤ 4611686018427387904) : Calls Try.prog 58 #[.pointer (some ⟨g, 0, none⟩), .int .i64 0, .int .i64 0] w fun e w' => e = .returned (.tuple #[]) ∧ Clk w' g c m r b s n ∧ Tch g w w' := by
  have c2 := h.c2
  have c3 := h.c3
  have c4 := h.c4
  obtain ⟨B, hB⟩ : ∃ B, w.heap.size = B := ⟨_, rfl⟩
  obtain ⟨W0, hW0⟩ : ∃ W0, W0 = w.alloc (.cells #[.int .i64 0, .int .i64 r, .int .i64 b] 83) := ⟨_, rfl⟩
  have kb : Blk W0 B 83 #[.int .i64 0, .int .i64 r, .int .i64 b] := by rw [hW0]; exact Blk.new_at _ _ _ hB.symm
  have hh : Clk W0 g c m r b s n := by rw [hW0]; exact h.below (below_alloc1 w _)
  have hB0 : Below w.heap.size w W0 := by rw [hW0]; exact below_alloc1 w _
  have a0 := heldK (kb.cell 0)
  have a1 := heldK (kb.cell 1)
  have a2 := heldK (kb.cell 2)
  have a3 := heldK hh.c2
  have a4 := heldK hh.c3
  have a5 := heldK hh.c4
  have H := hide (And.intro hh hB0)
  have HW := hide hW0
  clear h kb hh hB0 hW0
  go_enter Try.func58, Try.ntmps58
  go_wp2
  rw [← unhide HW]
  have S0 := Below.refl W0.heap.size W0
  have hq := eq3 0 r b 0 r b
  simp only [beq_self_eq_true, Bool.and_self] at hq
  refine wp_region_held_drew (S := (fun w' => Below W0.heap.size W0 w')) (by kernel_rfl) ?_ (fun hHeld => ?_)
  · (first | (first | exact S0.drew | assumption))
  refine wpAnyH_take (i := 0) (oi := ?o1) (v := ?v1) ?hi1 (by kernel_rfl) (by kernel_rfl) (by kernel_rfl) ?hQ1 (Or.inl ⟨?hw1, ?hy1⟩) (by assumption) ?_
  case hi1 => (simp only [List.getElem?_toArray, List.getElem?_cons_zero]; rfl)
  case hQ1 => exact fun _ _ _ h => h
  case hw1 => rfl
  case hy1 => (intro w hSw; (try dsimp only at hSw); go_simp; (try with_reducible rfl))
  simp only [Act.put, List.setIfInBounds_toArray, List.set_cons_zero, List.set_cons_succ]
  refine wpAnyH_take (i := 1) (oi := ?o2) (v := ?v2) ?hi2 (by kernel_rfl) (by kernel_rfl) (by kernel_rfl) ?hQ2 (Or.inl ⟨?hw2, ?hy2⟩) (by assumption) ?_
  case hi2 => (simp only [List.getElem?_toArray, List.getElem?_cons_succ, List.getElem?_cons_zero]; rfl)
  case hQ2 => exact fun _ _ _ h => h
  case hw2 => rfl
  case hy2 => (intro w hSw; (try dsimp only at hSw); go_simp; (try with_reducible rfl))
  simp only [Act.put, List.setIfInBounds_toArray, List.set_cons_zero, List.set_cons_succ]
  refine wpAnyH_take (i := 2) (oi := ?o3) (v := ?v3) ?hi3 (by kernel_rfl) (by kernel_rfl) (by kernel_rfl) ?hQ3 (Or.inl ⟨?hw3, ?hy3⟩) (by assumption) ?_
  case hi3 => (simp only [List.getElem?_toArray, List.getElem?_cons_succ, List.getElem?_cons_zero]; rfl)
  case hQ3 => exact fun _ _ _ h => h
  case hw3 => rfl
  case hy3 => (intro w hSw; (try dsimp only at hSw); go_simp; (try with_reducible rfl))
  simp only [Act.put, List.setIfInBounds_toArray, List.set_cons_zero, List.set_cons_succ]
  refine wpAnyH_take (i := 3) (oi := ?o4) (v := ?v4) ?hi4 (by kernel_rfl) (by kernel_rfl) (by kernel_rfl) ?hQ4 (Or.inl ⟨?hw4, ?hy4⟩) (by assumption) ?_
  case hi4 => (simp only [List.getElem?_toArray, List.getElem?_cons_succ, List.getElem?_cons_zero]; rfl)
  case hQ4 => exact fun _ _ _ h => h
  case hw4 => rfl
  case hy4 => (intro w hSw; (try dsimp only at hSw); go_simp; (try with_reducible rfl))
  simp only [Act.put, List.setIfInBounds_toArray, List.set_cons_zero, List.set_cons_succ]
  refine wpAnyH_take (i := 4) (oi := ?o5) (v := ?v5) ?hi5 (by kernel_rfl) (by kernel_rfl) (by kernel_rfl) ?hQ5 (Or.inl ⟨?hw5, ?hy5⟩) (by assumption) ?_
  case hi5 => (simp only [List.getElem?_toArray, List.getElem?_cons_succ, List.getElem?_cons_zero]; rfl)
  case hQ5 => exact fun _ _ _ h => h
  case hw5 => rfl
  case hy5 => (intro w hSw; (try dsimp only at hSw); go_simp; (try with_reducible rfl))
  simp only [Act.put, List.setIfInBounds_toArray, List.set_cons_zero, List.set_cons_succ]
  refine wpAnyH_take (i := 5) (oi := ?o6) (v := ?v6) ?hi6 (by kernel_rfl) (by kernel_rfl) (by kernel_rfl) ?hQ6 (Or.inl ⟨?hw6, ?hy6⟩) (by assumption) ?_
  case hi6 => (simp only [List.getElem?_toArray, List.getElem?_cons_succ, List.getElem?_cons_zero]; rfl)
  case hQ6 => exact fun _ _ _ h => h
  case hw6 => rfl
  case hy6 => (intro w hSw; (try dsimp only at hSw); go_simp; (try with_reducible rfl))
  simp only [Act.put, List.setIfInBounds_toArray, List.set_cons_zero, List.set_cons_succ]
  refine wpAnyH_done (by kernel_rfl) ?_ _
  go_wp2_with fail
  go_end0
  exact ⟨rfl, (unhide H).1.below (by assumption), (Tch.of_below (unhide H).2).trans (Tch.of_below (by assumption))⟩
theorem grow_diff (w : World) (h : Clk w g c m r b s n) (x y R Z : Int) (hR : r + x = R) (hZ : b + y = Z) (R1 : -9223372036854775808 ≤ R) (R2 : R ≤ 9223372036854775807) (Z1 : -9223372036854775808 ≤ Z) (Z2 : Z ≤ 9223372036854775807)
    (n0 : 0 ≤ n) (n1 : n ≤ 1000000) (hd : R ≠ r ∨ Z ≠ b) : Calls Try.prog 58 #[.pointer (some ⟨g, 0, none⟩), .int .i64 x, .int .i64 y] w fun e w' => e = .returned (.tuple #[]) ∧ Clk w' g c m R Z s (n + 1) ∧ Tch g w w' := by
  have c2 := h.c2
  have c3 := h.c3
  have c4 := h.c4
  obtain ⟨B, hB⟩ : ∃ B, w.heap.size = B := ⟨_, rfl⟩
  obtain ⟨W0, hW0⟩ : ∃ W0, W0 = w.alloc (.cells #[.int .i64 0, .int .i64 R, .int .i64 Z] 83) := ⟨_, rfl⟩
  have kb : Blk W0 B 83 #[.int .i64 0, .int .i64 R, .int .i64 Z] := by rw [hW0]; exact Blk.new_at _ _ _ hB.symm
  have hh : Clk W0 g c m r b s n := by rw [hW0]; exact h.below (below_alloc1 w _)
  have hB0 : Below w.heap.size w W0 := by rw [hW0]; exact below_alloc1 w _
  have hgB : g ≠ B := by have := Blk.lt h; omega
  have a0 := heldK (kb.cell 0)
  have a1 := heldK (kb.cell 1)
  have a2 := heldK (kb.cell 2)
  have a3 := heldK hh.c2
  have a4 := heldK hh.c3
  have a5 := heldK hh.c4
  have hq := eq3 0 R Z 0 r b
  have hfl : ((0 : Int) == 0 && (R == r && Z == b)) = false := by
    rcases hd with hd | hd
    · simp [hd]
    · simp [hd]
  rw [hfl] at hq
  have H := hide (And.intro hh hB0)
  have HK := hide kb
  have HW := hide hW0
  have HG := hide hgB
  clear h kb hh hB0 hW0 hgB hfl hd
  have key : ∀ w', Hid (Below W0.heap.size W0 w') → Hid (Clk w' g c m r b s n ∧ Blk w' B 83 #[.int .i64 0, .int .i64 R, .int .i64 Z] ∧ Tch g w w') := fun w' hb =>
    hide ⟨(unhide H).1.below (unhide hb), (unhide HK).below (unhide hb) (Blk.lt (unhide HK)), (Tch.of_below (unhide H).2).trans (Tch.of_below (unhide hb))⟩
  go_enter Try.func58, Try.ntmps58
  go_wp2
  rw [← unhide HW]
  have S0 := Below.refl W0.heap.size W0
  refine wp_region_held_drew (S := (fun w' => Below W0.heap.size W0 w')) (by kernel_rfl) ?_ (fun hHeld => ?_)
  · (first | (first | exact S0.drew | assumption))
  refine wpAnyH_take (i := 0) (oi := ?o7) (v := ?v7) ?hi7 (by kernel_rfl) (by kernel_rfl) (by kernel_rfl) ?hQ7 (Or.inl ⟨?hw7, ?hy7⟩) (by assumption) ?_
  case hi7 => (simp only [List.getElem?_toArray, List.getElem?_cons_zero]; rfl)
  case hQ7 => exact fun _ _ _ h => h
  case hw7 => rfl
  case hy7 => (intro w hSw; (try dsimp only at hSw); go_simp; (try with_reducible rfl))
  simp only [Act.put, List.setIfInBounds_toArray, List.set_cons_zero, List.set_cons_succ]
  refine wpAnyH_take (i := 1) (oi := ?o8) (v := ?v8) ?hi8 (by kernel_rfl) (by kernel_rfl) (by kernel_rfl) ?hQ8 (Or.inl ⟨?hw8, ?hy8⟩) (by assumption) ?_
  case hi8 => (simp only [List.getElem?_toArray, List.getElem?_cons_succ, List.getElem?_cons_zero]; rfl)
  case hQ8 => exact fun _ _ _ h => h
  case hw8 => rfl
  case hy8 => (intro w hSw; (try dsimp only at hSw); go_simp; (try with_reducible rfl))
  simp only [Act.put, List.setIfInBounds_toArray, List.set_cons_zero, List.set_cons_succ]
  refine wpAnyH_take (i := 2) (oi := ?o9) (v := ?v9) ?hi9 (by kernel_rfl) (by kernel_rfl) (by kernel_rfl) ?hQ9 (Or.inl ⟨?hw9, ?hy9⟩) (by assumption) ?_
  case hi9 => (simp only [List.getElem?_toArray, List.getElem?_cons_succ, List.getElem?_cons_zero]; rfl)
  case hQ9 => exact fun _ _ _ h => h
  case hw9 => rfl
  case hy9 => (intro w hSw; (try dsimp only at hSw); go_simp; (try with_reducible rfl))
  simp only [Act.put, List.setIfInBounds_toArray, List.set_cons_zero, List.set_cons_succ]
  refine wpAnyH_take (i := 3) (oi := ?o10) (v := ?v10) ?hi10 (by kernel_rfl) (by kernel_rfl) (by kernel_rfl) ?hQ10 (Or.inl ⟨?hw10, ?hy10⟩) (by assumption) ?_
  case hi10 => (simp only [List.getElem?_toArray, List.getElem?_cons_succ, List.getElem?_cons_zero]; rfl)
  case hQ10 => exact fun _ _ _ h => h
  case hw10 => rfl
  case hy10 => (intro w hSw; (try dsimp only at hSw); go_simp; (try with_reducible rfl))
  simp only [Act.put, List.setIfInBounds_toArray, List.set_cons_zero, List.set_cons_succ]
  refine wpAnyH_take (i := 4) (oi := ?o11) (v := ?v11) ?hi11 (by kernel_rfl) (by kernel_rfl) (by kernel_rfl) ?hQ11 (Or.inl ⟨?hw11, ?hy11⟩) (by assumption) ?_
  case hi11 => (simp only [List.getElem?_toArray, List.getElem?_cons_succ, List.getElem?_cons_zero]; rfl)
  case hQ11 => exact fun _ _ _ h => h
  case hw11 => rfl
  case hy11 => (intro w hSw; (try dsimp only at hSw); go_simp; (try with_reducible rfl))
  simp only [Act.put, List.setIfInBounds_toArray, List.set_cons_zero, List.set_cons_succ]
  refine wpAnyH_take (i := 5) (oi := ?o12) (v := ?v12) ?hi12 (by kernel_rfl) (by kernel_rfl) (by kernel_rfl) ?hQ12 (Or.inl ⟨?hw12, ?hy12⟩) (by assumption) ?_
  case hi12 => (simp only [List.getElem?_toArray, List.getElem?_cons_succ, List.getElem?_cons_zero]; rfl)
  case hQ12 => exact fun _ _ _ h => h
  case hw12 => rfl
  case hy12 => (intro w hSw; (try dsimp only at hSw); go_simp; (try with_reducible rfl))
  simp only [Act.put, List.setIfInBounds_toArray, List.set_cons_zero, List.set_cons_succ]
  refine wpAnyH_done (by kernel_rfl) ?_ _
  have HX := key _ (hide hHeld)
  have k2 := (unhide H).1.c2
  have k3 := (unhide H).1.c3
  have k4 := (unhide H).1.c4
  have k6 := (unhide H).1.c6
  have f := (unhide H).1.fr
  have q0 := (unhide HK).cell 0
  have q1 := (unhide HK).cell 1
  have q2 := (unhide HK).cell 2
  clear a0 a1 a2 a3 a4 a5 c2 c3 c4
  go_wp2_with fail
  go_end0
  exact ⟨rfl, ((((unhide HX).1.set2).set3 R).set4 Z).set6 (n + 1), ((((unhide HX).2.2.set 2 _).set 3 _).set 4 _).set 6 _⟩
theorem cset_bad (w : World) (g : Nat) (t : Int) (h : t < 0 ∨ 1152921504606846976 < t) : Calls Try.prog 24 #[.pointer (some ⟨g, 0, none⟩), .int .i64 t] w fun e w' => e = .returned (.int .i64 2) ∧ w' = w := by
  by_cases h1 : t < 0
  · clear h
    go_enter Try.func24, Try.ntmps24
    go_wp2
    go_ret
    exact ⟨rfl, rfl⟩
  · have h2 : 1152921504606846976 < t := by omega
    clear h
    go_enter Try.func24, Try.ntmps24
    go_wp2
    go_ret
    exact ⟨rfl, rfl⟩
/-- Clock g counts so far, Mono reads m, Real v, Boot q. -/
structure Nums (c m v q n : Int) : Prop where
  m0 : 0 ≤ m
  mq : m ≤ q
  qc : q ≤ c
  c1 : c ≤ 1152921504606846976
  v0 : 0 ≤ v
  v1 : v ≤ 1152921504606846976 + q
  n0 : 0 ≤ n
  n1 : n ≤ 1000
theorem nowR (w : World) {v q : Int} (h : Clk w g c m (v - m) (q - m) s n) (hn : Nums c m v q n) (k : Int) (h0 : 0 ≤ k) (h2 : k ≤ 2) : Calls Try.prog 29 #[.pointer (some ⟨g, 0, none⟩), .int .i64 k] w fun e w' => e = .returned (.tuple #[.int .i64 (if k = 1 then v else if k = 2 then q else m), .bool true]) ∧ w' = w := by
  obtain ⟨a1, a2, a3, a4, a5, a6, a7, a8⟩ := hn
  have e : m + offK k (v - m) (q - m) = if k = 1 then v else if k = 2 then q else m := by
    unfold offK
    split
    · omega
    · split <;> omega
  have := cnow_in w h k h0 h2 _ rfl (by rw [e]; split <;> (try split) <;> omega) (by rw [e]; split <;> (try split) <;> omega)
  rw [e] at this
  exact this
theorem growR (w : World) {v q : Int} (h : Clk w g c m (v - m) (q - m) s n) (hn : Nums c m v q n) (x y v' q' n' : Int) (hv : v + x = v') (hq : q + y = q') (v0 : 0 ≤ v') (v1 : v' ≤ 4611686018427387904) (q0 : 0 ≤ q') (q1 : q' ≤ 1152921504606846976) (hn' : n' = if v' = v ∧ q' = q then n else n + 1) :
    Calls Try.prog 58 #[.pointer (some ⟨g, 0, none⟩), .int .i64 x, .int .i64 y] w fun e w' => e = .returned (.tuple #[]) ∧ Clk w' g c m (v' - m) (q' - m) s n' ∧ Tch g w w' := by
  obtain ⟨a1, a2, a3, a4, a5, a6, a7, a8⟩ := hn
  by_cases hs : v' = v ∧ q' = q
  · rw [if_pos hs] at hn'
    obtain ⟨rfl, rfl⟩ := hs
    obtain rfl : x = 0 := by omega
    obtain rfl : y = 0 := by omega
    subst hn'
    exact grow_same w h (by omega) (by omega) (by omega) (by omega)
  · rw [if_neg hs] at hn'
    subst hn'
    exact grow_diff w h x y (v' - m) (q' - m) (by omega) (by omega) (by omega) (by omega) (by omega) (by omega) a7 (by omega) (by omega)
theorem cset_ok (w : World) {v q : Int} (h : Clk w g c m (v - m) (q - m) s n) (hn : Nums c m v q n) (t : Int) (h0 : 0 ≤ t) (h1 : t ≤ 1152921504606846976) (n' : Int) (hn' : n' = if t = v then n else n + 1) :
    Calls Try.prog 24 #[.pointer (some ⟨g, 0, none⟩), .int .i64 t] w fun e w' => e = .returned (.int .i64 0) ∧ Clk w' g c m (t - m) (q - m) s n' ∧ Tch g w w' := by
  have C := hide (nowR w h hn 1 (by decide) (by decide))
  rw [if_pos rfl] at C
  obtain ⟨a1, a2, a3, a4, a5, a6, a7, a8⟩ := hn
  have CG := hide (growR w h ⟨a1, a2, a3, a4, a5, a6, a7, a8⟩ (t - v) 0 t q n' (by omega) (by omega) h0 (by omega) (by omega) (by omega) (by rw [hn']; simp))
  clear h hn'
  go_enter Try.func24, Try.ntmps24
  go_wp2_with (first | (go_at_call 29; refine (unhide C).mono ?_; rintro e w1 ⟨rfl, rfl⟩) | (go_at_call 58; refine (unhide CG).mono ?_; rintro e w2 ⟨rfl, k2, t2⟩))
  go_ret
  exact ⟨rfl, k2, t2⟩
theorem cadj_bad (w : World) {v q : Int} (h : Clk w g c m (v - m) (q - m) s n) (hn : Nums c m v q n) (t : Int) (hb : v + t < 0 ∨ 1152921504606846976 < v + t) :
    Calls Try.prog 25 #[.pointer (some ⟨g, 0, none⟩), .int .i64 t] w fun e w' => e = .returned (.int .i64 2) ∧ w' = w := by
  have C := hide (nowR w h hn 1 (by decide) (by decide))
  rw [if_pos rfl] at C
  obtain ⟨a1, a2, a3, a4, a5, a6, a7, a8⟩ := hn
  have hv2 : v ≤ 2305843009213693952 := by omega
  clear h a1 a2 a3 a4 a6 a7 a8
  by_cases h1 : t < -v
  · clear hb
    go_enter Try.func25, Try.ntmps25
    go_wp2_with (go_at_call 29; refine (unhide C).mono ?_; rintro e w1 ⟨rfl, rfl⟩)
    go_ret
    exact ⟨rfl, rfl⟩
  · have h2 : 1152921504606846976 - v < t := by omega
    clear hb
    go_enter Try.func25, Try.ntmps25
    go_wp2_with (go_at_call 29; refine (unhide C).mono ?_; rintro e w1 ⟨rfl, rfl⟩)
    go_ret
    exact ⟨rfl, rfl⟩
theorem cadj_ok (w : World) {v q : Int} (h : Clk w g c m (v - m) (q - m) s n) (hn : Nums c m v q n) (t v' : Int) (hv' : v + t = v') (h0 : 0 ≤ v') (h1 : v' ≤ 1152921504606846976) (n' : Int) (hn' : n' = if v' = v then n else n + 1) :
    Calls Try.prog 25 #[.pointer (some ⟨g, 0, none⟩), .int .i64 t] w fun e w' => e = .returned (.int .i64 0) ∧ Clk w' g c m (v' - m) (q - m) s n' ∧ Tch g w w' := by
  have C := hide (nowR w h hn 1 (by decide) (by decide))
  rw [if_pos rfl] at C
  obtain ⟨a1, a2, a3, a4, a5, a6, a7, a8⟩ := hn
  have CG := hide (growR w h ⟨a1, a2, a3, a4, a5, a6, a7, a8⟩ t 0 v' q n' (by omega) (by omega) h0 (by omega) (by omega) (by omega) (by rw [hn']; simp))
  have hv2 : v ≤ 2305843009213693952 := by omega
  have h3 : ¬ t < -v := by omega
  have h4 : ¬ 1152921504606846976 - v < t := by omega
  clear h hn' hv' h0 h1 a1 a2 a3 a4 a6 a7 a8
  go_enter Try.func25, Try.ntmps25
  go_wp2_with (first | (go_at_call 29; refine (unhide C).mono ?_; rintro e w1 ⟨rfl, rfl⟩) | (go_at_call 58; refine (unhide CG).mono ?_; rintro e w2 ⟨rfl, k2, t2⟩))
  go_ret
  exact ⟨rfl, k2, t2⟩
theorem resume_bad (w : World) {r b : Int} (h : Clk w g c m r b false n) : Calls Try.prog 27 #[.pointer (some ⟨g, 0, none⟩)] w fun e w' => e = .returned (.int .i64 8) ∧ w' = w := by
  have c5 := h.c5
  clear h
  go_enter Try.func27, Try.ntmps27
  go_wp2
  go_ret
  exact ⟨rfl, rfl⟩
end
end Go.Proofs.Ytkglaklkbodjkaa
