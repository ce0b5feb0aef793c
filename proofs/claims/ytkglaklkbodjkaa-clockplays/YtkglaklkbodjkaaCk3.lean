import Derived.Test.YtkglaklkbodjkaaCk2
namespace Go.Proofs.Ytkglaklkbodjkaa
open Go.RowKit Kt

section
variable {g : Nat} {c m n v q : Int} {s : Bool}
/-- What a region keeps that lets the offsets grow. -/
def CkS (g : Nat) (c : Int) (w1 w' : World) : Prop := ∃ m r b s n, Clk w' g c m r b s n ∧ Tch g w1 w'
theorem CkS.c0 {g : Nat} {c : Int} {w1 : World} : ∀ w', CkS g c w1 w' → w'.cell? ⟨g, 0, none⟩ = some (.int .i64 c) := fun w' h => by
  obtain ⟨m, r, b, s, n, h, _⟩ := h
  exact h.c0
set_option maxRecDepth 100000 in
set_option maxHeartbeats 1000000 in
theorem resume_ok (w : World) (h : Clk w g c m (v - m) (q - m) true n) (hn : Nums c m v q n) (n' : Int) (hn' : n' = if c = q then n else n + 1) :
    Calls Try.prog 27 #[.pointer (some ⟨g, 0, none⟩)] w fun e w' => e = .returned (.int .i64 0) ∧ Clk w' g c m (v + (c - q) - m) (c - m) false n' ∧ Tch g w w' := by
  have c5 := h.c5
  have f := h.fr
  have h1 := h.set5 false
  have t1 := (Tch.refl g w).set 5 (.bool false)
  obtain ⟨w1, hw1⟩ : ∃ w1, w1 = w.setCell ⟨g, 5, none⟩ (.bool false) := ⟨_, rfl⟩
  rw [← hw1] at h1 t1
  have HW := hide hw1
  clear hw1 h
  have C := hide (nowR w1 h1 hn 2 (by decide) (by decide))
  rw [if_neg (by decide), if_pos rfl] at C
  have hb1 : Below w1.heap.size w1 w1.drew := (Below.refl _ _).drew
  have hE : n' = if v + (c - q) = v ∧ c = q then n else n + 1 := by
    rw [hn']
    by_cases e : c = q
    · rw [if_pos e, if_pos ⟨by omega, e⟩]
    · rw [if_neg e, if_neg (fun h => e h.2)]
  have hn2 := hn
  obtain ⟨a1, a2, a3, a4, a5, a6, a7, a8⟩ := hn2
  have CG := hide (growR w1.drew (h1.below hb1) hn (c - q) (c - q) (v + (c - q)) c n' rfl (by omega) (by omega) (by omega) (by omega) a4 hE)
  have S0 : CkS g c w1 w1.drew := ⟨_, _, _, _, _, h1.below hb1, Tch.of_below hb1⟩
  have hR := @CkS.c0 g c w1
  have HT := hide t1
  have HB := hide hb1
  obtain ⟨D, hD⟩ : ∃ D, c - q = D := ⟨_, rfl⟩
  rw [hD] at CG
  have d0 : 0 ≤ D := by omega
  have d1 : D ≤ 1152921504606846976 := by omega
  have d2 : IntKind.i64.wrap D = D := by rw [IntKind.wrap_i64]; omega
  rw [hD]
  clear hn hn' hE h1 t1 hb1 a5 a6 a7 a8
  go_enter Try.func27, Try.ntmps27
  go_wp2_with (go_at_call 29; refine Hid.out ?_)
  refine hide ?_
  rw [← unhide HW]
  refine (unhide C).mono ?_
  rintro e w2 ⟨rfl, rfl⟩
  clear C c5 f HW
  go_wp2_with fail
  refine wp_region_held_drew (S := (fun w' => CkS g c w2 w')) (by kernel_rfl) ?_ (fun hHeld => ?_)
  · (first | (first | exact S0 | assumption))
  refine wpAnyH_take (i := 0) (oi := ?o1) (v := ?v1) ?hi1 (by kernel_rfl) (by kernel_rfl) (by kernel_rfl) ?hQ1 (Or.inl ⟨?hw1, ?hy1⟩) (by assumption) ?_
  case hi1 => (simp only [List.getElem?_toArray, List.getElem?_cons_zero]; rfl)
  case hQ1 => exact fun _ _ _ h => h
  case hw1 => rfl
  case hy1 => (intro w hSw; (try dsimp only at hSw); go_simp; (try with_reducible rfl))
  simp only [Act.put, List.setIfInBounds_toArray, List.set_cons_zero, List.set_cons_succ]
  refine wpAnyH_take (i := 1) (oi := ?o2) (v := ?v2) ?hi2 (by kernel_rfl) (by kernel_rfl) (by kernel_rfl) ?hQ2 (Or.inl ⟨?hw2, ?hy2⟩) (by assumption) ?_
  case hi2 => (simp only [List.getElem?_toArray, List.getElem?_cons_succ, List.getElem?_cons_zero]; rfl)
  case hQ2 => exact fun _ _ _ h => h
  case hw2 => rfl
  case hy2 => (intro w hSw; (try dsimp only at hSw); go_simp; (try with_reducible rfl))
  simp only [Act.put, List.setIfInBounds_toArray, List.set_cons_zero, List.set_cons_succ]
  refine wpAnyH_take (i := 2) (oi := ?o3) (v := ?v3) ?hi3 (by kernel_rfl) (by kernel_rfl) (by kernel_rfl) ?hQ3 (Or.inl ⟨?hw3, ?hy3⟩) (by assumption) ?_
  case hi3 => (simp only [List.getElem?_toArray, List.getElem?_cons_succ, List.getElem?_cons_zero]; rfl)
  case hQ3 => exact fun _ _ _ h => h
  case hw3 => rfl
  case hy3 => (intro w hSw; (try dsimp only at hSw); go_simp; (try with_reducible rfl))
  simp only [Act.put, List.setIfInBounds_toArray, List.set_cons_zero, List.set_cons_succ]
  refine wpAnyH_take (i := 3) (oi := ?o4) (v := ?v4) ?hi4 (by kernel_rfl) (by kernel_rfl) (by kernel_rfl) ?hQ4 (Or.inl ⟨?hw4, ?hy4⟩) (by assumption) ?_
  case hi4 => (simp only [List.getElem?_toArray, List.getElem?_cons_succ, List.getElem?_cons_zero]; rfl)
  case hQ4 => exact fun _ _ _ h => h
  case hw4 => rfl
  case hy4 => (intro w hSw; (try dsimp only at hSw); go_simp; (try with_reducible rfl))
  simp only [Act.put, List.setIfInBounds_toArray, List.set_cons_zero, List.set_cons_succ]
  refine wpAnyH_take (i := 4) (oi := ?o5) (v := ?v5) ?hi5 (by kernel_rfl) (by kernel_rfl) (by kernel_rfl) ?hQ5 (Or.inl ⟨?hw5, ?hy5⟩) (by assumption) ?_
  case hi5 => (simp only [List.getElem?_toArray, List.getElem?_cons_succ, List.getElem?_cons_zero]; rfl)
  case hQ5 => exact fun _ _ _ h => h
  case hw5 => rfl
  case hy5 => (intro w hSw; (try dsimp only at hSw); go_simp; (try with_reducible rfl))
  simp only [Act.put, List.setIfInBounds_toArray, List.set_cons_zero, List.set_cons_succ]
  refine wpAnyH_take (i := 5) (oi := ?o6) (v := ?v6) ?hi6 (by kernel_rfl) (by kernel_rfl) (by kernel_rfl) ?hQ6 (Or.inl ⟨?hw6, ?hy6⟩) (by assumption) ?_
  case hi6 => (simp only [List.getElem?_toArray, List.getElem?_cons_succ, List.getElem?_cons_zero]; rfl)
  case hQ6 => exact fun _ _ _ h => h
  case hw6 => rfl
  case hy6 => (intro w hSw; (try dsimp only at hSw); go_simp; (try with_reducible rfl))
  simp only [Act.put, List.setIfInBounds_toArray, List.set_cons_zero, List.set_cons_succ]
  refine wpAnyH_take (i := 6) (oi := ?o7) (v := ?v7) ?hi7 (by kernel_rfl) (by kernel_rfl) (by kernel_rfl) ?hQ7 (Or.inl ⟨?hw7, ?hy7⟩) (by assumption) ?_
  case hi7 => (simp only [List.getElem?_toArray, List.getElem?_cons_succ, List.getElem?_cons_zero]; rfl)
  case hQ7 => exact fun _ _ _ h => h
  case hw7 => rfl
  case hy7 => (intro w hSw; (try dsimp only at hSw); go_simp; (try with_reducible rfl))
  simp only [Act.put, List.setIfInBounds_toArray, List.set_cons_zero, List.set_cons_succ]
  refine wpAnyH_take (i := 7) (oi := ?o8) (v := ?v8) ?hi8 (by kernel_rfl) (by kernel_rfl) (by kernel_rfl) ?hQ8 (Or.inl ⟨?hw8, ?hy8⟩) (by assumption) ?_
  case hi8 => (simp only [List.getElem?_toArray, List.getElem?_cons_succ, List.getElem?_cons_zero]; rfl)
  case hQ8 => exact fun _ _ _ h => h
  case hw8 => rfl
  case hy8 => (intro w hSw; (try dsimp only at hSw); go_simp; (try with_reducible rfl))
  simp only [Act.put, List.setIfInBounds_toArray, List.set_cons_zero, List.set_cons_succ]
  refine wpAnyH_take (i := 8) (oi := ?o9) (v := ?v9) ?hi9 (by kernel_rfl) (by kernel_rfl) (by kernel_rfl) ?hQ9 (Or.inl ⟨?hw9, ?hy9⟩) (by assumption) ?_
  case hi9 => (simp only [List.getElem?_toArray, List.getElem?_cons_succ, List.getElem?_cons_zero]; rfl)
  case hQ9 => exact fun _ _ _ h => h
  case hw9 => rfl
  case hy9 => (intro w hSw; (try dsimp only at hSw); go_simp; (try with_reducible rfl))
  simp only [Act.put, List.setIfInBounds_toArray, List.set_cons_zero, List.set_cons_succ]
  refine wpAnyH_take (i := 9) (oi := ?o10) (v := ?v10) ?hi10 (by kernel_rfl) (by kernel_rfl) (by kernel_rfl) ?hQ10 (Or.inl ⟨?hw10, ?hy10⟩) (by assumption) ?_
  case hi10 => (simp only [List.getElem?_toArray, List.getElem?_cons_succ, List.getElem?_cons_zero]; rfl)
  case hQ10 => exact fun _ _ _ h => h
  case hw10 => rfl
  case hy10 => (intro w hSw; (try dsimp only at hSw); go_simp; (try with_reducible rfl))
  simp only [Act.put, List.setIfInBounds_toArray, List.set_cons_zero, List.set_cons_succ]
  refine wpAnyH_take (i := 10) (oi := ?o11) (v := ?v11) ?hi11 (by kernel_rfl) (by kernel_rfl) (by kernel_rfl) ?hQ11 (Or.inl ⟨?hw11, ?hy11⟩) (by assumption) ?_
  case hi11 => (simp only [List.getElem?_toArray, List.getElem?_cons_succ, List.getElem?_cons_zero]; rfl)
  case hQ11 => exact fun _ _ _ h => h
  case hw11 => rfl
  case hy11 => (intro w hSw; (try dsimp only at hSw); go_simp; (try with_reducible rfl))
  simp only [Act.put, List.setIfInBounds_toArray, List.set_cons_zero, List.set_cons_succ]
  refine wpAnyH_take (i := 11) (oi := ?o12) (v := ?v12) ?hi12 (by kernel_rfl) (by kernel_rfl) (by kernel_rfl) ?hQ12 (Or.inl ⟨?hw12, ?hy12⟩) (by assumption) ?_
  case hi12 => (simp only [List.getElem?_toArray, List.getElem?_cons_succ, List.getElem?_cons_zero]; rfl)
  case hQ12 => exact fun _ _ _ h => h
  case hw12 => rfl
  case hy12 => (intro w hSw; (try dsimp only at hSw); go_simp; (try with_reducible rfl))
  simp only [Act.put, List.setIfInBounds_toArray, List.set_cons_zero, List.set_cons_succ]
  refine wpAnyH_take (i := 12) (oi := ?o13) (v := ?v13) ?hi13 (by kernel_rfl) (by kernel_rfl) (by kernel_rfl) ?hQ13 (Or.inl ⟨?hw13, ?hy13⟩) (by assumption) ?_
  case hi13 => (simp only [List.getElem?_toArray, List.getElem?_cons_succ, List.getElem?_cons_zero]; rfl)
  case hQ13 => exact fun _ _ _ h => h
  case hw13 => rfl
  case hy13 => (intro w hSw; (try dsimp only at hSw); go_simp; (try with_reducible rfl))
  simp only [Act.put, List.setIfInBounds_toArray, List.set_cons_zero, List.set_cons_succ]
  refine wpAnyH_ready (rs := [13]) (by kernel_rfl) (by simp) ?_
  refine AllReadyH.cons (o := ?o14) ?hi14 (fun K hK => ?_) AllReadyH.nil
  case hi14 => (simp only [List.getElem?_toArray, List.getElem?_cons_succ, List.getElem?_cons_zero]; rfl)
  go_simp
  go_at_call 58; refine (unhide CG).mono ?_; rintro e w5 ⟨rfl, k5, t5⟩; have S5 : CkS g c w2 w5 := ⟨_, _, _, _, _, k5, (Tch.of_below (unhide HB)).trans t5⟩; have H5 := hide (And.intro k5 t5); clear k5 t5; go_wp2_with fail
  refine hK.out _ _ ?_ (fun hHeld => ?_)
  · (first | (first | exact S0 | assumption))
  clear hK K
  refine wpAnyH_done (by kernel_rfl) ?_ _
  go_wp2_with fail
  go_ret
  exact ⟨rfl, (unhide H5).1, ((unhide HT).trans (Tch.of_below (unhide HB))).trans (unhide H5).2⟩
theorem tomono_in (w : World) {r b : Int} (h : Clk w g c m r b s n) (k t : Int) (h0 : 0 ≤ k) (h2 : k ≤ 2) (o : Int) (ho : offK k r b = o) : Calls Try.prog 34 #[.pointer (some ⟨g, 0, none⟩), .int .i64 k, .int .i64 t] w fun e w' => e = .returned (.int .i64 (subZ t o)) ∧ w' = w := by
  have C := hide (offset_in w h k h0 h2)
  rw [ho] at C
  have CS := fun w' => hide (sub_any t o w')
  generalize subZ t o = Z at *
  clear h ho
  go_enter Try.func34, Try.ntmps34
  go_wp2_with (first | (go_at_call 30; refine (unhide C).mono ?_; rintro e w1 ⟨rfl, rfl⟩) | (go_at_call 59; refine (unhide (CS _)).mono ?_; rintro e w2 ⟨rfl, rfl⟩))
  go_ret
  exact ⟨rfl, rfl⟩
theorem tomono_out (w : World) (g : Nat) (k t : Int) (hk : k < 0 ∨ 2 < k) : Calls Try.prog 34 #[.pointer (some ⟨g, 0, none⟩), .int .i64 k, .int .i64 t] w fun e w' => e = .returned (.int .i64 4611686018427387903) ∧ w' = w := by
  have C := hide (offset_out w g k hk)
  clear hk
  go_enter Try.func34, Try.ntmps34
  go_wp2_with (go_at_call 30; refine (unhide C).mono ?_; rintro e w1 ⟨rfl, rfl⟩)
  go_ret
  exact ⟨rfl, rfl⟩
end
/-- A clock of one's own, behind all that was there. -/
structure CB (B : Nat) (w0 w : World) (g : Nat) (c m v q : Int) (s : Bool) (n : Int) : Prop where
  clk : Clk w g c m (v - m) (q - m) s n
  nums : Nums c m v q n
  low : Below B w0 w
  ge : B ≤ g
  sz : B ≤ w.heap.size
section
variable {B g : Nat} {w0 w w' : World} {c m n v q : Int} {s : Bool}
theorem CB.step {c' m' v' q' n' : Int} {s' : Bool} (h : CB B w0 w g c m v q s n) (k : Clk w' g c' m' (v' - m') (q' - m') s' n') (hn : Nums c' m' v' q' n') (ht : Tch g w w') : CB B w0 w' g c' m' v' q' s' n' :=
  ⟨k, hn, ht.low h.low h.ge h.sz, h.ge, Nat.le_trans h.sz ht.size⟩
theorem CB.below (h : CB B w0 w g c m v q s n) (hb : Below w.heap.size w w') : CB B w0 w' g c m v q s n :=
  h.step (h.clk.below hb) h.nums (Tch.of_below hb)
/-- The numbers of a clock. -/
structure KS where
  c : Int
  m : Int
  v : Int
  q : Int
  s : Bool
  n : Int
def CBs (B : Nat) (w0 w : World) (g : Nat) (z : KS) : Prop := CB B w0 w g z.c z.m z.v z.q z.s z.n
/-- What each act comes to, and what it leaves. -/
def act0 (k : Int) (z : KS) : Int × KS := if k < 0 ∨ 1152921504606846976 - z.c < k then (2, z) else (0, ⟨z.c + k, if z.s = true then z.m else z.m + k, if z.s = true then z.v else z.v + k, if z.s = true then z.q else z.q + k, z.s, z.n⟩)
def actTo (t : Int) (z : KS) : Int × KS := if t < 0 ∨ 1152921504606846976 < t then (2, z) else (0, ⟨z.c, z.m, t, z.q, z.s, if t = z.v then z.n else z.n + 1⟩)
def act3 (z : KS) : Int × KS := if z.s = true then (8, z) else (0, ⟨z.c, z.m, z.v, z.q, true, z.n⟩)
def act4 (z : KS) : Int × KS := if z.s = true then (0, ⟨z.c, z.m, z.v + (z.c - z.q), z.c, false, if z.c = z.q then z.n else z.n + 1⟩) else (8, z)
def actK (K k : Int) (z : KS) : Int × KS := if K = 0 then act0 k z else if K = 1 then actTo k z else if K = 2 then actTo (z.v + k) z else if K = 3 then act3 z else act4 z
theorem Nums.real {c m v q n t : Int} (h : Nums c m v q n) (hn : n ≤ 900) (h0 : 0 ≤ t) (h1 : t ≤ 1152921504606846976) : Nums c m t q (if t = v then n else n + 1) := by
  obtain ⟨a1, a2, a3, a4, a5, a6, a7, a8⟩ := h
  exact ⟨a1, a2, a3, a4, h0, by omega, by split <;> omega, by split <;> omega⟩
/-- Time goes by. -/
theorem badv {z : KS} (h : CBs B w0 w g z) (k : Int) : Calls Try.prog 23 #[.pointer (some ⟨g, 0, none⟩), .int .i64 k] w fun e w' => e = .returned (.int .i64 (act0 k z).1) ∧ CBs B w0 w' g (act0 k z).2 ∧ Tch g w w' := by
  obtain ⟨a1, a2, a3, a4, a5, a6, a7, a8⟩ := h.nums
  unfold act0
  split
  · rename_i hk
    refine (adv_bad w h.clk k (by omega) a4 hk).mono ?_
    rintro e w' ⟨rfl, rfl⟩
    exact ⟨rfl, h, Tch.refl _ _⟩
  · rename_i hk
    refine (adv_ok w h.clk k (by omega) a4 a1 (by omega) (by omega) (by omega)).mono ?_
    rintro e w' ⟨rfl, k2, t2⟩
    refine ⟨rfl, h.step ?_ ?_ t2, t2⟩
    · obtain ⟨c, m, v, q, s, n⟩ := z
      cases s
      · simp only [Bool.false_eq_true, if_false] at k2 ⊢
        rw [show v + k - (m + k) = v - m by omega, show q + k - (m + k) = q - m by omega]
        exact k2
      · exact k2
    · obtain ⟨c, m, v, q, s, n⟩ := z
      simp only at a1 a2 a3 a4 a5 a6 a7 a8 hk
      cases s
      · exact ⟨by show 0 ≤ m + k; omega, by show m + k ≤ q + k; omega, by show q + k ≤ c + k; omega, by show c + k ≤ _; omega, by show 0 ≤ v + k; omega, by show v + k ≤ 1152921504606846976 + (q + k); omega, a7, a8⟩
      · exact ⟨a1, a2, by show q ≤ c + k; omega, by show c + k ≤ _; omega, a5, a6, a7, a8⟩
theorem bset {z : KS} (h : CBs B w0 w g z) (hn : z.n ≤ 900) (t : Int) : Calls Try.prog 24 #[.pointer (some ⟨g, 0, none⟩), .int .i64 t] w fun e w' => e = .returned (.int .i64 (actTo t z).1) ∧ CBs B w0 w' g (actTo t z).2 ∧ Tch g w w' := by
  unfold actTo
  split
  · rename_i hk
    refine (cset_bad w g t hk).mono ?_
    rintro e w' ⟨rfl, rfl⟩
    exact ⟨rfl, h, Tch.refl _ _⟩
  · rename_i hk
    have hN := h.nums.real hn (t := t) (by omega) (by omega)
    refine (cset_ok w h.clk h.nums t (by omega) (by omega) _ rfl).mono ?_
    rintro e w' ⟨rfl, k2, t2⟩
    exact ⟨rfl, h.step k2 hN t2, t2⟩
theorem badj {z : KS} (h : CBs B w0 w g z) (hn : z.n ≤ 900) (t : Int) : Calls Try.prog 25 #[.pointer (some ⟨g, 0, none⟩), .int .i64 t] w fun e w' => e = .returned (.int .i64 (actTo (z.v + t) z).1) ∧ CBs B w0 w' g (actTo (z.v + t) z).2 ∧ Tch g w w' := by
  unfold actTo
  split
  · rename_i hk
    refine (cadj_bad w h.clk h.nums t hk).mono ?_
    rintro e w' ⟨rfl, rfl⟩
    exact ⟨rfl, h, Tch.refl _ _⟩
  · rename_i hk
    have hN := h.nums.real hn (t := z.v + t) (by omega) (by omega)
    refine (cadj_ok w h.clk h.nums t _ rfl (by omega) (by omega) _ rfl).mono ?_
    rintro e w' ⟨rfl, k2, t2⟩
    exact ⟨rfl, h.step k2 hN t2, t2⟩
theorem bsusp {z : KS} (h : CBs B w0 w g z) : Calls Try.prog 26 #[.pointer (some ⟨g, 0, none⟩)] w fun e w' => e = .returned (.int .i64 (act3 z).1) ∧ CBs B w0 w' g (act3 z).2 ∧ Tch g w w' := by
  obtain ⟨c, m, v, q, s, n⟩ := z
  unfold act3
  cases s
  · refine (susp_ok w h.clk).mono ?_
    rintro e w' ⟨rfl, k2, t2⟩
    exact ⟨rfl, CB.step h k2 h.nums t2, t2⟩
  · refine (susp_bad w h.clk).mono ?_
    rintro e w' ⟨rfl, rfl⟩
    exact ⟨rfl, h, Tch.refl _ _⟩
theorem bresume {z : KS} (h : CBs B w0 w g z) (hn : z.n ≤ 900) : Calls Try.prog 27 #[.pointer (some ⟨g, 0, none⟩)] w fun e w' => e = .returned (.int .i64 (act4 z).1) ∧ CBs B w0 w' g (act4 z).2 ∧ Tch g w w' := by
  obtain ⟨c, m, v, q, s, n⟩ := z
  unfold act4
  cases s
  · refine (resume_bad w h.clk).mono ?_
    rintro e w' ⟨rfl, rfl⟩
    exact ⟨rfl, h, Tch.refl _ _⟩
  · obtain ⟨a1, a2, a3, a4, a5, a6, a7, a8⟩ := h.nums
    simp only at a1 a2 a3 a4 a5 a6 a7 a8 hn
    have hN : Nums c m (v + (c - q)) c (if c = q then n else n + 1) := ⟨a1, by omega, by omega, a4, by omega, by omega, by split <;> omega, by split <;> omega⟩
    refine (resume_ok w h.clk h.nums _ rfl).mono ?_
    rintro e w' ⟨rfl, k2, t2⟩
    exact ⟨rfl, CB.step h k2 hN t2, t2⟩
end
end Go.Proofs.Ytkglaklkbodjkaa
