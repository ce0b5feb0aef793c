import Derived.Test.YtkglaklkbodjkaaCk6
namespace Go.Proofs.Ytkglaklkbodjkaa
open Go.RowKit Kt
set_option linter.unusedVariables false

/-- What was slept, next to a clock's numbers. -/
structure SL (z : KS) (l : Int) : Prop where
  l0 : 0 ≤ l
  l1 : l ≤ z.c
  s : z.s = true → z.c = z.q + l
  a : z.s = false → z.c = z.q
theorem act_0 {κ k : Int} {z : KS} (h : κ = 0) : actK κ k z = act0 k z := by unfold actK; rw [if_pos h]
theorem act_1 {κ k : Int} {z : KS} (h : κ = 1) : actK κ k z = actTo k z := by subst h; rfl
theorem act_2 {κ k : Int} {z : KS} (h : κ = 2) : actK κ k z = actTo (z.v + k) z := by subst h; rfl
theorem act_3 {κ k : Int} {z : KS} (h : κ = 3) : actK κ k z = act3 z := by subst h; rfl
theorem act_4 {κ k : Int} {z : KS} (h : κ = 4) : actK κ k z = act4 z := by subst h; rfl
/-- The law's act: the same errors, the same numbers. -/
theorem do_any {g : Nat} (w : World) (z : KS) (l K k : Int) (h : Pl w g z l) (hn : Nums z.c z.m z.v z.q z.n) (hs : SL z l) (hK0 : 0 ≤ K) :
    Calls Try.prog 28 #[.pointer (some ⟨g, 0, none⟩), .agg #[.int .u8 K, .int .i64 k]] w fun e w' => e = .returned (.int .i64 (actK (K % 5) k z).1) ∧ (∃ l', Pl w' g (actK (K % 5) k z).2 l' ∧ SL (actK (K % 5) k z).2 l') ∧ Tch g w w' := by
  obtain ⟨c, m, v, q, s, n⟩ := z
  obtain ⟨l0, l1, ls, la⟩ := hs
  simp only at hn l1 ls la
  have hn2 := hn
  obtain ⟨a1, a2, a3, a4, a5, a6, a7, a8⟩ := hn2
  have hmd : K % 5 = 0 ∨ K % 5 = 1 ∨ K % 5 = 2 ∨ K % 5 = 3 ∨ K % 5 = 4 := by omega
  rcases hmd with hmd | hmd | hmd | hmd | hmd
  · rw [act_0 hmd]
    unfold act0
    simp only
    by_cases hb : k < 0 ∨ 1152921504606846976 - c < k
    · rw [if_pos hb]
      by_cases h1 : k < 0
      · refine (do_0_neg w c m v q n l K k s h hn l0 l1 hK0 hmd h1).mono ?_
        rintro e w' ⟨rfl, h2, h3⟩
        exact ⟨rfl, ⟨l, h2, l0, l1, ls, la⟩, h3⟩
      · by_cases h2 : 1152921504606846976 < k
        · refine (do_0_big w c m v q n l K k s h hn l0 l1 hK0 hmd h2).mono ?_
          rintro e w' ⟨rfl, h2, h3⟩
          exact ⟨rfl, ⟨l, h2, l0, l1, ls, la⟩, h3⟩
        · refine (do_0_sum w c m v q n l K k s h hn l0 l1 hK0 hmd h1 h2 (by omega)).mono ?_
          rintro e w' ⟨rfl, h2, h3⟩
          exact ⟨rfl, ⟨l, h2, l0, l1, ls, la⟩, h3⟩
    · rw [if_neg hb]
      cases s
      · refine (do_0_awake w c m v q n l K k h hn l0 l1 hK0 hmd hb).mono ?_
        rintro e w' ⟨rfl, h2, h3⟩
        exact ⟨rfl, ⟨l, h2, l0, by show l ≤ c + k; omega, (fun h => by cases h), fun _ => by have := la rfl; show c + k = q + k; omega⟩, h3⟩
      · have := ls rfl
        refine (do_0_sleep w c m v q n l K k h hn l0 l1 hK0 hmd hb).mono ?_
        rintro e w' ⟨rfl, h2, h3⟩
        exact ⟨rfl, ⟨l + k, h2, by omega, by show l + k ≤ c + k; omega, fun _ => by show c + k = q + (l + k); omega, (fun h => by cases h)⟩, h3⟩
  · rw [act_1 hmd]
    unfold actTo
    simp only
    by_cases hb : k < 0 ∨ 1152921504606846976 < k
    · rw [if_pos hb]
      by_cases h1 : k < 0
      · refine (do_1_neg w c m v q n l K k s h hn l0 l1 hK0 hmd h1).mono ?_
        rintro e w' ⟨rfl, h2, h3⟩
        exact ⟨rfl, ⟨l, h2, l0, l1, ls, la⟩, h3⟩
      · refine (do_1_big w c m v q n l K k s h hn l0 l1 hK0 hmd (by omega)).mono ?_
        rintro e w' ⟨rfl, h2, h3⟩
        exact ⟨rfl, ⟨l, h2, l0, l1, ls, la⟩, h3⟩
    · rw [if_neg hb]
      by_cases h1 : k = v
      · rw [if_pos h1]
        refine (do_1_same w c m v q n l K k s h hn l0 l1 hK0 hmd h1 (by omega)).mono ?_
        rintro e w' ⟨rfl, h2, h3⟩
        subst h1
        exact ⟨rfl, ⟨l, h2, l0, l1, ls, la⟩, h3⟩
      · rw [if_neg h1]
        refine (do_1_diff w c m v q n l K k s h hn l0 l1 hK0 hmd h1 (by omega) (by omega)).mono ?_
        rintro e w' ⟨rfl, h2, h3⟩
        exact ⟨rfl, ⟨l, h2, l0, l1, ls, la⟩, h3⟩
  · rw [act_2 hmd]
    unfold actTo
    simp only
    by_cases hb : v + k < 0 ∨ 1152921504606846976 < v + k
    · rw [if_pos hb]
      by_cases h1 : k < -2305843009213693952
      · refine (do_2_low w c m v q n l K k s h hn l0 l1 hK0 hmd h1).mono ?_
        rintro e w' ⟨rfl, h2, h3⟩
        exact ⟨rfl, ⟨l, h2, l0, l1, ls, la⟩, h3⟩
      · by_cases h2 : 2305843009213693952 < k
        · refine (do_2_high w c m v q n l K k s h hn l0 l1 hK0 hmd h2).mono ?_
          rintro e w' ⟨rfl, h2, h3⟩
          exact ⟨rfl, ⟨l, h2, l0, l1, ls, la⟩, h3⟩
        · by_cases h4 : v + k < 0
          · refine (do_2_neg w c m v q n l K k s h hn l0 l1 hK0 hmd (by omega) (by omega) h4).mono ?_
            rintro e w' ⟨rfl, h2, h3⟩
            exact ⟨rfl, ⟨l, h2, l0, l1, ls, la⟩, h3⟩
          · refine (do_2_big w c m v q n l K k s h hn l0 l1 hK0 hmd (by omega) (by omega) (by omega)).mono ?_
            rintro e w' ⟨rfl, h2, h3⟩
            exact ⟨rfl, ⟨l, h2, l0, l1, ls, la⟩, h3⟩
    · rw [if_neg hb]
      by_cases h1 : v + k = v
      · rw [if_pos h1]
        refine (do_2_same w c m v q n l K k s h hn l0 l1 hK0 hmd (by omega) (by omega)).mono ?_
        rintro e w' ⟨rfl, h2, h3⟩
        rw [h1]
        exact ⟨rfl, ⟨l, h2, l0, l1, ls, la⟩, h3⟩
      · rw [if_neg h1]
        refine (do_2_diff w c m v q n l K k (v + k) s h hn l0 l1 hK0 hmd rfl h1 (by omega) (by omega)).mono ?_
        rintro e w' ⟨rfl, h2, h3⟩
        exact ⟨rfl, ⟨l, h2, l0, l1, ls, la⟩, h3⟩
  · rw [act_3 hmd]
    unfold act3
    simp only
    cases s
    · have hq : True := trivial
      refine (do_3_ok w c m v q n l K k h hn l0 l1 hK0 hmd).mono ?_
      rintro e w' ⟨rfl, h2, h3⟩
      exact ⟨rfl, ⟨0, h2, by decide, by show (0 : Int) ≤ c; omega, fun _ => by have := la rfl; show c = q + 0; omega, (fun h => by cases h)⟩, h3⟩
    · refine (do_3_bad w c m v q n l K k h hn l0 l1 hK0 hmd).mono ?_
      rintro e w' ⟨rfl, h2, h3⟩
      exact ⟨rfl, ⟨l, h2, l0, l1, ls, la⟩, h3⟩
  · rw [act_4 hmd]
    unfold act4
    simp only
    cases s
    · refine (do_4_bad w c m v q n l K k h hn l0 l1 hK0 hmd).mono ?_
      rintro e w' ⟨rfl, h2, h3⟩
      exact ⟨rfl, ⟨l, h2, l0, l1, ls, la⟩, h3⟩
    · have hl := ls rfl
      by_cases h1 : l = 0
      · rw [if_pos rfl, if_pos (by omega)]
        refine (do_4_none w c m v q n l K k h hn l0 l1 hK0 hmd h1).mono ?_
        rintro e w' ⟨rfl, h2, h3⟩
        rw [show v + (c - q) = v by omega, show c = q by omega]
        rw [show c = q by omega] at h2
        exact ⟨rfl, ⟨l, h2, l0, by show l ≤ q; omega, (fun h => by cases h), fun _ => rfl⟩, h3⟩
      · rw [if_pos rfl, if_neg (by omega)]
        refine (do_4_some w c m v q n l K k h hn l0 l1 hK0 hmd (by omega)).mono ?_
        rintro e w' ⟨rfl, h2, h3⟩
        rw [show v + (c - q) = v + l by omega]
        rw [show q + l = c by omega] at h2
        exact ⟨rfl, ⟨l, h2, l0, l1, (fun h => by cases h), fun _ => rfl⟩, h3⟩
end Go.Proofs.Ytkglaklkbodjkaa
