import Derived.Test.YtihahbmmipnclaaDoorL2Times
namespace Go.Proofs.YtihahbmmipnclaaDoor
open Go.RowKit Kt Dg

/-- What is read of a text. -/
def PR (t : ByteArray) (x y : Int) (ok : Bool) : Prop :=
  (∃ a b, Parts t a b ∧ x = numV a ∧ y = numV b ∧ ok = true) ∨ ((∀ a b, ¬ Parts t a b) ∧ x = 0 ∧ y = 0 ∧ ok = false)
theorem PR_unique {t : ByteArray} {x y x' y' : Int} {ok ok' : Bool} (h : PR t x y ok) (h' : PR t x' y' ok') : x' = x ∧ y' = y ∧ ok' = ok := by
  rcases h with ⟨a, b, p, rfl, rfl, rfl⟩ | ⟨p, rfl, rfl, rfl⟩ <;> rcases h' with ⟨c, d, q, rfl, rfl, rfl⟩ | ⟨q, rfl, rfl, rfl⟩
  · obtain ⟨rfl, rfl⟩ := parts_unique p q
    exact ⟨rfl, rfl, rfl⟩
  · exact absurd p (q a b)
  · exact absurd q (p c d)
  · exact ⟨rfl, rfl, rfl⟩
theorem sparse_all (t : ByteArray) (w : World) (hw : Bnd w) (hs : t.size < 4294967281) :
    Calls Tryd.prog 14 #[.string t] w fun e w' => ∃ x y ok, e = .returned (.tuple #[.agg #[.int .i64 x, .int .i64 y], .bool ok]) ∧ Below w.heap.size w w' ∧ Hid (PR t x y ok) := by
  by_cases hp : ∃ a b, Parts t a b
  · obtain ⟨a, b, p⟩ := hp
    exact (sparse_parts t a b w hw hs p).mono fun _ _ ⟨h1, h2⟩ => ⟨_, _, true, h1, h2, hide (.inl ⟨a, b, p, rfl, rfl, rfl⟩)⟩
  · have hp' : ∀ a b, ¬ Parts t a b := fun a b h => hp ⟨a, b, h⟩
    exact (sparse_none t w hw hs hp').mono fun _ _ ⟨h1, h2⟩ => ⟨0, 0, false, h1, h2, hide (.inr ⟨hp', rfl, rfl, rfl⟩)⟩
theorem rparse_all (t : ByteArray) (w : World) (hs : t.size ≤ 100) :
    Calls Tryd.prog 15 #[.string t] w fun e w' => ∃ x y ok, e = .returned (.tuple #[.agg #[.int .i64 x, .int .i64 y], .bool ok]) ∧ Below w.heap.size w w' ∧ Hid (PR t x y ok) := by
  refine (rparse_any t w hs).mono ?_
  rintro e w' ⟨hb, ⟨i, _, hf, _, rfl⟩ | ⟨hn, rfl⟩⟩
  · obtain ⟨a, b, p, rfl⟩ := parts_of_fnd hf
    obtain ⟨_, e1, e2⟩ := fnd_of_parts p
    exact ⟨_, _, true, rfl, hb, hide (.inl ⟨a, b, p, e1, e2, rfl⟩)⟩
  · refine ⟨0, 0, false, rfl, hb, hide (.inr ⟨fun a b p => ?_, rfl, rfl, rfl⟩)⟩
    refine hn a.length ?_ (fnd_of_parts p).1
    have h1 : t.data.toList.length = t.size := by simp
    rw [← h1, p.eq, List.length_append, List.length_cons]; omega
theorem textS_size (s n : Int) (hs : s ≤ 9223372036854775807) : (textS s n).size < 4294967281 := by
  have h1 := dec_len s hs
  show (textL s.toNat n.toNat).toArray.size < _
  simp only [textL, List.size_toArray, List.length_append, List.length_cons, padTo_length]
  omega

set_option maxRecDepth 1000000 in
set_option maxHeartbeats 4000000 in
theorem texts_walk (s n : Int) (t : ByteArray) (w : World) (ht : Tab w) (hw : Bnd w) (s1 : s ≤ 9223372036854775807) (hts : t.size ≤ 9223372036854775807) :
    Calls Tryd.prog 4 #[.agg #[.int .i64 s, .int .i64 n], .string t] w fun e w' => e = .returned (.bool true) ∧ Below w.heap.size w w' := by
  have hb0 : Below w.heap.size w (w.alloc (.cells #[.int .i64 s, .int .i64 n] 23)) := (Below.refl _ _).alloc (Nat.le_refl _) _
  have hf := hide (fixed_any _ (ht.on hb0) (hw.on hb0))
  obtain ⟨W0, hW0⟩ : ∃ W0, W0 = w.alloc (.cells #[.int .i64 s, .int .i64 n] 23) := ⟨_, rfl⟩
  have hz0 : w.heap.size < W0.heap.size := by rw [hW0]; simp
  have r0 := held (W := W0) (b := w.heap.size) (o := 0) (v := .int .i64 s) (by rw [hW0]; simp [go_sem]) hz0
  have r1 := held (W := W0) (b := w.heap.size) (o := 1) (v := .int .i64 n) (by rw [hW0]; simp [go_sem]) hz0
  rw [← hW0] at hb0 hf
  have HW := hide hW0
  clear hW0
  by_cases hbig : 100 < t.size
  · go_enter Tryd.func4, Tryd.ntmps4
    go_wp2_with (go_at_call 6; refine Hid.out ?_)
    refine hide ?_
    rw [← unhide HW]
    refine (unhide hf).mono ?_
    rintro e w1 ⟨rfl, S1⟩
    go_wp2_with fail
    go_ret
    exact ⟨rfl, hb0.trans (S1.mono hb0.size)⟩
  have ht0 := hide ((ht.on hb0))
  have hw0 := hide ((hw.on hb0))
  go_enter Tryd.func4, Tryd.ntmps4
  go_wp2_with (go_at_call 6; refine Hid.out ?_)
  refine hide ?_
  rw [← unhide HW]
  refine (unhide hf).mono ?_
  rintro e w1 ⟨rfl, S1⟩
  have hcase : (rightB s n = false ∧ Hid (s = s)) ∨ (rightB s n = true ∧ s < 1000000000000000000) ∨ (rightB s n = true ∧ 1000000000000000000 ≤ s) := by
    cases rightB s n
    · exact .inl ⟨rfl, rfl⟩
    · by_cases h : s < 1000000000000000000
      · exact .inr (.inl ⟨rfl, h⟩)
      · exact .inr (.inr ⟨rfl, by omega⟩)
  rcases hcase with ⟨hr, _⟩ | ⟨hr, hlt⟩ | ⟨hr, hlt⟩
  · go_wp2_with (go_at_call 12; refine Hid.out ?_)
    refine hide ?_
    refine (stext_bad _ _ _ hr).mono ?_
    rintro e w2 ⟨rfl, hb2⟩
    have S2 := S1.trans (hb2.mono S1.size)
    clear hb2
    go_wp2_with (first | (go_at_call 9; refine Hid.out ?_))
    refine hide ?_
    refine (rright_b _ _ _).mono ?_
    rintro e w3 ⟨rfl, hb3⟩
    have S3 := S2.trans (hb3.mono S2.size)
    clear hb3
    go_wp2_with (go_at_call 14; refine Hid.out ?_)
    refine hide ?_
    refine (sparse_all _ _ ((unhide hw0).on S3) (by decide)).mono ?_
    rintro e w4 ⟨x0, y0, ok0, rfl, hb4, _⟩
    have S4 := S3.trans (hb4.mono S3.size)
    have S4' : Below W0.heap.size W0 (w4.alloc (.cells #[.int .i64 x0, .int .i64 y0] 23)) := S4.alloc S4.size _
    clear hb4
    go_wp2_with (go_at_call 14; refine Hid.out ?_)
    refine hide ?_
    refine (sparse_all _ _ ((unhide hw0).on S4') (by omega)).mono ?_
    rintro e w5 ⟨x, y, ok, rfl, hb5, HP⟩
    have S5 := S4'.trans (hb5.mono S4'.size)
    clear hb5
    obtain ⟨W5, hW5⟩ : ∃ W5, W5 = w5.alloc (.cells #[.int .i64 x, .int .i64 y] 23) := ⟨_, rfl⟩
    have hz5 : w5.heap.size < W5.heap.size := by rw [hW5]; simp
    have r4 := held (W := W5) (b := w5.heap.size) (o := 0) (v := .int .i64 x) (by rw [hW5]; simp [go_sem]) hz5
    have r5 := held (W := W5) (b := w5.heap.size) (o := 1) (v := .int .i64 y) (by rw [hW5]; simp [go_sem]) hz5
    have T0 : Below w.heap.size w W5 := by rw [hW5]; exact (hb0.trans (S5.mono hb0.size)).alloc (hb0.trans (S5.mono hb0.size)).size _
    have HW5 := hide hW5
    clear hW5
    go_wp2_with (go_at_call 15; refine Hid.out ?_)
    refine hide ?_
    rw [← unhide HW5]
    refine (rparse_all t _ (by omega)).mono ?_
    rintro e w6 ⟨x', y', ok', rfl, T6, HP'⟩
    obtain ⟨rfl, rfl, rfl⟩ := PR_unique (unhide HP) (unhide HP')
    have hz6 : w5.heap.size < w6.heap.size := by have := T6.size; omega
    have q4 := r4 _ T6
    have q5 := r5 _ T6
    cases ok'
    all_goals
      go_wp2_with fail
      go_ret
      exact ⟨rfl, (T0.trans (T6.mono T0.size)).alloc (T0.trans (T6.mono T0.size)).size _⟩
  · go_wp2_with (go_at_call 12; refine Hid.out ?_)
    refine hide ?_
    refine (stext_good _ _ _ ((unhide ht0).on S1) hr s1).mono ?_
    rintro e w2 ⟨rfl, hb2⟩
    have S2 := S1.trans (hb2.mono S1.size)
    clear hb2
    go_wp2_with (go_at_call 9; refine Hid.out ?_)
    refine hide ?_
    refine (rright_b _ _ _).mono ?_
    rintro e w3 ⟨rfl, hb3⟩
    have S3 := S2.trans (hb3.mono S2.size)
    clear hb3
    go_wp2_with (go_at_call 13; refine Hid.out ?_)
    refine hide ?_
    refine (rtext_any _ _ _ hr s1).mono ?_
    rintro e w3 ⟨rfl, hb3⟩
    have S3' := S3.trans (hb3.mono S3.size)
    clear hb3
    obtain ⟨pa, pb, pp, va, vb⟩ := parts_text s n (rightB_true hr).1 hlt (rightB_true hr).2.1 (rightB_true hr).2.2
    have hps := sparse_parts _ _ _ w3 ((unhide hw0).on S3') (textS_size s n s1) pp
    rw [va, vb] at hps
    have HPS := hide hps
    clear hps va vb pp
    go_wp2_with (go_at_call 14; refine Hid.out ?_)
    refine hide ?_
    refine (unhide HPS).mono ?_
    rintro e w4 ⟨rfl, hb4⟩
    have S4 := S3'.trans (hb4.mono S3'.size)
    have S4' : Below W0.heap.size W0 (w4.alloc (.cells #[.int .i64 s, .int .i64 n] 23)) := S4.alloc S4.size _
    clear hb4
    go_wp2_with (go_at_call 14; refine Hid.out ?_)
    refine hide ?_
    refine (sparse_all _ _ ((unhide hw0).on S4') (by omega)).mono ?_
    rintro e w5 ⟨x, y, ok, rfl, hb5, HP⟩
    have S5 := S4'.trans (hb5.mono S4'.size)
    clear hb5
    obtain ⟨W5, hW5⟩ : ∃ W5, W5 = w5.alloc (.cells #[.int .i64 x, .int .i64 y] 23) := ⟨_, rfl⟩
    have hz5 : w5.heap.size < W5.heap.size := by rw [hW5]; simp
    have r4 := held (W := W5) (b := w5.heap.size) (o := 0) (v := .int .i64 x) (by rw [hW5]; simp [go_sem]) hz5
    have r5 := held (W := W5) (b := w5.heap.size) (o := 1) (v := .int .i64 y) (by rw [hW5]; simp [go_sem]) hz5
    have T0 : Below w.heap.size w W5 := by rw [hW5]; exact (hb0.trans (S5.mono hb0.size)).alloc (hb0.trans (S5.mono hb0.size)).size _
    have HW5 := hide hW5
    clear hW5
    go_wp2_with (go_at_call 15; refine Hid.out ?_)
    refine hide ?_
    rw [← unhide HW5]
    refine (rparse_all t _ (by omega)).mono ?_
    rintro e w6 ⟨x', y', ok', rfl, T6, HP'⟩
    obtain ⟨rfl, rfl, rfl⟩ := PR_unique (unhide HP) (unhide HP')
    have hz6 : w5.heap.size < w6.heap.size := by have := T6.size; omega
    have q4 := r4 _ T6
    have q5 := r5 _ T6
    cases ok'
    all_goals
      go_wp2_with fail
      go_ret
      exact ⟨rfl, (T0.trans (T6.mono T0.size)).alloc (T0.trans (T6.mono T0.size)).size _⟩
  · go_wp2_with (go_at_call 12; refine Hid.out ?_)
    refine hide ?_
    refine (stext_good _ _ _ ((unhide ht0).on S1) hr s1).mono ?_
    rintro e w2 ⟨rfl, hb2⟩
    have S2 := S1.trans (hb2.mono S1.size)
    clear hb2
    go_wp2_with (go_at_call 9; refine Hid.out ?_)
    refine hide ?_
    refine (rright_b _ _ _).mono ?_
    rintro e w3 ⟨rfl, hb3⟩
    have S3 := S2.trans (hb3.mono S2.size)
    clear hb3
    go_wp2_with (go_at_call 13; refine Hid.out ?_)
    refine hide ?_
    refine (rtext_any _ _ _ hr s1).mono ?_
    rintro e w3 ⟨rfl, hb3⟩
    have S3' := S3.trans (hb3.mono S3.size)
    clear hb3
    go_wp2_with (go_at_call 14; refine Hid.out ?_)
    refine hide ?_
    refine (sparse_all _ _ ((unhide hw0).on S3') (textS_size s n s1)).mono ?_
    rintro e w4 ⟨x0, y0, ok0, rfl, hb4, _⟩
    have S4 := S3'.trans (hb4.mono S3'.size)
    have S4' : Below W0.heap.size W0 (w4.alloc (.cells #[.int .i64 x0, .int .i64 y0] 23)) := S4.alloc S4.size _
    clear hb4
    go_wp2_with (go_at_call 14; refine Hid.out ?_)
    refine hide ?_
    refine (sparse_all _ _ ((unhide hw0).on S4') (by omega)).mono ?_
    rintro e w5 ⟨x, y, ok, rfl, hb5, HP⟩
    have S5 := S4'.trans (hb5.mono S4'.size)
    clear hb5
    obtain ⟨W5, hW5⟩ : ∃ W5, W5 = w5.alloc (.cells #[.int .i64 x, .int .i64 y] 23) := ⟨_, rfl⟩
    have hz5 : w5.heap.size < W5.heap.size := by rw [hW5]; simp
    have r4 := held (W := W5) (b := w5.heap.size) (o := 0) (v := .int .i64 x) (by rw [hW5]; simp [go_sem]) hz5
    have r5 := held (W := W5) (b := w5.heap.size) (o := 1) (v := .int .i64 y) (by rw [hW5]; simp [go_sem]) hz5
    have T0 : Below w.heap.size w W5 := by rw [hW5]; exact (hb0.trans (S5.mono hb0.size)).alloc (hb0.trans (S5.mono hb0.size)).size _
    have HW5 := hide hW5
    clear hW5
    go_wp2_with (go_at_call 15; refine Hid.out ?_)
    refine hide ?_
    rw [← unhide HW5]
    refine (rparse_all t _ (by omega)).mono ?_
    rintro e w6 ⟨x', y', ok', rfl, T6, HP'⟩
    obtain ⟨rfl, rfl, rfl⟩ := PR_unique (unhide HP) (unhide HP')
    have hz6 : w5.heap.size < w6.heap.size := by have := T6.size; omega
    have q4 := r4 _ T6
    have q5 := r5 _ T6
    cases ok'
    all_goals
      go_wp2_with fail
      go_ret
      exact ⟨rfl, (T0.trans (T6.mono T0.size)).alloc (T0.trans (T6.mono T0.size)).size _⟩
end Go.Proofs.YtihahbmmipnclaaDoor
