import Derived.Test.YtjngnmpjkiafpaaPh5
namespace Go.Proofs.Ytjngnmpjkiafpaa
open Go.RowKit Ph

/-- Sums of the first ones, part by part. -/
def ps (f : Nat → Int) : Nat → Int
  | 0 => 0
  | k + 1 => ps f k + f k
/-- All sums on the way are within the bounds. -/
def okS (a b : Nat → Int) : Nat → Bool
  | 0 => true
  | k + 1 => okS a b k && (inB (ps a (k + 1)) && inB (ps b (k + 1)))
theorem okS_later {a b : Nat → Int} {k n : Nat} (hk : k ≤ n) (h : okS a b k = false) : okS a b n = false := by
  induction n with
  | zero => obtain rfl : k = 0 := by omega
            exact h
  | succ n ih =>
    by_cases e : k = n + 1
    · subst e; exact h
    · unfold okS; rw [ih (by omega)]; rfl
theorem okS_in {a b : Nat → Int} {k : Nat} (h : okS a b k = true) : inB (ps a k) = true ∧ inB (ps b k) = true := by
  cases k with
  | zero => exact (show inB 0 = true ∧ inB 0 = true by decide)
  | succ k =>
    unfold okS at h
    simp only [Bool.and_eq_true] at h
    exact h.2

set_option maxHeartbeats 1000000 in
theorem sum_any (p : Option Addr) (len cap : Nat) (a b : Nat → Int) (w : World) (hl : len ≤ 1000)
    (hc : ∀ i, i < len → ∃ x X Y, p = some x ∧ w.cell? (x.add i) = some (.complex .f64 X Y) ∧ Rep X (a i) ∧ Rep Y (b i))
    (hin : ∀ i, i < len → inB (a i) = true ∧ inB (b i) = true) :
    Calls Try.prog 8 #[.slice p len cap] w fun e w' => ∃ X Y, e = .returned (.tuple #[.complex .f64 X Y, .bool (okS a b len)]) ∧ (okS a b len = true → Rep X (ps a len) ∧ Rep Y (ps b len)) ∧ (okS a b len = false → X = 0 ∧ Y = 0) ∧ w' = w := by
  have z0 : Rep 0 0 := ⟨false, 0, by decide, by decide, rfl⟩
  go_enter Try.func8, Try.ntmps8
  go_wp2
  go_loop [4, 9] (fun u i => ∃ k X Y, k ≤ len ∧ i = .int .i64 (k : Nat) ∧ u = .complex .f64 X Y ∧ Hid (okS a b k = true ∧ Rep X (ps a k) ∧ Rep Y (ps b k))) (fun _ i => 1000 - (intOf i).toNat)
  case atStart => exact ⟨0, _, _, Nat.zero_le _, rfl, rfl, hide ⟨rfl, z0, z0⟩⟩
  case round =>
    obtain ⟨k, X, Y, hk, rfl, rfl, hI⟩ := hrel
    by_cases hlt : k < len
    · obtain ⟨x, C, D, rfl, hcell, hC, hD⟩ := hc k hlt
      obtain ⟨hok, hX, hY⟩ := unhide hI
      have h1 := hin k hlt
      have hi := okS_in hok
      have b1 := (inB_iff _).1 hi.1
      have b2 := (inB_iff _).1 hi.2
      have b3 := (inB_iff _).1 h1.1
      have b4 := (inB_iff _).1 h1.2
      obtain ⟨re, im, hre, hr1, hr2⟩ := hX.csum hY hC hD (by omega) (by omega)
      have hop := fun t w => run_complex_sum (P := Try.prog) w .add (Or.inl rfl) t .f64 X Y C D re im hre
      have CZ := fun w' => hide (right_any C D (a k) (b k) hC hD w')
      rw [h1.1, h1.2] at CZ
      have CS := fun w' => hide (right_any re im (ps a k + a k) (ps b k + b k) hr1 hr2 w')
      have hstep : okS a b (k + 1) = (inB (ps a k + a k) && inB (ps b k + b k)) := by show (okS a b k && _) = _; rw [hok]; rfl
      cases d : (inB (ps a k + a k) && inB (ps b k + b k))
      · rw [d] at CS hstep
        have hno := hide (okS_later (n := len) (by omega) hstep)
        clear hc hin hok hX hY hI h1 hi b1 b2 b3 b4 hre hr1 hr2 hC hD hstep d z0
        go_wp2_with (first
          | (go_at_call 15; with_reducible refine (unhide (CZ _)).mono ?_; rintro e w' ⟨rfl, rfl⟩)
          | (go_at_call 15; with_reducible refine (unhide (CS _)).mono ?_; rintro e w' ⟨rfl, rfl⟩))
        go_ret2
        refine ⟨0, 0, by rw [unhide hno]; rfl, fun h => ?_, fun _ => ⟨rfl, rfl⟩, rfl⟩
        rw [unhide hno] at h; cases h
      · rw [d] at CS hstep
        have HN := hide (And.intro hstep (And.intro hr1 hr2))
        clear hc hin hok hX hY hI h1 hi b1 b2 b3 b4 hre hr1 hr2 hC hD hstep d z0
        go_wp2_with (first
          | (go_at_call 15; with_reducible refine (unhide (CZ _)).mono ?_; rintro e w' ⟨rfl, rfl⟩)
          | (go_at_call 15; with_reducible refine (unhide (CS _)).mono ?_; rintro e w' ⟨rfl, rfl⟩))
        go_round
        case rel => exact ⟨k + 1, re, im, by omega, by go_num, rfl, HN⟩
        case measure => simp [intOf]; omega
    · clear z0
      obtain rfl : k = len := by omega
      have HI := hI
      clear hc hin
      go_wp2
      go_ret2
      obtain ⟨h1, h2, h3⟩ := unhide HI
      exact ⟨X, Y, by rw [h1]; rfl, fun _ => ⟨h2, h3⟩, fun h => (by rw [h1] at h; cases h), rfl⟩

theorem turn_back {k n m : Int} (hk : k = 0 ∨ k = 1 ∨ k = 2 ∨ k = 3) :
    tx ((4 - k) % 4) (tx k n m) (ty k n m) = n ∧ ty ((4 - k) % 4) (tx k n m) (ty k n m) = m ∧ tx ((-k) % 4) (tx k n m) (ty k n m) = n ∧ ty ((-k) % 4) (tx k n m) (ty k n m) = m := by
  unfold tx ty
  rcases hk with rfl | rfl | rfl | rfl <;> simp [ux, uy]
theorem turn_there (n m k : Int) (hk : k = 0 ∨ k = 1 ∨ k = 2 ∨ k = 3) (h1 : inB n = true) (h2 : inB m = true) :
    ∃ X Y, (∀ w, Calls Try.prog 6 #[.complex .f64 (fl n) (fl m), .int .i64 k] w fun e w' => e = .returned (.complex .f64 X Y) ∧ w' = w) ∧
      (∀ w, Calls Try.prog 6 #[.complex .f64 X Y, .int .i64 (4 - k)] w fun e w' => e = .returned (.complex .f64 (fl n) (fl m)) ∧ w' = w) ∧
      (∀ w, Calls Try.prog 6 #[.complex .f64 X Y, .int .i64 (-k)] w fun e w' => e = .returned (.complex .f64 (fl n) (fl m)) ∧ w' = w) := by
  have hi := turn_in hk h1 h2
  have e4 : k % 4 = k := by omega
  have hb := turn_back (n := n) (m := m) hk
  refine ⟨fl (tx k n m), fl (ty k n m), fun w => ?_, fun w => ?_, fun w => ?_⟩
  · have := turn_any _ _ n m k (fl_rep h1) (fl_rep h2) h1 h2 w
    rw [e4] at this
    exact this
  · have := turn_any _ _ _ _ (4 - k) (fl_rep hi.1) (fl_rep hi.2) hi.1 hi.2 w
    rw [hb.1, hb.2.1] at this
    exact this
  · have := turn_any _ _ _ _ (-k) (fl_rep hi.1) (fl_rep hi.2) hi.1 hi.2 w
    rw [hb.2.2.1, hb.2.2.2] at this
    exact this
end Go.Proofs.Ytjngnmpjkiafpaa
