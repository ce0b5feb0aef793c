import Derived.Test.YtjngnmpjkiafpaaPh3
import Derived.Test.YtjngnmpjkiafpaaBlk
import Derived.RegionTactic
import Derived.ChangeAlike
namespace Go.Proofs.Ytjngnmpjkiafpaa
open Go.RowKit Ph

/-- A step of a walk: where it is, and what it looks along. -/
def stepZ (s : Int) (p : Int × Int × Int × Int) : Int × Int × Int × Int :=
  if s % 4 = 0 then (p.1 + p.2.2.1, p.2.1 + p.2.2.2, p.2.2.1, p.2.2.2)
  else if s % 4 = 1 then (p.1, p.2.1, tx 1 p.2.2.1 p.2.2.2, ty 1 p.2.2.1 p.2.2.2)
  else if s % 4 = 2 then (p.1, p.2.1, tx 3 p.2.2.1 p.2.2.2, ty 3 p.2.2.1 p.2.2.2)
  else (p.1, p.2.1, tx 2 p.2.2.1 p.2.2.2, ty 2 p.2.2.1 p.2.2.2)
def wk (l : List Int) : Nat → Int × Int × Int × Int
  | 0 => (0, 0, 1, 0)
  | i + 1 => stepZ (l.getD i 0) (wk l i)

def UnitZ (c d : Int) : Prop := c * c + d * d = 1 ∧ -1 ≤ c ∧ c ≤ 1 ∧ -1 ≤ d ∧ d ≤ 1

theorem wk_inv (l : List Int) (i : Nat) : (wk l i).1.natAbs ≤ i ∧ (wk l i).2.1.natAbs ≤ i ∧ UnitZ (wk l i).2.2.1 (wk l i).2.2.2 := by
  induction i with
  | zero => simp [wk, UnitZ]
  | succ i ih =>
    obtain ⟨h1, h2, h3⟩ := ih
    show (stepZ (l.getD i 0) (wk l i)).1.natAbs ≤ _ ∧ (stepZ (l.getD i 0) (wk l i)).2.1.natAbs ≤ _ ∧ UnitZ (stepZ (l.getD i 0) (wk l i)).2.2.1 (stepZ (l.getD i 0) (wk l i)).2.2.2
    generalize wk l i = p at h1 h2 h3
    obtain ⟨a, b, c, d⟩ := p
    unfold UnitZ at *
    simp only at h1 h2 h3
    obtain ⟨h4, h5⟩ := h3
    unfold stepZ
    split
    · exact ⟨by simp only; omega, by simp only; omega, h4, h5⟩
    split
    · simp only [tx, ty, ux, uy]
      simp [Int.neg_mul_neg]
      exact ⟨by omega, by omega, by omega, by omega⟩
    split
    · simp only [tx, ty, ux, uy]
      simp [Int.neg_mul_neg]
      exact ⟨by omega, by omega, by omega, by omega⟩
    · simp only [tx, ty, ux, uy]
      simp [Int.neg_mul_neg]
      exact ⟨by omega, by omega, by omega, by omega⟩

/-- A complex number tells both parts. -/
def CRep (v : Value) (n m : Int) : Prop := ∃ X Y, v = .complex .f64 X Y ∧ Rep X n ∧ Rep Y m

set_option maxRecDepth 20000 in
set_option maxHeartbeats 1000000 in
theorem walk_any (p : Option Addr) (len cap : Nat) (zs : List Int) (w : World) (hl : len ≤ cap)
    (hc : ∀ i, i < len → ∃ x, p = some x ∧ w.cell? (x.add i) = some (.int .u8 (zs.getD i 0)) ∧ 0 ≤ zs.getD i 0) :
    Calls Try.prog 10 #[.slice p len cap] w fun e w' => ∃ u v, e = .returned (.tuple #[u, v]) ∧ CRep u (wk zs (min len 4096)).1 (wk zs (min len 4096)).2.1 ∧ CRep v (wk zs (min len 4096)).2.2.1 (wk zs (min len 4096)).2.2.2 ∧ w' = w := by
  have z0 : Rep 0 0 := ⟨false, 0, by decide, by decide, rfl⟩
  have z1 : Rep 4607182418800017408 1 := ⟨false, 1, by decide, by decide, rfl⟩
  obtain ⟨K, hKe⟩ : ∃ K, min len 4096 = K := ⟨_, rfl⟩
  have hKl : K ≤ len := by omega
  have hK4 : K ≤ 4096 := by omega
  rw [hKe]
  by_cases hK : len ≤ 4096
  all_goals
    go_enter Try.func10, Try.ntmps10
    go_wp2
    have hKK : len ≤ K ∨ 4096 ≤ K := by omega
    clear hKe
    go_loop [4, 5, 14] (fun u v i => ∃ k : Nat, k ≤ K ∧ i = .int .i64 k ∧ CRep u (wk zs k).1 (wk zs k).2.1 ∧ CRep v (wk zs k).2.2.1 (wk zs k).2.2.2) (fun _ _ i => 4096 - (intOf i).toNat)
    case atStart => exact ⟨0, Nat.zero_le _, rfl, ⟨_, _, rfl, z0, z0⟩, ⟨_, _, rfl, z1, z0⟩⟩
    case round =>
      obtain ⟨k, hk, rfl, ⟨X, Y, rfl, hX, hY⟩, ⟨C, D, rfl, hC, hD⟩⟩ := hrel
      by_cases hlt : k < K
      · obtain ⟨x, rfl, hcell, hz⟩ := hc k (by omega)
        have hS : wk zs (k + 1) = stepZ (zs.getD k 0) (wk zs k) := rfl
        have hI := wk_inv zs k
        obtain ⟨s, hs⟩ : ∃ s, zs.getD k 0 = s := ⟨_, rfl⟩
        rw [hs] at hcell hz hS
        obtain ⟨⟨a, b, c, d⟩, hp⟩ : ∃ q, wk zs k = q := ⟨_, rfl⟩
        rw [hp] at hS hI hX hY hC hD
        simp only at hI hX hY hC hD
        have HS := hide hS
        have HI := hide hI
        have HX := hide (And.intro hX hY)
        have HC := hide (And.intro hC hD)
        clear hc hS hI hX hY hC hD hs z0 z1 hp
        have hk4 : s % 4 = 0 ∨ s % 4 = 1 ∨ s % 4 = 2 ∨ s % 4 = 3 := by omega
        rcases hk4 with k4 | k4 | k4 | k4
        · obtain ⟨re, im, hre, hr1, hr2⟩ := (unhide HX).1.csum (unhide HX).2 (unhide HC).1 (unhide HC).2 (by have := unhide HI; unfold UnitZ at this; omega) (by have := unhide HI; unfold UnitZ at this; omega)
          have HR := hide (And.intro hr1 hr2)
          have hop := fun t w => run_complex_sum (P := Try.prog) w .add (Or.inl rfl) t .f64 X Y C D re im hre
          clear hr1 hr2
          go_wp2
          go_round
          case rel =>
            refine ⟨k + 1, by omega, by go_num, ?_, ?_⟩
            · rw [unhide HS]; unfold stepZ; rw [if_pos k4]; exact ⟨_, _, rfl, unhide HR⟩
            · rw [unhide HS]; unfold stepZ; rw [if_pos k4]; exact ⟨_, _, rfl, unhide HC⟩
          case measure => simp [intOf]; omega
        · have ht := turn_any C D c d 1 (unhide HC).1 (unhide HC).2 (by have := unhide HI; unfold UnitZ at this; rw [inB_iff]; omega) (by have := unhide HI; unfold UnitZ at this; rw [inB_iff]; omega)
          have hi := turn_in (k := 1) (by omega) (n := c) (m := d) (by have := unhide HI; unfold UnitZ at this; rw [inB_iff]; omega) (by have := unhide HI; unfold UnitZ at this; rw [inB_iff]; omega)
          have HT := hide (And.intro (fl_rep hi.1) (fl_rep hi.2))
          clear hi
          obtain ⟨Z1, hZ1⟩ : ∃ z, fl (tx 1 c d) = z := ⟨_, rfl⟩
          obtain ⟨Z2, hZ2⟩ : ∃ z, fl (ty 1 c d) = z := ⟨_, rfl⟩
          rw [show (1 : Int) % 4 = 1 from rfl, hZ1, hZ2] at ht
          rw [hZ1, hZ2] at HT
          clear hZ1 hZ2
          go_wp2_with (go_at_call 6; refine (ht _).mono ?_; rintro e w' ⟨rfl, rfl⟩)
          go_round
          case rel =>
            refine ⟨k + 1, by omega, by go_num, ?_, ?_⟩
            · rw [unhide HS]; unfold stepZ; rw [if_neg (by omega), if_pos k4]; exact ⟨_, _, rfl, unhide HX⟩
            · rw [unhide HS]; unfold stepZ; rw [if_neg (by omega), if_pos k4]; exact ⟨_, _, rfl, unhide HT⟩
          case measure => simp [intOf]; omega
        · have ht := turn_any C D c d (-1) (unhide HC).1 (unhide HC).2 (by have := unhide HI; unfold UnitZ at this; rw [inB_iff]; omega) (by have := unhide HI; unfold UnitZ at this; rw [inB_iff]; omega)
          have hi := turn_in (k := 3) (by omega) (n := c) (m := d) (by have := unhide HI; unfold UnitZ at this; rw [inB_iff]; omega) (by have := unhide HI; unfold UnitZ at this; rw [inB_iff]; omega)
          have HT := hide (And.intro (fl_rep hi.1) (fl_rep hi.2))
          clear hi
          obtain ⟨Z1, hZ1⟩ : ∃ z, fl (tx 3 c d) = z := ⟨_, rfl⟩
          obtain ⟨Z2, hZ2⟩ : ∃ z, fl (ty 3 c d) = z := ⟨_, rfl⟩
          rw [show ((-1) : Int) % 4 = 3 from rfl, hZ1, hZ2] at ht
          rw [hZ1, hZ2] at HT
          clear hZ1 hZ2
          go_wp2_with (go_at_call 6; refine (ht _).mono ?_; rintro e w' ⟨rfl, rfl⟩)
          go_round
          case rel =>
            refine ⟨k + 1, by omega, by go_num, ?_, ?_⟩
            · rw [unhide HS]; unfold stepZ; rw [if_neg (by omega), if_neg (by omega), if_pos k4]; exact ⟨_, _, rfl, unhide HX⟩
            · rw [unhide HS]; unfold stepZ; rw [if_neg (by omega), if_neg (by omega), if_pos k4]; exact ⟨_, _, rfl, unhide HT⟩
          case measure => simp [intOf]; omega
        · have ht := turn_any C D c d 2 (unhide HC).1 (unhide HC).2 (by have := unhide HI; unfold UnitZ at this; rw [inB_iff]; omega) (by have := unhide HI; unfold UnitZ at this; rw [inB_iff]; omega)
          have hi := turn_in (k := 2) (by omega) (n := c) (m := d) (by have := unhide HI; unfold UnitZ at this; rw [inB_iff]; omega) (by have := unhide HI; unfold UnitZ at this; rw [inB_iff]; omega)
          have HT := hide (And.intro (fl_rep hi.1) (fl_rep hi.2))
          clear hi
          obtain ⟨Z1, hZ1⟩ : ∃ z, fl (tx 2 c d) = z := ⟨_, rfl⟩
          obtain ⟨Z2, hZ2⟩ : ∃ z, fl (ty 2 c d) = z := ⟨_, rfl⟩
          rw [show (2 : Int) % 4 = 2 from rfl, hZ1, hZ2] at ht
          rw [hZ1, hZ2] at HT
          clear hZ1 hZ2
          go_wp2_with (go_at_call 6; refine (ht _).mono ?_; rintro e w' ⟨rfl, rfl⟩)
          go_round
          case rel =>
            refine ⟨k + 1, by omega, by go_num, ?_, ?_⟩
            · rw [unhide HS]; unfold stepZ; rw [if_neg (by omega), if_neg (by omega), if_neg (by omega)]; exact ⟨_, _, rfl, unhide HX⟩
            · rw [unhide HS]; unfold stepZ; rw [if_neg (by omega), if_neg (by omega), if_neg (by omega)]; exact ⟨_, _, rfl, unhide HT⟩
          case measure => simp [intOf]; omega
      · clear z0 z1
        have e : k = K := by omega
        subst e
        go_wp2
        all_goals first
          | omega
          | (go_ret2; exact ⟨_, _, rfl, ⟨_, _, rfl, hX, hY⟩, ⟨_, _, rfl, hC, hD⟩, rfl⟩)
end Go.Proofs.Ytjngnmpjkiafpaa
