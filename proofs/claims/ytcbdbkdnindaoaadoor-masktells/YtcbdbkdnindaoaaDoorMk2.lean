import Derived.Test.YtcbdbkdnindaoaaDoorMk1
import Derived.Test.YtcbdbkdnindaoaaDoorIr
namespace Go.Proofs.YtcbdbkdnindaoaaDoor
open Go.RowKit Mk

def ints (l : List Nat) : List Int := l.map Int.ofNat
theorem ints_snoc (l : List Nat) (k : Nat) : ints (l ++ [k]) = ints l ++ [(k : Int)] := by simp [ints]
theorem ints_len (l : List Nat) : (ints l).length = l.length := by simp [ints]
theorem ints_at (l : List Nat) (j : Nat) (h : j < l.length) : (ints l)[j]? = some ((l[j]'h : Nat) : Int) := by simp [ints, h]

set_option maxHeartbeats 1000000 in
theorem list_any (M : Nat) (hM : M < 4294967296) (w : World) :
    Calls Tryd.prog 8 #[.int .u32 (M : Int)] w fun e w' => ∃ v, e = .returned v ∧ Ir w' w.heap.size v (ints (listOf M)) ∧ Below w.heap.size w w' := by
  obtain ⟨B, hB⟩ : ∃ B, w.heap.size = B := ⟨_, rfl⟩
  have C1 := fun w' => hide (len_any M hM w')
  have C2 := fun k w' => hide (has_any M k hM w')
  have hl := listOf_len M
  obtain ⟨cs, hcs, hmk⟩ := make_int (listOf M).length (by omega)
  have HL := hide (show upTo M 16 = listOf M from rfl)
  rw [hB]
  generalize (listOf M).length = n at *
  generalize listOf M = LM at *
  go_enter Tryd.func8, Tryd.ntmps8
  go_wp2_with (go_at_call 9; refine (unhide (C1 _)).mono ?_; rintro e w' ⟨rfl, nq, rfl⟩)
  go_loopw [3, 8] (fun v d wr => ∃ k : Nat, k ≤ 16 ∧ d = .int .i64 (k : Int) ∧ Hid (Ir wr B v (ints (upTo M k)) ∧ Below B w wr)) (fun _ d _ => 16 - (intOf d).toNat)
  case atStart =>
    refine ⟨0, by omega, rfl, hide ⟨?_, ?_⟩⟩
    · have h := Ir.made (w.drewN nq) B cs n (Nat.le_of_eq hB.symm) (by omega) hcs
      rw [show (w.drewN nq).heap.size = B from hB] at h
      exact h
    · have h1 := below_drewN w nq
      rw [hB] at h1
      exact h1.alloc (Nat.le_of_eq hB.symm) _
  case round =>
    obtain ⟨k, hk, rfl, HI⟩ := hrel
    by_cases hlt : k < 16
    · have C2 := fun w' => C2 (k : Int) w'
      rw [hasB_nat M k hlt] at C2
      have hs := upTo_succ M k
      have hul := upTo_len M k
      have hbz : B ≤ wr.heap.size := by have := (unhide HI).2.size; omega
      obtain ⟨g, hg⟩ : ∃ g, wr.heap.size = g := ⟨_, rfl⟩
      obtain ⟨L2, hL2⟩ : ∃ L, upTo M (k + 1) = L := ⟨_, rfl⟩
      rw [hL2] at hs
      have HL2 := hide hL2
      clear hL2
      generalize upTo M k = L1 at *
      cases hb : M.testBit k
      · rw [hb, if_neg (by decide)] at hs
        rw [hb] at C2
        subst hs
        clear hb
        go_wp2_with (go_at_call 14; refine (unhide (C2 _)).mono ?_; rintro e w' ⟨rfl, rfl⟩)
        go_roundw
        case rel => exact ⟨k + 1, by omega, by go_num, by rw [unhide HL2]; exact HI⟩
        case measure => simp [intOf]; omega
      · rw [hb, if_pos rfl] at hs
        rw [hb] at C2
        clear hb
        go_wp2_with (first | (go_at_call 14; refine (unhide (C2 _)).mono ?_; rintro e w' ⟨rfl, rfl⟩) | (at_builtin; refine app_int rfl _ _ rfl B u3 (ints L1) (k : Int) rfl (unhide HI).1 g hg rfl (by omega) (by rw [ints_len]; omega) ?_))
        intro v' w2 r2 g2
        have HI2 := hide (show Ir w2 B v' (ints L2) ∧ Below B w w2 by
          rw [hs, ints_snoc]
          exact ⟨r2, (unhide HI).1.grew (unhide HI).2 hbz g2⟩)
        clear r2 g2 HI
        go_wp2_with fail
        go_roundw
        case rel => exact ⟨k + 1, by omega, by go_num, by rw [unhide HL2]; exact HI2⟩
        case measure => simp [intOf]; omega
    · obtain rfl : k = 16 := by omega
      go_wp2
      go_ret
      have h := unhide HI
      rw [unhide HL] at h
      exact ⟨_, rfl, h.1, h.2⟩

theorem bit_div (M k : Nat) : M.testBit k = decide (M / 2 ^ k % 2 = 1) := Nat.testBit_eq_decide_div_mod_eq
set_option maxHeartbeats 1000000 in
theorem rlist_any (M : Nat) (hM : M < 4294967296) (w : World) :
    Calls Tryd.prog 7 #[.int .u32 (M : Int)] w fun e w' => ∃ v, e = .returned v ∧ Ir w' w.heap.size v (ints (listOf M)) ∧ Below w.heap.size w w' := by
  obtain ⟨B, hB⟩ : ∃ B, w.heap.size = B := ⟨_, rfl⟩
  have HL := hide (show upTo M 16 = listOf M from rfl)
  rw [hB]
  generalize listOf M = LM at *
  go_enter Tryd.func7, Tryd.ntmps7
  go_wp2
  go_loopw [0, 3, 4] (fun m v d wr => ∃ k q : Nat, k ≤ 16 ∧ q < 4294967296 ∧ d = .int .i64 (k : Int) ∧ m = .int .u32 (q : Int) ∧ Hid (q = M / 2 ^ k ∧ Ir wr B v (ints (upTo M k)) ∧ Below B w wr)) (fun _ _ d _ => 16 - (intOf d).toNat)
  case atStart => exact ⟨0, M, by omega, hM, rfl, rfl, hide ⟨by simp, Ir.nil _ _, by rw [← hB]; exact Below.refl _ _⟩⟩
  case round =>
    obtain ⟨k, q, hk, hq, rfl, rfl, HI⟩ := hrel
    by_cases hlt : k < 16
    · have hs := upTo_succ M k
      have hul := upTo_len M k
      have hbz : B ≤ wr.heap.size := by have := (unhide HI).2.2.size; omega
      have hbit := bit_div M k
      have HQ := hide (show q / 2 = M / 2 ^ (k + 1) by rw [(unhide HI).1, Nat.div_div_eq_div_mul, Nat.pow_succ])
      rw [← (unhide HI).1] at hbit
      obtain ⟨g, hg⟩ : ∃ g, wr.heap.size = g := ⟨_, rfl⟩
      obtain ⟨L2, hL2⟩ : ∃ L, upTo M (k + 1) = L := ⟨_, rfl⟩
      rw [hL2, hbit] at hs
      have HL2 := hide hL2
      clear hL2 hbit
      have HI := hide (unhide HI).2
      generalize upTo M k = L1 at *
      have e1 : (q : Int).tmod 2 = ((q % 2 : Nat) : Int) := by rw [Int.tmod_eq_emod_of_nonneg (by omega)]; omega
      have e2 : (q : Int).tdiv 2 = ((q / 2 : Nat) : Int) := by rw [Int.tdiv_eq_ediv_of_nonneg (by omega)]; omega
      by_cases hb : q % 2 = 1
      · rw [if_pos (decide_eq_true hb)] at hs
        rw [hb] at e1
        go_wp2_with (at_builtin; refine app_int rfl _ _ rfl B u3 (ints L1) (k : Int) rfl (unhide HI).1 g hg rfl (by omega) (by rw [ints_len]; omega) ?_)
        intro v' w2 r2 g2
        have HI2 := hide (show Ir w2 B v' (ints L2) ∧ Below B w w2 by
          rw [hs, ints_snoc]
          exact ⟨r2, (unhide HI).1.grew (unhide HI).2 hbz g2⟩)
        clear r2 g2 HI
        go_wp2_with fail
        go_roundw
        case rel => exact ⟨k + 1, q / 2, by omega, by omega, by go_num, by first | rfl | go_num, hide ⟨unhide HQ, by rw [unhide HL2]; exact unhide HI2⟩⟩
        case measure => simp [intOf]; omega
      · have h0 : q % 2 = 0 := by omega
        rw [h0] at e1
        rw [if_neg (by simpa using hb)] at hs
        subst hs
        go_wp2_with fail
        go_roundw
        case rel => exact ⟨k + 1, q / 2, by omega, by omega, by go_num, by first | rfl | go_num, hide ⟨unhide HQ, by rw [unhide HL2]; exact unhide HI⟩⟩
        case measure => simp [intOf]; omega
    · obtain rfl : k = 16 := by omega
      go_wp2
      go_ret
      have h := (unhide HI).2
      rw [unhide HL] at h
      exact ⟨_, rfl, h.1, h.2⟩
end Go.Proofs.YtcbdbkdnindaoaaDoor
