import Derived.Test.YtcbdbkdnindaoaaDoorBas
import Derived.Test.YtcbdbkdnindaoaaDoorMkMath
import Derived.Laws.Bits64
namespace Go.Proofs.YtcbdbkdnindaoaaDoor
open Go.RowKit Mk

theorem bits_and_u32 (a b : Nat) (ha : a < 4294967296) (hb : b < 4294967296) : bits .and .u32 (a : Int) (b : Int) = ((a &&& b : Nat) : Int) := by
  have hx : a &&& b < 2 ^ 32 := Nat.and_lt_two_pow _ (by omega)
  have h1 : (BitVec.ofInt 32 (a : Int)).toNat = a := by
    rw [BitVec.ofInt_natCast, BitVec.toNat_ofNat]; exact Nat.mod_eq_of_lt (by omega)
  have h2 : (BitVec.ofInt 32 (b : Int)).toNat = b := by
    rw [BitVec.ofInt_natCast, BitVec.toNat_ofNat]; exact Nat.mod_eq_of_lt (by omega)
  show IntKind.u32.wrap ((BitVec.ofInt 32 (a : Int) &&& BitVec.ofInt 32 (b : Int)).toNat : Int) = _
  rw [BitVec.toNat_and, h1, h2, IntKind.wrap_u32]
  omega
theorem bits_or_u32 (a b : Nat) (ha : a < 4294967296) (hb : b < 4294967296) : bits .or .u32 (a : Int) (b : Int) = ((a ||| b : Nat) : Int) := by
  have hx : a ||| b < 2 ^ 32 := Nat.or_lt_two_pow (by omega) (by omega)
  have h1 : (BitVec.ofInt 32 (a : Int)).toNat = a := by
    rw [BitVec.ofInt_natCast, BitVec.toNat_ofNat]; exact Nat.mod_eq_of_lt (by omega)
  have h2 : (BitVec.ofInt 32 (b : Int)).toNat = b := by
    rw [BitVec.ofInt_natCast, BitVec.toNat_ofNat]; exact Nat.mod_eq_of_lt (by omega)
  show IntKind.u32.wrap ((BitVec.ofInt 32 (a : Int) ||| BitVec.ofInt 32 (b : Int)).toNat : Int) = _
  rw [BitVec.toNat_or, h1, h2, IntKind.wrap_u32]
  omega

theorem one_in (k : Nat) (hk : k < 16) (w : World) :
    Calls Tryd.prog 21 #[.int .i64 (k : Int)] w fun e w' => e = .returned (.int .u32 ((2 ^ k : Nat) : Int)) ∧ w' = w := by
  have : k = 0 ∨ k = 1 ∨ k = 2 ∨ k = 3 ∨ k = 4 ∨ k = 5 ∨ k = 6 ∨ k = 7 ∨ k = 8 ∨ k = 9 ∨ k = 10 ∨ k = 11 ∨ k = 12 ∨ k = 13 ∨ k = 14 ∨ k = 15 := by omega
  rcases this with rfl | rfl | rfl | rfl | rfl | rfl | rfl | rfl | rfl | rfl | rfl | rfl | rfl | rfl | rfl | rfl <;>
    (go_enter Tryd.func21, Tryd.ntmps21
     go_wp2
     go_ret
     exact ⟨rfl, rfl⟩)
theorem one_out (c : Int) (hc : c < 0 ∨ 16 ≤ c) (w : World) :
    Calls Tryd.prog 21 #[.int .i64 c] w fun e w' => e = .returned (.int .u32 0) ∧ w' = w := by
  rcases hc with h | h
  · go_enter Tryd.func21, Tryd.ntmps21
    go_wp2
    go_ret
    exact ⟨rfl, rfl⟩
  · go_enter Tryd.func21, Tryd.ntmps21
    go_wp2
    go_ret
    exact ⟨rfl, rfl⟩
/-- Whether a processor is in a set. -/
def hasB (M : Nat) (c : Int) : Bool := decide (0 ≤ c ∧ c < 16) && M.testBit c.toNat
theorem hasB_nat (M k : Nat) (hk : k < 16) : hasB M (k : Int) = M.testBit k := by
  unfold hasB
  rw [decide_eq_true (by omega), Int.toNat_natCast]; rfl
set_option maxHeartbeats 1000000 in
theorem has_any (M : Nat) (c : Int) (hM : M < 4294967296) (w : World) :
    Calls Tryd.prog 14 #[.int .u32 (M : Int), .int .i64 c] w fun e w' => e = .returned (.bool (hasB M c)) ∧ w' = w := by
  by_cases hc : 0 ≤ c ∧ c < 16
  · obtain ⟨k, rfl⟩ := Int.eq_ofNat_of_zero_le hc.1
    have hk : k < 16 := by omega
    rw [hasB_nat M k hk]
    have C1 := fun w' => hide (one_in k hk w')
    have hp : 2 ^ k < 4294967296 := Nat.lt_of_lt_of_le (Nat.pow_lt_pow_right (by omega) hk) (by decide)
    have ha := bits_and_u32 M (2 ^ k) hM hp
    have hz := and_one_ne M k
    generalize M.testBit k = b at *
    generalize M &&& 2 ^ k = Q at *
    generalize 2 ^ k = P at *
    have hz2 : ((Q : Int) == 0) = !b := by
      rw [← hz]
      by_cases e : Q = 0
      · subst e; rfl
      · rw [decide_eq_false e, beq_eq_false_iff_ne]; omega
    clear hz hp hk hc
    go_enter Tryd.func14, Tryd.ntmps14
    go_wp2_with (go_at_call 21; refine (unhide (C1 _)).mono ?_; rintro e w' ⟨rfl, rfl⟩)
    go_ret
    exact ⟨ret_bool (by rw [bne, hz2, Bool.not_not]), rfl⟩
  · have C1 := fun w' => hide (one_out c (by omega) w')
    have hb : hasB M c = false := by unfold hasB; rw [decide_eq_false hc]; rfl
    have ha := bits_and_u32 M 0 hM (by omega)
    rw [Nat.and_zero] at ha
    have ha : bits .and .u32 (M : Int) 0 = 0 := ha
    rw [hb]
    clear hb hc
    go_enter Tryd.func14, Tryd.ntmps14
    go_wp2_with (go_at_call 21; refine (unhide (C1 _)).mono ?_; rintro e w' ⟨rfl, rfl⟩)
    go_ret
    exact ⟨ret_bool (by first | rfl | (rw [ha]; rfl)), rfl⟩

theorem pop_tab : ∀ n : Fin 256, Lib.pop8 (n.val : Int) = (pop n.val : Int) := by decide +kernel
theorem pop_le (b : Nat) : pop b ≤ 8 := by
  unfold pop
  refine Nat.le_trans (List.length_filter_le _ _) ?_
  simp
theorem and255 (x : Nat) : x &&& 255 = x % 256 := Nat.and_two_pow_sub_one_eq_mod x 8
set_option maxRecDepth 100000 in
set_option maxHeartbeats 1000000 in
theorem count_any (M : Nat) (hM : M < 65536) (w : World) :
    Calls Tryd.prog 20 #[.int .u32 (M : Int)] w fun e w' => e = .returned (.int .i64 ((listOf M).length : Nat)) ∧ ∃ n, w' = w.drewN n := by
  have e0 : (M : Int) / 16777216 = 0 := by omega
  have e1 : (M : Int) / 65536 = 0 := by omega
  have a1 : bits .and .u32 0 255 = 0 := bits_and_u32 0 255 (by omega) (by omega)
  have a2 := bits_and_u32 (M / 256) 255 (by omega) (by omega)
  have a3 := bits_and_u32 M 255 (by omega) (by omega)
  rw [and255] at a2 a3
  rw [len_pop]
  have q2 := pop_tab ⟨M / 256 % 256, by omega⟩
  have q3 := pop_tab ⟨M % 256, by omega⟩
  have l2 := pop_le (M / 256 % 256)
  have l3 := pop_le (M % 256)
  have b2 : ((M / 256 % 256 : Nat) : Int) ≤ 255 := by omega
  have b3 : ((M % 256 : Nat) : Int) ≤ 255 := by omega
  have d2 : (0 : Int) ≤ ((M / 256 % 256 : Nat) : Int) := by omega
  have d3 : (0 : Int) ≤ ((M % 256 : Nat) : Int) := by omega
  have p0 : Lib.pop8 0 = 0 := by decide +kernel
  simp only at q2 q3
  generalize pop (M / 256 % 256) = P2 at *
  generalize pop (M % 256) = P3 at *
  generalize M / 256 % 256 = X2 at *
  generalize M % 256 = X3 at *
  rw [Int.natCast_ediv, show ((256 : Nat) : Int) = 256 from rfl, show ((255 : Nat) : Int) = 255 from rfl] at a2
  rw [show ((255 : Nat) : Int) = 255 from rfl] at a3
  go_enter Tryd.func20, Tryd.ntmps20
  go_wp2
  refine wp_region_quiet_lit (by kernel_rfl) (by kernel_rfl) ?_
  repeat quiet_step (fail)
  refine wpQuiet_nil ?_
  rintro _ ⟨nq, rfl⟩
  go_wp2
  go_ret
  refine ⟨ret_int ?_, nq, rfl⟩
  simp only [IntKind.wrap_u8, IntKind.wrap_i64]
  omega
set_option maxHeartbeats 1000000 in
theorem len_any (M : Nat) (hM : M < 4294967296) (w : World) :
    Calls Tryd.prog 9 #[.int .u32 (M : Int)] w fun e w' => e = .returned (.int .i64 ((listOf M).length : Nat)) ∧ ∃ n, w' = w.drewN n := by
  have a1 := bits_and_u32 M 65535 hM (by omega)
  rw [show M &&& 65535 = M % 65536 from Nat.and_two_pow_sub_one_eq_mod M 16] at a1
  have C1 := fun w' => hide (count_any (M % 65536) (by omega) w')
  rw [list_mod] at C1
  have hl := listOf_len M
  generalize (listOf M).length = n at *
  generalize M % 65536 = Q at *
  have a1 : bits .and .u32 (M : Int) 65535 = (Q : Int) := a1
  go_enter Tryd.func9, Tryd.ntmps9
  go_wp2_with (go_at_call 20; refine (unhide (C1 _)).mono ?_; rintro e w' ⟨rfl, nq, rfl⟩)
  go_ret
  exact ⟨rfl, nq, rfl⟩
end Go.Proofs.YtcbdbkdnindaoaaDoor
