import Derived.Test.YtjjdkkdnlnbedaaGreatMkA
import Derived.Laws.BitsAllLaws
namespace Go.Proofs.YtjjdkkdnlnbedaaGreat.Mk
open Go.RowKit Mk

def gtB (c : Int) (k : Nat) : Bool := decide (c < (k : Int))
/-- The next one, round. -/
def nextL (l : List Nat) (c : Int) : Int × Bool :=
  match l.find? (gtB c) with
  | some k => ((k : Int), true)
  | none => match l with
    | [] => (0, false)
    | k :: _ => ((k : Int), true)
theorem find_drop (l : List Nat) (p : Nat → Bool) (j : Nat) (hj : j < l.length) : (l.drop j).find? p = if p (l[j]'hj) = true then some (l[j]'hj) else (l.drop (j + 1)).find? p := by
  rw [List.drop_eq_getElem_cons hj, List.find?_cons]
  cases p l[j] <;> rfl
theorem list_lt (M : Nat) (j : Nat) (h : j < (listOf M).length) : (listOf M)[j] < 16 := ((mem_list M _).1 (List.getElem_mem h)).1
set_option maxHeartbeats 1000000 in
theorem next_any (M : Nat) (c : Int) (hM : M < 4294967296) (w : World) :
    Calls Tryz.prog 77 #[.int .u32 (M : Int), .int .i64 c] w fun e w' => e = .returned (.tuple #[.int .i64 (nextL (listOf M) c).1, .bool (nextL (listOf M) c).2]) ∧ Below w.heap.size w w' := by
  have C1 := fun w' => hide (list_any M hM w')
  have HLT := hide (list_lt M)
  have hl := listOf_len M
  generalize listOf M = l at *
  obtain ⟨R, hR⟩ : ∃ R, nextL l c = R := ⟨_, rfl⟩
  rw [hR]
  have HR := hide hR
  clear hR
  go_enter Tryz.func77, Tryz.ntmps77
  go_wp2_with (go_at_call 27; refine Hid.out ?_)
  refine hide ?_
  refine (unhide (C1 _)).mono ?_
  rintro e w1 ⟨v, rfl, r1, b1⟩
  obtain ⟨a, cap, rfl, hc⟩ := r1.form
  have HC := hide hc
  have HB := hide b1
  rw [ints_len]
  clear r1 b1 C1 hc
  go_wp2_with fail
  go_loop [13] (fun d => ∃ j : Nat, j ≤ l.length ∧ d = .int .i64 (j : Int) ∧ Hid (l.find? (gtB c) = (l.drop j).find? (gtB c))) (fun d => 16 - (intOf d).toNat)
  case atStart => exact ⟨0, by omega, rfl, hide rfl⟩
  case round =>
    obtain ⟨j, hj, rfl, HF⟩ := hrel
    by_cases hlt : j < l.length
    · have hx := (unhide HLT) j hlt
      obtain ⟨g, rfl, hcell⟩ := (unhide HC) j _ (ints_at l j hlt)
      have hf := find_drop l (gtB c) j hlt
      rw [← unhide HF] at hf
      have HF2 := hide hf
      have HX := hide (show l[j] = l[j] from rfl)
      clear hf HF
      generalize hxe : l[j] = x at *
      by_cases hcx : c < (x : Int)
      · have HF3 := hide (show l.find? (gtB c) = some x by
          have := unhide HF2
          rw [if_pos (show gtB c x = true from decide_eq_true hcx)] at this; exact this)
        clear HF2
        go_wp2_with fail
        go_ret2
        refine ⟨?_, unhide HB⟩
        have e : R = ((x : Int), true) := by rw [← unhide HR]; unfold nextL; rw [unhide HF3]
        rw [e]; rfl
      · have HF3 := hide (show l.find? (gtB c) = (l.drop (j + 1)).find? (gtB c) by
          have := unhide HF2
          rw [if_neg (show ¬ gtB c x = true by unfold gtB; rw [decide_eq_false hcx]; decide)] at this; exact this)
        clear HF2
        go_wp2_with fail
        go_round
        case rel => exact ⟨j + 1, by omega, by go_num, HF3⟩
        case measure => simp [intOf]; omega
    · obtain rfl : j = l.length := by omega
      have HN := hide (show l.find? (gtB c) = none by
        have := unhide HF
        rw [List.drop_length] at this; exact this)
      clear HF
      cases l with
      | nil =>
        simp only [List.length_nil]
        go_wp2_with fail
        go_ret2
        refine ⟨?_, unhide HB⟩
        have e : R = (0, false) := by rw [← unhide HR]; rfl
        rw [e]; rfl
      | cons x r =>
        have hx := (unhide HLT) 0 (by simp)
        obtain ⟨g, rfl, hcell⟩ := (unhide HC) 0 _ (ints_at (x :: r) 0 (by simp))
        have hcell : w1.cell? ⟨g, 0, none⟩ = some (.int .i64 (x : Int)) := hcell
        have hr : (r.length + 1 : Int) ≠ 0 := by omega
        simp only [List.length_cons] at hl ⊢
        go_wp2_with fail
        go_ret2
        refine ⟨?_, unhide HB⟩
        have e : R = ((x : Int), true) := by rw [← unhide HR]; unfold nextL; rw [unhide HN]
        rw [e]; rfl
end Go.Proofs.YtjjdkkdnlnbedaaGreat.Mk


namespace Go.Proofs.YtjjdkkdnlnbedaaGreat.Mk
open Go.RowKit Mk

def oneN (c : Int) : Nat := if 0 ≤ c ∧ c < 16 then 2 ^ c.toNat else 0
theorem oneN_lt (c : Int) : oneN c < 65536 := by
  unfold oneN
  split
  · rename_i h
    exact Nat.lt_of_lt_of_le (Nat.pow_lt_pow_right (by omega) (show c.toNat < 16 by omega)) (by decide)
  · omega
theorem oneN_bit (c : Int) (k : Nat) (hk : k < 16) : (oneN c).testBit k = decide (c = (k : Int)) := by
  unfold oneN
  split
  · rename_i h
    rw [Nat.testBit_two_pow, decide_eq_decide]
    omega
  · rename_i h
    rw [Nat.zero_testBit]
    symm
    rw [decide_eq_false_iff_not]
    omega
theorem one_any (c : Int) (w : World) :
    Calls Tryz.prog 59 #[.int .i64 c] w fun e w' => e = .returned (.int .u32 (oneN c : Nat)) ∧ w' = w := by
  by_cases h : 0 ≤ c ∧ c < 16
  · obtain ⟨k, rfl⟩ := Int.eq_ofNat_of_zero_le h.1
    unfold oneN
    rw [if_pos h, Int.toNat_natCast]
    exact one_in k (by omega) w
  · unfold oneN
    rw [if_neg h]
    exact one_out c (by omega) w
/-- All but one. -/
def woN (M : Nat) (c : Int) : Nat := M % 65536 &&& (4294967295 - oneN c)
theorem woN_lt (M : Nat) (c : Int) : woN M c < 4294967296 := Nat.lt_of_le_of_lt Nat.and_le_left (by omega)
theorem woN_bit (M : Nat) (c : Int) (k : Nat) (hk : k < 16) : (woN M c).testBit k = (M.testBit k && !decide (c = (k : Int))) := by
  have h := oneN_lt c
  unfold woN
  rw [Nat.testBit_and, bit_mod M k hk, show 4294967295 - oneN c = 2 ^ 32 - (oneN c + 1) by omega, Nat.testBit_two_pow_sub_succ (by omega), oneN_bit c k hk, decide_eq_true (show k < 32 by omega), Bool.true_and]
theorem wo_list (M : Nat) (c : Int) : listOf (woN M c) = (listOf M).filter fun k : Nat => !decide (c = (k : Int)) := by
  unfold listOf
  rw [List.filter_filter]
  apply List.filter_congr
  intro k hk
  rw [woN_bit M c k (List.mem_range.1 hk), Bool.and_comm]
set_option maxHeartbeats 1000000 in
theorem without_any (M : Nat) (c : Int) (hM : M < 4294967296) (w : World) :
    Calls Tryz.prog 76 #[.int .u32 (M : Int), .int .i64 c] w fun e w' => e = .returned (.int .u32 (woN M c : Nat)) ∧ w' = w := by
  have C1 := fun w' => hide (one_any c w')
  have a1 := bits_and_u32 M 65535 hM (by omega)
  rw [show M &&& 65535 = M % 65536 from Nat.and_two_pow_sub_one_eq_mod M 16] at a1
  have h1 := oneN_lt c
  have a2 := u32_andNot_nat (M % 65536) (oneN c) (by omega) (by omega)
  have hw : woN M c = M % 65536 &&& (4294967295 - oneN c) := rfl
  rw [← hw] at a2
  clear hw
  generalize woN M c = W at *
  generalize oneN c = O at *
  generalize M % 65536 = Q at *
  have a1 : bits .and .u32 (M : Int) 65535 = (Q : Int) := a1
  go_enter Tryz.func76, Tryz.ntmps76
  go_wp2_with (go_at_call 59; refine (unhide (C1 _)).mono ?_; rintro e w' ⟨rfl, rfl⟩)
  go_ret
  exact ⟨by first | rfl | exact ret_int (by assumption), rfl⟩

/-- One by its place. -/
def pickL (l : List Nat) (n : Int) : Int × Bool := if l = [] then (0, false) else ((l.getD (n % (l.length : Int)).toNat 0 : Nat), true)
/-- A set of some. -/
def ofN (f : Nat → Int) : Nat → Nat
  | 0 => 0
  | k + 1 => ofN f k ||| oneN (f k)
theorem ofN_lt (f : Nat → Int) : ∀ k, ofN f k < 65536
  | 0 => by show 0 < 65536; omega
  | k + 1 => by
    have := ofN_lt f k
    have := oneN_lt (f k)
    show ofN f k ||| oneN (f k) < 2 ^ 16
    exact Nat.or_lt_two_pow (by omega) (by omega)
theorem ofN_bit (f : Nat → Int) (c : Nat) (hc : c < 16) : ∀ k, ((ofN f k).testBit c = true ↔ ∃ i, i < k ∧ f i = (c : Int))
  | 0 => by
    show Nat.testBit 0 c = true ↔ _
    simp
  | k + 1 => by
    show (ofN f k ||| oneN (f k)).testBit c = true ↔ _
    rw [Nat.testBit_or, Bool.or_eq_true, ofN_bit f c hc k, oneN_bit _ c hc, decide_eq_true_iff]
    constructor
    · rintro (⟨i, h1, h2⟩ | h)
      · exact ⟨i, by omega, h2⟩
      · exact ⟨k, by omega, h⟩
    · rintro ⟨i, h1, h2⟩
      by_cases e : i = k
      · subst e; exact .inr h2
      · exact .inl ⟨i, by omega, h2⟩
set_option maxHeartbeats 1000000 in
theorem of_any (p : Option Addr) (len cap : Nat) (f : Nat → Int) (w : World) (hl : len ≤ 1000000) (hc : ∀ i, i < len → ∃ x, p = some x ∧ w.cell? (x.add i) = some (.int .i64 (f i))) :
    Calls Tryz.prog 26 #[.slice p len cap] w fun e w' => e = .returned (.int .u32 (ofN f len : Nat)) ∧ w' = w := by
  have HC := hide hc
  clear hc
  go_enter Tryz.func26, Tryz.ntmps26
  go_wp2
  go_loop [3, 8] (fun m d => ∃ k q : Nat, k ≤ len ∧ q < 65536 ∧ d = .int .i64 (k : Int) ∧ m = .int .u32 (q : Int) ∧ Hid (q = ofN f k)) (fun _ d => len - (intOf d).toNat)
  case atStart => exact ⟨0, 0, by omega, by omega, rfl, rfl, hide rfl⟩
  case round =>
    obtain ⟨k, q, hk, hq, rfl, rfl, HQ⟩ := hrel
    by_cases hlt : k < len
    · obtain ⟨x, rfl, hcell⟩ := unhide HC k hlt
      have C1 := fun w' => hide (one_any (f k) w')
      have h1 := oneN_lt (f k)
      have a1 := bits_or_u32 q (oneN (f k)) (by omega) (by omega)
      have HQ2 := hide (show q ||| oneN (f k) = ofN f (k + 1) by rw [unhide HQ]; rfl)
      have hb : q ||| oneN (f k) < 65536 := by
        show q ||| oneN (f k) < 2 ^ 16
        exact Nat.or_lt_two_pow (by omega) (by omega)
      generalize q ||| oneN (f k) = q2 at *
      generalize oneN (f k) = O at *
      generalize f k = c at *
      go_wp2_with (go_at_call 59; refine (unhide (C1 _)).mono ?_; rintro e w' ⟨rfl, rfl⟩)
      go_round
      case rel => exact ⟨k + 1, q2, by omega, hb, by go_num, by first | rfl | simp, HQ2⟩
      case measure => simp [intOf]; omega
    · obtain rfl : k = len := by omega
      go_wp2
      go_ret
      exact ⟨by rw [← unhide HQ]; rfl, rfl⟩
end Go.Proofs.YtjjdkkdnlnbedaaGreat.Mk

