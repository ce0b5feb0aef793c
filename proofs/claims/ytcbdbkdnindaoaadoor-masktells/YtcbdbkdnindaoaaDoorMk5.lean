import Derived.Test.YtcbdbkdnindaoaaDoorMk4
import Derived.Test.YtcbdbkdnindaoaaDoorBs
import Derived.Test.YtcbdbkdnindaoaaDoorShelf
namespace Go.Proofs.YtcbdbkdnindaoaaDoor
open Go.RowKit Mk

theorem has_pred (M c : Nat) (hc : c < 16) : hasB M ((c : Int) - 1) = (decide (1 ≤ c) && M.testBit (c - 1)) := by
  unfold hasB
  by_cases h : 1 ≤ c
  · rw [decide_eq_true (show 0 ≤ (c : Int) - 1 ∧ (c : Int) - 1 < 16 by omega), decide_eq_true h, show ((c : Int) - 1).toNat = c - 1 by omega]
  · rw [decide_eq_false (show ¬ (0 ≤ (c : Int) - 1 ∧ (c : Int) - 1 < 16) by omega), decide_eq_false h]; rfl
theorem has_succ (M c : Nat) : hasB M ((c : Int) + 1) = (decide (c + 1 < 16) && M.testBit (c + 1)) := by
  unfold hasB
  by_cases h : c + 1 < 16
  · rw [decide_eq_true (show 0 ≤ (c : Int) + 1 ∧ (c : Int) + 1 < 16 by omega), decide_eq_true h, show ((c : Int) + 1).toNat = c + 1 by omega]
  · rw [decide_eq_false (show ¬ (0 ≤ (c : Int) + 1 ∧ (c : Int) + 1 < 16) by omega), decide_eq_false h]; rfl
theorem addT_eq (M : Nat) (T : List UInt8) (c : Nat) (hc : c < 16) : addT M T c = if hasB M ((c : Int) - 1) = false then (if T = [] then dec c else T ++ 44 :: dec c) else if hasB M ((c : Int) + 1) = false then T ++ 45 :: dec c else T := by
  rw [has_pred M c hc, has_succ]; rfl
theorem bs_emp (T : List UInt8) : ((bs T).toList == []) = decide (T = []) := by
  rw [ByteArray.toList_eq, bs_list]
  cases T <;> rfl
theorem dec_len (c : Nat) (hc : c < 100) : (dec c).length ≤ 2 := by
  unfold dec
  by_cases h : c < 10
  · rw [Lib.decDigits_one h]; simp
  · rw [Lib.decDigits, dif_neg h, Lib.decDigits_one (by omega)]; simp
theorem step_len (M : Nat) (T : List UInt8) (c : Nat) (hc : c < 16) : (addT M T c).length ≤ T.length + 3 := by
  have := dec_len c (by omega)
  unfold addT
  split
  · split <;> simp <;> omega
  · split <;> simp <;> omega
theorem fold_len (M : Nat) : ∀ (l : List Nat) (T : List UInt8), (∀ c ∈ l, c < 16) → (l.foldl (addT M) T).length ≤ T.length + 3 * l.length
  | [], T, _ => by simp
  | c :: r, T, h => by
    have h1 := step_len M T c (h c (by simp))
    have h2 := fold_len M r (addT M T c) fun x hx => h x (by simp [hx])
    rw [List.foldl_cons, List.length_cons]
    omega
theorem text_len (M : Nat) : (textOf M).length ≤ 48 := by
  have h := fold_len M (listOf M) [] fun c hc => ((mem_list M c).1 hc).1
  have h2 := listOf_len M
  unfold textOf
  split
  · simp
  · unfold foldT; simp at h; omega
set_option maxHeartbeats 2000000 in
theorem string_any (M : Nat) (hM : M < 4294967296) (w : World) :
    Calls Tryd.prog 15 #[.int .u32 (M : Int)] w fun e w' => e = .returned (.string (bs (textOf M))) ∧ Below w.heap.size w w' := by
  have C1 := fun w' => hide (list_any M hM w')
  have C2 := fun c w' => hide (has_any M c hM w')
  have C3 := fun i hi w' => hide (Tryd.strconv_Itoa_small i hi w')
  have HLT := hide (list_lt M)
  have hl := listOf_len M
  have HT := hide (show textOf M = if (listOf M).foldl (addT M) [] = [] then [45] else (listOf M).foldl (addT M) [] from rfl)
  have HFL := hide (fun j => fold_len M ((listOf M).take j) [] fun c hc => ((mem_list M c).1 (List.mem_of_mem_take hc)).1)
  have HSE := hide (addT_eq M)
  generalize textOf M = R at *
  generalize listOf M = l at *
  generalize addT M = st at *
  go_enter Tryd.func15, Tryd.ntmps15
  go_wp2_with (go_at_call 8; refine Hid.out ?_)
  refine hide ?_
  refine (unhide (C1 _)).mono ?_
  rintro e w1 ⟨v, rfl, r1, b1⟩
  obtain ⟨a, cap, rfl, hc⟩ := r1.form
  have HC := hide hc
  have HB := hide b1
  rw [ints_len]
  clear r1 b1 C1 hc
  go_wp2_with fail
  go_loop [3, 11] (fun t d => ∃ (j : Nat) (T : List UInt8), j ≤ l.length ∧ d = .int .i64 (j : Int) ∧ t = .string (bs T) ∧ Hid (T = (l.take j).foldl st [])) (fun _ d => 16 - (intOf d).toNat)
  case atStart => exact ⟨0, [], by omega, rfl, rfl, hide rfl⟩
  case round =>
    obtain ⟨j, T, hj, rfl, rfl, HT1⟩ := hrel
    by_cases hlt : j < l.length
    · have hx := (unhide HLT) j hlt
      obtain ⟨g, rfl, hcell⟩ := (unhide HC) j _ (ints_at l j hlt)
      have hstep : (l.take (j + 1)).foldl st [] = st T l[j] := by
        rw [List.take_succ_eq_append_getElem hlt, List.foldl_append, ← unhide HT1]; rfl
      rw [unhide HSE T _ hx] at hstep
      have hTl : T.length ≤ 48 := by
        have := unhide HFL j
        rw [← unhide HT1] at this
        have h2 : (l.take j).length ≤ j := List.length_take_le _ _
        simp at this
        omega
      have hz := bs_size T
      generalize l[j] = x at *
      have C3 := fun w' => C3 x (by omega) w'
      have C2a := C2 ((x : Int) - 1)
      have C2b := C2 ((x : Int) + 1)
      have HST := hide hstep
      have he := bs_emp T
      have hd2 := dec_len x (by omega)
      have C3 : ∀ w', Hid (Calls Tryd.prog 22 #[.int .i64 (x : Int)] w' fun e w'_1 => e = .returned (.string (bs (dec x))) ∧ w'_1 = w') := C3
      have hj1 : (⟨#[44]⟩ : ByteArray) ++ bs (dec x) = bs (44 :: dec x) := bs_join [44] (dec x)
      have hj2 : (⟨#[45]⟩ : ByteArray) ++ bs (dec x) = bs (45 :: dec x) := bs_join [45] (dec x)
      have hj3 : bs T ++ bs (44 :: dec x) = bs (T ++ 44 :: dec x) := bs_join _ _
      have hj4 : bs T ++ bs (45 :: dec x) = bs (T ++ 45 :: dec x) := bs_join _ _
      have hz1 := bs_size (dec x)
      have hz2 := bs_size (44 :: dec x)
      have hz3 := bs_size (45 :: dec x)
      simp only [List.length_cons] at hz2 hz3
      clear hstep C2 HT1
      generalize dec x = dx at *
      cases hb1 : hasB M ((x : Int) - 1)
      · rw [hb1] at C2a HST
        rw [if_pos rfl] at HST
        by_cases hT : T = []
        · rw [if_pos hT] at HST
          rw [decide_eq_true hT] at he
          generalize hasB M ((x : Int) + 1) = b2 at *
          clear hb1 hT
          go_wp2_with (first | (go_at_call 14; first | (with_reducible refine (unhide (C2a _)).mono ?_) | (with_reducible refine (unhide (C2b _)).mono ?_); rintro e w' ⟨rfl, rfl⟩) | (go_at_call 22; refine (unhide (C3 _)).mono ?_; rintro e w' ⟨rfl, rfl⟩))
          go_round
          case rel => exact ⟨j + 1, dx, by omega, by go_num, rfl, hide (unhide HST).symm⟩
          case measure => simp [intOf]; omega
        · rw [if_neg hT] at HST
          rw [decide_eq_false hT] at he
          generalize hasB M ((x : Int) + 1) = b2 at *
          clear hb1 hT
          go_wp2_with (first | (go_at_call 14; first | (with_reducible refine (unhide (C2a _)).mono ?_) | (with_reducible refine (unhide (C2b _)).mono ?_); rintro e w' ⟨rfl, rfl⟩) | (go_at_call 22; refine (unhide (C3 _)).mono ?_; rintro e w' ⟨rfl, rfl⟩))
          go_round
          case rel => exact ⟨j + 1, T ++ 44 :: dx, by omega, by go_num, rfl, hide (unhide HST).symm⟩
          case measure => simp [intOf]; omega
      · rw [hb1] at C2a HST
        rw [if_neg (by decide)] at HST
        cases hb2 : hasB M ((x : Int) + 1)
        · rw [hb2] at C2b HST
          rw [if_pos rfl] at HST
          clear hb1 hb2
          go_wp2_with (first | (go_at_call 14; first | (with_reducible refine (unhide (C2a _)).mono ?_) | (with_reducible refine (unhide (C2b _)).mono ?_); rintro e w' ⟨rfl, rfl⟩) | (go_at_call 22; refine (unhide (C3 _)).mono ?_; rintro e w' ⟨rfl, rfl⟩))
          go_round
          case rel => exact ⟨j + 1, T ++ 45 :: dx, by omega, by go_num, rfl, hide (unhide HST).symm⟩
          case measure => simp [intOf]; omega
        · rw [hb2] at C2b HST
          rw [if_neg (by decide)] at HST
          clear hb1 hb2
          go_wp2_with (first | (go_at_call 14; first | (with_reducible refine (unhide (C2a _)).mono ?_) | (with_reducible refine (unhide (C2b _)).mono ?_); rintro e w' ⟨rfl, rfl⟩) | (go_at_call 22; refine (unhide (C3 _)).mono ?_; rintro e w' ⟨rfl, rfl⟩))
          go_round
          case rel => exact ⟨j + 1, T, by omega, by go_num, rfl, hide (unhide HST).symm⟩
          case measure => simp [intOf]; omega
    · obtain rfl : j = l.length := by omega
      have HT1 := hide (show T = l.foldl st [] by have := unhide HT1; rw [List.take_length] at this; exact this)
      have HT2 := hide (show R = if T = [] then [45] else T by rw [unhide HT1]; exact unhide HT)
      have he := bs_emp T
      by_cases hT : T = []
      · rw [decide_eq_true hT] at he
        have HR := hide (show R = [45] by rw [unhide HT2, if_pos hT])
        clear hT HT2 HT1 HT
        go_wp2
        go_ret
        exact ⟨by rw [unhide HR]; rfl, unhide HB⟩
      · rw [decide_eq_false hT] at he
        have HR := hide (show R = T by rw [unhide HT2, if_neg hT])
        clear hT HT2 HT1 HT
        go_wp2
        go_ret
        exact ⟨by rw [unhide HR]; rfl, unhide HB⟩
end Go.Proofs.YtcbdbkdnindaoaaDoor
