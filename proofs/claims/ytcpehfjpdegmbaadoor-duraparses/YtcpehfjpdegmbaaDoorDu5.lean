import Derived.Test.YtcpehfjpdegmbaaDoorDu4
namespace Go.Proofs.YtcpehfjpdegmbaaDoor
open Go.RowKit Kt Dg Du

theorem has_minus (l : List UInt8) : Lib.hasPrefix l [45] = decide (l.head? = some 45) := by
  cases l with
  | nil => rfl
  | cons c r =>
    show ([45] : List UInt8).isPrefixOf (c :: r) = _
    simp only [List.isPrefixOf, List.head?_cons, Option.some.injEq, Bool.and_true]
    rw [Bool.eq_iff_iff, decide_eq_true_iff, beq_iff_eq]
    exact ⟨fun h => h.symm, fun h => h.symm⟩
theorem cut_one (l : List UInt8) : (bs l).extract 1 l.length = bs l.tail := by
  rw [bs_cut, List.take_length, List.drop_one]
set_option maxHeartbeats 1000000 in
theorem cutl_minus (l : List UInt8) (w : World) (hl : l.length ≤ 1000000000) :
    Calls Tryd.prog 29 #[.string (bs l), .string ⟨#[45]⟩] w fun e w' => e = .returned (.tuple #[.string (bs (if l.head? = some 45 then l.tail else l)), .bool (decide (l.head? = some 45))]) ∧ w' = w := by
  have CH := fun w' => hide (Tryd.stringslite_HasPrefix (bs l) ⟨#[45]⟩ w')
  have hz := bs_size l
  have hx := cut_one l
  rw [bs_list, show (⟨#[45]⟩ : ByteArray).data.toList = [45] from rfl, has_minus] at CH
  by_cases h : l.head? = some 45
  · have h1 : 1 ≤ l.length := by
      cases l with
      | nil => simp at h
      | cons c r => simp
    rw [show decide (l.head? = some 45) = true from decide_eq_true h] at CH ⊢
    rw [if_pos h]
    clear h
    go_enter Tryd.func29, Tryd.ntmps29
    go_wp2_with (go_at_call 36; refine (unhide (CH _)).mono ?_; rintro e w' ⟨rfl, rfl⟩)
    go_ret2
    exact ⟨rfl, rfl⟩
  · rw [show decide (l.head? = some 45) = false from decide_eq_false h] at CH ⊢
    rw [if_neg h]
    clear h
    go_enter Tryd.func29, Tryd.ntmps29
    go_wp2_with (go_at_call 36; refine (unhide (CH _)).mono ?_; rintro e w' ⟨rfl, rfl⟩)
    go_ret2
    exact ⟨rfl, rfl⟩
set_option maxHeartbeats 1000000 in
theorem cut_minus (l : List UInt8) (w : World) (hl : l.length ≤ 1000000000) :
    Calls Tryd.prog 22 #[.string (bs l), .string ⟨#[45]⟩] w fun e w' => e = .returned (.tuple #[.string (bs (if l.head? = some 45 then l.tail else l)), .bool (decide (l.head? = some 45))]) ∧ w' = w := by
  have CH := fun w' => hide (cutl_minus l w' hl)
  generalize (if l.head? = some 45 then l.tail else l) = r at *
  generalize decide (l.head? = some 45) = b at *
  go_enter Tryd.func22, Tryd.ntmps22
  go_wp2_with (go_at_call 29; refine (unhide (CH _)).mono ?_; rintro e w' ⟨rfl, rfl⟩)
  go_ret2
  exact ⟨rfl, rfl⟩
set_option maxHeartbeats 1000000 in
theorem parse_any (l : List UInt8) (w : World) (ht : DTab w) (hl : l.length ≤ 1000000000) :
    Calls Tryd.prog 10 #[.string (bs l)] w fun e w' => e = .returned (.tuple #[.int .i64 (parseZ l).1, .bool (parseZ l).2]) ∧ Below w.heap.size w w' := by
  by_cases hn : l = neverL
  · have he : ((bs l).toList == [110, 101, 118, 101, 114]) = true := by rw [toL_eq, hn]; rfl
    have HZ := hide (show parseZ l = (4611686018427387903, true) by unfold parseZ; rw [if_pos hn])
    clear hn
    generalize parseZ l = Z at *
    go_enter Tryd.func10, Tryd.ntmps10
    go_wp2_with fail
    go_ret2
    exact ⟨by rw [unhide HZ]; rfl, Below.refl _ _⟩
  · have he : ((bs l).toList == [110, 101, 118, 101, 114]) = false := by rw [toL_eq, beq_eq_false_iff_ne]; exact hn
    have CC := fun w' => hide (cut_minus l w' hl)
    by_cases hm : l.head? = some 45
    · have CS := fun w' hw' => hide (sum_any l.tail w' hw' (by rw [List.length_tail]; omega))
      have hb := sum_bd l.tail
      have HZ := hide (show parseZ l = (-(sumZ l.tail).1, (sumZ l.tail).2) by unfold parseZ; rw [if_neg hn, if_pos hm])
      rw [show decide (l.head? = some 45) = true from decide_eq_true hm, if_pos hm] at CC
      clear hn hm
      generalize parseZ l = Z at *
      generalize sumZ l.tail = Y at *
      generalize l.tail = r at *
      obtain ⟨y, o⟩ := Y
      simp only at hb CS HZ
      go_enter Tryd.func10, Tryd.ntmps10
      go_wp2_with (first | (go_at_call 22; refine (unhide (CC _)).mono ?_; rintro e w' ⟨rfl, rfl⟩) | (go_at_call 23; refine (unhide (CS _ ht)).mono ?_; rintro e w1 ⟨rfl, hb1⟩))
      go_ret2
      exact ⟨by rw [unhide HZ]; rfl, by assumption⟩
    · have CS := fun w' hw' => hide (sum_any l w' hw' hl)
      have HZ := hide (show parseZ l = sumZ l by unfold parseZ; rw [if_neg hn, if_neg hm])
      rw [show decide (l.head? = some 45) = false from decide_eq_false hm, if_neg hm] at CC
      clear hn hm
      generalize parseZ l = Z at *
      generalize sumZ l = Y at *
      obtain ⟨y, o⟩ := Y
      simp only at CS HZ
      go_enter Tryd.func10, Tryd.ntmps10
      go_wp2_with (first | (go_at_call 22; refine (unhide (CC _)).mono ?_; rintro e w' ⟨rfl, rfl⟩) | (go_at_call 23; refine (unhide (CS _ ht)).mono ?_; rintro e w1 ⟨rfl, hb1⟩))
      go_ret2
      exact ⟨by rw [unhide HZ]; rfl, by assumption⟩
end Go.Proofs.YtcpehfjpdegmbaaDoor
