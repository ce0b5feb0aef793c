import Derived.Test.YtcbdbkdnindaoaaDoorMk2
import Derived.Laws.BitsAllLaws
namespace Go.Proofs.YtcbdbkdnindaoaaDoor
open Go.RowKit Mk

def gtB (c : Int) (k : Nat) : Bool := decide (c < (k : Int))
/-- The next one, round. -/
def nextL (l : List Nat) (c : Int) : Int × Bool :=
  match l.find? (gtB c) with
  | some k => ((k : Int), true)
  | none => match l with
    | [] => (0, false)
    | k :: _ => ((k : Int), true)
theorem find_drop (l : List Nat) (p : Nat → Bool) (j : Nat) (hj : j < l.length) : (l.drop j).find? p = if p (l[j]'hj) = true then some (l[j]'hj) else (l.drop (j + 1)).find? p := by
  rw [List.drop_eq_getElem_cons hj, List.find?_cons]
  cases p l[j] <;> rfl
theorem list_lt (M : Nat) (j : Nat) (h : j < (listOf M).length) : (listOf M)[j] < 16 := ((mem_list M _).1 (List.getElem_mem h)).1
set_option maxHeartbeats 1000000 in
theorem next_any (M : Nat) (c : Int) (hM : M < 4294967296) (w : World) :
    Calls Tryd.prog 11 #[.int .u32 (M : Int), .int .i64 c] w fun e w' => e = .returned (.tuple #[.int .i64 (nextL (listOf M) c).1, .bool (nextL (listOf M) c).2]) ∧ Below w.heap.size w w' := by
  have C1 := fun w' => hide (list_any M hM w')
  have HLT := hide (list_lt M)
  have hl := listOf_len M
  generalize listOf M = l at *
  obtain ⟨R, hR⟩ : ∃ R, nextL l c = R := ⟨_, rfl⟩
  rw [hR]
  have HR := hide hR
  clear hR
  go_enter Tryd.func11, Tryd.ntmps11
  go_wp2_with (go_at_call 8; refine Hid.out ?_)
  refine hide ?_
  refine (unhide (C1 _)).mono ?_
  rintro e w1 ⟨v, rfl, r1, b1⟩
  obtain ⟨a, cap, rfl, hc⟩ := r1.form
  have HC := hide hc
  have HB := hide b1
  rw [ints_len]
  clear r1 b1 C1 hc
  go_wp2_with fail
  go_loop [13] (fun d => ∃ j : Nat, j ≤ l.length ∧ d = .int .i64 (j : Int) ∧ Hid (l.find? (gtB c) = (l.drop j).find? (gtB c))) (fun d => 16 - (intOf d).toNat)
  case atStart => exact ⟨0, by omega, rfl, hide rfl⟩
  case round =>
    obtain ⟨j, hj, rfl, HF⟩ := hrel
    by_cases hlt : j < l.length
    · have hx := (unhide HLT) j hlt
      obtain ⟨g, rfl, hcell⟩ := (unhide HC) j _ (ints_at l j hlt)
      have hf := find_drop l (gtB c) j hlt
      rw [← unhide HF] at hf
      have HF2 := hide hf
      have HX := hide (show l[j] = l[j] from rfl)
      clear hf HF
      generalize hxe : l[j] = x at *
      by_cases hcx : c < (x : Int)
      · have HF3 := hide (show l.find? (gtB c) = some x by
          have := unhide HF2
          rw [if_pos (show gtB c x = true from decide_eq_true hcx)] at this; exact this)
        clear HF2
        go_wp2_with fail
        go_ret2
        refine ⟨?_, unhide HB⟩
        have e : R = ((x : Int), true) := by rw [← unhide HR]; unfold nextL; rw [unhide HF3]
        rw [e]; rfl
      · have HF3 := hide (show l.find? (gtB c) = (l.drop (j + 1)).find? (gtB c) by
          have := unhide HF2
          rw [if_neg (show ¬ gtB c x = true by unfold gtB; rw [decide_eq_false hcx]; decide)] at this; exact this)
        clear HF2
        go_wp2_with fail
        go_round
        case rel => exact ⟨j + 1, by omega, by go_num, HF3⟩
        case measure => simp [intOf]; omega
    · obtain rfl : j = l.length := by omega
      have HN := hide (show l.find? (gtB c) = none by
        have := unhide HF
        rw [List.drop_length] at this; exact this)
      clear HF
      cases l with
      | nil =>
        simp only [List.length_nil]
        go_wp2_with fail
        go_ret2
        refine ⟨?_, unhide HB⟩
        have e : R = (0, false) := by rw [← unhide HR]; rfl
        rw [e]; rfl
      | cons x r =>
        have hx := (unhide HLT) 0 (by simp)
        obtain ⟨g, rfl, hcell⟩ := (unhide HC) 0 _ (ints_at (x :: r) 0 (by simp))
        have hcell : w1.cell? ⟨g, 0, none⟩ = some (.int .i64 (x : Int)) := hcell
        have hr : (r.length + 1 : Int) ≠ 0 := by omega
        simp only [List.length_cons] at hl ⊢
        go_wp2_with fail
        go_ret2
        refine ⟨?_, unhide HB⟩
        have e : R = ((x : Int), true) := by rw [← unhide HR]; unfold nextL; rw [unhide HN]
        rw [e]; rfl
theorem first_any (M : Nat) (hM : M < 4294967296) (w : World) :
    Calls Tryd.prog 10 #[.int .u32 (M : Int)] w fun e w' => e = .returned (.tuple #[.int .i64 (nextL (listOf M) (-1)).1, .bool (nextL (listOf M) (-1)).2]) ∧ Below w.heap.size w w' := by
  have C1 := fun w' => hide (next_any M (-1) hM w')
  generalize nextL (listOf M) (-1) = R at *
  go_enter Tryd.func10, Tryd.ntmps10
  go_wp2_with (go_at_call 11; refine (unhide (C1 _)).mono ?_; rintro e w1 ⟨rfl, hb⟩)
  go_ret2
  exact ⟨rfl, hb⟩
end Go.Proofs.YtcbdbkdnindaoaaDoor
