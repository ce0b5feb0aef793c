import Derived.Test.YtihahbmmipnclaaDoorSp2
namespace Go.Proofs.YtihahbmmipnclaaDoor
open Go.RowKit Kt Dg

/-- Whether there is a zero in front. -/
def padB (l : List UInt8) : Bool := decide (1 < l.length) && (l.head? == some 48)
theorem byte_eq (c : UInt8) (n : Nat) (hn : n < 256) : (((c.toNat : Nat) : Int) == (n : Int)) = (c == UInt8.ofNat n) := by
  rw [Bool.eq_iff_iff, beq_iff_eq, beq_iff_eq]
  constructor
  · intro h
    apply UInt8.toNat_inj.1
    rw [UInt8.toNat_ofNat', Nat.mod_eq_of_lt hn]
    omega
  · intro h
    rw [h, UInt8.toNat_ofNat', Nat.mod_eq_of_lt hn]
set_option maxHeartbeats 400000 in
theorem spadded_any (s : ByteArray) (w : World) (hs : s.size ≤ 9223372036854775807) :
    Calls Tryd.prog 27 #[.string s] w fun e w' => e = .returned (.bool (padB s.data.toList)) ∧ w' = w := by
  by_cases h : 1 < s.size
  · have hh : s.data.toList.head? = some s[0] := by
      rw [List.head?_eq_getElem?]
      exact List.getElem?_eq_getElem (l := s.data.toList) (i := 0) (by simpa using (by omega : 0 < s.size))
    have HB := hide (show padB s.data.toList = (s[0] == 48) by
      unfold padB
      rw [hh, show decide (1 < s.data.toList.length) = true from by simpa using h]
      rfl)
    clear hh
    go_enter Tryd.func27, Tryd.ntmps27
    go_wp2
    go_ret
    refine ⟨ret_bool ?_, rfl⟩
    rw [unhide HB]
    exact byte_eq _ 48 (by decide)
  · have HB := hide (show padB s.data.toList = false by unfold padB; rw [show decide (1 < s.data.toList.length) = false from by simpa using h]; rfl)
    go_enter Tryd.func27, Tryd.ntmps27
    go_wp2
    go_ret
    exact ⟨ret_bool (unhide HB).symm, rfl⟩

theorem drop_byte (s : ByteArray) (k : Nat) (h : k < s.size) : s.data.toList.drop k = s[k] :: s.data.toList.drop (k + 1) := by
  rw [List.drop_eq_getElem_cons (by simpa using h)]; rfl
theorem num_yes (s : ByteArray) (k a : Nat) (h : k < s.size) (h1 : 48 ≤ s[k].toNat) (h2 : s[k].toNat ≤ 57) : numL (s.data.toList.drop k) a = numL (s.data.toList.drop (k + 1)) (a * 10 + (s[k].toNat - 48)) := by
  rw [drop_byte s k h, numL, if_pos ⟨h1, h2⟩]
theorem num_no (s : ByteArray) (k a : Nat) (h : k < s.size) (h1 : ¬ (48 ≤ s[k].toNat ∧ s[k].toNat ≤ 57)) : numL (s.data.toList.drop k) a = none := by
  rw [drop_byte s k h, numL, if_neg h1]
theorem pow_18 {k : Nat} (h : k ≤ 18) : 10 ^ k ≤ 1000000000000000000 := Nat.pow_le_pow_right (n := 10) (by omega) h
theorem pow_17 {k : Nat} (h : k ≤ 17) : 10 ^ k ≤ 100000000000000000 := Nat.pow_le_pow_right (n := 10) (by omega) h
/-- What the digits of a short text tell. -/
def numV (l : List UInt8) : Int := match numL l 0 with | some v => (v : Int) | none => 0
def numOk (l : List UInt8) : Bool := (numL l 0).isSome && !l.isEmpty

set_option maxRecDepth 1000000 in
set_option maxHeartbeats 1000000 in
theorem snumber_any (s : ByteArray) (w : World) (hs : s.size ≤ 18) :
    Calls Tryd.prog 28 #[.string s] w fun e w' => e = .returned (.tuple #[.int .i64 (numV s.data.toList), .bool (numOk s.data.toList)]) ∧ Below w.heap.size w w' := by
  go_enter Tryd.func28, Tryd.ntmps28
  go_wp2
  go_loopw [4] (fun n w' => ∃ (pos acc : Nat), w' = w.iter s pos ∧ n = .int .i64 (acc : Int) ∧ pos ≤ s.size ∧ acc < 10 ^ pos ∧ Hid (numL (s.data.toList.drop pos) acc = numL s.data.toList 0)) (fun _ w' => s.size - w'.iterPos w.heap.size)
  case atStart => exact ⟨0, 0, rfl, rfl, by omega, by decide, rfl⟩
  case round =>
    obtain ⟨pos, acc, rfl, rfl, hp, ha, HI⟩ := hrel
    by_cases hlt : pos < s.size
    · have hnx : ∀ ty, (Instr.next (.pointer (some ⟨w.heap.size, 0, none⟩)) true ty).run Tryd.prog (w.iter s pos) = _ := fun ty => run_next_any w s pos ty hlt
      have hb17 := pow_17 (show pos ≤ 17 by omega)
      by_cases hd : 48 ≤ s[pos].toNat ∧ s[pos].toNat ≤ 57
      · rw [decode_ascii s pos hlt (by omega)] at hnx
        have HS := hide (num_yes s pos acc hlt hd.1 hd.2)
        have h48 : (48 : Int) ≤ (s[pos].toNat : Int) := by omega
        have h57 : (s[pos].toNat : Int) ≤ 57 := by omega
        have hpw : 10 ^ (pos + 1) = 10 ^ pos * 10 := Nat.pow_succ 10 pos
        have HP := hide hpw
        clear hpw
        go_wp2
        go_roundw
        case rel => exact ⟨pos + 1, acc * 10 + (s[pos].toNat - 48), rfl, by go_num, by omega, by rw [unhide HP]; omega, hide (by rw [← unhide HS]; exact unhide HI)⟩
        case measure => simp; omega
      · have hN := hide (show numL s.data.toList 0 = none from by rw [← unhide HI]; exact num_no s pos acc hlt hd)
        have hw : (Utf8.decode s pos).1 < 48 ∨ 57 < (Utf8.decode s pos).1 := by
          by_cases h128 : s[pos].toNat < 128
          · rw [decode_ascii s pos hlt h128]; simp only; omega
          · have := (decode_high s pos hlt (by omega)).1; omega
        rcases hw with hw | hw
        all_goals
          go_wp2
          go_ret2
          refine ⟨?_, (Below.refl _ _).alloc (Nat.le_refl _) _⟩
          have e1 : numV s.data.toList = 0 := by unfold numV; rw [unhide hN]
          have e2 : numOk s.data.toList = false := by unfold numOk; rw [unhide hN]; rfl
          rw [e1, e2]
          rfl
    · have hnx : ∀ ty, (Instr.next (.pointer (some ⟨w.heap.size, 0, none⟩)) true ty).run Tryd.prog (w.iter s pos) = _ := fun ty => run_next_end w s pos ty hlt
      have hN := hide (show numL s.data.toList 0 = some acc from by rw [← unhide HI, List.drop_eq_nil_of_le (by simp; omega)]; rfl)
      have e1 := hide (show numV s.data.toList = (acc : Int) by unfold numV; rw [unhide hN])
      have e2 := hide (show numOk s.data.toList = !s.toList.isEmpty by unfold numOk; rw [unhide hN, ByteArray.toList_eq]; rfl)
      go_wp2
      go_ret2
      refine ⟨?_, (Below.refl _ _).alloc (Nat.le_refl _) _⟩
      rw [unhide e1, unhide e2]
      rfl

/-- What the document's reader tells of a text: -1, if it isn't digits alone, or too long. -/
def rnumV (l : List UInt8) : Int := if l = [] ∨ 18 < l.length then -1 else match numL l 0 with | some v => (v : Int) | none => -1
theorem wrap64_byte' (c : UInt8) : wrap64 (c.toNat : Int) = (c.toNat : Int) := by
  have := c.toNat_lt
  exact IntWalk.wrap64_in _ ⟨by omega, by omega⟩

set_option maxRecDepth 1000000 in
set_option maxHeartbeats 1000000 in
theorem rnumber_any (s : ByteArray) (w : World) (hs : s.size ≤ 9223372036854775807) :
    Calls Tryd.prog 29 #[.string s] w fun e w' => e = .returned (.int .i64 (rnumV s.data.toList)) ∧ w' = w := by
  have hl : s.data.toList.length = s.size := by simp
  by_cases h0 : s.size = 0
  · have he : s.toList.isEmpty = true := by rw [ByteArray.toList_eq, List.isEmpty_iff]; exact List.eq_nil_of_length_eq_zero (by omega)
    have HB := hide (show rnumV s.data.toList = -1 by unfold rnumV; rw [if_pos (.inl (List.eq_nil_of_length_eq_zero (by omega)))])
    clear hl
    go_enter Tryd.func29, Tryd.ntmps29
    go_wp2
    go_ret
    exact ⟨ret_int (unhide HB).symm, rfl⟩
  have he : s.toList.isEmpty = false := by
    rw [ByteArray.toList_eq, List.isEmpty_eq_false_iff]
    intro e; rw [e] at hl; exact h0 hl.symm
  by_cases h18 : 18 < s.size
  · have HB := hide (show rnumV s.data.toList = -1 by unfold rnumV; rw [if_pos (.inr (by omega))])
    clear hl
    go_enter Tryd.func29, Tryd.ntmps29
    go_wp2
    go_ret
    exact ⟨ret_int (unhide HB).symm, rfl⟩
  have HV := hide (show rnumV s.data.toList = (match numL s.data.toList 0 with | some v => (v : Int) | none => -1) by
    unfold rnumV; rw [if_neg (by intro h; rcases h with h | h; (rw [h] at hl; exact h0 hl.symm); omega)])
  clear hl
  go_enter Tryd.func29, Tryd.ntmps29
  go_wp2
  go_loop [3, 4] (fun n i => ∃ (pos acc : Nat), i = .int .i64 (pos : Int) ∧ n = .int .i64 (acc : Int) ∧ pos ≤ s.size ∧ acc < 10 ^ pos ∧ Hid (numL (s.data.toList.drop pos) acc = numL s.data.toList 0)) (fun _ i => s.size - (intOf i).toNat)
  case atStart => exact ⟨0, 0, rfl, rfl, by omega, by decide, rfl⟩
  case round =>
    obtain ⟨pos, acc, rfl, rfl, hp, ha, HI⟩ := hrel
    by_cases hlt : pos < s.size
    · have hb17 := pow_17 (show pos ≤ 17 by omega)
      by_cases hd : 48 ≤ s[pos].toNat ∧ s[pos].toNat ≤ 57
      · have HS := hide (num_yes s pos acc hlt hd.1 hd.2)
        have h48 : (48 : Int) ≤ (s[pos].toNat : Int) := by omega
        have h57 : (s[pos].toNat : Int) ≤ 57 := by omega
        have hpw : 10 ^ (pos + 1) = 10 ^ pos * 10 := Nat.pow_succ 10 pos
        have HP := hide hpw
        clear hpw
        go_wp2
        go_round
        case rel => exact ⟨pos + 1, acc * 10 + (s[pos].toNat - 48), by go_num, by go_num, by omega, by rw [unhide HP]; omega, hide (by rw [← unhide HS]; exact unhide HI)⟩
        case measure => simp [intOf]; omega
      · have hN := hide (show rnumV s.data.toList = -1 from by rw [unhide HV, ← unhide HI, num_no s pos acc hlt hd])
        have hw : (s[pos].toNat : Int) < 48 ∨ 57 < (s[pos].toNat : Int) := by omega
        rcases hw with hw | hw
        all_goals
          go_wp2
          go_ret
          exact ⟨ret_int (unhide hN).symm, rfl⟩
    · have hN := hide (show rnumV s.data.toList = (acc : Int) from by rw [unhide HV, ← unhide HI, List.drop_eq_nil_of_le (by simp; omega)]; rfl)
      go_wp2
      go_ret
      exact ⟨ret_int (unhide hN).symm, rfl⟩
end Go.Proofs.YtihahbmmipnclaaDoor
