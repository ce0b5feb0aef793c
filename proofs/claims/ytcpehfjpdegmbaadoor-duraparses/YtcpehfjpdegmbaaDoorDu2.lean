import Derived.Test.YtcpehfjpdegmbaaDoorDu
namespace Go.Proofs.YtcpehfjpdegmbaaDoor
open Go.RowKit Kt Dg Du

def unitsV : Value := .agg #[.int .i64 86400000000000, .int .i64 3600000000000, .int .i64 60000000000, .int .i64 1000000000, .int .i64 1000000, .int .i64 1000, .int .i64 1]
set_option maxHeartbeats 400000 in
theorem units_any (w : World) :
    Calls Tryd.prog 16 #[] w fun e w' => e = .returned unitsV ∧ Below w.heap.size w w' := by
  go_enter Tryd.func16, Tryd.ntmps16
  go_wp2_with fail
  exact bodyPost_ret (v := unitsV) (by simp [results, Tryd.results16, go_sem, unitsV]) rfl ⟨rfl, below1 _ _⟩
theorem take_tw (p : UInt8 → Bool) : ∀ l : List UInt8, l.take (l.takeWhile p).length = l.takeWhile p
  | [] => rfl
  | c :: r => by
    rw [List.takeWhile_cons]
    split
    · rw [List.length_cons, List.take_succ_cons, take_tw p r]
    · rfl
theorem drop_tw (p : UInt8 → Bool) : ∀ l : List UInt8, l.drop (l.takeWhile p).length = l.dropWhile p
  | [] => rfl
  | c :: r => by
    rw [List.takeWhile_cons, List.dropWhile_cons]
    split
    · rw [List.length_cons, List.drop_succ_cons, drop_tw p r]
    · rfl
theorem tw_le (p : UInt8 → Bool) (l : List UInt8) : (l.takeWhile p).length ≤ l.length := by
  have := congrArg List.length (List.takeWhile_append_dropWhile (p := p) (l := l))
  rw [List.length_append] at this; omega
theorem be_le (l : List UInt8) : (be l).length ≤ l.length := by
  have := congrArg List.length (split_be l)
  rw [List.length_append] at this; omega
theorem rs_le (l : List UInt8) : (rs l).length ≤ l.length := by
  have := congrArg List.length (split_nm l)
  have h2 := be_le l
  rw [List.length_append] at this; omega
theorem cut_dg (l : List UInt8) : (bs l).extract 0 (dg l).length = bs (dg l) := by
  rw [bs_cut, List.drop_zero]; congr 1; exact take_tw isD l
theorem cut_be (l : List UInt8) : (bs l).extract (dg l).length l.length = bs (be l) := by
  rw [bs_cut, List.take_length]; congr 1; exact drop_tw isD l
theorem cut_nm (l : List UInt8) : (bs (be l)).extract 0 (nm l).length = bs (nm l) := by
  rw [bs_cut, List.drop_zero]; congr 1; exact take_tw notD (be l)
theorem cut_rs (l : List UInt8) : (bs (be l)).extract (nm l).length (be l).length = bs (rs l) := by
  rw [bs_cut, List.take_length]; congr 1; exact drop_tw notD (be l)
set_option maxHeartbeats 1000000 in
theorem first_any (l : List UInt8) (w : World) (hs : l.length ≤ 1000000000) :
    Calls Tryd.prog 30 #[.string (bs l)] w fun e w' => e = .returned (.tuple #[.string (bs (dg l)), .string (bs (nm l)), .string (bs (rs l))]) ∧ Below w.heap.size w w' := by
  have z1 := bs_size l
  have z2 := bs_size (dg l)
  have z3 := bs_size (be l)
  have z4 := bs_size (nm l)
  have l1 : (dg l).length ≤ l.length := tw_le isD l
  have l2 : (nm l).length ≤ (be l).length := tw_le notD (be l)
  have l3 := be_le l
  have x1 := cut_dg l
  have x2 := cut_be l
  have x3 := cut_nm l
  have x4 := cut_rs l
  have C1 := hide (run_any l true w hs)
  have C2 := hide (run_any (be l) false w (by omega))
  rw [tw_dg] at C1
  rw [tw_not, show (be l).takeWhile notD = nm l from rfl] at C2
  generalize dg l = D at *
  generalize nm l = M at *
  generalize rs l = R at *
  generalize be l = B at *
  go_enter Tryd.func30, Tryd.ntmps30
  go_wp2_with (first | (go_at_call 37; with_reducible refine (unhide C1).mono ?_; rintro e w' ⟨rfl, rfl⟩) | (go_at_call 37; with_reducible refine (unhide C2).mono ?_; rintro e w' ⟨rfl, rfl⟩))
  go_quiet (fail)
  go_wp2_with fail
  exact bodyPost_ret (v := .tuple #[.string (bs D), .string (bs M), .string (bs R)]) (by simp [results, Tryd.results30, go_sem]) rfl ⟨rfl, below_drewN _ _⟩
theorem bs_ne {a b : List UInt8} (h : a ≠ b) : ((bs a).toList == (bs b).toList) = false := by
  rw [bs_eq, beq_eq_false_iff_ne]; exact h
theorem toL_eq (a : List UInt8) : (bs a).toList = a := by rw [ByteArray.toList_eq, bs_list]
set_option maxHeartbeats 1000000 in
theorem written_any (l : List UInt8) (w : World) (hs : l.length ≤ 1000000000) :
    Calls Tryd.prog 31 #[.string (bs l)] w fun e w' => e = .returned (.bool (writtenB l)) ∧ w' = w := by
  have hz := bs_size l
  have ht := toL_eq l
  have h0 : ∀ h : 0 < (bs l).size, l.head? = some ((bs l)[0]'h) := by
    intro h
    cases l with
    | nil => simp [bs_size] at h
    | cons a r => rfl
  generalize bs l = s at *
  by_cases hn : l = []
  · have he : s.toList.isEmpty = true := by rw [ht, hn]; rfl
    have HB := hide (show writtenB l = false by rw [hn]; rfl)
    clear hz ht h0 hn hs
    go_enter Tryd.func31, Tryd.ntmps31
    go_wp2_with fail
    go_ret
    exact ⟨ret_bool (unhide HB).symm, rfl⟩
  have he : s.toList.isEmpty = false := by rw [ht, List.isEmpty_eq_false_iff]; exact hn
  by_cases h18 : 18 < s.size
  · have HB := hide (show writtenB l = false by
      unfold writtenB; rw [show decide (l.length ≤ 18) = false from decide_eq_false (by omega)]; simp)
    clear hz ht h0 hn
    go_enter Tryd.func31, Tryd.ntmps31
    go_wp2_with fail
    go_ret
    exact ⟨ret_bool (unhide HB).symm, rfl⟩
  by_cases h1 : l = [48]
  · have HB := hide (show writtenB l = true by rw [h1]; rfl)
    have he2 : (s.toList == [48]) = true := by rw [ht, h1]; rfl
    clear hz ht h0 hn h1
    go_enter Tryd.func31, Tryd.ntmps31
    go_wp2_with fail
    go_ret
    exact ⟨ret_bool (unhide HB).symm, rfl⟩
  · have he2 : (s.toList == [48]) = false := by rw [ht, beq_eq_false_iff_ne]; exact h1
    have hlt : 0 < s.size := by have := List.length_pos_iff.2 hn; omega
    obtain ⟨c, hc⟩ : ∃ c, (s[0]'hlt).toNat = c := ⟨_, rfl⟩
    have HB := hide (show writtenB l = ((c : Int) != 48) by
      unfold writtenB
      rw [show decide (l.length ≤ 18) = true from decide_eq_true (by omega), show (l == [48]) = false from beq_eq_false_iff_ne.2 h1, h0 hlt, show l.isEmpty = false from List.isEmpty_eq_false_iff.2 hn]
      rw [Bool.eq_iff_iff]
      simp only [Bool.not_false, Bool.true_and, Bool.false_or, bne_iff_ne, ne_eq, Option.some.injEq]
      rw [← UInt8.toNat_inj, show (48 : UInt8).toNat = 48 from rfl, hc]
      omega)
    clear hz ht h0 hn h1
    go_enter Tryd.func31, Tryd.ntmps31
    go_wp2_with fail
    go_ret
    exact ⟨ret_bool (unhide HB).symm, rfl⟩
end Go.Proofs.YtcpehfjpdegmbaaDoor
