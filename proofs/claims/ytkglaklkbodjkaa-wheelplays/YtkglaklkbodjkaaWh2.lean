import Derived.Test.YtkglaklkbodjkaaWh1
namespace Go.Proofs.Ytkglaklkbodjkaa
open Go.RowKit Wh

def zw : Array Value := #[.int .i64 0, .map none] ++ Array.replicate 64 (.slice none 0 0)
theorem zw_run (w : World) : (zeroValue 77).run Try.prog w = .ok (.agg zw) w := by kernel_rfl
theorem zw_set (b : Nat) : zw.setIfInBounds 1 (.map (some b)) = wc 0 b (fun _ => .slice none 0 0) := by
  refine wc_ext (by simp [zw]) ?_ ?_ ?_
  · rw [Array.getElem?_setIfInBounds, if_neg (by omega)]; rfl
  · rw [Array.getElem?_setIfInBounds, if_pos rfl, if_pos (by simp [zw])]
  · intro j hj
    rw [Array.getElem?_setIfInBounds, if_neg (by omega)]
    unfold zw
    rw [Array.getElem?_append_right (by simp)]
    simp [hj]
set_option maxRecDepth 100000 in
set_option maxHeartbeats 1000000 in
theorem wnew_any (w : World) :
    Calls Try.prog 11 #[] w fun e w' => ∃ H Mb, e = .returned (.pointer (some ⟨H, 0, none⟩)) ∧ Whl w' w'.heap.size H Mb 0 0 (fun _ => none) 0 (fun _ => .slice none 0 0) (fun _ => []) ∧ Below w.heap.size w w' ∧ w.heap.size ≤ H ∧ w.heap.size ≤ Mb := by
  have hmm := @run_makeMap Try.prog
  have hzr := zw_run
  have hzs : zw.size = 66 := by simp [zw]
  have hzw := zw_set
  generalize zw = Z at *
  obtain ⟨b, hb⟩ : ∃ b, w.heap.size = b := ⟨_, rfl⟩
  have hzb := hzw b
  obtain ⟨C, hC⟩ : ∃ C, wc 0 b (fun _ => .slice none 0 0) = C := ⟨_, rfl⟩
  rw [hC] at hzb
  clear hzw
  have HC := hide hC
  clear hC
  go_enter Try.func11, Try.ntmps11
  go_wp2
  go_ret
  refine ⟨b + 1, b, rfl, ⟨?_, ?_, fun j _ => Ir.nil _ _, (fun i j a _ _ _ h => by cases h), ?_⟩, ?_, ?_, ?_⟩
  · show Blk _ _ _ (wc 0 b _)
    rw [unhide HC]
    exact Blk.new_at _ _ _ (by simp [hb])
  · have h := IMap.made w
    rw [hb] at h
    exact h.same (Below.heap_alloc _ _ _ (by simp [hb]))
  · simp [hb]; omega
  · exact below2 w _ _
  · omega
  · omega
theorem len_nil (w : World) : Calls Try.prog 19 #[.pointer none] w fun e w' => e = .returned (.int .i64 0) ∧ w' = w := by
  go_enter Try.func19, Try.ntmps19
  go_wp2
  go_ret
  exact ⟨rfl, rfl⟩
theorem now_nil (w : World) : Calls Try.prog 20 #[.pointer none] w fun e w' => e = .returned (.int .i64 0) ∧ w' = w := by
  go_enter Try.func20, Try.ntmps20
  go_wp2
  go_ret
  exact ⟨rfl, rfl⟩
section
variable {B H Mb now n : Nat} {f : Int → Option Int} {sz : Nat} {sv : Nat → Value} {sl : Nat → List Int}
theorem wlen_any (w : World) (h : Whl w B H Mb now n f sz sv sl) : Calls Try.prog 19 #[.pointer (some ⟨H, 0, none⟩)] w fun e w' => e = .returned (.int .i64 (sz : Int)) ∧ w' = w := by
  have c1 := h.c1
  have hl := h.mp.len
  clear h
  go_enter Try.func19, Try.ntmps19
  go_wp2
  go_ret
  exact ⟨rfl, rfl⟩
theorem wnow_any (w : World) (h : Whl w B H Mb now n f sz sv sl) : Calls Try.prog 20 #[.pointer (some ⟨H, 0, none⟩)] w fun e w' => e = .returned (.int .i64 (now : Int)) ∧ w' = w := by
  have c0 := h.c0
  clear h
  go_enter Try.func20, Try.ntmps20
  go_wp2
  go_ret
  exact ⟨rfl, rfl⟩
theorem wleft_in (w : World) (h : Whl w B H Mb now n f sz sv sl) (id : Int) (hid : isI id) (d : Nat) (hd : f id = some (d : Int)) (hn : now ≤ d) (hd2 : d < 1099511627776) : Calls Try.prog 17 #[.pointer (some ⟨H, 0, none⟩), .int .i64 id] w fun e w' => e = .returned (.tuple #[.int .i64 ((d - now : Nat) : Int), .bool true]) ∧ w' = w := by
  have c0 := h.c0
  have c1 := h.c1
  have hl := h.mp.look_ok id hid
  rw [hd] at hl
  simp only [Option.getD_some, Option.isSome_some] at hl
  clear h hd
  go_enter Try.func17, Try.ntmps17
  go_wp2
  go_ret2
  exact ⟨by first | rfl | (congr 2; simp; omega), rfl⟩
theorem lev_ge3 {now t : Nat} (h : ∀ i, i < 3 → t / 16 ^ (i + 1) ≠ now / 16 ^ (i + 1)) : lev now t = 3 := by
  have h0 := h 0 (by omega)
  have h1 := h 1 (by omega)
  have h2 := h 2 (by omega)
  simp at h0 h1 h2
  unfold lev
  rw [if_neg h0, if_neg h1, if_neg h2]
theorem lev_is {now t j : Nat} (hj : j < 3) (h : ∀ i, i < j → t / 16 ^ (i + 1) ≠ now / 16 ^ (i + 1)) (he : t / 16 ^ (j + 1) = now / 16 ^ (j + 1)) : lev now t = j := by
  unfold lev
  rcases (show j = 0 ∨ j = 1 ∨ j = 2 by omega) with rfl | rfl | rfl
  · simp at he; rw [if_pos he]
  · have h0 := h 0 (by omega)
    simp at he h0
    rw [if_neg h0, if_pos he]
  · have h0 := h 0 (by omega)
    have h1 := h 1 (by omega)
    simp at he h0 h1
    rw [if_neg h0, if_neg h1, if_pos he]
set_option maxRecDepth 100000 in
set_option maxHeartbeats 1000000 in
theorem level_any (w : World) (h : Whl w B H Mb now n f sz sv sl) (t : Nat) :
    Calls Try.prog 51 #[.pointer (some ⟨H, 0, none⟩), .int .i64 (t : Int)] w fun e w' => e = .returned (.int .i64 (lev now t : Nat)) ∧ ∃ m, w' = w.drewN m := by
  have c0 := h.c0
  clear h
  have H3 := hide (@lev_ge3 now t)
  have HI := hide (fun j hj h he => lev_is (now := now) (t := t) (j := j) hj h he)
  generalize lev now t = R at *
  go_enter Try.func51, Try.ntmps51
  go_wp2
  go_loopw [5] (fun d w' => ∃ j : Nat, j ≤ 3 ∧ d = .int .i64 (j : Int) ∧ Hid (∀ i, i < j → t / 16 ^ (i + 1) ≠ now / 16 ^ (i + 1)) ∧ ∃ m, w' = w.drewN m) (fun d _ => 3 - (intOf d).toNat)
  case atStart => exact ⟨0, by omega, rfl, hide (fun i hi => by omega), 0, rfl⟩
  case round =>
    obtain ⟨j, hj, rfl, HJ, m, rfl⟩ := hrel
    by_cases h3 : j = 3
    · subst h3
      have HR := hide (unhide H3 (unhide HJ))
      go_wp2
      go_quiet (fail)
      go_wp2
      go_ret
      exact ⟨by rw [unhide HR]; rfl, m + nq, by first | rfl | rw [World.drewN_drewN]⟩
    · have hj3 : j < 3 := by omega
      have HN := hide (fun he => unhide HI j hj3 (unhide HJ) he)
      have HS := hide (fun (hne : t / 16 ^ (j + 1) ≠ now / 16 ^ (j + 1)) => show ∀ i, i < j + 1 → t / 16 ^ (i + 1) ≠ now / 16 ^ (i + 1) from fun i hi => by
        by_cases e : i = j
        · subst e; exact hne
        · exact unhide HJ i (by omega))
      clear HJ HI H3 h3 hj
      rcases (show j = 0 ∨ j = 1 ∨ j = 2 by omega) with rfl | rfl | rfl
      · by_cases he : t / 16 = now / 16
        · have HR := hide (unhide HN (by simpa using he))
          have e1 : ((t : Int) / 16 != (now : Int) / 16) = false := by rw [bne_eq_false_iff_eq]; omega
          clear HN HS he
          go_wp2
          go_quiet (fail)
          go_wp2
          go_ret
          exact ⟨by rw [unhide HR]; rfl, m + nq, by first | rfl | rw [World.drewN_drewN]⟩
        · have HJ2 := unhide HS (by simpa using he)
          have HJ3 := hide HJ2
          have e1 : ((t : Int) / 16 != (now : Int) / 16) = true := by rw [bne_iff_ne]; omega
          clear HN HS he HJ2
          go_wp2
          go_quiet (fail)
          go_wp2
          go_roundw
          case rel => exact ⟨1, by omega, by first | rfl | go_num, HJ3, m + nq, by first | rfl | rw [World.drewN_drewN]⟩
          case measure => simp [intOf]
      · by_cases he : t / 256 = now / 256
        · have HR := hide (unhide HN (by simpa using he))
          have e1 : ((t : Int) / 256 != (now : Int) / 256) = false := by rw [bne_eq_false_iff_eq]; omega
          clear HN HS he
          go_wp2
          go_quiet (fail)
          go_wp2
          go_ret
          exact ⟨by rw [unhide HR]; rfl, m + nq, by first | rfl | rw [World.drewN_drewN]⟩
        · have HJ2 := unhide HS (by simpa using he)
          have HJ3 := hide HJ2
          have e1 : ((t : Int) / 256 != (now : Int) / 256) = true := by rw [bne_iff_ne]; omega
          clear HN HS he HJ2
          go_wp2
          go_quiet (fail)
          go_wp2
          go_roundw
          case rel => exact ⟨2, by omega, by first | rfl | go_num, HJ3, m + nq, by first | rfl | rw [World.drewN_drewN]⟩
          case measure => simp [intOf]
      · by_cases he : t / 4096 = now / 4096
        · have HR := hide (unhide HN (by simpa using he))
          have e1 : ((t : Int) / 4096 != (now : Int) / 4096) = false := by rw [bne_eq_false_iff_eq]; omega
          clear HN HS he
          go_wp2
          go_quiet (fail)
          go_wp2
          go_ret
          exact ⟨by rw [unhide HR]; rfl, m + nq, by first | rfl | rw [World.drewN_drewN]⟩
        · have HJ2 := unhide HS (by simpa using he)
          have HJ3 := hide HJ2
          have e1 : ((t : Int) / 4096 != (now : Int) / 4096) = true := by rw [bne_iff_ne]; omega
          clear HN HS he HJ2
          go_wp2
          go_quiet (fail)
          go_wp2
          go_roundw
          case rel => exact ⟨3, by omega, by first | rfl | go_num, HJ3, m + nq, by first | rfl | rw [World.drewN_drewN]⟩
          case measure => simp [intOf]
end
end Go.Proofs.Ytkglaklkbodjkaa
