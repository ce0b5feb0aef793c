import Derived.Test.YtihahbmmipnclaaDoorSp6
namespace Go.Proofs.YtihahbmmipnclaaDoor
open Go.RowKit Kt Dg

/-- What stands ahead of place i, and behind it, as numbers. -/
def rnS (s : ByteArray) : Int := rnumV s.data.toList
def anZ (s : ByteArray) (i : Nat) : Int := rnS (s.extract 0 i)
def bnZ (s : ByteArray) (i : Nat) : Int := rnS (s.extract (i + 1) s.size)
theorem rnumber_s (s : ByteArray) (w : World) (hs : s.size ≤ 9223372036854775807) :
    Calls Tryd.prog 29 #[.string s] w fun e w' => e = .returned (.int .i64 (rnS s)) ∧ w' = w := rnumber_any s w hs
/-- The document's reader finds a spec at place i. -/
def Fnd (s : ByteArray) (i : Nat) : Prop := s.data.toList[i]? = some 46 ∧ rightB (anZ s i) (bnZ s i) = true ∧ textS (anZ s i) (bnZ s i) = s
theorem rnumV_le (l : List UInt8) : rnumV l ≤ 9223372036854775807 := by
  unfold rnumV
  split
  · omega
  · rename_i h
    split
    · rename_i v hv
      have := (numL_some l.length l v rfl hv).2
      have h18 := pow_18 (show l.length ≤ 18 by omega)
      omega
    · omega
theorem at_byte (s : ByteArray) (k : Nat) (h : k < s.size) : s.data.toList[k]? = some s[k] := by
  exact List.getElem?_eq_getElem (l := s.data.toList) (by simpa using h)

set_option maxRecDepth 1000000 in
set_option maxHeartbeats 2000000 in
theorem rparse_any (s : ByteArray) (w : World) (hs : s.size ≤ 100) :
    Calls Tryd.prog 15 #[.string s] w fun e w' => Below w.heap.size w w' ∧
      ((∃ i, i < s.size ∧ Fnd s i ∧ (∀ j, j < i → ¬ Fnd s j) ∧ e = .returned (.tuple #[.agg #[.int .i64 (anZ s i), .int .i64 (bnZ s i)], .bool true])) ∨ ((∀ j, j < s.size → ¬ Fnd s j) ∧ e = .returned (.tuple #[.agg #[.int .i64 0, .int .i64 0], .bool false]))) := by
  have hb0 : Below w.heap.size w (w.alloc (.cells #[.int .i64 0, .int .i64 0] 23)) := (Below.refl _ _).alloc (Nat.le_refl _) _
  go_enter Tryd.func15, Tryd.ntmps15
  go_wp2_with fail
  go_loopw [4] (fun i wr => ∃ k : Nat, i = .int .i64 (k : Int) ∧ k ≤ s.size ∧ Below (w.heap.size + 1) (w.alloc (.cells #[.int .i64 0, .int .i64 0] 23)) wr ∧ Hid (∀ j, j < k → ¬ Fnd s j)) (fun i _ => s.size - (intOf i).toNat)
  case atStart => exact ⟨0, rfl, by omega, Below.refl _ _, hide (fun j hj => by omega)⟩
  case round =>
    obtain ⟨k, rfl, hk, hbr, HN⟩ := hrel
    have hzr : w.heap.size < wr.heap.size := by have := hbr.size; simp only [World.size_alloc] at this; omega
    have hbw := hb0.trans (hbr.mono (by omega))
    obtain ⟨hc, hf⟩ := bcell (W := w.alloc (.cells #[.int .i64 0, .int .i64 0] 23)) (w1 := wr) (hbr.mono (by simp))
    by_cases hlt : k < s.size
    · have hat := at_byte s k hlt
      have e1 : IntKind.i64.wrap ((k : Int) + 1) = (k : Int) + 1 := by rw [IntKind.wrap_i64]; omega
      by_cases h46 : s[k].toNat = 46
      · have hp : (((s[k].toNat : Nat) : Int) == 46) = true := by rw [beq_iff_eq]; omega
        have hl1 : anZ s k ≤ 9223372036854775807 := rnumV_le _
        have h46' : s[k] = 46 := UInt8.toNat_inj.1 h46
        rw [h46'] at hat
        have HAT := hide hat
        have EA := hide (show rnS (s.extract 0 k) = anZ s k from rfl)
        have EB := hide (show rnS (s.extract (k + 1) s.size) = bnZ s k from rfl)
        clear hat h46'
        have hcase : (rightB (anZ s k) (bnZ s k) = false ∧ Hid (¬ Fnd s k)) ∨ (rightB (anZ s k) (bnZ s k) = true ∧ ((textS (anZ s k) (bnZ s k)).toList == s.toList) = false ∧ Hid (¬ Fnd s k)) ∨ (rightB (anZ s k) (bnZ s k) = true ∧ ((textS (anZ s k) (bnZ s k)).toList == s.toList) = true ∧ Hid (Fnd s k)) := by
          by_cases hr : rightB (anZ s k) (bnZ s k) = true
          · by_cases hT : textS (anZ s k) (bnZ s k) = s
            · exact .inr (.inr ⟨hr, by rw [hT]; simp, hide ⟨unhide HAT, hr, hT⟩⟩)
            · refine .inr (.inl ⟨hr, ?_, hide (fun h => hT h.2.2)⟩)
              rw [beq_eq_false_iff_ne, ne_eq, ByteArray.toList_eq, ByteArray.toList_eq]
              intro h
              exact hT (ByteArray.ext (Array.toList_inj.1 h))
          · exact .inl ⟨by simpa using hr, hide (fun h => hr h.2.1)⟩
        have HC := hide hcase
        clear hcase
        go_wp2_with fail
        go_region_with (go_at_call 29; refine (rnumber_s _ _ (by simp; omega)).mono ?_; rintro e w' ⟨rfl, rfl⟩; simp only [unhide EA, unhide EB])
        all_goals
          rcases unhide HC with ⟨hr, HF⟩ | ⟨hr, hq, HF⟩ | ⟨hr, hq, HF⟩
          · go_wp2_with (go_at_call 9; refine (rright_any _ _ _).mono ?_; rintro e w' ⟨rfl, rfl⟩)
            go_roundw
            case rel => exact ⟨k + 1, by go_num, by omega, ((hbr.alloc (by omega) _).alloc (by simp; omega) _).drew, hide (fun j hj => by
              rcases Nat.lt_succ_iff_lt_or_eq.1 hj with h | h
              · exact unhide HN j h
              · rw [h]; exact unhide HF)⟩
            case measure => simp [intOf]; omega
          all_goals
            go_wp2_with (first | (go_at_call 9; refine (rright_any _ _ _).mono ?_; rintro e w' ⟨rfl, rfl⟩) | (go_at_call 13; refine Hid.out ?_))
            refine hide ?_
            refine (rtext_any _ _ _ hr hl1).mono ?_
            rintro e w2 ⟨rfl, hb2⟩
            have hbr2 : Below (w.heap.size + 1) (w.alloc (.cells #[.int .i64 0, .int .i64 0] 23)) w2 := ((hbr.alloc (by omega) _).alloc (by simp; omega) _).drew.trans (hb2.mono (by simp; omega))
            obtain ⟨hc2, hf2⟩ := bcell hb2
            obtain ⟨hc3, hf3⟩ := bcell (W := w.alloc (.cells #[.int .i64 0, .int .i64 0] 23)) (w1 := w2) (hbr2.mono (by simp))
            have hz2 : wr.heap.size + 1 < w2.heap.size := by have := hb2.size; simp at this; omega
            have hbw2 := hb0.trans (hbr2.mono (by omega))
            clear hc hf
            first
              | (go_wp2_with fail
                 go_roundw
                 case rel => exact ⟨k + 1, by go_num, by omega, hbr2, hide (fun j hj => by
                   rcases Nat.lt_succ_iff_lt_or_eq.1 hj with h | h
                   · exact unhide HN j h
                   · rw [h]; exact unhide HF)⟩
                 case measure => simp [intOf]; omega)
              | (go_wp2_with fail
                 exact bodyPost_ret (v := .tuple #[.agg #[.int .i64 (anZ s k), .int .i64 (bnZ s k)], .bool true]) (by simp [results, Tryd.results15, go_sem, hc3]) rfl ⟨below_put2 hbw2 _ _, .inl ⟨k, hlt, unhide HF, unhide HN, rfl⟩⟩)
      · have hp : (((s[k].toNat : Nat) : Int) == 46) = false := by rw [beq_eq_false_iff_ne]; omega
        have HF := hide (show ¬ Fnd s k from fun h => h46 (by have := h.1; rw [hat] at this; simp only [Option.some.injEq] at this; rw [this]; rfl))
        clear hat h46
        go_wp2_with fail
        go_roundw
        case rel => exact ⟨k + 1, by go_num, by omega, hbr, hide (fun j hj => by
          rcases Nat.lt_succ_iff_lt_or_eq.1 hj with h | h
          · exact unhide HN j h
          · rw [h]; exact unhide HF)⟩
        case measure => simp [intOf]; omega
    · have hks : k = s.size := by omega
      have HE := hide (show ∀ j, j < s.size → ¬ Fnd s j from fun j hj => unhide HN j (by omega))
      clear hks
      go_wp2_with fail
      exact bodyPost_ret (v := .tuple #[.agg #[.int .i64 0, .int .i64 0], .bool false]) (by simp [results, Tryd.results15, go_sem, hc]) rfl ⟨below_put2 hbw _ _, .inr ⟨unhide HE, rfl⟩⟩
end Go.Proofs.YtihahbmmipnclaaDoor
