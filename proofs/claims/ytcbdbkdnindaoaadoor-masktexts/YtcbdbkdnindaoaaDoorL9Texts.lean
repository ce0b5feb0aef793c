import Derived.Test.YtcbdbkdnindaoaaDoorL9Fixed
import Derived.Test.YtcbdbkdnindaoaaDoorMkTab
namespace Go.Proofs.YtcbdbkdnindaoaaDoor
open Go.RowKit Mk

theorem has_of (f : Nat → Int) (n i : Nat) (hi : i < n) : hasB (ofN f n) (f i) = decide (0 ≤ f i ∧ f i < 16) := by
  unfold hasB
  by_cases h : 0 ≤ f i ∧ f i < 16
  · rw [decide_eq_true h, Bool.true_and]
    exact (ofN_bit f (f i).toNat (by omega) n).2 ⟨i, hi, by omega⟩
  · rw [decide_eq_false h, Bool.false_and]
set_option maxRecDepth 100000 in
set_option maxHeartbeats 4000000 in
theorem ltexts_walk (M : Nat) (p : Option Addr) (len cap : Nat) (f : Nat → Int) (w : World) (hM : M < 4294967296) (hw : MTab w)
    (hc : ∀ i, i < len → ∃ x, p = some x ∧ w.cell? (x.add i) = some (.int .i64 (f i))) (hmax : len ≤ maxLen) :
    Calls Tryd.prog 4 #[.int .u32 (M : Int), .slice p len cap] w fun e w' => e = .returned (.bool true) ∧ Below w.heap.size w w' := by
  have CF := hide (fixed9 w hw)
  have S : Below w.heap.size w w := Below.refl _ _
  by_cases hl : len ≤ 60
  · have C1 := fun w' => hide (string_any M hM w')
    have C2 := fun w' h => hide (parse_any (textOf M) (by have := text_len M; omega) w' h)
    have C3 := fun w' => hide (rtext_any M hM w')
    rw [parse_text] at C2
    have he := bs_eq (textOf M) (textOf M)
    rw [show (textOf M == textOf M) = true from beq_self_eq_true _] at he
    have C4 := fun w' (h : Below w.heap.size w w') => hide (of_any p len cap f w' (by omega) (fun i hi => by
      obtain ⟨x, h1, h2⟩ := hc i hi
      exact ⟨x, h1, held4 h2 w' h⟩))
    have hz := ofN_lt f len
    have C5 := fun c w' => hide (has_any (ofN f len) c (by omega) w')
    have C6 := fun w' => hide (list_any (ofN f len) (by omega) w')
    have HO := hide (has_of f len)
    have HM := hide (fun c => mem_list (ofN f len) c)
    have HB := hide (fun c hc => ofN_bit f c hc len)
    have hll := listOf_len (ofN f len)
    have HC := hide hc
    generalize listOf (ofN f len) = LL at *
    have HM2 := hide (show ∀ c ∈ LL, c < 16 ∧ ∃ i, i < len ∧ f i = (c : Int) from fun c h => by
      obtain ⟨h1, h2⟩ := (unhide HM c).1 h
      exact ⟨h1, (unhide HB c h1).1 h2⟩)
    clear HM HB hc
    generalize textOf M = T at *
    generalize ofN f len = Z at *
    have e1 : (M : Int).tmod 65536 = ((M % 65536 : Nat) : Int) := by rw [Int.tmod_eq_emod_of_nonneg (by omega)]; omega
    have hq : M % 65536 < 65536 := by omega
    generalize M % 65536 = Q at *
    go_enter Tryd.func4, Tryd.ntmps4
    go_wp2_with (first
      | (go_at_call 6; refine (unhide CF).mono ?_; rintro e w1 ⟨rfl, hb⟩; have S := Below.trans S (hb.mono S.size); clear hb)
      | (go_at_call 15; refine (unhide (C1 _)).mono ?_; rintro e w1 ⟨rfl, hb⟩; have S := Below.trans S (hb.mono S.size); clear hb)
      | (go_at_call 16; refine (unhide (C2 _ (hw.below S))).mono ?_; rintro e w1 ⟨rfl, hb⟩; have S := Below.trans S (hb.mono S.size); clear hb)
      | (go_at_call 17; refine (unhide (C3 _)).mono ?_; rintro e w1 ⟨rfl, hb⟩; have S := Below.trans S (hb.mono S.size); clear hb)
      | (go_at_call 18; refine (unhide (C4 _ S)).mono ?_; rintro e w1 ⟨rfl, rfl⟩))
    go_loop [48] (fun d => ∃ i : Nat, i ≤ len ∧ d = .int .i64 (i : Int)) (fun d => 61 - (intOf d).toNat)
    case atStart => exact ⟨0, by omega, rfl⟩
    case round =>
      obtain ⟨i, hi, rfl⟩ := hrel
      by_cases hlt : i < len
      · obtain ⟨x, rfl, hcell0⟩ := unhide HC i hlt
        have hcell := held4 hcell0 _ S
        have C5 := C5 (f i)
        rw [unhide HO i hlt] at C5
        clear hcell0
        generalize f i = c at *
        by_cases h0 : 0 ≤ c
        · by_cases h1 : c < 16
          · rw [decide_eq_true ⟨h0, h1⟩] at C5
            go_wp2_with (go_at_call 14; refine (unhide (C5 _)).mono ?_; rintro e w1 ⟨rfl, rfl⟩)
            go_round
            case rel => exact ⟨i + 1, by omega, by go_num⟩
            case measure => simp [intOf]; omega
          · rw [decide_eq_false (fun h => h1 h.2)] at C5
            go_wp2_with (go_at_call 14; refine (unhide (C5 _)).mono ?_; rintro e w1 ⟨rfl, rfl⟩)
            go_round
            case rel => exact ⟨i + 1, by omega, by go_num⟩
            case measure => simp [intOf]; omega
        · rw [decide_eq_false (fun h => h0 h.1)] at C5
          go_wp2_with (go_at_call 14; refine (unhide (C5 _)).mono ?_; rintro e w1 ⟨rfl, rfl⟩)
          go_round
          case rel => exact ⟨i + 1, by omega, by go_num⟩
          case measure => simp [intOf]; omega
      · obtain rfl : i = len := by omega
        go_wp2_with (go_at_call 8; refine Hid.out ?_)
        refine hide ?_
        refine (unhide (C6 _)).mono ?_
        rintro e w2 ⟨v, rfl, r2, b2⟩
        obtain ⟨a2, cap2, rfl, hc2⟩ := r2.form
        rw [ints_len]
        have S := S.trans (b2.mono S.size)
        have HC2 := hide hc2
        clear r2 b2 hc2 C1 C2 C3 C4 C5 C6 CF
        go_wp2_with fail
        go_loop [66] (fun d => ∃ j : Nat, j ≤ LL.length ∧ d = .int .i64 (j : Int)) (fun d => 17 - (intOf d).toNat)
        case atStart => exact ⟨0, by omega, rfl⟩
        case round =>
          obtain ⟨j, hj, rfl⟩ := hrel
          by_cases hjl : j < LL.length
          · obtain ⟨g, rfl, hcell⟩ := unhide HC2 j _ (ints_at LL j hjl)
            obtain ⟨k16, hex⟩ := unhide HM2 _ (List.getElem_mem hjl)
            generalize LL[j] = c at *
            have HEX := hide hex
            clear hex
            go_wp2_with fail
            go_loop [14, 72] (fun b d => ∃ (t : Nat) (o : Bool), t ≤ i ∧ d = .int .i64 (t : Int) ∧ b = .bool o ∧ Hid (o = true ↔ ∃ s, s < t ∧ f s = (c : Int))) (fun _ d => 61 - (intOf d).toNat)
            case atStart => exact ⟨0, false, by omega, rfl, rfl, hide ⟨(fun h => by cases h), fun ⟨s, h, _⟩ => by omega⟩⟩
            case round =>
              obtain ⟨t, o, ht, rfl, rfl, HO2⟩ := hrel
              by_cases htl : t < i
              · obtain ⟨x, hpx, hcell0⟩ := unhide HC t htl
                subst hpx
                have hcell2 := held4 hcell0 _ S
                have HN := hide (show (o || decide (f t = (c : Int))) = true ↔ ∃ s, s < t + 1 ∧ f s = (c : Int) by
                  rw [Bool.or_eq_true, unhide HO2, decide_eq_true_iff]
                  constructor
                  · rintro (⟨s, h1, h2⟩ | h)
                    · exact ⟨s, by omega, h2⟩
                    · exact ⟨t, by omega, h⟩
                  · rintro ⟨s, h1, h2⟩
                    by_cases e : s = t
                    · subst e; exact .inr h2
                    · exact .inl ⟨s, by omega, h2⟩)
                clear hcell0 HO2
                generalize f t = y at *
                cases o
                · by_cases hy : y = (c : Int)
                  · rw [decide_eq_true hy] at HN
                    have hyb : (y == (c : Int)) = true := by rw [beq_iff_eq]; exact hy
                    go_wp2_with fail
                    go_round
                    case rel => exact ⟨t + 1, true, by omega, by go_num, rfl, HN⟩
                    case measure => simp [intOf]; omega
                  · rw [decide_eq_false hy] at HN
                    have hyb : (y == (c : Int)) = false := by rw [beq_eq_false_iff_ne]; exact hy
                    go_wp2_with fail
                    go_round
                    case rel => exact ⟨t + 1, false, by omega, by go_num, rfl, HN⟩
                    case measure => simp [intOf]; omega
                · have HN := hide (show (true = true) ↔ ∃ s, s < t + 1 ∧ f s = (c : Int) from unhide HN)
                  go_wp2_with fail
                  go_round
                  case rel => exact ⟨t + 1, true, by omega, by go_num, rfl, HN⟩
                  case measure => simp [intOf]; omega
              · obtain rfl : t = i := by omega
                obtain rfl : o = true := (unhide HO2).2 (unhide HEX)
                clear HO2 HEX
                go_wp2_with fail
                go_round
                case rel => exact ⟨j + 1, by omega, by go_num⟩
                case measure => simp [intOf]; omega
          · obtain rfl : j = LL.length := by omega
            go_wp2_with fail
            go_ret
            exact ⟨rfl, S⟩
  · have hl2 : (60 : Int) < (len : Int) := by omega
    unfold maxLen at hmax
    go_enter Tryd.func4, Tryd.ntmps4
    go_wp2_with (first | (go_at_call 6; refine (unhide CF).mono ?_; rintro e w1 ⟨rfl, hb⟩; have S := Below.trans S (hb.mono S.size); clear hb))
    go_ret
    exact ⟨rfl, S⟩
theorem ltexts_row (a : Int) (p : Option Addr) (len cap : Nat) (zs : List Int) (w : World) (h0 : 0 ≤ a) (h1 : a < 4294967296) (hw : MTab w)
    (hr : (p = none ∧ len = 0 ∧ cap = 0 ∧ zs = []) ∨ ∃ x, p = some x ∧ len ≤ cap ∧ cap ≤ maxLen ∧ zs.length = cap ∧ (∀ i, i < zs.length → w.cell? (x.add i) = some (.int .i64 (zs.getD i 0))) ∧ ∀ n ∈ zs, (Lit.int .i64 n).wf = true) :
    Calls Tryd.prog 4 #[.int .u32 a, .slice p len cap] w fun e w' => e = .returned (.bool true) ∧ Below w.heap.size w w' := by
  obtain ⟨M, rfl⟩ := Int.eq_ofNat_of_zero_le h0
  rcases hr with ⟨rfl, rfl, rfl, _⟩ | ⟨x, rfl, h2, h3, h4, h5, _⟩
  · exact ltexts_walk M none 0 0 (fun _ => 0) w (by omega) hw (fun i hi => by omega) (by unfold maxLen; omega)
  · exact ltexts_walk M (some x) len cap (fun i => zs.getD i 0) w (by omega) hw (fun i hi => ⟨x, rfl, h5 i (by omega)⟩) (by omega)
end Go.Proofs.YtcbdbkdnindaoaaDoor
