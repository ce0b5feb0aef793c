import Derived.Test.YtcbdbkdnindaoaaDoorL9Fixed
import Derived.Test.YtcbdbkdnindaoaaDoorMkTab
namespace Go.Proofs.YtcbdbkdnindaoaaDoor
open Go.RowKit Mk

/-- The first one behind c; -1. -/
def nxZ (l : List Nat) (c : Int) : Int := match l.find? (gtB c) with
  | some k => (k : Int)
  | none => -1
theorem nxZ_snoc (l : List Nat) (c : Int) (k : Nat) : nxZ (l ++ [k]) c = if decide (c < (k : Int)) = true ∧ nxZ l c < 0 then (k : Int) else nxZ l c := by
  unfold nxZ
  rw [List.find?_append]
  cases h : l.find? (gtB c) with
  | some x =>
    simp only [Option.some_or]
    rw [if_neg (by omega)]
  | none =>
    simp only [Option.none_or]
    rw [List.find?_cons]
    by_cases g : c < (k : Int)
    · have e : gtB c k = true := decide_eq_true g
      rw [e]
      simp [g]
    · have e : gtB c k = false := decide_eq_false g
      rw [e]
      simp [g]
theorem nxZ_bd (l : List Nat) (c : Int) (h : ∀ k ∈ l, k < 16) : -1 ≤ nxZ l c ∧ nxZ l c < 16 := by
  unfold nxZ
  cases hf : l.find? (gtB c) with
  | some x =>
    have := h x (List.mem_of_find?_eq_some hf)
    simp only; omega
  | none => simp only; omega
theorem nextL_nx (l : List Nat) (c : Int) (h : l ≠ []) : nextL l c = (if nxZ l c < 0 then ((l.headD 0 : Nat) : Int) else nxZ l c, true) := by
  unfold nextL nxZ
  cases hf : l.find? (gtB c) with
  | some x => simp only; rw [if_neg (by omega)]
  | none =>
    cases l with
    | nil => exact absurd rfl h
    | cons k r => rfl
theorem nextL_first (l : List Nat) (h : l ≠ []) : nextL l (-1) = (((l.headD 0 : Nat) : Int), true) := by
  cases l with
  | nil => exact absurd rfl h
  | cons k r =>
    unfold nextL
    rw [List.find?_cons, show gtB (-1) k = true from decide_eq_true (by omega)]
    rfl
theorem any_has (M : Nat) (c : Int) : (listOf M).any (fun k : Nat => decide ((k : Int) = c)) = hasB M c := by
  rw [Bool.eq_iff_iff, List.any_eq_true]
  unfold hasB
  rw [Bool.and_eq_true, decide_eq_true_iff]
  constructor
  · rintro ⟨k, h1, h2⟩
    have h2 := of_decide_eq_true h2
    obtain ⟨h3, h4⟩ := (mem_list M k).1 h1
    subst h2
    exact ⟨by omega, by rw [Int.toNat_natCast]; exact h4⟩
  · rintro ⟨h1, h2⟩
    exact ⟨c.toNat, (mem_list M _).2 ⟨by omega, h2⟩, decide_eq_true (by omega)⟩
theorem list_nodup (M : Nat) : (listOf M).Nodup := List.Nodup.sublist List.filter_sublist List.nodup_range
theorem filt_len (c : Int) : ∀ (l : List Nat), l.Nodup → (l.filter fun k : Nat => !decide (c = (k : Int))).length + (if l.any (fun k : Nat => decide ((k : Int) = c)) = true then 1 else 0) = l.length
  | [], _ => rfl
  | k :: r, h => by
    have ih := filt_len c r (List.nodup_cons.1 h).2
    have hk := (List.nodup_cons.1 h).1
    by_cases e : c = (k : Int)
    · have hr : r.any (fun k : Nat => decide ((k : Int) = c)) = false := by
        rw [Bool.eq_false_iff]
        intro h2
        obtain ⟨x, h3, h4⟩ := List.any_eq_true.1 h2
        have h4 := of_decide_eq_true h4
        have : x = k := by omega
        subst this
        exact hk h3
      rw [hr] at ih
      rw [List.filter_cons, if_neg (by simp [e]), List.any_cons, decide_eq_true e.symm]
      simp at ih ⊢
      omega
    · rw [List.filter_cons, if_pos (by simp [e]), List.any_cons, decide_eq_false (fun h => e h.symm), Bool.false_or]
      simp only [List.length_cons]
      omega
theorem mod_again (n : Int) (L : Nat) (h : 0 < L) : (n.tmod (L : Int) + L).tmod (L : Int) = n % (L : Int) ∧ -(L : Int) < n.tmod (L : Int) ∧ n.tmod (L : Int) < (L : Int) := by
  have h1 := Int.emod_lt_of_pos n (show (0 : Int) < L by omega)
  have h2 := Int.emod_nonneg n (show (L : Int) ≠ 0 by omega)
  have e : n.tmod (L : Int) = n % (L : Int) ∨ n.tmod (L : Int) = n % (L : Int) - L := by
    rw [Int.tmod_eq_emod]
    split
    · left; omega
    · right
      have e : ((L : Int).natAbs : Int) = L := by omega
      omega
  have h3 : n.tmod (L : Int) = 0 ∨ n.tmod (L : Int) ≠ 0 := by omega
  rcases e with e | e
  · rw [e, Int.tmod_eq_emod_of_nonneg (by omega), Int.add_emod_right, Int.emod_emod_of_dvd n (Int.dvd_refl _)]
    exact ⟨rfl, by omega, by omega⟩
  · by_cases hz : n % (L : Int) = 0
    · rw [Int.tmod_eq_emod] at e
      split at e
      · omega
      · rename_i hc
        exact absurd (.inr (Int.dvd_of_emod_eq_zero hz)) hc
    · rw [e, show n % (L : Int) - L + L = n % (L : Int) by omega, Int.tmod_eq_emod_of_nonneg h2, Int.emod_emod_of_dvd n (Int.dvd_refl _)]
      exact ⟨rfl, by omega, by omega⟩
set_option maxRecDepth 100000 in
set_option maxHeartbeats 8000000 in
theorem ltells_walk (M : Nat) (c n : Int) (w : World) (hM : M < 4294967296) (hw : MTab w) :
    Calls Tryd.prog 3 #[.int .u32 (M : Int), .int .i64 c, .int .i64 n] w fun e w' => e = .returned (.bool true) ∧ Below w.heap.size w w' := by
  have CF := hide (fixed9 w hw)
  have S : Below w.heap.size w w := Below.refl _ _
  have C1 := fun w' => hide (rlist_any M hM w')
  have C2 := fun w' => hide (list_any M hM w')
  have C3 := fun w' => hide (drew_to (len_any M hM w'))
  have C4 := fun w' => hide (first_any M hM w')
  have C5 := fun w' => hide (next_any M c hM w')
  have C6 := fun w' => hide (pick_any M n hM w')
  have C7 := fun w' => hide (without_any M c hM w')
  have C8 := fun w' => hide (list_any (woN M c) (woN_lt M c) w')
  have C9 := fun w' => hide (has_any M c hM w')
  have hll := listOf_len M
  have HLT := hide (show ∀ k ∈ listOf M, k < 16 from fun k h => ((mem_list M k).1 h).1)
  have HAN := hide (any_has M c)
  have hfl := filt_len c (listOf M) (list_nodup M)
  rw [any_has M c] at hfl
  rw [wo_list] at C8
  have HRE := hide (show ∀ k ∈ (listOf M).filter (fun k : Nat => !decide (c = (k : Int))), (k : Int) ≠ c from fun k h e => by
    have := (List.mem_filter.1 h).2
    simp [e] at this)
  have hrl : ((listOf M).filter (fun k : Nat => !decide (c = (k : Int)))).length ≤ 16 := Nat.le_trans (List.length_filter_le _ _) hll
  generalize (listOf M).filter (fun k : Nat => !decide (c = (k : Int))) = R at *
  generalize woN M c = WO at *
  generalize hasB M c = o at *
  generalize listOf M = l at *
  by_cases h0 : l = []
  · subst h0
    obtain rfl : o = false := (unhide HAN).symm
    have hR : R.length = 0 := by simpa using hfl
    rw [show nextL [] (-1) = (0, false) from rfl] at C4
    rw [show nextL [] c = (0, false) from rfl] at C5
    rw [show pickL [] n = (0, false) from rfl] at C6
    simp only [List.length_nil] at C3 hll
    clear hfl HAN HLT
    go_enter Tryd.func3, Tryd.ntmps3
    go_wp2_with (first
      | (go_at_call 6; refine (unhide CF).mono ?_; rintro e w1 ⟨rfl, hb⟩; have S := Below.trans S (hb.mono S.size); clear hb)
      | (go_at_call 7; refine Hid.out ?_))
    refine hide ?_
    refine (unhide (C1 _)).mono ?_
    rintro e w2 ⟨v, rfl, r2, b2⟩
    obtain ⟨a1, cap1, rfl, _⟩ := r2.form
    have S := S.trans (b2.mono S.size)
    clear r2 b2
    rw [ints_len, List.length_nil]
    go_wp2_with (go_at_call 8; refine Hid.out ?_)
    refine hide ?_
    refine (unhide (C2 _)).mono ?_
    rintro e w3 ⟨v, rfl, r3, b3⟩
    obtain ⟨a2, cap2, rfl, _⟩ := r3.form
    have S := S.trans (b3.mono S.size)
    clear r3 b3
    rw [ints_len, List.length_nil]
    go_wp2_with (go_at_call 9; refine (unhide (C3 _)).mono ?_; rintro e w1 ⟨rfl, hb⟩; have S := Below.trans S (hb.mono S.size); clear hb)
    refine wp_loop_rounds 1 ?_
    rw [rounds_succ]
    go_wp2_with (first
      | (go_at_call 10; refine (unhide (C4 _)).mono ?_; rintro e w1 ⟨rfl, hb⟩; have S := Below.trans S (hb.mono S.size); clear hb)
      | (go_at_call 11; refine (unhide (C5 _)).mono ?_; rintro e w1 ⟨rfl, hb⟩; have S := Below.trans S (hb.mono S.size); clear hb)
      | (go_at_call 12; refine (unhide (C6 _)).mono ?_; rintro e w1 ⟨rfl, hb⟩; have S := Below.trans S (hb.mono S.size); clear hb)
      | (go_at_call 13; refine (unhide (C7 _)).mono ?_; rintro e w1 ⟨rfl, rfl⟩)
      | (go_at_call 8; refine Hid.out ?_))
    refine hide ?_
    refine (unhide (C8 _)).mono ?_
    rintro e w4 ⟨v, rfl, r4, b4⟩
    obtain ⟨a3, cap3, rfl, _⟩ := r4.form
    have S := S.trans (b4.mono S.size)
    clear r4 b4
    rw [ints_len, hR]
    go_wp2_with (go_at_call 14; refine (unhide (C9 _)).mono ?_; rintro e w1 ⟨rfl, rfl⟩)
    refine wp_loop_rounds 1 ?_
    rw [rounds_succ]
    go_wp2_with fail
    go_ret
    exact ⟨rfl, S⟩
  · have hp : 0 < l.length := List.length_pos_iff.2 h0
    have e4 := nextL_first l h0
    have e5 := nextL_nx l c h0
    have e6 : pickL l n = (((l.getD (n % (l.length : Int)).toNat 0 : Nat) : Int), true) := by unfold pickL; rw [if_neg h0]
    rw [e4] at C4
    rw [e5] at C5
    rw [e6] at C6
    have hma := mod_again n l.length hp
    have hmb := Int.emod_lt_of_pos n (show (0 : Int) < l.length by omega)
    have hmc := Int.emod_nonneg n (show (l.length : Int) ≠ 0 by omega)
    have hxb := nxZ_bd l c (unhide HLT)
    have HXX := hide (show nxZ l c = nxZ (l.take l.length) c by rw [List.take_length])
    have HOO := hide (show o = (l.take l.length).any (fun k : Nat => decide ((k : Int) = c)) by rw [List.take_length]; exact (unhide HAN).symm)
    obtain ⟨q, hq⟩ := Int.eq_ofNat_of_zero_le hmc
    rw [hq] at hma hmb hmc C6
    rw [Int.toNat_natCast] at C6
    have HQ := hide (show (ints l)[q]? = some ((l.getD q 0 : Nat) : Int) by
      have hq2 : q < l.length := by omega
      rw [ints_at l q hq2, List.getD_eq_getElem?_getD, List.getElem?_eq_getElem hq2]; rfl)
    have H00 := hide (show (ints l)[0]? = some ((l.headD 0 : Nat) : Int) by
      cases l with
      | nil => exact absurd rfl h0
      | cons k r => rfl)
    have hh16 : l.headD 0 < 16 := by
      cases l with
      | nil => exact absurd rfl h0
      | cons k r => exact unhide HLT k (by simp)
    have hq16 : l.getD q 0 < 16 := by
      have hq2 : q < l.length := by omega
      rw [List.getD_eq_getElem?_getD, List.getElem?_eq_getElem hq2]
      exact unhide HLT _ (List.getElem_mem hq2)
    obtain ⟨X, hX⟩ : ∃ X, nxZ l c = X := ⟨_, rfl⟩
    rw [hX] at C5 HXX hxb
    generalize l.getD q 0 = pk at *
    generalize l.headD 0 = hd at *
    obtain ⟨Y, hY⟩ : ∃ Y, (if X < 0 then (hd : Int) else X) = Y := ⟨_, rfl⟩
    rw [hY] at C5
    have HY := hide hY
    clear hY
    obtain ⟨t, htt⟩ : ∃ t, n.tmod (l.length : Int) = t := ⟨_, rfl⟩
    rw [htt] at hma
    have HLen := hide (show l.length = l.length from rfl)
    obtain ⟨L, hL⟩ : ∃ L, l.length = L := ⟨_, rfl⟩
    rw [hL] at hp hma hmb htt hll hfl HXX HOO C3
    have hL0 : (0 : Int) < (L : Int) := by omega
    clear hq h0 e4 e5 e6 HAN HLen hX
    go_enter Tryd.func3, Tryd.ntmps3
    go_wp2_with (first
      | (go_at_call 6; refine (unhide CF).mono ?_; rintro e w1 ⟨rfl, hb⟩; have S := Below.trans S (hb.mono S.size); clear hb)
      | (go_at_call 7; refine Hid.out ?_))
    refine hide ?_
    refine (unhide (C1 _)).mono ?_
    rintro e w2 ⟨v, rfl, r2, b2⟩
    obtain ⟨a1, cap1, rfl, hc1⟩ := r2.form
    obtain ⟨g1, rfl⟩ : ∃ g, a1 = some ⟨g, 0, none⟩ := by
      obtain ⟨g, h, _⟩ := hc1 0 _ (unhide H00)
      exact ⟨g, h⟩
    have hc1 : ∀ j x, (ints l)[j]? = some x → w2.cell? ⟨g1, j, none⟩ = some (.int .i64 x) := fun j x hj => by
      obtain ⟨g', e, h⟩ := hc1 j x hj
      cases e
      exact h
    have S := S.trans (b2.mono S.size)
    have HC1 := hide hc1
    clear r2 b2 hc1
    rw [ints_len, hL]
    go_wp2_with (go_at_call 8; refine Hid.out ?_)
    refine hide ?_
    refine (unhide (C2 _)).mono ?_
    rintro e w3 ⟨v, rfl, r3, b3⟩
    obtain ⟨a2, cap2, rfl, hc2⟩ := r3.form
    obtain ⟨g2, rfl⟩ : ∃ g, a2 = some ⟨g, 0, none⟩ := by
      obtain ⟨g, h, _⟩ := hc2 0 _ (unhide H00)
      exact ⟨g, h⟩
    have hc2 : ∀ j x, (ints l)[j]? = some x → w3.cell? ⟨g2, j, none⟩ = some (.int .i64 x) := fun j x hj => by
      obtain ⟨g', e, h⟩ := hc2 j x hj
      cases e
      exact h
    have HC2 := hide hc2
    have HC3 := hide (show ∀ j x, (ints l)[j]? = some x → w3.cell? ⟨g1, j, none⟩ = some (.int .i64 x) from fun j x hj => held4 (unhide HC1 j x hj) w3 b3)
    have S := S.trans (b3.mono S.size)
    clear r3 b3 hc2 HC1
    rw [ints_len, hL]
    have S3 : Below w3.heap.size w3 w3 := Below.refl _ _
    go_wp2_with (go_at_call 9; refine (unhide (C3 _)).mono ?_; rintro e w1 ⟨rfl, hb⟩; have S := Below.trans S (hb.mono S.size); have S3 := S3.trans (hb.mono S3.size); clear hb)
    go_loop [10, 11, 44] (fun b x d => ∃ (j : Nat) (ob : Bool) (y : Int), j ≤ L ∧ d = .int .i64 (j : Int) ∧ b = .bool ob ∧ x = .int .i64 y ∧ -1 ≤ y ∧ y < 16 ∧ Hid (ob = (l.take j).any (fun k : Nat => decide ((k : Int) = c)) ∧ y = nxZ (l.take j) c)) (fun _ _ d => 17 - (intOf d).toNat)
    case atStart => exact ⟨0, false, -1, by omega, rfl, rfl, rfl, by omega, by omega, hide ⟨rfl, rfl⟩⟩
    case round =>
      obtain ⟨j, ob, y, hj, rfl, rfl, rfl, y0, y1, HJ⟩ := hrel
      by_cases hjl : j < L
      · have hjl2 : j < l.length := by omega
        have hcA := held4 (unhide HC3 j _ (ints_at l j hjl2)) _ S3
        have hcB := held4 (unhide HC2 j _ (ints_at l j hjl2)) _ S3
        have hk16 := unhide HLT _ (List.getElem_mem hjl2)
        have HJ2 := hide (show (l.take (j + 1)).any (fun k : Nat => decide ((k : Int) = c)) = (ob || decide (((l[j]'hjl2 : Nat) : Int) = c)) by
          rw [List.take_succ_eq_append_getElem hjl2, List.any_append, (unhide HJ).1]
          simp)
        have HJ3 := hide (show nxZ (l.take (j + 1)) c = if decide (c < ((l[j]'hjl2 : Nat) : Int)) = true ∧ y < 0 then ((l[j]'hjl2 : Nat) : Int) else y by
          rw [List.take_succ_eq_append_getElem hjl2, nxZ_snoc, (unhide HJ).2])
        clear HJ
        generalize l[j]'hjl2 = k at *
        have hkk : ((k : Int) == (k : Int)) = true := beq_self_eq_true _
        have ROUND : ∀ (ob2 : Bool) (y2 : Int), (ob || decide ((k : Int) = c)) = ob2 → (if decide (c < (k : Int)) = true ∧ y < 0 then (k : Int) else y) = y2 → Hid (ob2 = (l.take (j + 1)).any (fun k : Nat => decide ((k : Int) = c)) ∧ y2 = nxZ (l.take (j + 1)) c) := fun ob2 y2 h1 h2 => hide ⟨by rw [unhide HJ2, h1], by rw [unhide HJ3, h2]⟩
        have HROUND := hide ROUND
        clear ROUND HJ2 HJ3
        cases ob
        · by_cases hkc : (k : Int) = c
          · have hkb : ((k : Int) == c) = true := by rw [beq_iff_eq]; exact hkc
            have hgt : ¬ c < (k : Int) := by omega
            have HR := unhide HROUND true y (by rw [decide_eq_true hkc]; rfl) (by rw [if_neg (by simp [hgt])])
            clear HROUND
            go_wp2_with fail
            go_round
            case rel => exact ⟨j + 1, true, y, by omega, by go_num, rfl, rfl, y0, y1, HR⟩
            case measure => simp [intOf]; omega
          · have hkb : ((k : Int) == c) = false := by rw [beq_eq_false_iff_ne]; exact hkc
            by_cases hgt : c < (k : Int)
            · by_cases hy : y < 0
              · have HR := unhide HROUND false k (by rw [decide_eq_false hkc]; rfl) (by rw [if_pos ⟨decide_eq_true hgt, hy⟩])
                clear HROUND
                go_wp2_with fail
                go_round
                case rel => exact ⟨j + 1, false, k, by omega, by go_num, rfl, rfl, by omega, by omega, HR⟩
                case measure => simp [intOf]; omega
              · have HR := unhide HROUND false y (by rw [decide_eq_false hkc]; rfl) (by rw [if_neg (by omega)])
                clear HROUND
                go_wp2_with fail
                go_round
                case rel => exact ⟨j + 1, false, y, by omega, by go_num, rfl, rfl, y0, y1, HR⟩
                case measure => simp [intOf]; omega
            · have HR := unhide HROUND false y (by rw [decide_eq_false hkc]; rfl) (by rw [if_neg (by simp [hgt])])
              clear HROUND
              go_wp2_with fail
              go_round
              case rel => exact ⟨j + 1, false, y, by omega, by go_num, rfl, rfl, y0, y1, HR⟩
              case measure => simp [intOf]; omega
        · by_cases hgt : c < (k : Int)
          · by_cases hy : y < 0
            · have HR := unhide HROUND true k rfl (by rw [if_pos ⟨decide_eq_true hgt, hy⟩])
              clear HROUND
              go_wp2_with fail
              go_round
              case rel => exact ⟨j + 1, true, k, by omega, by go_num, rfl, rfl, by omega, by omega, HR⟩
              case measure => simp [intOf]; omega
            · have HR := unhide HROUND true y rfl (by rw [if_neg (by omega)])
              clear HROUND
              go_wp2_with fail
              go_round
              case rel => exact ⟨j + 1, true, y, by omega, by go_num, rfl, rfl, y0, y1, HR⟩
              case measure => simp [intOf]; omega
          · have HR := unhide HROUND true y rfl (by rw [if_neg (by simp [hgt])])
            clear HROUND
            go_wp2_with fail
            go_round
            case rel => exact ⟨j + 1, true, y, by omega, by go_num, rfl, rfl, y0, y1, HR⟩
            case measure => simp [intOf]; omega
      · obtain rfl : j = L := by omega
        obtain rfl : ob = o := by rw [(unhide HJ).1, unhide HOO]
        obtain rfl : y = X := by rw [(unhide HJ).2, unhide HXX]
        clear HJ HOO HXX HLT
        go_wp2_with (first
          | (go_at_call 10; refine (unhide (C4 _)).mono ?_; rintro e w1 ⟨rfl, hb⟩; have S := Below.trans S (hb.mono S.size); have S3 := S3.trans (hb.mono S3.size); clear hb)
          | (go_at_call 11; refine (unhide (C5 _)).mono ?_; rintro e w1 ⟨rfl, hb⟩; have S := Below.trans S (hb.mono S.size); have S3 := S3.trans (hb.mono S3.size); clear hb)
          | (go_at_call 12; refine (unhide (C6 _)).mono ?_; rintro e w1 ⟨rfl, hb⟩; have S := Below.trans S (hb.mono S.size); have S3 := S3.trans (hb.mono S3.size); clear hb)
          | (go_at_call 13; refine (unhide (C7 _)).mono ?_; rintro e w1 ⟨rfl, rfl⟩)
          | (go_at_call 8; refine Hid.out ?_))
        refine hide ?_
        refine (unhide (C8 _)).mono ?_
        rintro e w4 ⟨v, rfl, r4, b4⟩
        obtain ⟨a3, cap3, rfl, hc3⟩ := r4.form
        have S := S.trans (b4.mono S.size)
        have S3 := S3.trans (b4.mono S3.size)
        have HC4 := hide hc3
        have d1 := held4 (unhide HC3 0 _ (unhide H00)) _ S3
        have d2 := held4 (unhide HC3 q _ (unhide HQ)) _ S3
        clear r4 b4 hc3 C1 C2 C3 C4 C5 C6 C7 C8 CF HC2 HC3 S3
        rw [ints_len]
        obtain ⟨RL, hRL⟩ : ∃ RL, R.length = RL := ⟨_, rfl⟩
        rw [hRL] at hfl hrl ⊢
        cases ob
        · have hRLe : RL = j := by simpa using hfl
          subst hRLe
          go_wp2_with (go_at_call 14; refine (unhide (C9 _)).mono ?_; rintro e w1 ⟨rfl, rfl⟩)
          go_loop [135] (fun d => ∃ i : Nat, i ≤ RL ∧ d = .int .i64 (i : Int)) (fun d => 17 - (intOf d).toNat)
          case atStart => exact ⟨0, by omega, rfl⟩
          case round =>
            obtain ⟨i, hi, rfl⟩ := hrel
            by_cases hil : i < RL
            · have hil2 : i < R.length := by omega
              obtain ⟨g, rfl, hcell⟩ := unhide HC4 i _ (ints_at R i hil2)
              have hne := unhide HRE _ (List.getElem_mem hil2)
              generalize R[i]'hil2 = x at *
              have hneb : ((x : Int) == c) = false := by rw [beq_eq_false_iff_ne]; exact hne
              go_wp2_with fail
              go_round
              case rel => exact ⟨i + 1, by omega, by go_num⟩
              case measure => simp [intOf]; omega
            · obtain rfl : i = RL := by omega
              by_cases hy : y < 0
              · obtain rfl : (hd : Int) = Y := by rw [← unhide HY, if_pos hy]
                go_wp2_with fail
                go_ret
                exact ⟨rfl, S⟩
              · obtain rfl : y = Y := by rw [← unhide HY, if_neg hy]
                go_wp2_with fail
                go_ret
                exact ⟨rfl, S⟩
        · have hRLe : RL + 1 = j := by simpa using hfl
          have hRLi : (RL : Int) = (j : Int) - 1 := by omega
          have hRLj : ((RL : Int) == (j : Int) - 1) = true := by rw [beq_iff_eq]; exact hRLi
          go_wp2_with (go_at_call 14; refine (unhide (C9 _)).mono ?_; rintro e w1 ⟨rfl, rfl⟩)
          go_loop [135] (fun d => ∃ i : Nat, i ≤ RL ∧ d = .int .i64 (i : Int)) (fun d => 17 - (intOf d).toNat)
          case atStart => exact ⟨0, by omega, rfl⟩
          case round =>
            obtain ⟨i, hi, rfl⟩ := hrel
            by_cases hil : i < RL
            · have hil2 : i < R.length := by omega
              obtain ⟨g, rfl, hcell⟩ := unhide HC4 i _ (ints_at R i hil2)
              have hne := unhide HRE _ (List.getElem_mem hil2)
              generalize R[i]'hil2 = x at *
              have hneb : ((x : Int) == c) = false := by rw [beq_eq_false_iff_ne]; exact hne
              go_wp2_with fail
              go_round
              case rel => exact ⟨i + 1, by omega, by go_num⟩
              case measure => simp [intOf]; omega
            · obtain rfl : i = RL := by omega
              by_cases hy : y < 0
              · obtain rfl : (hd : Int) = Y := by rw [← unhide HY, if_pos hy]
                go_wp2_with fail
                go_ret
                exact ⟨rfl, S⟩
              · obtain rfl : y = Y := by rw [← unhide HY, if_neg hy]
                go_wp2_with fail
                go_ret
                exact ⟨rfl, S⟩
theorem ltells_int (a c n : Int) (w : World) (h0 : 0 ≤ a) (h1 : a < 4294967296) (hw : MTab w) :
    Calls Tryd.prog 3 #[.int .u32 a, .int .i64 c, .int .i64 n] w fun e w' => e = .returned (.bool true) ∧ Below w.heap.size w w' := by
  obtain ⟨M, rfl⟩ := Int.eq_ofNat_of_zero_le h0
  exact ltells_walk M c n w (by omega) hw
end Go.Proofs.YtcbdbkdnindaoaaDoor
