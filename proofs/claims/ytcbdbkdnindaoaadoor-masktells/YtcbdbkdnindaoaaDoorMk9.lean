import Derived.Test.YtcbdbkdnindaoaaDoorMk8
namespace Go.Proofs.YtcbdbkdnindaoaaDoor
open Go.RowKit Mk

theorem ints_app (a b : List Nat) : ints (a ++ b) = ints a ++ ints b := by simp [ints]
theorem flat_len_pos (p : Nat × Nat) (r : List (Nat × Nat)) : (flat (p :: r)).length = (p.2 + 1 - p.1) + (flat r).length := by
  rw [flat_cons, List.length_append]
  simp [one]
theorem at_run (d : List (Nat × Nat)) (a b : Nat) (r : List (Nat × Nat)) (j : Nat) (hj : a + j ≤ b) : (ints (flat (d ++ (a, b) :: r)))[(flat d).length + j]? = some ((a + j : Nat) : Int) := by
  rw [flat_app, ints_app, List.getElem?_append_right (by rw [ints_len]; omega), ints_len, show (flat d).length + j - (flat d).length = j by omega, flat_cons, ints_app, List.getElem?_append_left (by rw [ints_len]; simp [one]; omega)]
  unfold ints one
  rw [List.getElem?_map, List.getElem?_range' (by simp only; omega)]
  simp
theorem at_next (d : List (Nat × Nat)) (a b a2 b2 : Nat) (r : List (Nat × Nat)) (hab : a ≤ b) (h2 : a2 ≤ b2) : (ints (flat (d ++ (a, b) :: (a2, b2) :: r)))[(flat d).length + (b - a) + 1]? = some ((a2 : Nat) : Int) := by
  have := at_run (d ++ [(a, b)]) a2 b2 r 0 (by omega)
  have e0 : (flat (d ++ [(a, b)])).length = (flat d).length + (b + 1 - a) := by
    rw [flat_app, List.length_append]
    simp [flat, one]
  rw [List.append_assoc, List.singleton_append, e0] at this
  rw [show (flat d).length + (b - a) + 1 = (flat d).length + (b + 1 - a) + 0 by omega]
  exact this
theorem ok_app {lo : Nat} {d r : List (Nat × Nat)} (h : Ok lo (d ++ r)) : ∃ lo2, Ok lo2 r := by
  induction d generalizing lo with
  | nil => exact ⟨lo, h⟩
  | cons p t ih => exact ih h.2.2.2
theorem pt_len (p : Nat × Nat) (h1 : p.1 ≤ 15) (h2 : p.2 ≤ 15) : (pt p).length ≤ 5 := by
  have a1 := dec_len p.1 (by omega)
  have a2 := dec_len p.2 (by omega)
  unfold pt
  split
  · omega
  · simp; omega
theorem join_len : ∀ (rs : List (Nat × Nat)) (lo : Nat), Ok lo rs → (joinT rs).length ≤ 6 * rs.length
  | [], _, _ => by simp [joinT]
  | p :: r, lo, h => by
    have h1 := pt_len p (by have := h.2.1; have := h.2.2.1; omega) h.2.2.1
    have h2 := join_len r _ h.2.2.2
    unfold joinT
    split
    · simp; omega
    · simp; omega
theorem runs_len : ∀ (rs : List (Nat × Nat)) (lo : Nat), Ok lo rs → rs.length ≤ (flat rs).length
  | [], _, _ => by simp
  | p :: r, lo, h => by
    have h2 := runs_len r _ h.2.2.2
    rw [flat_len_pos p, List.length_cons]
    have := h.2.1
    omega
theorem ok_take {lo : Nat} {d r : List (Nat × Nat)} (h : Ok lo (d ++ r)) : Ok lo d := by
  induction d generalizing lo with
  | nil => trivial
  | cons p t ih => exact ⟨h.1, h.2.1, h.2.2.1, ih h.2.2.2⟩
set_option maxHeartbeats 2000000 in
theorem rtext_any (M : Nat) (hM : M < 4294967296) (w : World) :
    Calls Tryd.prog 17 #[.int .u32 (M : Int)] w fun e w' => e = .returned (.string (bs (textOf M))) ∧ Below w.heap.size w w' := by
  have C1 := fun w' => hide (rlist_any M hM w')
  obtain ⟨rs, ok, hf⟩ := runs_of M
  have hl := listOf_len M
  rw [textOf_runs M rs ok hf]
  rw [← hf] at C1 hl
  have OK := hide ok
  clear hf ok
  obtain ⟨B, hB⟩ : ∃ B, w.heap.size = B := ⟨_, rfl⟩
  rw [hB]
  have CD : ∀ (k : Nat) (_ : k < 16) (w' : World), Hid (Calls Tryd.prog 24 #[.int .i64 (k : Int)] w' fun e w2 => e = .returned (.string (bs (dec k))) ∧ Below w'.heap.size w' w2) := fun k hk w' => hide (rdig (k : Int) w' (by omega) (by omega))
  by_cases h0 : rs = []
  · subst h0
    go_enter Tryd.func17, Tryd.ntmps17
    go_wp2_with (go_at_call 7; refine Hid.out ?_)
    refine hide ?_
    refine (unhide (C1 _)).mono ?_
    rintro e w1 ⟨v, rfl, r1, b1⟩
    obtain ⟨a, cap, rfl, hc⟩ := r1.form
    rw [ints_len, flat_nil]
    clear r1 C1 hc
    simp only [List.length_nil]
    go_wp2_with fail
    go_ret
    exact ⟨rfl, hB ▸ b1⟩
  · have HTX := hide (show textR rs = joinT rs by unfold textR; rw [if_neg h0])
    have hp : 0 < (flat rs).length := by
      cases rs with
      | nil => exact absurd rfl h0
      | cons p r =>
        have := (unhide OK).2.1
        rw [flat_len_pos p]; omega
    generalize textR rs = TX at *
    obtain ⟨L, hL⟩ : ∃ L, (flat rs).length = L := ⟨_, rfl⟩
    rw [hL] at hl hp
    have hL0 : ((L : Int) == 0) = false := by rw [beq_eq_false_iff_ne]; omega
    go_enter Tryd.func17, Tryd.ntmps17
    go_wp2_with (go_at_call 7; refine Hid.out ?_)
    refine hide ?_
    refine (unhide (C1 _)).mono ?_
    rintro e w1 ⟨v, rfl, r1, b1⟩
    obtain ⟨a, cap, rfl, hc⟩ := r1.form
    rw [ints_len, hL]
    obtain ⟨g, rfl⟩ : ∃ g, a = some ⟨g, 0, none⟩ := by
      obtain ⟨g, h, _⟩ := hc 0 _ (ints_at (flat rs) 0 (by omega))
      exact ⟨g, h⟩
    have hc : ∀ j x, (ints (flat rs))[j]? = some x → w1.cell? ⟨g, j, none⟩ = some (.int .i64 x) := fun j x hj => by
      obtain ⟨g', e, h⟩ := hc j x hj
      cases e
      exact h
    have HC := hide hc
    have HB1 := hide b1
    have HL := hide hL
    clear r1 C1 hc b1 hL
    go_wp2_with fail
    go_loopw [4, 5] (fun t d wr => ∃ (i : Nat) (T : List UInt8), i ≤ L ∧ T.length ≤ 96 ∧ d = .int .i64 (i : Int) ∧ t = .string (bs T) ∧ Hid (Below w1.heap.size w1 wr ∧ ∃ dd rr, rs = dd ++ rr ∧ (flat dd).length = i ∧ T = joinT dd)) (fun _ d _ => 17 - (intOf d).toNat)
    case atStart => exact ⟨0, [], by omega, by simp, rfl, rfl, hide ⟨Below.refl _ _, [], rs, rfl, rfl, rfl⟩⟩
    case round =>
      obtain ⟨i, T, hi, hT, rfl, rfl, HI⟩ := hrel
      by_cases hlt : i < L
      · obtain ⟨bw, dd, rr, hrs, hdi, hTd⟩ := unhide HI
        cases rr with
        | nil =>
          rw [List.append_nil] at hrs
          have := unhide HL
          rw [hrs, hdi] at this
          omega
        | cons p r =>
          obtain ⟨a0, b0⟩ := p
          obtain ⟨lo2, o1, o2, o3, o4⟩ := ok_app (hrs ▸ unhide OK)
          simp only at o1 o2 o3 o4
          have hcell2 : ∀ j, a0 + j ≤ b0 → w1.cell? ⟨g, i + j, none⟩ = some (.int .i64 ((a0 + j : Nat) : Int)) := fun j hj => (unhide HC) (i + j) _ (by rw [hrs, ← hdi]; exact at_run dd a0 b0 r j hj)
          have hnx : (r = [] ∧ i + (b0 - a0) + 1 = L) ∨ (i + (b0 - a0) + 1 < L ∧ ∃ a2 : Nat, b0 + 2 ≤ a2 ∧ a2 < 16 ∧ w1.cell? ⟨g, i + (b0 - a0) + 1, none⟩ = some (.int .i64 (a2 : Int))) := by
            have hLL := unhide HL
            rw [hrs, flat_app, List.length_append, hdi, flat_len_pos (a0, b0)] at hLL
            simp only at hLL
            cases r with
            | nil => left; refine ⟨rfl, ?_⟩; simp [flat_nil] at hLL; omega
            | cons q t =>
              obtain ⟨a2, b2⟩ := q
              obtain ⟨x1, x2, x3, x4⟩ := o4
              simp only at x1 x2 x3
              rw [flat_len_pos (a2, b2)] at hLL
              simp only at hLL
              right
              refine ⟨by omega, a2, x1, by omega, ?_⟩
              exact (unhide HC) _ _ (by rw [hrs, ← hdi]; exact at_next dd a0 b0 a2 b2 t o2 x2)
          have hiL : i + (b0 - a0) < L := by rcases hnx with ⟨_, h⟩ | ⟨h, _⟩ <;> omega
          have HCC := hide hcell2
          have HNX := hide hnx
          have HRS := hide (And.intro hrs (And.intro hdi (And.intro hTd (And.intro bw o4))))
          clear hcell2 hnx hrs hdi hTd bw o4 HI
          go_wp2_with fail
          go_loopw [6] (fun d w' => ∃ j : Nat, a0 + j ≤ b0 ∧ d = .int .i64 ((i + j : Nat) : Int) ∧ Hid (Below w1.heap.size w1 w')) (fun d _ => 17 - (intOf d).toNat)
          case atStart => exact ⟨0, by omega, rfl, hide (unhide HRS).2.2.2.1⟩
          case round =>
            obtain ⟨j, hj, rfl, HBJ⟩ := hrel
            have c1 := held4 (unhide HCC j hj) wr (unhide HBJ)
            by_cases hjb : a0 + j < b0
            · have c2 := held4 (unhide HCC (j + 1) (by omega)) wr (unhide HBJ)
              rw [show i + (j + 1) = i + j + 1 by omega, show a0 + (j + 1) = a0 + j + 1 by omega] at c2
              have hm : i + j + 1 < L := by omega
              generalize hij : i + j = k at *
              generalize haj : a0 + j = x at *
              have hk16 : k < 16 := by omega
              have hx16 : x < 16 := by omega
              have hw1 : IntKind.i64.wrap ((k : Int) + 1) = (k : Int) + 1 := by rw [IntKind.wrap_i64]; omega
              have hw2 : IntKind.i64.wrap ((x : Int) + 1) = (x : Int) + 1 := by rw [IntKind.wrap_i64]; omega
              have hd1 : decide ((k : Int) + 1 < (L : Int)) = true := decide_eq_true (by omega)
              go_wp2_with fail
              go_quiet (fail)
              go_wp2_with fail
              have HB3 := hide ((unhide HBJ).trans ((below_drewN wr nq).mono (unhide HBJ).size))
              go_roundw
              case rel => exact ⟨j + 1, by omega, by rw [← hij]; go_num, HB3⟩
              case measure => simp [intOf]; omega
            · obtain rfl : j = b0 - a0 := by omega
              rw [show a0 + (b0 - a0) = b0 by omega] at c1
              rcases unhide HNX with ⟨hr0, hLe⟩ | ⟨hLt, a2, ha2, ha3, hc2⟩
              · clear hr0
                generalize hKe : i + (b0 - a0) = K at *
                have hk16 : K < 16 := by omega
                have hw1 : IntKind.i64.wrap ((K : Int) + 1) = (K : Int) + 1 := by rw [IntKind.wrap_i64]; omega
                have hw2 : IntKind.i64.wrap ((b0 : Int) + 1) = (b0 : Int) + 1 := by rw [IntKind.wrap_i64]; omega
                have hd1 : decide ((K : Int) + 1 < (L : Int)) = false := decide_eq_false (by omega)
                go_wp2_with fail
                go_quiet (fail)
                have HW := hide ((unhide HBJ).trans ((below_drewN wr nq).mono (unhide HBJ).size))
                clear c1 HBJ
                generalize wr.drewN nq = W at *
                have he := bs_emp T
                have z1 := bs_size T
                have z2 := bs_size (dec a0)
                have z3 := bs_size (dec b0)
                have l2 := dec_len a0 (by omega)
                have l3 := dec_len b0 (by omega)
                have c0 := held4 (unhide HCC 0 (by omega)) W (unhide HW)
                rw [Nat.add_zero, Nat.add_zero] at c0
                have hcK := fun w' (h : Below w1.heap.size w1 w') => held4 (unhide HCC (b0 - a0) (by omega)) w' h
                rw [hKe, show a0 + (b0 - a0) = b0 by omega] at hcK
                have CA := CD a0 (by omega) 
                have CB := CD b0 (by omega)
                have hj1 : bs T ++ (⟨#[44]⟩ : ByteArray) = bs (T ++ [44]) := bs_join T [44]
                have z4 := bs_size (T ++ [44])
                have HF := hide (show flat (dd ++ [(a0, b0)]) = flat dd ++ one (a0, b0) by rw [flat_app]; simp [flat])
                have HFL := hide (show (flat (dd ++ [(a0, b0)])).length = K + 1 by
                  rw [unhide HF, List.length_append, (unhide HRS).2.1]
                  have : (one (a0, b0)).length = b0 + 1 - a0 := by simp [one]
                  omega)
                have HJ := hide (show joinT (dd ++ [(a0, b0)]) = if T = [] then pt (a0, b0) else T ++ 44 :: pt (a0, b0) by
                  rw [joinT_snoc, (unhide HRS).2.2.1]
                  by_cases e : dd = []
                  · subst e; rfl
                  · rw [if_neg e, if_neg (joinT_ne e)])
                have HPL := hide (show (joinT (dd ++ [(a0, b0)])).length ≤ 96 by
                  have hok : Ok 0 (dd ++ [(a0, b0)]) := ok_take (r := r) (by
                    have := unhide OK
                    rw [(unhide HRS).1] at this
                    rw [List.append_assoc]; exact this)
                  have h1 := join_len _ _ hok
                  have h2 := runs_len _ _ hok
                  rw [unhide HFL] at h2
                  omega)
                have HRR := hide (show rs = (dd ++ [(a0, b0)]) ++ r by rw [(unhide HRS).1]; simp)
                have HPT := hide (show pt (a0, b0) = if a0 = b0 then dec a0 else dec a0 ++ 45 :: dec b0 from rfl)
                obtain ⟨J, hJe⟩ : ∃ J, joinT (dd ++ [(a0, b0)]) = J := ⟨_, rfl⟩
                rw [hJe] at HJ HPL
                have HJE := hide hJe
                clear hJe
                generalize dec a0 = da at *
                generalize dec b0 = db at *
                generalize pt (a0, b0) = P at *
                simp only [List.length_append, List.length_cons, List.length_nil] at z4
                by_cases hT0 : T = []
                · rw [decide_eq_true hT0] at he
                  rw [if_pos hT0] at HJ
                  have hja : bs T ++ bs da = bs da := by rw [hT0, bs_join]; rfl
                  clear hT0
                  have z5 := bs_size (da)
                  have hjb : bs (da) ++ (⟨#[45]⟩ : ByteArray) = bs (da ++ [45]) := bs_join _ [45]
                  have hjc : bs (da ++ [45]) ++ bs db = bs (da ++ 45 :: db) := by rw [bs_join]; simp
                  have z6 := bs_size (da ++ [45])
                  simp only [List.length_append, List.length_cons, List.length_nil] at z5 z6
                  go_wp2_with (go_at_call 24; refine Hid.out ?_)
                  refine hide ?_
                  refine (unhide (CA _)).mono ?_
                  rintro e w5 ⟨rfl, b5⟩
                  have HW5 := hide ((unhide HW).trans (b5.mono (unhide HW).size))
                  have c5 := hcK w5 (unhide HW5)
                  clear c0 b5 HW hcK CA
                  by_cases hab : a0 = b0
                  · have hKi : K = i := by omega
                    rw [if_pos hab] at HPT
                    go_wp2_with fail
                    go_roundw
                    case rel => exact ⟨K + 1, J, by omega, unhide HPL, by go_num, by rw [unhide HJ, unhide HPT], hide ⟨unhide HW5, dd ++ [(a0, b0)], r, unhide HRR, unhide HFL, (unhide HJE).symm⟩⟩
                    case measure => simp [intOf]; omega
                  · have hKi : i < K := by omega
                    rw [if_neg hab] at HPT
                    go_wp2_with (go_at_call 24; refine Hid.out ?_)
                    refine hide ?_
                    refine (unhide (CB _)).mono ?_
                    rintro e w6 ⟨rfl, b6⟩
                    have HW6 := hide ((unhide HW5).trans (b6.mono (unhide HW5).size))
                    clear c5 b6 HW5 CB
                    go_wp2_with fail
                    go_roundw
                    case rel => exact ⟨K + 1, J, by omega, unhide HPL, by go_num, by first | (rw [unhide HJ, unhide HPT]; done) | (rw [unhide HJ, unhide HPT]; simp), hide ⟨unhide HW6, dd ++ [(a0, b0)], r, unhide HRR, unhide HFL, (unhide HJE).symm⟩⟩
                    case measure => simp [intOf]; omega
                · rw [decide_eq_false hT0] at he
                  rw [if_neg hT0] at HJ
                  have hja : bs (T ++ [44]) ++ bs da = bs (T ++ 44 :: da) := by rw [bs_join]; simp
                  clear hT0
                  have z5 := bs_size ((T ++ 44 :: da))
                  have hjb : bs (T ++ 44 :: da) ++ (⟨#[45]⟩ : ByteArray) = bs (T ++ 44 :: (da ++ [45])) := by
                    have := bs_join (T ++ 44 :: da) [45]
                    rw [List.append_assoc, List.cons_append] at this
                    exact this
                  have hjc : bs (T ++ 44 :: (da ++ [45])) ++ bs db = bs (T ++ 44 :: (da ++ 45 :: db)) := by rw [bs_join]; simp
                  have z6 := bs_size (T ++ 44 :: (da ++ [45]))
                  simp only [List.length_append, List.length_cons, List.length_nil] at z5 z6
                  go_wp2_with (go_at_call 24; refine Hid.out ?_)
                  refine hide ?_
                  refine (unhide (CA _)).mono ?_
                  rintro e w5 ⟨rfl, b5⟩
                  have HW5 := hide ((unhide HW).trans (b5.mono (unhide HW).size))
                  have c5 := hcK w5 (unhide HW5)
                  clear c0 b5 HW hcK CA
                  by_cases hab : a0 = b0
                  · have hKi : K = i := by omega
                    rw [if_pos hab] at HPT
                    go_wp2_with fail
                    go_roundw
                    case rel => exact ⟨K + 1, J, by omega, unhide HPL, by go_num, by rw [unhide HJ, unhide HPT], hide ⟨unhide HW5, dd ++ [(a0, b0)], r, unhide HRR, unhide HFL, (unhide HJE).symm⟩⟩
                    case measure => simp [intOf]; omega
                  · have hKi : i < K := by omega
                    rw [if_neg hab] at HPT
                    go_wp2_with (go_at_call 24; refine Hid.out ?_)
                    refine hide ?_
                    refine (unhide (CB _)).mono ?_
                    rintro e w6 ⟨rfl, b6⟩
                    have HW6 := hide ((unhide HW5).trans (b6.mono (unhide HW5).size))
                    clear c5 b6 HW5 CB
                    go_wp2_with fail
                    go_roundw
                    case rel => exact ⟨K + 1, J, by omega, unhide HPL, by go_num, by first | (rw [unhide HJ, unhide HPT]; done) | (rw [unhide HJ, unhide HPT]; simp), hide ⟨unhide HW6, dd ++ [(a0, b0)], r, unhide HRR, unhide HFL, (unhide HJE).symm⟩⟩
                    case measure => simp [intOf]; omega
              · have c2 := held4 hc2 wr (unhide HBJ)
                clear hc2
                generalize hKe : i + (b0 - a0) = K at *
                have hk16 : K < 16 := by omega
                have hw1 : IntKind.i64.wrap ((K : Int) + 1) = (K : Int) + 1 := by rw [IntKind.wrap_i64]; omega
                have hw2 : IntKind.i64.wrap ((b0 : Int) + 1) = (b0 : Int) + 1 := by rw [IntKind.wrap_i64]; omega
                have hd1 : decide ((K : Int) + 1 < (L : Int)) = true := decide_eq_true (by omega)
                have hne : ((a2 : Int) == (b0 : Int) + 1) = false := by rw [beq_eq_false_iff_ne]; omega
                go_wp2_with fail
                go_quiet (fail)
                have HW := hide ((unhide HBJ).trans ((below_drewN wr nq).mono (unhide HBJ).size))
                clear c1 c2 HBJ
                generalize wr.drewN nq = W at *
                have he := bs_emp T
                have z1 := bs_size T
                have z2 := bs_size (dec a0)
                have z3 := bs_size (dec b0)
                have l2 := dec_len a0 (by omega)
                have l3 := dec_len b0 (by omega)
                have c0 := held4 (unhide HCC 0 (by omega)) W (unhide HW)
                rw [Nat.add_zero, Nat.add_zero] at c0
                have hcK := fun w' (h : Below w1.heap.size w1 w') => held4 (unhide HCC (b0 - a0) (by omega)) w' h
                rw [hKe, show a0 + (b0 - a0) = b0 by omega] at hcK
                have CA := CD a0 (by omega) 
                have CB := CD b0 (by omega)
                have hj1 : bs T ++ (⟨#[44]⟩ : ByteArray) = bs (T ++ [44]) := bs_join T [44]
                have z4 := bs_size (T ++ [44])
                have HF := hide (show flat (dd ++ [(a0, b0)]) = flat dd ++ one (a0, b0) by rw [flat_app]; simp [flat])
                have HFL := hide (show (flat (dd ++ [(a0, b0)])).length = K + 1 by
                  rw [unhide HF, List.length_append, (unhide HRS).2.1]
                  have : (one (a0, b0)).length = b0 + 1 - a0 := by simp [one]
                  omega)
                have HJ := hide (show joinT (dd ++ [(a0, b0)]) = if T = [] then pt (a0, b0) else T ++ 44 :: pt (a0, b0) by
                  rw [joinT_snoc, (unhide HRS).2.2.1]
                  by_cases e : dd = []
                  · subst e; rfl
                  · rw [if_neg e, if_neg (joinT_ne e)])
                have HPL := hide (show (joinT (dd ++ [(a0, b0)])).length ≤ 96 by
                  have hok : Ok 0 (dd ++ [(a0, b0)]) := ok_take (r := r) (by
                    have := unhide OK
                    rw [(unhide HRS).1] at this
                    rw [List.append_assoc]; exact this)
                  have h1 := join_len _ _ hok
                  have h2 := runs_len _ _ hok
                  rw [unhide HFL] at h2
                  omega)
                have HRR := hide (show rs = (dd ++ [(a0, b0)]) ++ r by rw [(unhide HRS).1]; simp)
                have HPT := hide (show pt (a0, b0) = if a0 = b0 then dec a0 else dec a0 ++ 45 :: dec b0 from rfl)
                obtain ⟨J, hJe⟩ : ∃ J, joinT (dd ++ [(a0, b0)]) = J := ⟨_, rfl⟩
                rw [hJe] at HJ HPL
                have HJE := hide hJe
                clear hJe
                generalize dec a0 = da at *
                generalize dec b0 = db at *
                generalize pt (a0, b0) = P at *
                simp only [List.length_append, List.length_cons, List.length_nil] at z4
                by_cases hT0 : T = []
                · rw [decide_eq_true hT0] at he
                  rw [if_pos hT0] at HJ
                  have hja : bs T ++ bs da = bs da := by rw [hT0, bs_join]; rfl
                  clear hT0
                  have z5 := bs_size (da)
                  have hjb : bs (da) ++ (⟨#[45]⟩ : ByteArray) = bs (da ++ [45]) := bs_join _ [45]
                  have hjc : bs (da ++ [45]) ++ bs db = bs (da ++ 45 :: db) := by rw [bs_join]; simp
                  have z6 := bs_size (da ++ [45])
                  simp only [List.length_append, List.length_cons, List.length_nil] at z5 z6
                  go_wp2_with (go_at_call 24; refine Hid.out ?_)
                  refine hide ?_
                  refine (unhide (CA _)).mono ?_
                  rintro e w5 ⟨rfl, b5⟩
                  have HW5 := hide ((unhide HW).trans (b5.mono (unhide HW).size))
                  have c5 := hcK w5 (unhide HW5)
                  clear c0 b5 HW hcK CA
                  by_cases hab : a0 = b0
                  · have hKi : K = i := by omega
                    rw [if_pos hab] at HPT
                    go_wp2_with fail
                    go_roundw
                    case rel => exact ⟨K + 1, J, by omega, unhide HPL, by go_num, by rw [unhide HJ, unhide HPT], hide ⟨unhide HW5, dd ++ [(a0, b0)], r, unhide HRR, unhide HFL, (unhide HJE).symm⟩⟩
                    case measure => simp [intOf]; omega
                  · have hKi : i < K := by omega
                    rw [if_neg hab] at HPT
                    go_wp2_with (go_at_call 24; refine Hid.out ?_)
                    refine hide ?_
                    refine (unhide (CB _)).mono ?_
                    rintro e w6 ⟨rfl, b6⟩
                    have HW6 := hide ((unhide HW5).trans (b6.mono (unhide HW5).size))
                    clear c5 b6 HW5 CB
                    go_wp2_with fail
                    go_roundw
                    case rel => exact ⟨K + 1, J, by omega, unhide HPL, by go_num, by first | (rw [unhide HJ, unhide HPT]; done) | (rw [unhide HJ, unhide HPT]; simp), hide ⟨unhide HW6, dd ++ [(a0, b0)], r, unhide HRR, unhide HFL, (unhide HJE).symm⟩⟩
                    case measure => simp [intOf]; omega
                · rw [decide_eq_false hT0] at he
                  rw [if_neg hT0] at HJ
                  have hja : bs (T ++ [44]) ++ bs da = bs (T ++ 44 :: da) := by rw [bs_join]; simp
                  clear hT0
                  have z5 := bs_size ((T ++ 44 :: da))
                  have hjb : bs (T ++ 44 :: da) ++ (⟨#[45]⟩ : ByteArray) = bs (T ++ 44 :: (da ++ [45])) := by
                    have := bs_join (T ++ 44 :: da) [45]
                    rw [List.append_assoc, List.cons_append] at this
                    exact this
                  have hjc : bs (T ++ 44 :: (da ++ [45])) ++ bs db = bs (T ++ 44 :: (da ++ 45 :: db)) := by rw [bs_join]; simp
                  have z6 := bs_size (T ++ 44 :: (da ++ [45]))
                  simp only [List.length_append, List.length_cons, List.length_nil] at z5 z6
                  go_wp2_with (go_at_call 24; refine Hid.out ?_)
                  refine hide ?_
                  refine (unhide (CA _)).mono ?_
                  rintro e w5 ⟨rfl, b5⟩
                  have HW5 := hide ((unhide HW).trans (b5.mono (unhide HW).size))
                  have c5 := hcK w5 (unhide HW5)
                  clear c0 b5 HW hcK CA
                  by_cases hab : a0 = b0
                  · have hKi : K = i := by omega
                    rw [if_pos hab] at HPT
                    go_wp2_with fail
                    go_roundw
                    case rel => exact ⟨K + 1, J, by omega, unhide HPL, by go_num, by rw [unhide HJ, unhide HPT], hide ⟨unhide HW5, dd ++ [(a0, b0)], r, unhide HRR, unhide HFL, (unhide HJE).symm⟩⟩
                    case measure => simp [intOf]; omega
                  · have hKi : i < K := by omega
                    rw [if_neg hab] at HPT
                    go_wp2_with (go_at_call 24; refine Hid.out ?_)
                    refine hide ?_
                    refine (unhide (CB _)).mono ?_
                    rintro e w6 ⟨rfl, b6⟩
                    have HW6 := hide ((unhide HW5).trans (b6.mono (unhide HW5).size))
                    clear c5 b6 HW5 CB
                    go_wp2_with fail
                    go_roundw
                    case rel => exact ⟨K + 1, J, by omega, unhide HPL, by go_num, by first | (rw [unhide HJ, unhide HPT]; done) | (rw [unhide HJ, unhide HPT]; simp), hide ⟨unhide HW6, dd ++ [(a0, b0)], r, unhide HRR, unhide HFL, (unhide HJE).symm⟩⟩
                    case measure => simp [intOf]; omega
      · obtain rfl : i = L := by omega
        obtain ⟨bw, dd, rr, hrs, hdi, hTd⟩ := unhide HI
        have hrr : rr = [] := by
          cases rr with
          | nil => rfl
          | cons p r =>
            have hLL := unhide HL
            obtain ⟨lo2, o1, o2, o3, o4⟩ := ok_app (hrs ▸ unhide OK)
            rw [hrs, flat_app, List.length_append, hdi, flat_len_pos p] at hLL
            omega
        have HE := hide (show TX = T by rw [unhide HTX, hrs, hrr, List.append_nil, hTd])
        have HBW := hide ((unhide HB1).trans (bw.mono (unhide HB1).size))
        clear bw hrs hdi hTd hrr HI
        go_wp2
        go_ret
        exact ⟨by rw [unhide HE]; rfl, hB ▸ unhide HBW⟩
end Go.Proofs.YtcbdbkdnindaoaaDoor
