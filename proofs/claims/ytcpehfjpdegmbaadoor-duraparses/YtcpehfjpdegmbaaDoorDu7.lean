import Derived.Test.YtcpehfjpdegmbaaDoorDu6
import Derived.Deep.RegionHeld3
namespace Go.Proofs.YtcpehfjpdegmbaaDoor
open Go.RowKit Kt Dg Du

theorem below_grow (w : World) (k : Nat) (os : Array Obj) : Below w.heap.size w (Go.Sort.grow (w.drewN k) os) :=
  ⟨rfl, rfl, rfl, by simp [Go.Sort.grow], fun b hb => by
    show (w.heap ++ os)[b]? = w.heap[b]?
    rw [Array.getElem?_append_left hb]⟩
theorem itoa_any (n : Int) (w : World) (ht : DTab w) (h0 : 0 ≤ n) (h1 : n ≤ 9223372036854775807) :
    Calls Tryd.prog 28 #[.int .i64 n] w fun e w' => e = .returned (.string (bs (Lib.decDigits n.toNat))) ∧ Below w.heap.size w w' := by
  refine (Tryd.strconv_Itoa n (by omega) h1 w ht.pow).mono ?_
  rintro e w' ⟨rfl, k, os, rfl⟩
  refine ⟨?_, below_grow w k os⟩
  unfold bs Lib.itoa
  rw [if_neg (by omega)]
theorem index_part (r : Int) (i : Nat) (h : i < 7) (w : World) : (Instr.index 31 (partsV r) (.int .i64 (i : Int))).run Tryd.prog w = .ok (.int .i64 (partZ r i)) w := by
  rcases (show i = 0 ∨ i = 1 ∨ i = 2 ∨ i = 3 ∨ i = 4 ∨ i = 5 ∨ i = 6 by omega) with rfl | rfl | rfl | rfl | rfl | rfl | rfl
  all_goals kernel_rfl
/-- The text of the first parts. -/
def jn (r : Int) (i : Nat) : List UInt8 := joinU ((partsOf units r).take i)
theorem joinU_snoc : ∀ (l : List (Un × Int)) (x : Un × Int), joinU (l ++ [x]) = joinU l ++ piece x.2 x.1.2
  | [], x => by simp [joinU]
  | y :: l, x => by
    show piece y.2 y.1.2 ++ joinU (l ++ [x]) = piece y.2 y.1.2 ++ joinU l ++ piece x.2 x.1.2
    rw [joinU_snoc l x, List.append_assoc]
theorem jn_succ (r : Int) (i : Nat) (h : i < 7) : jn r (i + 1) = jn r i ++ piece (partZ r i) (unitAt i).2 := by
  have e : (partsOf units r).take (i + 1) = (partsOf units r).take i ++ [(unitAt i, partZ r i)] := by
    rw [parts_list]
    rcases (show i = 0 ∨ i = 1 ∨ i = 2 ∨ i = 3 ∨ i = 4 ∨ i = 5 ∨ i = 6 by omega) with rfl | rfl | rfl | rfl | rfl | rfl | rfl
    all_goals rfl
  unfold jn
  rw [e, joinU_snoc]
theorem jn_end (r : Int) : jn r 7 = joinR r := by
  unfold jn joinR
  rw [List.take_of_length_le]
  rw [parts_list]; exact Nat.le_refl 7
theorem jn_zero (r : Int) : jn r 0 = [] := rfl
theorem unit_len (i : Nat) (h : i < 7) : (unitAt i).2.length ≤ 2 := by
  rcases (show i = 0 ∨ i = 1 ∨ i = 2 ∨ i = 3 ∨ i = 4 ∨ i = 5 ∨ i = 6 by omega) with rfl | rfl | rfl | rfl | rfl | rfl | rfl
  all_goals decide
theorem dec18 (n : Int) (h : n < 1000000000000000000) : (Lib.decDigits n.toNat).length ≤ 18 :=
  dec_length_le 17 n.toNat (by rw [show (10 : Nat) ^ (17 + 1) = 1000000000000000000 from by decide]; omega)
theorem jn_len (r : Int) (h0 : 0 ≤ r) (h1 : r ≤ 4611686018427387902) : ∀ i, i ≤ 7 → (jn r i).length ≤ 20 * i
  | 0, _ => by rw [jn_zero]; exact Nat.le_refl _
  | i + 1, h => by
    have ih := jn_len r h0 h1 i (by omega)
    have hu := unit_len i (by omega)
    have hd := dec18 (partZ r i) (part_bd r h0 h1 i (by omega)).2
    rw [jn_succ r i (by omega), List.length_append]
    unfold piece
    split
    · rw [List.length_append]; omega
    · rw [List.length_nil]; omega
theorem piece_join (a d n : List UInt8) : bs a ++ (bs d ++ bs n) = bs (a ++ (d ++ n)) := by rw [bs_join, bs_join]
set_option maxRecDepth 100000 in
set_option maxHeartbeats 1000000 in
theorem joined_any (r : Int) (w : World) (ht : DTab w) (h0 : 0 ≤ r) (h1 : r ≤ 4611686018427387902) :
    Calls Tryd.prog 18 #[partsV r] w fun e w' => e = .returned (.string (bs (lenT r))) ∧ Below w.heap.size w w' := by
  have HLN := hide (jn_len r h0 h1)
  have HPB := hide (part_bd r h0 h1)
  have HJ := hide (jn_succ r)
  have HE := hide (jn_end r)
  have H0 := hide (jn_zero r)
  have HU := hide unit_len
  have HIX := hide (index_part r)
  have HT := hide (show lenT r = if joinR r = [] then [48, 115] else joinR r from rfl)
  have HN := hide unit_name
  obtain ⟨b, hbs⟩ : ∃ b, w.heap.size = b := ⟨_, rfl⟩
  have HW : ∀ w', Below b w w' → DTab w' := fun w' h => ht.on (by rw [hbs]; exact h)
  have HC := hide (fun w' (hb' : Below b w w') i h => (HW w' hb').cell i h)
  have hpv : partsV r = .agg #[.int .i64 (partZ r 0), .int .i64 (partZ r 1), .int .i64 (partZ r 2), .int .i64 (partZ r 3), .int .i64 (partZ r 4), .int .i64 (partZ r 5), .int .i64 (partZ r 6)] := rfl
  rw [hpv] at HIX ⊢
  clear hpv
  generalize lenT r = T at *
  generalize joinR r = J at *
  generalize jn r = jn at *
  generalize partZ r = part at *
  generalize unitAt = ua at *
  generalize namesL = nl at *
  have B0 : Below b w (w.alloc (.cells #[.int .i64 (part 0), .int .i64 (part 1), .int .i64 (part 2), .int .i64 (part 3), .int .i64 (part 4), .int .i64 (part 5), .int .i64 (part 6)] 31)) := by rw [← hbs]; exact below1 _ _
  go_enter Tryd.func18, Tryd.ntmps18
  go_wp2_with fail
  go_loopw [3, 7] (fun a d w' => ∃ i : Nat, a = .string (bs (jn i)) ∧ d = .int .i64 (i : Int) ∧ i ≤ 7 ∧ Below b w w') (fun _ d _ => 7 - (intOf d).toNat)
  case atStart => exact ⟨0, by rw [unhide H0]; rfl, rfl, by omega, B0⟩
  case round =>
    obtain ⟨i, rfl, rfl, hi, hb'⟩ := hrel
    by_cases hlt : i < 7
    · have hix := fun w' => (unhide HIX) i hlt w'
      have hj := (unhide HJ) i hlt
      have hln := (unhide HLN) i hi
      obtain ⟨p0, p1⟩ := (unhide HPB) i hlt
      have hu := (unhide HU) i hlt
      have hcc := fun w' hb => (unhide HC) w' hb i hlt
      rw [(unhide HN) i hlt] at hcc
      obtain ⟨p, hp⟩ : ∃ p, part i = p := ⟨_, rfl⟩
      obtain ⟨n, hn⟩ : ∃ n, (ua i).2 = n := ⟨_, rfl⟩
      obtain ⟨a, ha⟩ : ∃ a, jn i = a := ⟨_, rfl⟩
      rw [hp] at hix hj p0 p1
      rw [hn] at hj hu hcc
      rw [ha] at hj hln ⊢
      clear hp hn ha
      by_cases hz : 0 < p
      · have HJ2 := hide (show jn (i + 1) = a ++ (Lib.decDigits p.toNat ++ n) by rw [hj]; unfold piece; rw [if_pos hz])
        have hd := dec18 p p1
        have CI := fun w' hb' => hide (itoa_any p w' (HW w' hb') p0 (by omega))
        generalize Lib.decDigits p.toNat = D at *
        have z1 := bs_size a
        have z2 := bs_size D
        have z3 := bs_size n
        have HX := hide (piece_join a D n)
        have q1 : ¬ 9223372036854775807 < D.length + n.length := by omega
        have q2 : ¬ 9223372036854775807 < a.length + (D.length + n.length) := by omega
        clear hj
        go_wp2_with fail
        refine wp_region_held_drew (S := (fun w' => Below b w w')) (by kernel_rfl) ?_ (fun hHeld => ?_)
        · (first | (first | exact hb'.drew | assumption))
        refine wpAnyH_take (i := 0) (oi := ?o1) (v := ?v1) ?hi1 (by kernel_rfl) (by kernel_rfl) (by kernel_rfl) ?hQ1 (Or.inl ⟨?hw1, ?hy1⟩) (by assumption) ?_
        case hi1 => (simp only [List.getElem?_toArray, List.getElem?_cons_zero]; rfl)
        case hQ1 => exact fun _ _ _ h => h
        case hw1 => rfl
        case hy1 => (intro w hSw; (try dsimp only at hSw); go_simp; (try with_reducible rfl))
        simp only [Act.put, List.setIfInBounds_toArray, List.set_cons_zero, List.set_cons_succ]
        refine wpAnyH_take (i := 1) (oi := ?o2) (v := ?v2) ?hi2 (by kernel_rfl) (by kernel_rfl) (by kernel_rfl) ?hQ2 (Or.inl ⟨?hw2, ?hy2⟩) (by assumption) ?_
        case hi2 => (simp only [List.getElem?_toArray, List.getElem?_cons_succ, List.getElem?_cons_zero]; rfl)
        case hQ2 => exact fun _ _ _ h => h
        case hw2 => rfl
        case hy2 => (intro w hSw; (try dsimp only at hSw); go_simp; (try with_reducible rfl))
        simp only [Act.put, List.setIfInBounds_toArray, List.set_cons_zero, List.set_cons_succ]
        refine wpAnyH_take (i := 3) (oi := ?o3) (v := ?v3) ?hi3 (by kernel_rfl) (by kernel_rfl) (by kernel_rfl) ?hQ3 (Or.inl ⟨?hw3, ?hy3⟩) (by assumption) ?_
        case hi3 => (simp only [List.getElem?_toArray, List.getElem?_cons_succ, List.getElem?_cons_zero]; rfl)
        case hQ3 => exact fun _ _ _ h => h
        case hw3 => rfl
        case hy3 => (intro w hSw; (try dsimp only at hSw); go_simp; (try with_reducible rfl))
        simp only [Act.put, List.setIfInBounds_toArray, List.set_cons_zero, List.set_cons_succ]
        refine wpAnyH_take (i := 4) (oi := ?o4) (v := ?v4) ?hi4 (by kernel_rfl) (by kernel_rfl) (by kernel_rfl) ?hQ4 (Or.inl ⟨?hw4, ?hy4⟩) (by assumption) ?_
        case hi4 => (simp only [List.getElem?_toArray, List.getElem?_cons_succ, List.getElem?_cons_zero]; rfl)
        case hQ4 => exact fun _ _ _ h => h
        case hw4 => rfl
        case hy4 => (intro w hSw; (try dsimp only at hSw); go_simp; (try with_reducible rfl))
        simp only [Act.put, List.setIfInBounds_toArray, List.set_cons_zero, List.set_cons_succ]
        refine wpAnyH_take (i := 5) (oi := ?o5) (v := ?v5) ?hi5 (by kernel_rfl) (by kernel_rfl) (by kernel_rfl) ?hQ5 (Or.inl ⟨?hw5, ?hy5⟩) (by assumption) ?_
        case hi5 => (simp only [List.getElem?_toArray, List.getElem?_cons_succ, List.getElem?_cons_zero]; rfl)
        case hQ5 => exact fun _ _ _ h => h
        case hw5 => rfl
        case hy5 => (intro w hSw; (try dsimp only at hSw); go_simp; (try with_reducible rfl))
        simp only [Act.put, List.setIfInBounds_toArray, List.set_cons_zero, List.set_cons_succ]
        refine wpAnyH_ready (rs := [2]) (by kernel_rfl) (by simp) ?_
        refine AllReadyH.cons (o := ?o6) ?hi6 (fun K hK => ?_) AllReadyH.nil
        case hi6 => (simp only [List.getElem?_toArray, List.getElem?_cons_succ, List.getElem?_cons_zero]; rfl)
        go_simp
        (go_at_call 28; refine (unhide (CI _ (by assumption))).mono ?_; rintro e w4 ⟨rfl, hb4⟩; have hk4 := below_on hbs (by assumption) hb4); go_wp2_with fail
        refine hK.out _ _ ?_ (fun hHeld => ?_)
        · (first | (first | exact hb'.drew | assumption))
        clear hK K
        refine wpAnyH_take (i := 6) (oi := ?o7) (v := ?v7) ?hi7 (by kernel_rfl) (by kernel_rfl) (by kernel_rfl) ?hQ7 (Or.inl ⟨?hw7, ?hy7⟩) (by assumption) ?_
        case hi7 => (simp only [List.getElem?_toArray, List.getElem?_cons_succ, List.getElem?_cons_zero]; rfl)
        case hQ7 => exact fun _ _ _ h => h
        case hw7 => rfl
        case hy7 => (intro w hSw; (try dsimp only at hSw); go_simp; (try with_reducible rfl))
        simp only [Act.put, List.setIfInBounds_toArray, List.set_cons_zero, List.set_cons_succ]
        refine wpAnyH_take (i := 7) (oi := ?o8) (v := ?v8) ?hi8 (by kernel_rfl) (by kernel_rfl) (by kernel_rfl) ?hQ8 (Or.inl ⟨?hw8, ?hy8⟩) (by assumption) ?_
        case hi8 => (simp only [List.getElem?_toArray, List.getElem?_cons_succ, List.getElem?_cons_zero]; rfl)
        case hQ8 => exact fun _ _ _ h => h
        case hw8 => rfl
        case hy8 => (intro w hSw; (try dsimp only at hSw); go_simp; (try with_reducible rfl))
        simp only [Act.put, List.setIfInBounds_toArray, List.set_cons_zero, List.set_cons_succ]
        refine wpAnyH_take (i := 8) (oi := ?o9) (v := ?v9) ?hi9 (by kernel_rfl) (by kernel_rfl) (by kernel_rfl) ?hQ9 (Or.inl ⟨?hw9, ?hy9⟩) (by assumption) ?_
        case hi9 => (simp only [List.getElem?_toArray, List.getElem?_cons_succ, List.getElem?_cons_zero]; rfl)
        case hQ9 => exact fun _ _ _ h => h
        case hw9 => rfl
        case hy9 => (intro w hSw; (try dsimp only at hSw); go_simp; (try with_reducible rfl))
        simp only [Act.put, List.setIfInBounds_toArray, List.set_cons_zero, List.set_cons_succ]
        refine wpAnyH_done (by kernel_rfl) ?_ _
        go_wp2_with fail
        go_roundw
        case rel => exact ⟨i + 1, by rw [unhide HJ2, ← unhide HX], by go_num, by omega, by assumption⟩
        case measure => simp [intOf]; omega
      · have HJ2 := hide (show jn (i + 1) = a by rw [hj]; unfold piece; rw [if_neg hz, List.append_nil])
        clear hj
        go_wp2_with fail
        go_roundw
        case rel => exact ⟨i + 1, by rw [unhide HJ2], by go_num, by omega, hb'⟩
        case measure => simp [intOf]; omega
    · obtain rfl : i = 7 := by omega
      rw [unhide HE]
      by_cases hj : J = []
      · have HT2 := hide (show T = [48, 115] by rw [unhide HT, if_pos hj])
        have he : (bs J).toList.isEmpty = true := by rw [toL_eq, hj]; rfl
        clear hj
        go_wp2_with fail
        go_ret
        exact ⟨by rw [unhide HT2]; rfl, by rw [hbs]; exact hb'⟩
      · have HT2 := hide (show T = J by rw [unhide HT, if_neg hj])
        have he : (bs J).toList.isEmpty = false := by rw [toL_eq, List.isEmpty_eq_false_iff]; exact hj
        clear hj
        go_wp2_with fail
        go_ret
        exact ⟨by rw [unhide HT2]; rfl, by rw [hbs]; exact hb'⟩
end Go.Proofs.YtcpehfjpdegmbaaDoor
