import Derived.Test.YtcpehfjpdegmbaaDoorDu11
import Derived.Deep.DeepCutAuto
import Derived.Deep.CutBlock
namespace Go.Proofs.YtcpehfjpdegmbaaDoor
open Go.RowKit Kt Dg Du

theorem pow17 {k : Nat} (h : k ≤ 17) : 10 ^ k ≤ 100000000000000000 := by
  have := Nat.pow_le_pow_right (show 0 < 10 by decide) h
  rwa [show (10 : Nat) ^ 17 = 100000000000000000 from by decide] at this
theorem ncell_held (w : World) (i : Nat) (h : i < 7) : ∀ w', Below (w.alloc (.cells #[.string ⟨#[100]⟩, .string ⟨#[104]⟩, .string ⟨#[109]⟩, .string ⟨#[115]⟩, .string ⟨#[109, 115]⟩, .string ⟨#[117, 115]⟩, .string ⟨#[110, 115]⟩] 9)).heap.size (w.alloc (.cells #[.string ⟨#[100]⟩, .string ⟨#[104]⟩, .string ⟨#[109]⟩, .string ⟨#[115]⟩, .string ⟨#[109, 115]⟩, .string ⟨#[117, 115]⟩, .string ⟨#[110, 115]⟩] 9)) w' → w'.cell? ⟨w.heap.size, i, none⟩ = some (.string (bs (unitAt i).2)) := by
  intro w' hb
  rw [((Blk.new w 9 #[.string ⟨#[100]⟩, .string ⟨#[104]⟩, .string ⟨#[109]⟩, .string ⟨#[115]⟩, .string ⟨#[109, 115]⟩, .string ⟨#[117, 115]⟩, .string ⟨#[110, 115]⟩]).below hb (Blk.new w 9 #[.string ⟨#[100]⟩, .string ⟨#[104]⟩, .string ⟨#[109]⟩, .string ⟨#[115]⟩, .string ⟨#[109, 115]⟩, .string ⟨#[117, 115]⟩, .string ⟨#[110, 115]⟩]).lt).cell]; exact ncell i h
theorem ucell_at (i : Nat) (h : i < 7) (w : World) : (w.alloc (.cells #[.int .i64 86400000000000, .int .i64 3600000000000, .int .i64 60000000000, .int .i64 1000000000, .int .i64 1000000, .int .i64 1000, .int .i64 1] 3)).cell? ⟨w.heap.size, i, none⟩ = some (.int .i64 (unitAt i).1) := by
  rw [(Blk.new w _ _).cell]; exact ucell9 i h
theorem ucell_two (z : Int) (i : Nat) (h : ∀ w : World, (w.alloc (.cells #[.int .i64 86400000000000, .int .i64 3600000000000, .int .i64 60000000000, .int .i64 1000000000, .int .i64 1000000, .int .i64 1000, .int .i64 1] 3)).cell? ⟨w.heap.size, i, none⟩ = some (.int .i64 z)) (w : World) :
    ((w.alloc (.cells #[.int .i64 86400000000000, .int .i64 3600000000000, .int .i64 60000000000, .int .i64 1000000000, .int .i64 1000000, .int .i64 1000, .int .i64 1] 3)).alloc (.cells #[.int .i64 86400000000000, .int .i64 3600000000000, .int .i64 60000000000, .int .i64 1000000000, .int .i64 1000000, .int .i64 1000, .int .i64 1] 3)).cell? ⟨w.heap.size + 1, i, none⟩ = some (.int .i64 z) := by
  have := h (w.alloc (.cells #[.int .i64 86400000000000, .int .i64 3600000000000, .int .i64 60000000000, .int .i64 1000000000, .int .i64 1000000, .int .i64 1000, .int .i64 1] 3))
  rwa [show (w.alloc (.cells #[.int .i64 86400000000000, .int .i64 3600000000000, .int .i64 60000000000, .int .i64 1000000000, .int .i64 1000000, .int .i64 1000, .int .i64 1] 3)).heap.size = w.heap.size + 1 by simp] at this
theorem below_two {B : Nat} {W w : World} (h : Below B W w) (hs : B ≤ w.heap.size) (a b : Obj) : Below B W ((w.alloc a).alloc b) := (h.alloc hs a).alloc (by simp; omega) b
set_option maxRecDepth 100000 in
set_option maxHeartbeats 4000000 in
theorem rparse_not (l y : List UInt8) (m : Bool) (w : World) (hl : l.length ≤ 1000000) (hn : l ≠ neverL) (hm : ([45] : List UInt8).isPrefixOf l = m) (hy : (m = true ∧ 1 ≤ l.length ∧ (bs l).extract 1 l.length = bs y) ∨ (m = false ∧ y = l)) (hyl : y.length ≤ 1000000) :
    Calls Tryd.prog 11 #[.string (bs l)] w fun e w' => e = .returned (.tuple #[.int .i64 (if m = true then -(sumZ y).1 else (sumZ y).1), .bool (sumZ y).2]) ∧ Below w.heap.size w w' := by
  have he : ((bs l).toList == [110, 101, 118, 101, 114]) = false := by rw [toL_eq, beq_eq_false_iff_ne]; exact hn
  have zl := bs_size l
  have CM := fun w' => hide (rhead_any l [45] w')
  rw [show bs [45] = ⟨#[45]⟩ from rfl, hm] at CM
  have CH := fun a b w' => hide (rhead_any a b w')
  have HO := hide (stR_ok y hyl)
  have HS := hide (stR_succ y)
  have HF := hide (sum_finR y)
  have H0 := hide (stR_zero y)
  have HZ := hide (sum_false y)
  have HSB := hide (sum_bd y)
  have HC := hide (ncell_held w)
  have HD := hide ucell_at
  have HU := hide (fun k h => units_ok _ (unit_mem k h))
  have HUL := hide unit_len
  have CS := fun w' => hide (rsizes_any w')
  have CN : Hid (Calls Tryd.prog 21 #[] w fun e w' => e = .returned (.slice (some ⟨w.heap.size, 0, none⟩) 7 7) ∧ w.alloc (.cells #[.string ⟨#[100]⟩, .string ⟨#[104]⟩, .string ⟨#[109]⟩, .string ⟨#[115]⟩, .string ⟨#[109, 115]⟩, .string ⟨#[117, 115]⟩, .string ⟨#[110, 115]⟩] 9) = w') := hide ((rnames_any w).mono (fun e w' h => ⟨h.1, h.2.symm⟩))
  obtain ⟨W1, hW1⟩ : ∃ W1, W1 = w.alloc (.cells #[.string ⟨#[100]⟩, .string ⟨#[104]⟩, .string ⟨#[109]⟩, .string ⟨#[115]⟩, .string ⟨#[109, 115]⟩, .string ⟨#[117, 115]⟩, .string ⟨#[110, 115]⟩] 9) := ⟨_, rfl⟩
  have B1 : Below w.heap.size w W1 := by rw [hW1]; exact below1 _ _
  rw [← hW1] at HC CN
  clear hW1
  have hbz := B1.size
  obtain ⟨b, hbs⟩ : ∃ b, w.heap.size = b := ⟨_, rfl⟩
  rw [hbs] at HC CN B1 hbz ⊢
  clear hbs hn hm
  generalize stR y = st at *
  generalize sumZ y = Z at *
  generalize unitAt = ua at *
  rcases hy with ⟨rfl, hl1, hx⟩ | ⟨rfl, rfl⟩
  all_goals
  go_enter Tryd.func11, Tryd.ntmps11
  go_wp2_with (first | (go_at_call 24; refine (unhide (CM _)).mono ?_; rintro e w' ⟨rfl, rfl⟩) | (go_at_call 21; refine (unhide CN).mono ?_; rintro e w' ⟨rfl, rfl⟩))
  go_loopw [0, 5, 6, 21] (fun a c d e w' => ∃ (i : Nat) (x : List UInt8) (t : Int) (f : Bool), a = .string (bs x) ∧ c = .int .i64 t ∧ d = .bool f ∧ e = .int .i64 (i : Int) ∧ i ≤ 7 ∧ Hid (st i = (x, t, f)) ∧ Below W1.heap.size W1 w') (fun _ _ _ e _ => 7 - (intOf e).toNat)
  case atStart => exact ⟨0, y, 0, false, rfl, rfl, rfl, rfl, by omega, H0, Below.refl _ _⟩
  case round =>
    obtain ⟨i, x, t, f, rfl, rfl, rfl, rfl, hi, HX, hb'⟩ := hrel
    by_cases hlt : i < 7
    · have ho := (unhide HO) i hi
      have hs := (unhide HS) i hlt
      rw [unhide HX] at ho hs
      obtain ⟨o1, o2, o3⟩ := ho
      simp only at o1 o2 o3
      have hc1 := (unhide HC) i hlt
      have hc2 := (unhide HD) i hlt
      obtain ⟨v0, v1, _, _⟩ := (unhide HU) i hlt
      have hul := (unhide HUL) i hlt
      generalize ua i = u at *
      obtain ⟨z, n⟩ := u
      simp only at hc1 hc2 v0 v1 hul
      have K1 := hide (fun h => hs.trans (step_no x t f (z, n) h))
      have K2 := hide (fun h => hs.trans (step_yes x t f (z, n) h))
      have KT := hide (takes_by x t f (z, n))
      simp only at K2 KT
      clear hs
      have zx := bs_size x
      have HA := hide (dg_in x)
      have HE := hide (dg_out x)
      have HT := hide (num_in x)
      have HW := hide (num_out x)
      have HNL := hide (numN_lt x)
      have hN : (dg x).length ≤ x.length := tw_le isD x
      have xB : (bs x).extract (dg x).length x.length = bs (be x) := cut_be x
      have hBl := be_le x
      generalize takesR (x, t, f) (z, n) = TK at *
      generalize numN (dg x) = V at *
      generalize dg x = D at *
      generalize be x = B at *
      obtain ⟨N, hND⟩ : ∃ N, D.length = N := ⟨_, rfl⟩
      rw [hND] at hN xB
      simp only [hND] at HA HE HT HW HNL KT
      clear hND
      go_upto_block 2 with fail
      go_cut [9, 10, 22] (fun s9 s10 _ wx => ∃ (pos : Nat) (vv : Int), s9 = .int .i64 (pos : Int) ∧ s10 = .int .i64 vv ∧ wx = wr ∧ ((pos = 19 ∧ 19 ≤ N) ∨ (pos = N ∧ N ≤ 18 ∧ vv = (V : Int))))
      case first =>
        go_wp2_with fail
        go_loop [9, 10] (fun s9 s10 => ∃ (pos : Nat) (vv : Int), s9 = .int .i64 (pos : Int) ∧ s10 = .int .i64 vv ∧ pos ≤ 19 ∧ pos ≤ N ∧ Hid (pos ≤ 18 → ∃ acc : Nat, vv = (acc : Int) ∧ acc < 10 ^ pos ∧ numL (x.take pos) 0 = some acc)) (fun s9 _ => 19 - (intOf s9).toNat)
        case atStart => exact ⟨0, 0, rfl, rfl, by omega, by omega, hide (fun _ => ⟨0, rfl, by decide, rfl⟩)⟩
        case round =>
          obtain ⟨pos, vv, rfl, rfl, hp1, hp2, HV⟩ := hrel
          by_cases hpN : pos < N
          · have hsz : pos < (bs x).size := by omega
            obtain ⟨c1, c2⟩ := (unhide HA) pos hpN hsz
            have HT2 := hide (fun acc => (unhide HT) pos acc hpN hsz)
            generalize hcc : ((bs x)[pos]'hsz).toNat = c at *
            have d1 : (48 : Int) ≤ (c : Int) := by omega
            have d2 : (c : Int) ≤ 57 := by omega
            by_cases h19 : pos < 19
            · by_cases h18 : pos < 18
              · obtain ⟨acc, rfl, ha, hnum⟩ := (unhide HV) (by omega)
                have h17 := pow17 (show pos ≤ 17 by omega)
                have HP := hide (show acc * 10 + (c - 48) < 10 ^ (pos + 1) by rw [Nat.pow_succ]; omega)
                have HN2 := hide ((unhide HT2) acc hnum)
                have hacc : acc < 100000000000000000 := by omega
                clear HV ha hnum h17
                go_wp2_with fail
                go_round
                case rel => exact ⟨pos + 1, ((acc * 10 + (c - 48) : Nat) : Int), by go_num, by go_num, by omega, by omega, hide (fun _ => ⟨acc * 10 + (c - 48), rfl, unhide HP, unhide HN2⟩)⟩
                case measure => simp [intOf]; omega
              · go_wp2_with fail
                go_round
                case rel => exact ⟨pos + 1, _, by go_num, rfl, by omega, by omega, hide (fun h => absurd h (by omega))⟩
                case measure => simp [intOf]; omega
            · go_wp2_with fail
              go_meet
              case rel => exact ⟨pos, vv, rfl, rfl, rfl, .inl ⟨by omega, by omega⟩⟩
          · have hpe : pos = N := by omega
            have HR : Hid ((pos = 19 ∧ 19 ≤ N) ∨ (pos = N ∧ N ≤ 18 ∧ vv = (V : Int))) := hide (by
              by_cases h19 : pos = 19
              · exact .inl ⟨h19, by omega⟩
              · obtain ⟨acc, e1, _, hnum⟩ := (unhide HV) (by omega)
                exact .inr ⟨hpe, by omega, by rw [e1, (unhide HW) pos acc hpe hnum]⟩)
            subst hpe
            by_cases hsz : pos < (bs x).size
            · have ho := (unhide HE) pos rfl hsz
              clear HV
              generalize hcc : ((bs x)[pos]'hsz).toNat = c at *
              rcases ho with ho | ho
              · have d1 : (c : Int) < 48 := by omega
                go_wp2_with fail
                go_meet
                case rel => exact ⟨pos, vv, rfl, rfl, rfl, (unhide HR).imp id (fun h => ⟨rfl, h.2⟩)⟩
              · have d0 : (48 : Int) ≤ (c : Int) := by omega
                have d1 : (57 : Int) < (c : Int) := by omega
                go_wp2_with fail
                go_meet
                case rel => exact ⟨pos, vv, rfl, rfl, rfl, (unhide HR).imp id (fun h => ⟨rfl, h.2⟩)⟩
            · have hle : x.length ≤ pos := by omega
              clear HV
              go_wp2_with fail
              go_meet
              case rel => exact ⟨pos, vv, rfl, rfl, rfl, (unhide HR).imp id (fun h => ⟨rfl, h.2⟩)⟩
      case rest =>
        clear HA HE HT HW
        obtain ⟨pos, vv, rfl, rfl, rfl, hc⟩ := hcut
        rcases hc with ⟨rfl, h19⟩ | ⟨rfl, h18, rfl⟩
        · have HR := hide ((unhide K1) (by rw [unhide KT, show decide (N ≤ 18) = false from decide_eq_false (by omega)]; simp))
          clear K1 K2 KT
          go_wp2_with fail
          go_roundw
          case rel => exact ⟨i + 1, x, t, f, rfl, rfl, rfl, by go_num, by omega, HR, hb'⟩
          case measure => simp [intOf]; omega
        rcases Nat.eq_zero_or_pos pos with h0 | h0
        · have HR := hide ((unhide K1) (by rw [unhide KT, show decide (pos ≠ 0) = false from decide_eq_false (by omega)]; simp))
          clear K1 K2 KT
          subst h0
          go_wp2_with fail
          go_roundw
          case rel => exact ⟨i + 1, x, t, f, rfl, rfl, rfl, by go_num, by omega, HR, hb'⟩
          case measure => simp [intOf]; omega
        have hsz : 0 < (bs x).size := by omega
        have pz : (((pos : Nat) : Int) == 0) = false := by rw [beq_eq_false_iff_ne]; omega
        have p18 : ((pos : Nat) : Int) ≤ 18 := by omega
        have hc3 := fun w' => ucell_two z i hc2 w'
        rw [show decide (pos ≠ 0) = true from decide_eq_true (by omega), show decide (pos ≤ 18) = true from decide_eq_true h18, head_in x hsz] at KT
        simp only [Bool.true_and] at KT
        have C1 := fun w' => CH B n w'
        have C2 := fun w' => CH B [109, 115] w'
        rw [show bs [109, 115] = ⟨#[109, 115]⟩ from rfl] at C2
        have hV := (unhide HNL) h18
        have zB := bs_size B
        have zn := bs_size n
        have xD := cut_drop B n.length
        generalize hcc : ((bs x)[0]'hsz).toNat = c at *
        have hmm : ((bs n).toList == [109]) = (n == [109]) := by rw [toL_eq]
        have np := fun h : n.isPrefixOf B = true => (List.isPrefixOf_iff_prefix.1 h).length_le
        have HQ := hide (show capZ z t (V : Int) = if 4611686018427387903 / z < (V : Int) then 4611686018427387903 else if 4611686018427387903 < t + (V : Int) * z then 4611686018427387903 else t + (V : Int) * z from rfl)
        have HY := hide (fun h : ¬ 4611686018427387903 / z < (V : Int) => show (V : Int) * z ≤ 4611686018427387903 by
          have := Int.ediv_lt_iff_lt_mul (a := 4611686018427387903) (b := (V : Int)) (c := z) (by omega)
          omega)
        have hy0 : 0 ≤ (V : Int) * z := Int.mul_nonneg (by omega) (by omega)
        have e1 : (4611686018427387903 : Int).tdiv z = 4611686018427387903 / z := Int.tdiv_eq_ediv_of_nonneg (by omega)
        have z0 : (z == 0) = false := by rw [beq_eq_false_iff_ne]; omega
        have q0 : 0 ≤ 4611686018427387903 / z := Int.ediv_nonneg (by omega) (by omega)
        have q1 : 4611686018427387903 / z ≤ 4611686018427387903 := Int.ediv_le_self _ (by omega)
        generalize n.isPrefixOf B = H1 at *
        generalize [109, 115].isPrefixOf B = H2 at *
        generalize (n == [109]) = M at *
        generalize capZ z t (V : Int) = G at *
        generalize B.drop n.length = E at *
        generalize (4611686018427387903 : Int) / z = Q at *
        generalize hyy : (V : Int) * z = Y at *
        cases H1
        · have HR := hide ((unhide K1) (by rw [unhide KT]; rfl))
          clear K1 K2 KT
          go_wp2_with (first | (go_at_call 24; with_reducible refine (unhide (C1 _)).mono ?_; rintro e w' ⟨rfl, rfl⟩) | (go_at_call 24; with_reducible refine (unhide (C2 _)).mono ?_; rintro e w' ⟨rfl, rfl⟩))
          go_roundw
          case rel => exact ⟨i + 1, x, t, f, rfl, rfl, rfl, by go_num, by omega, HR, hb'⟩
          case measure => simp [intOf]; omega
        have nl := np rfl
        rcases (show (M = true ∧ H2 = true) ∨ M = false ∨ (M = true ∧ H2 = false) by cases M <;> cases H2 <;> simp) with ⟨rfl, rfl⟩ | rfl | ⟨rfl, rfl⟩
        · have HR := hide ((unhide K1) (by rw [unhide KT]; rfl))
          clear K1 K2 KT
          go_wp2_with (first | (go_at_call 24; with_reducible refine (unhide (C1 _)).mono ?_; rintro e w' ⟨rfl, rfl⟩) | (go_at_call 24; with_reducible refine (unhide (C2 _)).mono ?_; rintro e w' ⟨rfl, rfl⟩) | (go_at_call 19; refine (unhide (CS _)).mono ?_; rintro e w' ⟨rfl, rfl⟩))
          go_roundw
          case rel => exact ⟨i + 1, x, t, f, rfl, rfl, rfl, by go_num, by omega, HR, hb'⟩
          case measure => simp [intOf]; omega
        all_goals
          rcases (show (c = 48 ∧ 1 < pos) ∨ (c = 48 ∧ pos = 1) ∨ (¬ c = 48) by omega) with ⟨rfl, hp⟩ | ⟨rfl, rfl⟩ | hc48
          · have HR := hide ((unhide K1) (by rw [unhide KT, show decide (1 < pos) = true from decide_eq_true hp]; rfl))
            clear K1 K2 KT
            go_wp2_with (first | (go_at_call 24; with_reducible refine (unhide (C1 _)).mono ?_; rintro e w' ⟨rfl, rfl⟩) | (go_at_call 24; with_reducible refine (unhide (C2 _)).mono ?_; rintro e w' ⟨rfl, rfl⟩) | (go_at_call 19; refine (unhide (CS _)).mono ?_; rintro e w' ⟨rfl, rfl⟩))
            go_roundw
            case rel => exact ⟨i + 1, x, t, f, rfl, rfl, rfl, by go_num, by omega, HR, hb'⟩
            case measure => simp [intOf]; omega
          · have HR := hide ((unhide K2) (by rw [unhide KT]; rfl))
            clear K1 K2 KT
            by_cases hq : Q < (V : Int)
            · have HG := hide (show G = 4611686018427387903 by rw [unhide HQ, if_pos hq])
              go_wp2_with (first | (go_at_call 24; with_reducible refine (unhide (C1 _)).mono ?_; rintro e w' ⟨rfl, rfl⟩) | (go_at_call 24; with_reducible refine (unhide (C2 _)).mono ?_; rintro e w' ⟨rfl, rfl⟩) | (go_at_call 19; refine (unhide (CS _)).mono ?_; rintro e w' ⟨rfl, rfl⟩))
              go_roundw
              case rel => exact ⟨i + 1, E, _, true, rfl, rfl, rfl, by go_num, by omega, by rw [← unhide HG]; exact HR, by first | exact hb' | exact hb'.alloc hb'.size _ | exact below_two hb' hb'.size _ _⟩
              case measure => simp [intOf]; omega
            · have hy1 := (unhide HY) hq
              by_cases hg : 4611686018427387903 < t + Y
              · have HG := hide (show G = 4611686018427387903 by rw [unhide HQ, if_neg hq, if_pos hg])
                go_wp2_with (first | (go_at_call 24; with_reducible refine (unhide (C1 _)).mono ?_; rintro e w' ⟨rfl, rfl⟩) | (go_at_call 24; with_reducible refine (unhide (C2 _)).mono ?_; rintro e w' ⟨rfl, rfl⟩) | (go_at_call 19; refine (unhide (CS _)).mono ?_; rintro e w' ⟨rfl, rfl⟩))
                go_roundw
                case rel => exact ⟨i + 1, E, _, true, rfl, rfl, rfl, by go_num, by omega, by rw [← unhide HG]; exact HR, by first | exact hb' | exact hb'.alloc hb'.size _ | exact below_two hb' hb'.size _ _⟩
                case measure => simp [intOf]; omega
              · have HG := hide (show G = t + Y by rw [unhide HQ, if_neg hq, if_neg hg])
                go_wp2_with (first | (go_at_call 24; with_reducible refine (unhide (C1 _)).mono ?_; rintro e w' ⟨rfl, rfl⟩) | (go_at_call 24; with_reducible refine (unhide (C2 _)).mono ?_; rintro e w' ⟨rfl, rfl⟩) | (go_at_call 19; refine (unhide (CS _)).mono ?_; rintro e w' ⟨rfl, rfl⟩))
                go_roundw
                case rel => exact ⟨i + 1, E, _, true, rfl, rfl, rfl, by go_num, by omega, by rw [← unhide HG]; exact HR, by first | exact hb' | exact hb'.alloc hb'.size _ | exact below_two hb' hb'.size _ _⟩
                case measure => simp [intOf]; omega
          · have c48 : ((c : Int) == 48) = false := by rw [beq_eq_false_iff_ne]; omega
            have HR := hide ((unhide K2) (by rw [unhide KT, c48]; rfl))
            clear K1 K2 KT
            by_cases hq : Q < (V : Int)
            · have HG := hide (show G = 4611686018427387903 by rw [unhide HQ, if_pos hq])
              go_wp2_with (first | (go_at_call 24; with_reducible refine (unhide (C1 _)).mono ?_; rintro e w' ⟨rfl, rfl⟩) | (go_at_call 24; with_reducible refine (unhide (C2 _)).mono ?_; rintro e w' ⟨rfl, rfl⟩) | (go_at_call 19; refine (unhide (CS _)).mono ?_; rintro e w' ⟨rfl, rfl⟩))
              go_roundw
              case rel => exact ⟨i + 1, E, _, true, rfl, rfl, rfl, by go_num, by omega, by rw [← unhide HG]; exact HR, by first | exact hb' | exact hb'.alloc hb'.size _ | exact below_two hb' hb'.size _ _⟩
              case measure => simp [intOf]; omega
            · have hy1 := (unhide HY) hq
              by_cases hg : 4611686018427387903 < t + Y
              · have HG := hide (show G = 4611686018427387903 by rw [unhide HQ, if_neg hq, if_pos hg])
                go_wp2_with (first | (go_at_call 24; with_reducible refine (unhide (C1 _)).mono ?_; rintro e w' ⟨rfl, rfl⟩) | (go_at_call 24; with_reducible refine (unhide (C2 _)).mono ?_; rintro e w' ⟨rfl, rfl⟩) | (go_at_call 19; refine (unhide (CS _)).mono ?_; rintro e w' ⟨rfl, rfl⟩))
                go_roundw
                case rel => exact ⟨i + 1, E, _, true, rfl, rfl, rfl, by go_num, by omega, by rw [← unhide HG]; exact HR, by first | exact hb' | exact hb'.alloc hb'.size _ | exact below_two hb' hb'.size _ _⟩
                case measure => simp [intOf]; omega
              · have HG := hide (show G = t + Y by rw [unhide HQ, if_neg hq, if_neg hg])
                go_wp2_with (first | (go_at_call 24; with_reducible refine (unhide (C1 _)).mono ?_; rintro e w' ⟨rfl, rfl⟩) | (go_at_call 24; with_reducible refine (unhide (C2 _)).mono ?_; rintro e w' ⟨rfl, rfl⟩) | (go_at_call 19; refine (unhide (CS _)).mono ?_; rintro e w' ⟨rfl, rfl⟩))
                go_roundw
                case rel => exact ⟨i + 1, E, _, true, rfl, rfl, rfl, by go_num, by omega, by rw [← unhide HG]; exact HR, by first | exact hb' | exact hb'.alloc hb'.size _ | exact below_two hb' hb'.size _ _⟩
                case measure => simp [intOf]; omega
    · have hf := unhide HF
      obtain rfl : i = 7 := by omega
      rw [unhide HX] at hf
      by_cases h1 : f = true ∧ x = []
      · obtain ⟨rfl, rfl⟩ := h1
        have HZ2 := hide (show Z = (t, true) by rw [hf]; rfl)
        have hsb := unhide HSB
        rw [unhide HZ2] at hsb
        simp only at hsb
        clear hf HZ HF HO HS H0 HX
        have he2 : (bs []).toList.isEmpty = true := by rw [toL_eq]; rfl
        generalize bs [] = s at *
        go_wp2_with fail
        go_ret2
        exact ⟨by rw [unhide HZ2]; rfl, B1.trans (hb'.mono hbz)⟩
      · have HZ2 := hide (show Z = (0, false) by rw [hf]; unfold fin; rw [if_neg h1])
        clear hf HZ HF HO HS H0 HX
        cases f
        · clear h1
          go_wp2_with fail
          go_ret2
          exact ⟨by rw [unhide HZ2]; rfl, B1.trans (hb'.mono hbz)⟩
        · have he2 : (bs x).toList.isEmpty = false := by rw [toL_eq, List.isEmpty_eq_false_iff]; exact fun e => h1 ⟨rfl, e⟩
          clear h1
          go_wp2_with fail
          go_ret2
          exact ⟨by rw [unhide HZ2]; rfl, B1.trans (hb'.mono hbz)⟩
end Go.Proofs.YtcpehfjpdegmbaaDoor
