import Derived.Test.YtcpehfjpdegmbaaDoorDuTab
import Derived.Deep.RegionHeld3
namespace Go.Proofs.YtcpehfjpdegmbaaDoor
open Go.RowKit Kt Dg Du

def uZ (k : Nat) : Int := (unitAt k).1
theorem uZ_bd (k : Nat) (h : k < 7) : 1 ≤ uZ k ∧ uZ k ≤ 86400000000000 := by
  rcases (show k = 0 ∨ k = 1 ∨ k = 2 ∨ k = 3 ∨ k = 4 ∨ k = 5 ∨ k = 6 by omega) with rfl | rfl | rfl | rfl | rfl | rfl | rfl
  all_goals decide
theorem rest_step (r : Int) (k : Nat) : partZ r k * uZ k = restZ r k - restZ r (k + 1) := by
  show restZ r k / (unitAt k).1 * (unitAt k).1 = restZ r k - restZ r k % (unitAt k).1
  have := Int.ediv_mul_add_emod (restZ r k) (unitAt k).1
  omega
theorem rest_lt (r : Int) (k : Nat) (h : k < 7) : 0 ≤ restZ r (k + 1) ∧ restZ r (k + 1) < uZ k := by
  have hu := uZ_bd k h
  exact ⟨Int.emod_nonneg _ (show uZ k ≠ 0 by omega), Int.emod_lt_of_pos _ (show 0 < uZ k by omega)⟩
theorem rest_end (r : Int) : restZ r 7 = 0 := by
  show restZ r 6 % (unitAt 6).1 = 0
  rw [show (unitAt 6).1 = 1 from rfl, Int.emod_one]
theorem ucell (i : Nat) (h : i < 7) : (#[.int .i64 86400000000000, .int .i64 3600000000000, .int .i64 60000000000, .int .i64 1000000000, .int .i64 1000000, .int .i64 1000, .int .i64 1] : Array Value)[i]? = some (.int .i64 (uZ i)) := by
  rcases (show i = 0 ∨ i = 1 ∨ i = 2 ∨ i = 3 ∨ i = 4 ∨ i = 5 ∨ i = 6 by omega) with rfl | rfl | rfl | rfl | rfl | rfl | rfl
  all_goals rfl
theorem pcell (part : Nat → Int) (i : Nat) (h : i < 7) : (#[.int .i64 (part 0), .int .i64 (part 1), .int .i64 (part 2), .int .i64 (part 3), .int .i64 (part 4), .int .i64 (part 5), .int .i64 (part 6)] : Array Value)[i]? = some (.int .i64 (part i)) := by
  rcases (show i = 0 ∨ i = 1 ∨ i = 2 ∨ i = 3 ∨ i = 4 ∨ i = 5 ∨ i = 6 by omega) with rfl | rfl | rfl | rfl | rfl | rfl | rfl
  all_goals rfl
set_option maxRecDepth 100000 in
set_option maxHeartbeats 4000000 in
theorem lparts_walk (t : Int) (w : World) (hw : DTab w) :
    Calls Tryd.prog 6 #[.int .i64 t] w fun e w' => e = .returned (.bool true) ∧ Below w.heap.size w w' := by
  have CF := hide (fixed8 w hw)
  have CK := fun w' => hide (rclamp_any t w')
  have CP := fun w' => hide (parts_any t w')
  have CU := fun w' => hide (units_any w')
  have bc := clampZ_bd t
  have hb := size_bd t
  have HR := hide (show sizeZ t = min (max (clampZ t) (-(clampZ t))) 4611686018427387902 from rfl)
  have HB := hide (rest_bd (sizeZ t) hb.1 hb.2)
  have HP := hide (part_bd (sizeZ t) hb.1 hb.2)
  have HS := hide (rest_step (sizeZ t))
  have HL := hide (rest_lt (sizeZ t))
  have HE := hide (rest_end (sizeZ t))
  have HU := hide uZ_bd
  have H0 := hide (show restZ (sizeZ t) 0 = sizeZ t from rfl)
  have HC := hide ucell
  have HD := hide (pcell (partZ (sizeZ t)))
  rw [show partsV (sizeZ t) = .agg #[.int .i64 (partZ (sizeZ t) 0), .int .i64 (partZ (sizeZ t) 1), .int .i64 (partZ (sizeZ t) 2), .int .i64 (partZ (sizeZ t) 3), .int .i64 (partZ (sizeZ t) 4), .int .i64 (partZ (sizeZ t) 5), .int .i64 (partZ (sizeZ t) 6)] from rfl] at CP
  rw [show unitsV = .agg #[.int .i64 86400000000000, .int .i64 3600000000000, .int .i64 60000000000, .int .i64 1000000000, .int .i64 1000000, .int .i64 1000, .int .i64 1] from rfl] at CU
  generalize restZ (sizeZ t) = rest at *
  generalize partZ (sizeZ t) = part at *
  generalize sizeZ t = R at *
  generalize clampZ t = c at *
  generalize uZ = uz at *
  go_enter Tryd.func6, Tryd.ntmps6
  go_wp2_with (first | (go_at_call 7; refine (unhide CF).mono ?_; rintro e w1 ⟨rfl, hb1⟩) | (go_at_call 15; refine (unhide (CP _)).mono ?_; rintro e w2 ⟨rfl, hb2⟩) | (go_at_call 16; refine (unhide (CU _)).mono ?_; rintro e w3 ⟨rfl, hb3⟩))
  have S3 : Below w.heap.size w w3 := (hb1.trans (hb2.mono hb1.size)).trans (hb3.mono (Nat.le_trans hb1.size hb2.size))
  obtain ⟨W5, hW5⟩ : ∃ W5, W5 = ((w3.alloc (.cells #[.int .i64 (part 0), .int .i64 (part 1), .int .i64 (part 2), .int .i64 (part 3), .int .i64 (part 4), .int .i64 (part 5), .int .i64 (part 6)] 31)).alloc (.cells #[.int .i64 86400000000000, .int .i64 3600000000000, .int .i64 60000000000, .int .i64 1000000000, .int .i64 1000000, .int .i64 1000, .int .i64 1] 31)) := ⟨_, rfl⟩
  have S5 : Below w.heap.size w W5 := by rw [hW5]; exact S3.trans ((below2 _ _ _).mono S3.size)
  have K1 : Blk W5 w3.heap.size 31 #[.int .i64 (part 0), .int .i64 (part 1), .int .i64 (part 2), .int .i64 (part 3), .int .i64 (part 4), .int .i64 (part 5), .int .i64 (part 6)] := by rw [hW5]; exact (Blk.new _ _ _).alloc _
  have K2 : Blk W5 (w3.heap.size + 1) 31 #[.int .i64 86400000000000, .int .i64 3600000000000, .int .i64 60000000000, .int .i64 1000000000, .int .i64 1000000, .int .i64 1000, .int .i64 1] := by rw [hW5]; exact Blk.new_at _ _ _ (by simp)
  rw [← hW5]
  clear hW5 hb1 hb2 hb3 S3
  generalize w3.heap.size = b at *
  have HK1 := hide (fun w' (hb' : Below W5.heap.size W5 w') i (h : i < 7) => show w'.cell? ⟨b, i, none⟩ = some (.int .i64 (part i)) by rw [(K1.below hb' K1.lt).cell]; exact (unhide HD) i h)
  have HK2 := hide (fun w' (hb' : Below W5.heap.size W5 w') i (h : i < 7) => show w'.cell? ⟨b + 1, i, none⟩ = some (.int .i64 (uz i)) by rw [(K2.below hb' K2.lt).cell]; exact (unhide HC) i h)
  clear K1 K2 HC HD
  go_loopw [5, 13] (fun a d w' => ∃ i : Nat, a = .int .i64 (R - rest i) ∧ d = .int .i64 (i : Int) ∧ i ≤ 7 ∧ Below W5.heap.size W5 w') (fun _ d _ => 7 - (intOf d).toNat)
  case atStart => exact ⟨0, by rw [unhide H0, Int.sub_self], rfl, by omega, Below.refl _ _⟩
  case round =>
    obtain ⟨i, rfl, rfl, hi, hb'⟩ := hrel
    by_cases hlt : i < 7
    · have k1 := fun w' h => (unhide HK1) w' h i hlt
      have k2 := fun w' h => (unhide HK2) w' h i hlt
      obtain ⟨p0, p1⟩ := (unhide HP) i hlt
      obtain ⟨u0, u1⟩ := (unhide HU) i hlt
      have hx := (unhide HS) i
      obtain ⟨r0, r1⟩ := (unhide HB) i hi
      obtain ⟨l0, l1⟩ := (unhide HL) i hlt
      obtain ⟨p, hp⟩ : ∃ p, part i = p := ⟨_, rfl⟩
      obtain ⟨u, hu⟩ : ∃ u, uz i = u := ⟨_, rfl⟩
      obtain ⟨x, hX⟩ : ∃ x, p * u = x := ⟨_, rfl⟩
      rw [hp] at k1 p0 p1 hx
      rw [hu] at k2 u0 u1 hx l1
      rw [hX] at hx
      have hxx : x = p * u := hX.symm
      have x0 : 0 ≤ x := by rw [hxx]; exact Int.mul_nonneg p0 (by omega)
      have x1 : x ≤ rest i := by omega
      have HN := hide (show R - rest (i + 1) = R - rest i + x by omega)
      obtain ⟨q, hq⟩ : ∃ q, rest i = q := ⟨_, rfl⟩
      rw [hq] at x1 r0 r1 HN ⊢
      have q1 : q ≤ 4611686018427387902 := r1
      have dp : decide (p < 0) = false := decide_eq_false (by omega)
      rcases Nat.eq_zero_or_pos i with h0 | h0
      · have HX := hide hx
        subst h0
        clear hx hxx l0 l1 hp hu hq
        go_wp2_with fail
        go_quiet (fail)
        go_wp2_with fail
        have hb2 : Below W5.heap.size W5 (wr.drewN nq) := hb'.trans ((below_drewN _ _).mono hb'.size)
        go_quiet (fail)
        go_wp2_with fail
        go_roundw
        case rel => exact ⟨0 + 1, by rw [unhide HN], by go_num, by omega, (by first | exact hb'.trans ((below_drewN _ _).mono hb'.size) | exact hb2.trans ((below_drewN _ _).mono hb2.size))⟩
        case measure => simp [intOf]; try omega
      · obtain ⟨j, rfl⟩ : ∃ j, i = j + 1 := ⟨i - 1, by omega⟩
        have k3 := fun w' h => (unhide HK2) w' h j (by omega)
        have hv := ((unhide HL) j (by omega)).2
        rw [hq] at hv
        obtain ⟨v, hvv⟩ : ∃ v, uz j = v := ⟨_, rfl⟩
        rw [hvv] at k3 hv
        have dv : decide (v ≤ x) = false := decide_eq_false (by omega)
        clear hx hxx l0 l1 hp hu hq hvv
        go_wp2_with fail
        go_quiet (fail)
        go_wp2_with fail
        have hb2 : Below W5.heap.size W5 (wr.drewN nq) := hb'.trans ((below_drewN _ _).mono hb'.size)
        go_quiet (fail)
        go_wp2_with fail
        go_roundw
        case rel => exact ⟨j + 1 + 1, by rw [unhide HN], by go_num, by omega, (by first | exact hb'.trans ((below_drewN _ _).mono hb'.size) | exact hb2.trans ((below_drewN _ _).mono hb2.size))⟩
        case measure => simp [intOf]; try omega
    · obtain rfl : i = 7 := by omega
      rw [unhide HE]
      go_wp2_with (go_at_call 12; refine (unhide (CK _)).mono ?_; rintro e w' ⟨rfl, rfl⟩)
      go_ret
      refine ⟨?_, S5.trans (Below.mono (B := W5.heap.size) (by assumption) S5.size)⟩
      have hr := unhide HR
      have he : (R == min (max c (-c)) 4611686018427387902) = true := by rw [beq_iff_eq]; exact hr
      exact ret_bool he
end Go.Proofs.YtcpehfjpdegmbaaDoor
