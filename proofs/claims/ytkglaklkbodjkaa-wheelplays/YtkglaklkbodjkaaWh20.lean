import Derived.Test.YtkglaklkbodjkaaWh19
namespace Go.Proofs.Ytkglaklkbodjkaa
open Go.RowKit Wh
set_option linter.unusedVariables false

theorem drew_sum (w : World) (a x k : Nat) : ∃ n, (w.drewN (a + x)).drewN k = w.drewN (a + n) := ⟨x + k, by rw [World.drewN_drewN, Nat.add_assoc]⟩
theorem least_unique {m k : Nat} {l : List Int} {d : Int → Nat} (h : Least m l d) (h2 : Least k l d) : m = k := by
  obtain ⟨x, hx, e⟩ := h.mem
  obtain ⟨y, hy, e2⟩ := h2.mem
  have := h.le y hy
  have := h2.le x hx
  omega
theorem least_ex (l : List Int) (d : Int → Nat) (h : l ≠ []) : ∃ m, Least m l d := by
  induction l with
  | nil => exact absurd rfl h
  | cons y l ih =>
    by_cases e : l = []
    · subst e
      exact ⟨d y, ⟨y, List.mem_cons_self .., rfl⟩, fun x hx => by
        simp only [List.mem_cons, List.not_mem_nil, or_false] at hx
        subst hx; exact Nat.le_refl _⟩
    · obtain ⟨m, hm⟩ := ih e
      by_cases c : d y ≤ m
      · refine ⟨d y, ⟨y, List.mem_cons_self .., rfl⟩, fun x hx => ?_⟩
        rcases List.mem_cons.1 hx with rfl | hx
        · exact Nat.le_refl _
        · exact Nat.le_trans c (hm.le x hx)
      · obtain ⟨x, hx, e2⟩ := hm.mem
        refine ⟨m, ⟨x, List.mem_cons_of_mem _ hx, e2⟩, fun z hz => ?_⟩
        rcases List.mem_cons.1 hz with rfl | hz
        · omega
        · exact hm.le z hz
/-- The first tick of all. -/
structure First (m : Nat) (L : List Wh.Item) : Prop where
  mem : ∃ x ∈ L, x.2 = m
  le : ∀ x ∈ L, m ≤ x.2
section
variable {B H Mb now n : Nat} {sv : Nat → Value} {sl : Nat → List Int} {L : List Wh.Item}
/-- All levels below j are empty; at level j so many slots ahead. -/
def LvGe (now j : Nat) (L : List Wh.Item) : Prop := ∀ x ∈ L, j ≤ lev now x.2
def AhGe (now j a : Nat) (L : List Wh.Item) : Prop := ∀ x ∈ L, lev now x.2 = j → now / 16 ^ j + 1 + a ≤ x.2 / 16 ^ j
theorem lv_next (hr : Rw now L) {j : Nat} (h : LvGe now j L) (h2 : AhGe now j 16 L) : LvGe now (j + 1) L := fun x hx => by
  have h3 := h x hx
  by_cases e : lev now x.2 = j
  · obtain ⟨a, ha, _, h4⟩ := lev_ahead (hr.due x hx).1 (hr.due x hx).2 e
    have := h2 x hx e
    omega
  · omega
theorem ah_zero (hr : Rw now L) (j : Nat) : AhGe now j 0 L := fun x hx e => by
  obtain ⟨a, ha, _, h4⟩ := lev_ahead (hr.due x hx).1 (hr.due x hx).2 e
  omega
theorem slot_in (hr : Rw now L) (hs : Slots (lev now) L (two sl)) {j a : Nat} (hj : j < 4) (ha : a < 16) {x : Wh.Item} (hx : x ∈ L) (e : lev now x.2 = j) (e2 : x.2 / 16 ^ j = now / 16 ^ j + 1 + a) : x.1 ∈ sl (16 * j + (dig now j + 1 + a) % 16) := by
  obtain ⟨a', ha', h3, h4⟩ := lev_ahead (hr.due x hx).1 (hr.due x hx).2 e
  obtain rfl : a' = a := by omega
  have h0 := hs j ((dig now j + 1 + a') % 16) hj (Nat.mod_lt _ (by decide))
  unfold two at h0
  rw [h0]
  unfold slotBy
  exact List.mem_map.2 ⟨x, List.mem_filter.2 ⟨hx, by simp [e, h3]⟩, rfl⟩
theorem slot_out (hr : Rw now L) (hs : Slots (lev now) L (two sl)) {j a : Nat} (hj : j < 4) (ha : a < 16) {i : Int} (hi : i ∈ sl (16 * j + (dig now j + 1 + a) % 16)) : ∃ x ∈ L, x.1 = i ∧ lev now x.2 = j ∧ x.2 / 16 ^ j = now / 16 ^ j + 1 + a := by
  have h0 := hs j ((dig now j + 1 + a) % 16) hj (Nat.mod_lt _ (by decide))
  unfold two at h0
  rw [h0] at hi
  unfold slotBy at hi
  obtain ⟨x, hx, rfl⟩ := List.mem_map.1 hi
  obtain ⟨hx1, hx2⟩ := List.mem_filter.1 hx
  obtain ⟨e1, e2⟩ := of_decide_eq_true hx2
  obtain ⟨a', ha', h3, h4⟩ := lev_ahead (hr.due x hx1).1 (hr.due x hx1).2 e1
  refine ⟨x, hx1, rfl, e1, ?_⟩
  rw [h4]
  rw [e2] at h3
  omega
theorem ah_next (hr : Rw now L) (hs : Slots (lev now) L (two sl)) {j a : Nat} (hj : j < 4) (ha : a < 16) (h : AhGe now j a L) (he : sl (16 * j + (dig now j + 1 + a) % 16) = []) : AhGe now j (a + 1) L := fun x hx e => by
  have h1 := h x hx e
  by_cases e2 : x.2 / 16 ^ j = now / 16 ^ j + 1 + a
  · have := slot_in hr hs hj ha hx e e2
    rw [he] at this
    cases this
  · omega
theorem first_of (hr : Rw now L) (hs : Slots (lev now) L (two sl)) {j a m : Nat} (hj : j < 4) (ha : a < 16) (h1 : LvGe now j L) (h2 : AhGe now j a L) (hm : Least m (sl (16 * j + (dig now j + 1 + a) % 16)) (dueOf L)) : First m L := by
  obtain ⟨i, hi, e⟩ := hm.mem
  obtain ⟨x, hx, rfl, e1, e2⟩ := slot_out hr hs hj ha hi
  rw [dueOf_mem hr.fresh hx] at e
  refine ⟨⟨x, hx, e⟩, fun y hy => ?_⟩
  have h3 := h1 y hy
  by_cases e3 : lev now y.2 = j
  · have h4 := h2 y hy e3
    by_cases e4 : y.2 / 16 ^ j = now / 16 ^ j + 1 + a
    · have := hm.le y.1 (slot_in hr hs hj ha hy e3 e4)
      rw [dueOf_mem hr.fresh hy] at this
      exact this
    · have := div_order (c := 16 ^ j) (t := x.2) (u := y.2) (by omega)
      omega
  · have := lev_order (hr.due x hx).1 (hr.due y hy).1 (by omega)
    omega
theorem first_pos (hr : Rw now L) {m : Nat} (h : First m L) : now < m ∧ m ≤ now + 65535 := by
  obtain ⟨x, hx, e⟩ := h.mem
  have := hr.due x hx
  omega
theorem next_nil (w : World) : Calls Try.prog 18 #[.pointer none] w fun e w' => e = .returned (.tuple #[.int .i64 0, .bool false]) ∧ w' = w := by
  go_enter Try.func18, Try.ntmps18
  go_wp2
  go_ret2
  exact ⟨rfl, rfl⟩
/-- What Next answers. -/
def NextIs (now : Nat) (L : List Wh.Item) (v : Value) : Prop := (L = [] ∧ v = .tuple #[.int .i64 0, .bool false]) ∨ ∃ m, First m L ∧ v = .tuple #[.int .i64 ((m - now : Nat) : Int), .bool true]
set_option maxRecDepth 100000 in
set_option maxHeartbeats 8000000 in
theorem next_any (w : World) (h : Has1 w B H Mb now n L sv) (hr : Rw now L) :
    Calls Try.prog 18 #[.pointer (some ⟨H, 0, none⟩)] w fun e w' => ∃ v, e = .returned v ∧ NextIs now L v ∧ Below w.heap.size w w' := by
  obtain ⟨sl, hw, hs⟩ := h
  have hnow := hr.now
  have HR := hide (And.intro hr hs)
  have HW := hide hw
  have c0 := hw.c0
  clear hr hs hw
  go_enter Try.func18, Try.ntmps18
  go_wp2
  go_loopw [9] (fun s9 w' => ∃ j k : Nat, s9 = .int .i64 (j : Int) ∧ j ≤ 4 ∧ w' = w.drewN k ∧ Hid (LvGe now j L)) (fun s9 _ => 4 - (intOf s9).toNat)
  case atStart => exact ⟨0, 0, rfl, by omega, rfl, hide (fun x hx => Nat.zero_le _)⟩
  case round =>
    obtain ⟨j, k, rfl, hj, rfl, HJ⟩ := hrel
    rcases (show j = 0 ∨ j = 1 ∨ j = 2 ∨ j = 3 ∨ j = 4 by omega) with rfl | rfl | rfl | rfl | rfl
    · have CD := fun w' => digit_any now 0 (by omega) (by omega) w'
      have hdl := dig_lt now 0
      obtain ⟨D, hD⟩ : ∃ D, dig now 0 = D := ⟨_, rfl⟩
      have CD2 : Hid (∀ w', Calls Try.prog 52 #[.int .i64 (now : Int), .int .i64 0] w' fun e w2 => e = .returned (.int .i64 (D : Int)) ∧ w2 = w') := hide (by rw [← hD]; exact CD)
      rw [hD] at hdl
      have HD := hide hD
      clear CD hD
      go_wp2
      go_loopw [12] (fun s12 w' => ∃ a k : Nat, s12 = .int .i64 (a : Int) ∧ a ≤ 16 ∧ w' = w.drewN k ∧ Hid (AhGe now 0 a L)) (fun s12 _ => 16 - (intOf s12).toNat)
      case atStart => exact ⟨0, k, rfl, by omega, rfl, hide (ah_zero (unhide HR).1 0)⟩
      case round =>
        obtain ⟨a, k2, rfl, ha, rfl, HA⟩ := hrel
        by_cases hlt : a < 16
        · obtain ⟨s, hs⟩ : ∃ s, D + 1 + a = s := ⟨_, rfl⟩
          obtain ⟨E, hE⟩ : ∃ E, s % 16 = E := ⟨_, rfl⟩
          have hE2 : E < 16 := by omega
          have hs2 : s < 64 := by omega
          have u1 : ((D : Int) + 1) + (a : Int) = (s : Int) := by omega
          have u2 : (s : Int).tmod 16 = (E : Int) := by rw [Int.tmod_eq_emod_of_nonneg (by omega)]; omega
          have hidx : 16 * 0 + (dig now 0 + 1 + a) % 16 = 16 * 0 + E := by rw [unhide HD, hs, hE]
          have cs := (unhide HW).cs (16 * 0 + E) (by omega)
          rw [show 2 + (16 * 0 + E) = 2 + E by omega] at cs
          obtain ⟨pa, cap, hf, hcell⟩ := ((unhide HW).rows (16 * 0 + E) (by omega)).form
          rw [hf] at cs
          obtain ⟨l, hl⟩ : ∃ l, sl (16 * 0 + E) = l := ⟨_, rfl⟩
          have hll : l.length ≤ 1024 := by rw [← hl]; have := slot_len (unhide HR).2 (16 * 0 + E) (by omega); have := (unhide HR).1.len; omega
          rw [hl] at cs hcell
          have HNX := hide (fun he : l = [] => ah_next (unhide HR).1 (unhide HR).2 (j := 0) (by omega) hlt (unhide HA) (by rw [hidx, hl]; exact he))
          have HFO := hide (fun m (hm : Least m l (dueOf L)) => first_of (unhide HR).1 (unhide HR).2 (j := 0) (by omega) hlt (unhide HJ) (unhide HA) (by rw [hidx, hl]; exact hm))
          have HIN : Hid (∀ x ∈ l, isI x ∧ mapOf L x = some ((dueOf L x : Nat) : Int)) := hide (fun x hx => by
            rw [← hl] at hx
            obtain ⟨y, hy, rfl⟩ := slot_mem (unhide HR).2 (16 * 0 + E) (by omega) x hx
            exact ⟨(unhide HR).1.isI y hy, by rw [mapOf_mem (unhide HR).1.fresh hy, dueOf_mem (unhide HR).1.fresh hy]⟩)
          have HCL := hide hcell
          clear hidx hl hf hcell HA hs hE
          cases l with
          | nil =>
            have HN := hide (unhide HNX rfl)
            clear HNX HFO HIN HCL
            go_wp2
            go_quiet (first | (go_at_call 52; refine (unhide CD2 _).mono ?_; rintro e w9 ⟨rfl, rfl⟩; exact ⟨rfl, _, rfl⟩))
            go_wp2
            go_roundw
            case rel => exact ⟨a + 1, k2 + nq, by first | rfl | go_num, by omega, by first | rfl | rw [World.drewN_drewN], HN⟩
            case measure => simp [intOf]; omega
          | cons i0 l0 =>
            obtain ⟨m, hm⟩ := least_ex (i0 :: l0) (dueOf L) (by simp)
            have hF := unhide HFO m hm
            have hmp := first_pos (unhide HR).1 hF
            obtain ⟨g, hg, _⟩ := (unhide HCL) 0 i0 rfl
            subst hg
            obtain ⟨N, hN⟩ : ∃ N, (i0 :: l0).length = N := ⟨_, rfl⟩
            have hN0 : 0 < N := by rw [← hN]; simp
            have CS := hide (fun q => (soon_any (w.drewN q) ((unhide HW).below (below_drewN w q)) g (i0 :: l0).length cap (i0 :: l0) (dueOf L) (fun j x hj => by
              obtain ⟨g2, hg2, hc2⟩ := (unhide HCL) j x hj
              cases hg2
              exact hc2) rfl (by simp) (by omega) (unhide HIN)).mono (R' := fun e w' => e = .returned (.int .i64 (m : Int)) ∧ ∃ k, w' = (w.drewN q).drewN k) (by
                rintro e w' ⟨m2, rfl, hm2, kk⟩
                rw [least_unique hm2 hm]
                exact ⟨rfl, kk⟩))
            rw [hN] at cs CS hll
            have HF := hide hF
            have EMN : Hid ((m : Int) - (now : Int) = ((m - now : Nat) : Int)) := hide (by omega)
            obtain ⟨hm1, hm3⟩ := hmp
            clear HNX HFO HIN HCL hm hF hN
            go_wp2
            go_quiet (first | (go_at_call 52; refine (unhide CD2 _).mono ?_; rintro e w9 ⟨rfl, rfl⟩; exact ⟨rfl, _, rfl⟩))
            go_wp2
            go_quiet (first | (go_at_call 57; refine (unhide CS _).mono ?_; rintro e w9 ⟨rfl, kk, rfl⟩; exact ⟨rfl, drew_sum _ _ _ _⟩))
            go_wp2
            go_ret2
            exact ⟨.tuple #[.int .i64 ((m : Int) - (now : Int)), .bool true], rfl, .inr ⟨m, unhide HF, by rw [unhide EMN]⟩, ⟨rfl, rfl, rfl, Nat.le_refl _, fun _ _ => rfl⟩⟩
        · have ha16 : a = 16 := by omega
          subst ha16
          have HN := hide (lv_next (unhide HR).1 (unhide HJ) (unhide HA))
          clear HA HJ
          go_wp2
          go_roundw
          case rel => exact ⟨1, k2, by first | rfl | go_num, by omega, rfl, HN⟩
          case measure => simp [intOf]
    · have CD := fun w' => digit_any now 1 (by omega) (by omega) w'
      have hdl := dig_lt now 1
      obtain ⟨D, hD⟩ : ∃ D, dig now 1 = D := ⟨_, rfl⟩
      have CD2 : Hid (∀ w', Calls Try.prog 52 #[.int .i64 (now : Int), .int .i64 1] w' fun e w2 => e = .returned (.int .i64 (D : Int)) ∧ w2 = w') := hide (by rw [← hD]; exact CD)
      rw [hD] at hdl
      have HD := hide hD
      clear CD hD
      go_wp2
      go_loopw [12] (fun s12 w' => ∃ a k : Nat, s12 = .int .i64 (a : Int) ∧ a ≤ 16 ∧ w' = w.drewN k ∧ Hid (AhGe now 1 a L)) (fun s12 _ => 16 - (intOf s12).toNat)
      case atStart => exact ⟨0, k, rfl, by omega, rfl, hide (ah_zero (unhide HR).1 1)⟩
      case round =>
        obtain ⟨a, k2, rfl, ha, rfl, HA⟩ := hrel
        by_cases hlt : a < 16
        · obtain ⟨s, hs⟩ : ∃ s, D + 1 + a = s := ⟨_, rfl⟩
          obtain ⟨E, hE⟩ : ∃ E, s % 16 = E := ⟨_, rfl⟩
          have hE2 : E < 16 := by omega
          have hs2 : s < 64 := by omega
          have u1 : ((D : Int) + 1) + (a : Int) = (s : Int) := by omega
          have u2 : (s : Int).tmod 16 = (E : Int) := by rw [Int.tmod_eq_emod_of_nonneg (by omega)]; omega
          have hidx : 16 * 1 + (dig now 1 + 1 + a) % 16 = 16 * 1 + E := by rw [unhide HD, hs, hE]
          have cs := (unhide HW).cs (16 * 1 + E) (by omega)
          rw [show 2 + (16 * 1 + E) = 18 + E by omega] at cs
          obtain ⟨pa, cap, hf, hcell⟩ := ((unhide HW).rows (16 * 1 + E) (by omega)).form
          rw [hf] at cs
          obtain ⟨l, hl⟩ : ∃ l, sl (16 * 1 + E) = l := ⟨_, rfl⟩
          have hll : l.length ≤ 1024 := by rw [← hl]; have := slot_len (unhide HR).2 (16 * 1 + E) (by omega); have := (unhide HR).1.len; omega
          rw [hl] at cs hcell
          have HNX := hide (fun he : l = [] => ah_next (unhide HR).1 (unhide HR).2 (j := 1) (by omega) hlt (unhide HA) (by rw [hidx, hl]; exact he))
          have HFO := hide (fun m (hm : Least m l (dueOf L)) => first_of (unhide HR).1 (unhide HR).2 (j := 1) (by omega) hlt (unhide HJ) (unhide HA) (by rw [hidx, hl]; exact hm))
          have HIN : Hid (∀ x ∈ l, isI x ∧ mapOf L x = some ((dueOf L x : Nat) : Int)) := hide (fun x hx => by
            rw [← hl] at hx
            obtain ⟨y, hy, rfl⟩ := slot_mem (unhide HR).2 (16 * 1 + E) (by omega) x hx
            exact ⟨(unhide HR).1.isI y hy, by rw [mapOf_mem (unhide HR).1.fresh hy, dueOf_mem (unhide HR).1.fresh hy]⟩)
          have HCL := hide hcell
          clear hidx hl hf hcell HA hs hE
          cases l with
          | nil =>
            have HN := hide (unhide HNX rfl)
            clear HNX HFO HIN HCL
            go_wp2
            go_quiet (first | (go_at_call 52; refine (unhide CD2 _).mono ?_; rintro e w9 ⟨rfl, rfl⟩; exact ⟨rfl, _, rfl⟩))
            go_wp2
            go_roundw
            case rel => exact ⟨a + 1, k2 + nq, by first | rfl | go_num, by omega, by first | rfl | rw [World.drewN_drewN], HN⟩
            case measure => simp [intOf]; omega
          | cons i0 l0 =>
            obtain ⟨m, hm⟩ := least_ex (i0 :: l0) (dueOf L) (by simp)
            have hF := unhide HFO m hm
            have hmp := first_pos (unhide HR).1 hF
            obtain ⟨g, hg, _⟩ := (unhide HCL) 0 i0 rfl
            subst hg
            obtain ⟨N, hN⟩ : ∃ N, (i0 :: l0).length = N := ⟨_, rfl⟩
            have hN0 : 0 < N := by rw [← hN]; simp
            have CS := hide (fun q => (soon_any (w.drewN q) ((unhide HW).below (below_drewN w q)) g (i0 :: l0).length cap (i0 :: l0) (dueOf L) (fun j x hj => by
              obtain ⟨g2, hg2, hc2⟩ := (unhide HCL) j x hj
              cases hg2
              exact hc2) rfl (by simp) (by omega) (unhide HIN)).mono (R' := fun e w' => e = .returned (.int .i64 (m : Int)) ∧ ∃ k, w' = (w.drewN q).drewN k) (by
                rintro e w' ⟨m2, rfl, hm2, kk⟩
                rw [least_unique hm2 hm]
                exact ⟨rfl, kk⟩))
            rw [hN] at cs CS hll
            have HF := hide hF
            have EMN : Hid ((m : Int) - (now : Int) = ((m - now : Nat) : Int)) := hide (by omega)
            obtain ⟨hm1, hm3⟩ := hmp
            clear HNX HFO HIN HCL hm hF hN
            go_wp2
            go_quiet (first | (go_at_call 52; refine (unhide CD2 _).mono ?_; rintro e w9 ⟨rfl, rfl⟩; exact ⟨rfl, _, rfl⟩))
            go_wp2
            go_quiet (first | (go_at_call 57; refine (unhide CS _).mono ?_; rintro e w9 ⟨rfl, kk, rfl⟩; exact ⟨rfl, drew_sum _ _ _ _⟩))
            go_wp2
            go_ret2
            exact ⟨.tuple #[.int .i64 ((m : Int) - (now : Int)), .bool true], rfl, .inr ⟨m, unhide HF, by rw [unhide EMN]⟩, ⟨rfl, rfl, rfl, Nat.le_refl _, fun _ _ => rfl⟩⟩
        · have ha16 : a = 16 := by omega
          subst ha16
          have HN := hide (lv_next (unhide HR).1 (unhide HJ) (unhide HA))
          clear HA HJ
          go_wp2
          go_roundw
          case rel => exact ⟨2, k2, by first | rfl | go_num, by omega, rfl, HN⟩
          case measure => simp [intOf]
    · have CD := fun w' => digit_any now 2 (by omega) (by omega) w'
      have hdl := dig_lt now 2
      obtain ⟨D, hD⟩ : ∃ D, dig now 2 = D := ⟨_, rfl⟩
      have CD2 : Hid (∀ w', Calls Try.prog 52 #[.int .i64 (now : Int), .int .i64 2] w' fun e w2 => e = .returned (.int .i64 (D : Int)) ∧ w2 = w') := hide (by rw [← hD]; exact CD)
      rw [hD] at hdl
      have HD := hide hD
      clear CD hD
      go_wp2
      go_loopw [12] (fun s12 w' => ∃ a k : Nat, s12 = .int .i64 (a : Int) ∧ a ≤ 16 ∧ w' = w.drewN k ∧ Hid (AhGe now 2 a L)) (fun s12 _ => 16 - (intOf s12).toNat)
      case atStart => exact ⟨0, k, rfl, by omega, rfl, hide (ah_zero (unhide HR).1 2)⟩
      case round =>
        obtain ⟨a, k2, rfl, ha, rfl, HA⟩ := hrel
        by_cases hlt : a < 16
        · obtain ⟨s, hs⟩ : ∃ s, D + 1 + a = s := ⟨_, rfl⟩
          obtain ⟨E, hE⟩ : ∃ E, s % 16 = E := ⟨_, rfl⟩
          have hE2 : E < 16 := by omega
          have hs2 : s < 64 := by omega
          have u1 : ((D : Int) + 1) + (a : Int) = (s : Int) := by omega
          have u2 : (s : Int).tmod 16 = (E : Int) := by rw [Int.tmod_eq_emod_of_nonneg (by omega)]; omega
          have hidx : 16 * 2 + (dig now 2 + 1 + a) % 16 = 16 * 2 + E := by rw [unhide HD, hs, hE]
          have cs := (unhide HW).cs (16 * 2 + E) (by omega)
          rw [show 2 + (16 * 2 + E) = 34 + E by omega] at cs
          obtain ⟨pa, cap, hf, hcell⟩ := ((unhide HW).rows (16 * 2 + E) (by omega)).form
          rw [hf] at cs
          obtain ⟨l, hl⟩ : ∃ l, sl (16 * 2 + E) = l := ⟨_, rfl⟩
          have hll : l.length ≤ 1024 := by rw [← hl]; have := slot_len (unhide HR).2 (16 * 2 + E) (by omega); have := (unhide HR).1.len; omega
          rw [hl] at cs hcell
          have HNX := hide (fun he : l = [] => ah_next (unhide HR).1 (unhide HR).2 (j := 2) (by omega) hlt (unhide HA) (by rw [hidx, hl]; exact he))
          have HFO := hide (fun m (hm : Least m l (dueOf L)) => first_of (unhide HR).1 (unhide HR).2 (j := 2) (by omega) hlt (unhide HJ) (unhide HA) (by rw [hidx, hl]; exact hm))
          have HIN : Hid (∀ x ∈ l, isI x ∧ mapOf L x = some ((dueOf L x : Nat) : Int)) := hide (fun x hx => by
            rw [← hl] at hx
            obtain ⟨y, hy, rfl⟩ := slot_mem (unhide HR).2 (16 * 2 + E) (by omega) x hx
            exact ⟨(unhide HR).1.isI y hy, by rw [mapOf_mem (unhide HR).1.fresh hy, dueOf_mem (unhide HR).1.fresh hy]⟩)
          have HCL := hide hcell
          clear hidx hl hf hcell HA hs hE
          cases l with
          | nil =>
            have HN := hide (unhide HNX rfl)
            clear HNX HFO HIN HCL
            go_wp2
            go_quiet (first | (go_at_call 52; refine (unhide CD2 _).mono ?_; rintro e w9 ⟨rfl, rfl⟩; exact ⟨rfl, _, rfl⟩))
            go_wp2
            go_roundw
            case rel => exact ⟨a + 1, k2 + nq, by first | rfl | go_num, by omega, by first | rfl | rw [World.drewN_drewN], HN⟩
            case measure => simp [intOf]; omega
          | cons i0 l0 =>
            obtain ⟨m, hm⟩ := least_ex (i0 :: l0) (dueOf L) (by simp)
            have hF := unhide HFO m hm
            have hmp := first_pos (unhide HR).1 hF
            obtain ⟨g, hg, _⟩ := (unhide HCL) 0 i0 rfl
            subst hg
            obtain ⟨N, hN⟩ : ∃ N, (i0 :: l0).length = N := ⟨_, rfl⟩
            have hN0 : 0 < N := by rw [← hN]; simp
            have CS := hide (fun q => (soon_any (w.drewN q) ((unhide HW).below (below_drewN w q)) g (i0 :: l0).length cap (i0 :: l0) (dueOf L) (fun j x hj => by
              obtain ⟨g2, hg2, hc2⟩ := (unhide HCL) j x hj
              cases hg2
              exact hc2) rfl (by simp) (by omega) (unhide HIN)).mono (R' := fun e w' => e = .returned (.int .i64 (m : Int)) ∧ ∃ k, w' = (w.drewN q).drewN k) (by
                rintro e w' ⟨m2, rfl, hm2, kk⟩
                rw [least_unique hm2 hm]
                exact ⟨rfl, kk⟩))
            rw [hN] at cs CS hll
            have HF := hide hF
            have EMN : Hid ((m : Int) - (now : Int) = ((m - now : Nat) : Int)) := hide (by omega)
            obtain ⟨hm1, hm3⟩ := hmp
            clear HNX HFO HIN HCL hm hF hN
            go_wp2
            go_quiet (first | (go_at_call 52; refine (unhide CD2 _).mono ?_; rintro e w9 ⟨rfl, rfl⟩; exact ⟨rfl, _, rfl⟩))
            go_wp2
            go_quiet (first | (go_at_call 57; refine (unhide CS _).mono ?_; rintro e w9 ⟨rfl, kk, rfl⟩; exact ⟨rfl, drew_sum _ _ _ _⟩))
            go_wp2
            go_ret2
            exact ⟨.tuple #[.int .i64 ((m : Int) - (now : Int)), .bool true], rfl, .inr ⟨m, unhide HF, by rw [unhide EMN]⟩, ⟨rfl, rfl, rfl, Nat.le_refl _, fun _ _ => rfl⟩⟩
        · have ha16 : a = 16 := by omega
          subst ha16
          have HN := hide (lv_next (unhide HR).1 (unhide HJ) (unhide HA))
          clear HA HJ
          go_wp2
          go_roundw
          case rel => exact ⟨3, k2, by first | rfl | go_num, by omega, rfl, HN⟩
          case measure => simp [intOf]
    · have CD := fun w' => digit_any now 3 (by omega) (by omega) w'
      have hdl := dig_lt now 3
      obtain ⟨D, hD⟩ : ∃ D, dig now 3 = D := ⟨_, rfl⟩
      have CD2 : Hid (∀ w', Calls Try.prog 52 #[.int .i64 (now : Int), .int .i64 3] w' fun e w2 => e = .returned (.int .i64 (D : Int)) ∧ w2 = w') := hide (by rw [← hD]; exact CD)
      rw [hD] at hdl
      have HD := hide hD
      clear CD hD
      go_wp2
      go_loopw [12] (fun s12 w' => ∃ a k : Nat, s12 = .int .i64 (a : Int) ∧ a ≤ 16 ∧ w' = w.drewN k ∧ Hid (AhGe now 3 a L)) (fun s12 _ => 16 - (intOf s12).toNat)
      case atStart => exact ⟨0, k, rfl, by omega, rfl, hide (ah_zero (unhide HR).1 3)⟩
      case round =>
        obtain ⟨a, k2, rfl, ha, rfl, HA⟩ := hrel
        by_cases hlt : a < 16
        · obtain ⟨s, hs⟩ : ∃ s, D + 1 + a = s := ⟨_, rfl⟩
          obtain ⟨E, hE⟩ : ∃ E, s % 16 = E := ⟨_, rfl⟩
          have hE2 : E < 16 := by omega
          have hs2 : s < 64 := by omega
          have u1 : ((D : Int) + 1) + (a : Int) = (s : Int) := by omega
          have u2 : (s : Int).tmod 16 = (E : Int) := by rw [Int.tmod_eq_emod_of_nonneg (by omega)]; omega
          have hidx : 16 * 3 + (dig now 3 + 1 + a) % 16 = 16 * 3 + E := by rw [unhide HD, hs, hE]
          have cs := (unhide HW).cs (16 * 3 + E) (by omega)
          rw [show 2 + (16 * 3 + E) = 50 + E by omega] at cs
          obtain ⟨pa, cap, hf, hcell⟩ := ((unhide HW).rows (16 * 3 + E) (by omega)).form
          rw [hf] at cs
          obtain ⟨l, hl⟩ : ∃ l, sl (16 * 3 + E) = l := ⟨_, rfl⟩
          have hll : l.length ≤ 1024 := by rw [← hl]; have := slot_len (unhide HR).2 (16 * 3 + E) (by omega); have := (unhide HR).1.len; omega
          rw [hl] at cs hcell
          have HNX := hide (fun he : l = [] => ah_next (unhide HR).1 (unhide HR).2 (j := 3) (by omega) hlt (unhide HA) (by rw [hidx, hl]; exact he))
          have HFO := hide (fun m (hm : Least m l (dueOf L)) => first_of (unhide HR).1 (unhide HR).2 (j := 3) (by omega) hlt (unhide HJ) (unhide HA) (by rw [hidx, hl]; exact hm))
          have HIN : Hid (∀ x ∈ l, isI x ∧ mapOf L x = some ((dueOf L x : Nat) : Int)) := hide (fun x hx => by
            rw [← hl] at hx
            obtain ⟨y, hy, rfl⟩ := slot_mem (unhide HR).2 (16 * 3 + E) (by omega) x hx
            exact ⟨(unhide HR).1.isI y hy, by rw [mapOf_mem (unhide HR).1.fresh hy, dueOf_mem (unhide HR).1.fresh hy]⟩)
          have HCL := hide hcell
          clear hidx hl hf hcell HA hs hE
          cases l with
          | nil =>
            have HN := hide (unhide HNX rfl)
            clear HNX HFO HIN HCL
            go_wp2
            go_quiet (first | (go_at_call 52; refine (unhide CD2 _).mono ?_; rintro e w9 ⟨rfl, rfl⟩; exact ⟨rfl, _, rfl⟩))
            go_wp2
            go_roundw
            case rel => exact ⟨a + 1, k2 + nq, by first | rfl | go_num, by omega, by first | rfl | rw [World.drewN_drewN], HN⟩
            case measure => simp [intOf]; omega
          | cons i0 l0 =>
            obtain ⟨m, hm⟩ := least_ex (i0 :: l0) (dueOf L) (by simp)
            have hF := unhide HFO m hm
            have hmp := first_pos (unhide HR).1 hF
            obtain ⟨g, hg, _⟩ := (unhide HCL) 0 i0 rfl
            subst hg
            obtain ⟨N, hN⟩ : ∃ N, (i0 :: l0).length = N := ⟨_, rfl⟩
            have hN0 : 0 < N := by rw [← hN]; simp
            have CS := hide (fun q => (soon_any (w.drewN q) ((unhide HW).below (below_drewN w q)) g (i0 :: l0).length cap (i0 :: l0) (dueOf L) (fun j x hj => by
              obtain ⟨g2, hg2, hc2⟩ := (unhide HCL) j x hj
              cases hg2
              exact hc2) rfl (by simp) (by omega) (unhide HIN)).mono (R' := fun e w' => e = .returned (.int .i64 (m : Int)) ∧ ∃ k, w' = (w.drewN q).drewN k) (by
                rintro e w' ⟨m2, rfl, hm2, kk⟩
                rw [least_unique hm2 hm]
                exact ⟨rfl, kk⟩))
            rw [hN] at cs CS hll
            have HF := hide hF
            have EMN : Hid ((m : Int) - (now : Int) = ((m - now : Nat) : Int)) := hide (by omega)
            obtain ⟨hm1, hm3⟩ := hmp
            clear HNX HFO HIN HCL hm hF hN
            go_wp2
            go_quiet (first | (go_at_call 52; refine (unhide CD2 _).mono ?_; rintro e w9 ⟨rfl, rfl⟩; exact ⟨rfl, _, rfl⟩))
            go_wp2
            go_quiet (first | (go_at_call 57; refine (unhide CS _).mono ?_; rintro e w9 ⟨rfl, kk, rfl⟩; exact ⟨rfl, drew_sum _ _ _ _⟩))
            go_wp2
            go_ret2
            exact ⟨.tuple #[.int .i64 ((m : Int) - (now : Int)), .bool true], rfl, .inr ⟨m, unhide HF, by rw [unhide EMN]⟩, ⟨rfl, rfl, rfl, Nat.le_refl _, fun _ _ => rfl⟩⟩
        · have ha16 : a = 16 := by omega
          subst ha16
          have HN := hide (lv_next (unhide HR).1 (unhide HJ) (unhide HA))
          clear HA HJ
          go_wp2
          go_roundw
          case rel => exact ⟨4, k2, by first | rfl | go_num, by omega, rfl, HN⟩
          case measure => simp [intOf]
    · have hnil : L = [] := by
        cases hL : L with
        | nil => rfl
        | cons y l =>
          have h1 := unhide HJ y (by rw [hL]; exact List.mem_cons_self ..)
          have h2 := lev_le now y.2
          omega
      clear HJ
      go_wp2
      go_ret2
      exact ⟨_, rfl, .inl ⟨hnil, rfl⟩, below_drewN _ _⟩
end
end Go.Proofs.Ytkglaklkbodjkaa
