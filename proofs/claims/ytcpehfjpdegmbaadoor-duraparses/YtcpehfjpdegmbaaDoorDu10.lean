import Derived.Test.YtcpehfjpdegmbaaDoorDu9
namespace Go.Proofs.YtcpehfjpdegmbaaDoor
open Go.RowKit Kt Dg Du

set_option maxRecDepth 100000 in
set_option maxHeartbeats 1000000 in
theorem rtext_pos (r : Int) (w : World) (h0 : 0 < r) (h1 : r ≤ 4611686018427387902) :
    Calls Tryd.prog 9 #[.int .i64 r] w fun e w' => e = .returned (.string (bs (joinR r))) ∧ Below w.heap.size w w' := by
  have HLN := hide (jn_len r (by omega) h1)
  have HPB := hide (part_bd r (by omega) h1)
  have HB := hide (rest_bd r (by omega) h1)
  have HJ := hide (jn_succ r)
  have HE := hide (jn_end r)
  have H0 := hide (jn_zero r)
  have HR0 := hide (show restZ r 0 = r from rfl)
  have HR1 := hide (fun k => show restZ r (k + 1) = restZ r k % (unitAt k).1 from rfl)
  have HQ := hide (fun k => show partZ r k = restZ r k / (unitAt k).1 from rfl)
  have HU := hide unit_len
  have HV := hide (fun k h => units_ok _ (unit_mem k h))
  have HC := hide (fun i h => ucell_new i h w)
  have HD := hide ncell_new
  have CN := fun w' => hide (rnames_any w')
  have CS : Hid (Calls Tryd.prog 19 #[] w fun e w' => e = .returned (.slice (some ⟨w.heap.size, 0, none⟩) 7 7) ∧ w.alloc (.cells #[.int .i64 86400000000000, .int .i64 3600000000000, .int .i64 60000000000, .int .i64 1000000000, .int .i64 1000000, .int .i64 1000, .int .i64 1] 3) = w') := hide ((rsizes_any w).mono (fun e w' h => ⟨h.1, h.2.symm⟩))
  generalize joinR r = J at *
  generalize jn r = jn at *
  generalize partZ r = part at *
  generalize restZ r = rest at *
  generalize unitAt = ua at *
  have hrr : (r == 0) = false := by rw [beq_eq_false_iff_ne]; omega
  obtain ⟨W1, hW1⟩ : ∃ W1, W1 = w.alloc (.cells #[.int .i64 86400000000000, .int .i64 3600000000000, .int .i64 60000000000, .int .i64 1000000000, .int .i64 1000000, .int .i64 1000, .int .i64 1] 3) := ⟨_, rfl⟩
  have B1 : Below w.heap.size w W1 := by rw [hW1]; exact below1 _ _
  rw [← hW1] at HC CS
  clear hW1
  have hbz := B1.size
  obtain ⟨b, hbs⟩ : ∃ b, w.heap.size = b := ⟨_, rfl⟩
  rw [hbs] at HC CS B1 hbz ⊢
  clear hbs
  go_enter Tryd.func9, Tryd.ntmps9
  go_wp2_with (go_at_call 19; refine (unhide CS).mono ?_; rintro e w' ⟨rfl, rfl⟩)
  go_loopw [0, 3, 20] (fun x a d w' => ∃ i : Nat, x = .int .i64 (rest i) ∧ a = .string (bs (jn i)) ∧ d = .int .i64 (i : Int) ∧ i ≤ 7 ∧ Below W1.heap.size W1 w') (fun _ _ d _ => 7 - (intOf d).toNat)
  case atStart => exact ⟨0, by rw [unhide HR0], by rw [unhide H0]; rfl, rfl, by omega, Below.refl _ _⟩
  case round =>
    obtain ⟨i, rfl, rfl, rfl, hi, hb'⟩ := hrel
    by_cases hlt : i < 7
    · have hj := (unhide HJ) i hlt
      have hln := (unhide HLN) i hi
      obtain ⟨p0, p1⟩ := (unhide HPB) i hlt
      obtain ⟨r0, r1⟩ := (unhide HB) i hi
      obtain ⟨r2, r3⟩ := (unhide HB) (i + 1) hlt
      have hu := (unhide HU) i hlt
      have hc1 := (unhide HC) i hlt
      have hc2 := (unhide HD) i hlt
      obtain ⟨v0, v1, _, _⟩ := (unhide HV) i hlt
      have e1 : (rest i).tdiv (ua i).1 = part i := by rw [(unhide HQ) i]; exact Int.tdiv_eq_ediv_of_nonneg r0
      have e2 : (rest i).tmod (ua i).1 = rest (i + 1) := by rw [(unhide HR1) i]; exact Int.tmod_eq_emod_of_nonneg r0
      obtain ⟨p, hp⟩ : ∃ p, part i = p := ⟨_, rfl⟩
      obtain ⟨n, hn⟩ : ∃ n, (ua i).2 = n := ⟨_, rfl⟩
      obtain ⟨z, hz⟩ : ∃ n, (ua i).1 = n := ⟨_, rfl⟩
      obtain ⟨a, ha⟩ : ∃ a, jn i = a := ⟨_, rfl⟩
      obtain ⟨q, hq⟩ : ∃ q, rest i = q := ⟨_, rfl⟩
      obtain ⟨q', hq'⟩ : ∃ q, rest (i + 1) = q := ⟨_, rfl⟩
      rw [hp] at hj p0 p1 e1
      rw [hn] at hj hu hc2
      rw [hz] at hc1 v0 v1 e1 e2
      rw [ha] at hj hln ⊢
      rw [hq] at r0 r1 e1 e2 ⊢
      rw [hq'] at r2 r3 e2
      have z0 : (z == 0) = false := by rw [beq_eq_false_iff_ne]; omega
      have HQ' := hide hq'
      clear hp hn ha hz hq hq'
      by_cases hz : 0 < p
      · have HJ2 := hide (show jn (i + 1) = a ++ Lib.decDigits p.toNat ++ n by rw [hj]; unfold piece; rw [if_pos hz, List.append_assoc])
        have hd := dec18 p p1
        have CI := fun w' => hide (rdig p w' p0 (by omega))
        generalize Lib.decDigits p.toNat = D at *
        have z1 := bs_size a
        have z2 := bs_size D
        have z3 := bs_size n
        have x1 := bs_join a D
        have x2 := bs_join (a ++ D) n
        have z4 := bs_size (a ++ D)
        rw [List.length_append] at z4
        clear hj
        go_wp2_with (first | (go_at_call 20; refine (unhide (CI _)).mono ?_; rintro e w4 ⟨rfl, hb4⟩; have hk4 := Below.trans (by assumption) (hb4.mono (Below.size (by assumption)))) | (go_at_call 21; refine (unhide (CN _)).mono ?_; rintro e w' ⟨rfl, rfl⟩))
        go_roundw
        case rel => exact ⟨i + 1, by rw [unhide HQ'], by rw [unhide HJ2, List.append_assoc], by go_num, by omega, Below.alloc (by assumption) (Below.size (by assumption)) _⟩
        case measure => simp [intOf]; omega
      · have HJ2 := hide (show jn (i + 1) = a by rw [hj]; unfold piece; rw [if_neg hz, List.append_nil])
        clear hj
        go_wp2_with fail
        go_roundw
        case rel => exact ⟨i + 1, by rw [unhide HQ'], by rw [unhide HJ2], by go_num, by omega, hb'⟩
        case measure => simp [intOf]; omega
    · obtain rfl : i = 7 := by omega
      rw [unhide HE]
      go_wp2_with fail
      go_ret
      exact ⟨rfl, B1.trans (hb'.mono hbz)⟩
theorem text_of (t : Int) : textZ t = if 4611686018427387903 ≤ t then neverL else if t < 0 then 45 :: joinR (sizeZ t) else if t = 0 then [48, 115] else joinR (sizeZ t) := by
  unfold textZ
  have hb := size_bd t
  by_cases h1 : 4611686018427387903 ≤ t
  · rw [if_pos h1, if_pos h1]
  · rw [if_neg h1, if_neg h1]
    have e : sizeZ t = min (max (clampZ t) (-(clampZ t))) 4611686018427387902 := rfl
    by_cases h2 : t < 0
    · rw [if_pos h2, if_pos h2]
      unfold lenT
      rw [if_neg (join_ne _ (by rw [e]; unfold clampZ; repeat' split
                                all_goals omega) hb.2)]
    · rw [if_neg h2, if_neg h2]
      by_cases h3 : t = 0
      · subst h3
        rw [if_pos rfl]
        decide +kernel
      · rw [if_neg h3]
        unfold lenT
        rw [if_neg (join_ne _ (by rw [e]; unfold clampZ; repeat' split
                                  all_goals omega) hb.2)]
set_option maxRecDepth 100000 in
set_option maxHeartbeats 1000000 in
theorem rtext_any (t : Int) (w : World) :
    Calls Tryd.prog 9 #[.int .i64 t] w fun e w' => e = .returned (.string (bs (textZ t))) ∧ Below w.heap.size w w' := by
  have hb := size_bd t
  have e : sizeZ t = min (max (clampZ t) (-(clampZ t))) 4611686018427387902 := rfl
  have ht := text_of t
  by_cases h1 : 4611686018427387903 ≤ t
  · have HT := hide (show textZ t = neverL by rw [ht, if_pos h1])
    clear ht e hb
    generalize textZ t = T at *
    go_enter Tryd.func9, Tryd.ntmps9
    go_wp2_with fail
    go_ret
    exact ⟨by rw [unhide HT]; rfl, Below.refl _ _⟩
  by_cases h2 : t < 0
  · have hz : sizeZ t = if t < -4611686018427387902 then 4611686018427387902 else -t := by
      rw [e]; unfold clampZ; repeat' split
      all_goals omega
    have hp : 0 < sizeZ t := by rw [hz]; split <;> omega
    have HT := hide (show textZ t = 45 :: joinR (sizeZ t) by rw [ht, if_neg h1, if_pos h2])
    have CR := fun w' => hide (rtext_pos (sizeZ t) w' hp hb.2)
    have HX := hide (bs_join [45] (joinR (sizeZ t)))
    have hl : (joinR (sizeZ t)).length ≤ 140 := by rw [← jn_end]; exact jn_len _ hb.1 hb.2 7 (Nat.le_refl _)
    have z1 := bs_size (joinR (sizeZ t))
    clear ht e
    generalize textZ t = T at *
    generalize joinR (sizeZ t) = J at *
    by_cases h3 : t < -4611686018427387902
    · rw [if_pos h3] at hz
      rw [hz] at CR
      clear hz hp hb
      go_enter Tryd.func9, Tryd.ntmps9
      go_wp2_with (go_at_call 9; refine (unhide (CR _)).mono ?_; rintro e w1 ⟨rfl, hb1⟩)
      go_ret
      exact ⟨by rw [unhide HT, show 45 :: J = [45] ++ J from rfl, ← unhide HX]; rfl, hb1⟩
    · rw [if_neg h3] at hz
      rw [hz] at CR
      clear hz hp hb
      go_enter Tryd.func9, Tryd.ntmps9
      go_wp2_with (go_at_call 9; refine (unhide (CR _)).mono ?_; rintro e w1 ⟨rfl, hb1⟩)
      go_ret
      exact ⟨by rw [unhide HT, show 45 :: J = [45] ++ J from rfl, ← unhide HX]; rfl, hb1⟩
  by_cases h3 : t = 0
  · subst h3
    rw [show textZ 0 = [48, 115] from by decide +kernel]
    clear ht e hb
    go_enter Tryd.func9, Tryd.ntmps9
    go_wp2_with fail
    go_ret
    exact ⟨rfl, Below.refl _ _⟩
  · have hz : sizeZ t = t := by
      rw [e]; unfold clampZ; repeat' split
      all_goals omega
    rw [ht, if_neg h1, if_neg h2, if_neg h3, hz]
    exact rtext_pos t w (by omega) (by omega)
end Go.Proofs.YtcpehfjpdegmbaaDoor
