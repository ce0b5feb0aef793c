import Derived.Test.YtcbdbkdnindaoaaDoorMk5
import Derived.Test.YtcbdbkdnindaoaaDoorMkMath2
namespace Go.Proofs.YtcbdbkdnindaoaaDoor
open Go.RowKit Mk

/-- An error's variable holds what one may hold. -/
def ErrV (w : World) (g : Nat) : Prop := ∃ ev, w.cell? ⟨g, 0, none⟩ = some ev ∧ (ev = .nilIface ∨ ∃ te pe, ev = .iface te pe)
/-- The library's variables hold what they may. -/
def MTab (w : World) : Prop := (∃ m, w.cell? ⟨1, 0, none⟩ = some (.int .i64 m)) ∧ ErrV w 2 ∧ ErrV w 3
theorem MTab.below {w w' : World} (h : MTab w) (hb : Below w.heap.size w w') : MTab w' := by
  obtain ⟨⟨m, h1⟩, ⟨e1, h2, h3⟩, ⟨e2, h4, h5⟩⟩ := h
  refine ⟨⟨m, ?_⟩, ⟨e1, ?_, h3⟩, ⟨e2, ?_, h5⟩⟩
  · exact held4 h1 w' hb
  · exact held4 h2 w' hb
  · exact held4 h4 w' hb
theorem MTab.drew {w : World} (h : MTab w) (n : Nat) : MTab (w.drewN n) := h.below (below_drewN w n)

theorem atoi_ok (l : List UInt8) (hl : l.length ≤ 1000000) (v : Int) (h : atoiO l = some v) (w : World) :
    Calls Tryd.prog 31 #[.string (bs l)] w fun e w' => e = .returned (.tuple #[.int .i64 v, .nilIface]) ∧ Below w.heap.size w w' := by
  have h1 : Lib.atoiAll (bs l).data.toList = .ok v := by
    rw [bs_list]
    unfold atoiO at h
    split at h
    · rename_i u hu
      rw [hu]
      cases h; rfl
    · cases h
  refine (Tryd.strconv_Atoi_ok (bs l) (by rw [bs_size]; omega) v h1 w).mono ?_
  rintro e w' ⟨rfl, rfl | ⟨t, rfl⟩⟩
  · exact ⟨rfl, Below.refl _ _⟩
  · exact ⟨rfl, Lib.bytesWorld_below _ _ _⟩
theorem atoi_bad (l : List UInt8) (hl : l.length ≤ 1000000) (h : atoiO l = none) (w : World) (ht : MTab w) :
    Calls Tryd.prog 31 #[.string (bs l)] w fun e w' => ∃ v t p, e = .returned (.tuple #[.int .i64 v, .iface t p]) ∧ Below w.heap.size w w' := by
  obtain ⟨_, ⟨e1, h2, h3⟩, ⟨e2, h4, h5⟩⟩ := ht
  cases hc : Lib.atoiAll (bs l).data.toList with
  | ok v =>
    rw [bs_list] at hc
    unfold atoiO at h
    rw [hc] at h
    cases h
  | «syntax» =>
    refine (Tryd.strconv_Atoi_syntax (bs l) (by rw [bs_size]; omega) hc e1 w h2 h3).mono ?_
    rintro e w' ⟨N, rfl, _, _, hb⟩
    exact ⟨_, _, _, rfl, hb⟩
  | range =>
    refine (Tryd.strconv_Atoi_range (bs l) (by rw [bs_size]; omega) hc e2 w h4 h5).mono ?_
    rintro e w' ⟨N, rfl, _, _, hb⟩
    exact ⟨_, _, _, rfl, hb⟩
theorem atoiO_bd {l : List UInt8} {v : Int} (h : atoiO l = some v) : -9223372036854775808 ≤ v ∧ v ≤ 9223372036854775807 := by
  unfold atoiO at h
  split at h
  · rename_i u hu
    cases h
    exact Lib.atoiAll_bounds hu
  · cases h
set_option maxHeartbeats 2000000 in
theorem stretch_any (f l : List UInt8) (hf : f.length ≤ 1000000) (hl : l.length ≤ 1000000) (w : World) (ht : MTab w) :
    Calls Tryd.prog 28 #[.string (bs f), .string (bs l)] w fun e w' => e = .returned (.int .u32 (stretchN f l : Nat)) ∧ Below w.heap.size w w' := by
  obtain ⟨R, hR⟩ : ∃ R, stretchN f l = R := ⟨_, rfl⟩
  rw [hR]
  unfold stretchN at hR
  cases hf1 : atoiO f with
  | none =>
    rw [hf1] at hR
    have C1 := fun w' h => hide (atoi_bad f hf hf1 w' h)
    subst hR
    cases hl1 : atoiO l with
    | none =>
      have C2 := fun w' h => hide (atoi_bad l hl hl1 w' h)
      go_enter Tryd.func28, Tryd.ntmps28
      go_wp2_with (go_at_call 31; refine Hid.out ?_)
      refine hide ?_
      refine (unhide (C1 _ ht)).mono ?_
      rintro e w1 ⟨v1, t1, p1, rfl, b1⟩
      have ht1 := ht.below b1
      go_wp2_with (go_at_call 31; refine Hid.out ?_)
      refine hide ?_
      refine (unhide (C2 _ ht1)).mono ?_
      rintro e w2 ⟨v2, t2, p2, rfl, b2⟩
      go_wp2_with fail
      go_ret
      exact ⟨rfl, b1.trans (b2.mono b1.size)⟩
    | some v2 =>
      have C2 := fun w' => hide (atoi_ok l hl v2 hl1 w')
      have vb := atoiO_bd hl1
      go_enter Tryd.func28, Tryd.ntmps28
      go_wp2_with (go_at_call 31; refine Hid.out ?_)
      refine hide ?_
      refine (unhide (C1 _ ht)).mono ?_
      rintro e w1 ⟨v1, t1, p1, rfl, b1⟩
      have ht1 := ht.below b1
      go_wp2_with (go_at_call 31; refine Hid.out ?_)
      refine hide ?_
      refine (unhide (C2 _)).mono ?_
      rintro e w2 ⟨rfl, b2⟩
      go_wp2_with fail
      go_ret
      exact ⟨rfl, b1.trans (b2.mono b1.size)⟩
  | some v1 =>
    rw [hf1] at hR
    have C1 := fun w' => hide (atoi_ok f hf v1 hf1 w')
    have vb := atoiO_bd hf1
    cases hl1 : atoiO l with
    | none =>
      rw [hl1] at hR
      subst hR
      have C2 := fun w' h => hide (atoi_bad l hl hl1 w' h)
      go_enter Tryd.func28, Tryd.ntmps28
      go_wp2_with (go_at_call 31; refine Hid.out ?_)
      refine hide ?_
      refine (unhide (C1 _)).mono ?_
      rintro e w1 ⟨rfl, b1⟩
      have ht1 := ht.below b1
      go_wp2_with (go_at_call 31; refine Hid.out ?_)
      refine hide ?_
      refine (unhide (C2 _ ht1)).mono ?_
      rintro e w2 ⟨v2, t2, p2, rfl, b2⟩
      go_wp2_with fail
      go_ret
      exact ⟨rfl, b1.trans (b2.mono b1.size)⟩
    | some v2 =>
      rw [hl1] at hR
      have HR := hide hR
      have C2 := fun w' => hide (atoi_ok l hl v2 hl1 w')
      have C3 := fun k hk w' => hide (one_in k hk w')
      have vb2 := atoiO_bd hl1
      clear hR hl1 hf1
      go_enter Tryd.func28, Tryd.ntmps28
      go_wp2_with (go_at_call 31; refine Hid.out ?_)
      refine hide ?_
      refine (unhide (C1 _)).mono ?_
      rintro e w1 ⟨rfl, b1⟩
      go_wp2_with (go_at_call 31; refine Hid.out ?_)
      refine hide ?_
      refine (unhide (C2 _)).mono ?_
      rintro e w2 ⟨rfl, b2⟩
      have HB := hide (b1.trans (b2.mono b1.size))
      clear b1 b2 C1 C2
      go_wp2_with fail
      go_loop [9, 28] (fun m d => ∃ k q : Nat, k ≤ 16 ∧ q < 65536 ∧ d = .int .i64 (k : Int) ∧ m = .int .u32 (q : Int) ∧ Hid (q = rangeN v1 v2 k)) (fun _ d => 16 - (intOf d).toNat)
      case atStart => exact ⟨0, 0, by omega, by omega, rfl, rfl, hide rfl⟩
      case round =>
        obtain ⟨k, q, hk, hq, rfl, rfl, HQ⟩ := hrel
        by_cases hlt : k < 16
        · have C3 := fun w' => C3 k hlt w'
          have hp : 2 ^ k < 65536 := Nat.lt_of_lt_of_le (Nat.pow_lt_pow_right (by omega) hlt) (by decide)
          have a1 := bits_or_u32 q (2 ^ k) (by omega) (by omega)
          have hb : q ||| 2 ^ k < 65536 := by
            show q ||| 2 ^ k < 2 ^ 16
            exact Nat.or_lt_two_pow (by omega) (by omega)
          have hs : rangeN v1 v2 (k + 1) = if v1 ≤ (k : Int) ∧ (k : Int) ≤ v2 then q ||| 2 ^ k else q := by rw [unhide HQ]; rfl
          have HS := hide hs
          clear hs HQ
          generalize q ||| 2 ^ k = q2 at *
          generalize 2 ^ k = O at *
          by_cases c1 : v1 ≤ (k : Int)
          · by_cases c2 : (k : Int) ≤ v2
            · have HS := hide (show q2 = rangeN v1 v2 (k + 1) by rw [unhide HS, if_pos ⟨c1, c2⟩])
              go_wp2_with (go_at_call 21; refine (unhide (C3 _)).mono ?_; rintro e w' ⟨rfl, rfl⟩)
              go_round
              case rel => exact ⟨k + 1, q2, by omega, hb, by go_num, by first | rfl | simp, HS⟩
              case measure => simp [intOf]; omega
            · have HS := hide (show q = rangeN v1 v2 (k + 1) by rw [unhide HS, if_neg (fun h => c2 h.2)])
              go_wp2_with fail
              go_round
              case rel => exact ⟨k + 1, q, by omega, hq, by go_num, by first | rfl | simp, HS⟩
              case measure => simp [intOf]; omega
          · have HS := hide (show q = rangeN v1 v2 (k + 1) by rw [unhide HS, if_neg (fun h => c1 h.1)])
            go_wp2_with fail
            go_round
            case rel => exact ⟨k + 1, q, by omega, hq, by go_num, by first | rfl | simp, HS⟩
            case measure => simp [intOf]; omega
        · obtain rfl : k = 16 := by omega
          go_wp2
          go_ret
          exact ⟨by rw [← unhide HR, ← unhide HQ]; rfl, unhide HB⟩
end Go.Proofs.YtcbdbkdnindaoaaDoor
