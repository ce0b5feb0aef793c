import Derived.Test.YtcbdbkdnindaoaaDoorMk9
import Derived.Test.YtcbdbkdnindaoaaDoorMkMath3
namespace Go.Proofs.YtcbdbkdnindaoaaDoor
open Go.RowKit Mk Dg

set_option maxHeartbeats 2000000 in
theorem rnumber_any (l : List UInt8) (w : World) :
    Calls Tryd.prog 25 #[.string (bs l)] w fun e w' => e = .returned (.int .i64 (numZ l)) ∧ w' = w := by
  have hz := bs_size l
  by_cases h0 : l.length < 1 ∨ 2 < l.length
  · have HR := hide (show numZ l = -1 by unfold numZ; rw [if_pos h0])
    generalize numZ l = R at *
    rcases h0 with h | h
    · go_enter Tryd.func25, Tryd.ntmps25
      go_wp2
      go_ret
      exact ⟨by rw [unhide HR]; rfl, rfl⟩
    · go_enter Tryd.func25, Tryd.ntmps25
      go_wp2
      go_ret
      exact ⟨by rw [unhide HR]; rfl, rfl⟩
  · have h1 : 1 ≤ l.length := by omega
    have h2 : l.length ≤ 2 := by omega
    have HR := hide (show numZ l = match numL l 0 with
      | some v => if 15 < v then -1 else (v : Int)
      | none => -1 by unfold numZ; rw [if_neg h0]; rfl)
    clear h0
    generalize numZ l = R at *
    obtain ⟨N, hN⟩ : ∃ N, numL l 0 = N := ⟨_, rfl⟩
    rw [hN] at HR
    go_enter Tryd.func25, Tryd.ntmps25
    go_wp2
    go_loop [3, 4] (fun n d => ∃ i v : Nat, i ≤ l.length ∧ v ≤ 99 ∧ (i ≤ 1 → v ≤ 9) ∧ (i = 0 → v = 0) ∧ d = .int .i64 (i : Int) ∧ n = .int .i64 (v : Int) ∧ Hid (N = numL (l.drop i) v)) (fun _ d => 2 - (intOf d).toNat)
    case atStart => exact ⟨0, 0, by omega, by omega, by omega, by omega, rfl, rfl, hide (by rw [← hN]; rfl)⟩
    case round =>
      obtain ⟨i, v, hi, hv, hv1, hv0, rfl, rfl, HN⟩ := hrel
      by_cases hlt : i < l.length
      · have hs : i < (bs l).size := by omega
        have hb := bs_at l i hs hlt
        have HN2 := hide (show N = if 48 ≤ (l[i]).toNat ∧ (l[i]).toNat ≤ 57 then numL (l.drop (i + 1)) (v * 10 + ((l[i]).toNat - 48)) else none by
          have := unhide HN
          rw [List.drop_eq_getElem_cons hlt, numL] at this
          exact this)
        have hcb : (l[i]).toNat < 256 := UInt8.toNat_lt _
        clear HN
        generalize l[i] = c at *
        generalize hcn : c.toNat = x at *
        by_cases c1 : x < 48
        · have HR2 := hide (show R = -1 by
            have := unhide HN2
            rw [if_neg (by omega)] at this
            have h := unhide HR
            rw [this] at h; exact h)
          go_wp2
          go_ret
          exact ⟨by rw [unhide HR2]; rfl, rfl⟩
        · by_cases c2 : 57 < x
          · have HR2 := hide (show R = -1 by
              have := unhide HN2
              rw [if_neg (by omega)] at this
              have h := unhide HR
              rw [this] at h; exact h)
            go_wp2
            go_ret
            exact ⟨by rw [unhide HR2]; rfl, rfl⟩
          · have HN3 := hide (show N = numL (l.drop (i + 1)) (v * 10 + (x - 48)) by
              have := unhide HN2
              rw [if_pos (by omega)] at this; exact this)
            go_wp2
            go_round
            case rel => exact ⟨i + 1, v * 10 + (x - 48), by omega, by omega, by omega, by omega, by go_num, by congr 1; omega, HN3⟩
            case measure => simp [intOf]; omega
      · obtain rfl : i = l.length := by omega
        have HN2 := hide (show N = some v by have := unhide HN; rw [List.drop_length] at this; exact this)
        by_cases c1 : 15 < v
        · have HR2 := hide (show R = -1 by
            have h := unhide HR
            rw [unhide HN2] at h
            rw [h]; exact if_pos c1)
          clear HN HN2 HR hN
          go_wp2
          go_ret
          exact ⟨by rw [unhide HR2]; rfl, rfl⟩
        · have HR2 := hide (show R = (v : Int) by
            have h := unhide HR
            rw [unhide HN2] at h
            rw [h]; exact if_neg c1)
          clear HN HN2 HR hN
          go_wp2
          go_ret
          exact ⟨by rw [unhide HR2]; rfl, rfl⟩
end Go.Proofs.YtcbdbkdnindaoaaDoor
