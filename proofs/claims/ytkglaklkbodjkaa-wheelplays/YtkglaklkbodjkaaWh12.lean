import Derived.Test.YtkglaklkbodjkaaWh11
namespace Go.Proofs.Ytkglaklkbodjkaa
open Go.RowKit Wh

/-- What so many ticks leave, and what they let go. -/
def ran (now : Nat) (L : List Wh.Item) : Nat → List Wh.Item × List Int
  | 0 => (L, [])
  | k + 1 => (restOf (now + k + 1) (ran now L k).1, (ran now L k).2 ++ firedOf (now + k + 1) (ran now L k).1)
theorem fired_le (t : Nat) (L : List Wh.Item) : (firedOf t L).length ≤ L.length := by
  unfold firedOf
  rw [List.length_map]
  exact List.length_filter_le _ _
theorem ran_len (now : Nat) (L : List Wh.Item) (k : Nat) : (ran now L k).1.length + (ran now L k).2.length = L.length := by
  induction k with
  | zero => rfl
  | succ k ih =>
    show (restOf _ _).length + ((ran now L k).2 ++ firedOf _ _).length = _
    rw [List.length_append, ← rest_len]
    have := fired_le (now + k + 1) (ran now L k).1
    omega
theorem ran_rw {now : Nat} {L : List Wh.Item} (h : Rw now L) (k : Nat) (hk : now + k ≤ 1000000000000) : Rw (now + k) (ran now L k).1 := by
  induction k with
  | zero => exact h
  | succ k ih => exact rest_rw (ih (by omega)) (by omega)
theorem Fr.grown {w w1 w2 : World} {F F1 : Nat → Prop} (h : Fr w w1 F F1) {row : Option Nat} (hg : w1.grownBy w2 row) (hr : ∀ g, row = some g → w.heap.size ≤ g) : Fr w w2 F F1 :=
  ⟨hg.os.trans h.os, hg.tape.trans h.tape, hg.output.trans h.output, Nat.le_trans h.size hg.size, fun g hgl hF => by
    rw [hg.block g (Nat.lt_of_lt_of_le hgl h.size) (fun e => by have := hr g e.symm; omega), h.block g hgl hF], h.foot⟩
section
variable {B H Mb now n : Nat} {sv : Nat → Value} {sl : Nat → List Int} {L : List Wh.Item}
/-- A row outside what was a wheel's stays outside. -/
theorem row_out {w w' : World} {C : Nat} {F F' : Nat → Prop} {v : Value} {l : List Int} (hi : Ir w C v l) (ho : ∀ g, v.ownBlock = some g → ¬ F g) (h : Fr w w' F F') : ∀ g, v.ownBlock = some g → ¬ F' g := fun g hg hF => by
  rcases h.foot g hF with h1 | h1
  · exact ho g hg h1
  · have := (hi.lt g hg).2
    omega
/-- A wheel that has these items. -/
def Has1 (w : World) (B H Mb now n : Nat) (L : List Wh.Item) (sv : Nat → Value) : Prop := ∃ sl, Whl w B H Mb now n (mapOf L) L.length sv sl ∧ Slots (lev now) L (two sl)
set_option maxRecDepth 100000 in
set_option maxHeartbeats 4000000 in
theorem advance_any (w : World) (h : Has1 w B H Mb now n L sv) (hB : B ≤ w.heap.size) (hr : Rw now L) (hnow : now ≤ 100000000000) (t : Int) (T : Nat) (hT : (T : Int) = max 0 (min t 65535)) :
    Calls Try.prog 16 #[.pointer (some ⟨H, 0, none⟩), .int .i64 t] w fun e w' => ∃ v, e = .returned v ∧ Ir w' w.heap.size v (ran now L T).2 ∧ ∃ sv', Has1 w' B H Mb (now + T) n (ran now L T).1 sv' ∧
      Fr w w' (Foot H Mb sv) (Foot H Mb sv') ∧ ∀ g, v.ownBlock = some g → ¬ Foot H Mb sv' g := by
  have HW := hide h
  have HR := hide hr
  clear h hr
  go_enter Try.func16, Try.ntmps16
  go_wp2
  · go_loopw [5, 10] (fun c d w' => ∃ (k : Nat) (sv' : Nat → Value), k ≤ T ∧ d = .int .i64 (k : Int) ∧ Hid (Ir w' w.heap.size c (ran now L k).2) ∧ Hid (Has1 w' B H Mb (now + k) n (ran now L k).1 sv') ∧ Hid (Fr w w' (Foot H Mb sv) (Foot H Mb sv')) ∧ Hid (∀ g, c.ownBlock = some g → ¬ Foot H Mb sv' g)) (fun _ d _ => T - (intOf d).toNat)
    case atStart => exact ⟨0, sv, by omega, rfl, hide (Ir.nil _ _), HW, hide (Fr.refl _ _), hide (fun g hg => by cases hg)⟩
    case round =>
      obtain ⟨k, sv1, hk, rfl, HI, HA, HF, HO⟩ := hrel
      by_cases hl : k < T
      · obtain ⟨sl1, hw1, hs1⟩ := unhide HA
        have c0 := hw1.c0
        have fr0 := hw1.blk.free 0
        have hR := ran_rw (unhide HR) k (by omega)
        have hT1 := hw1.tick (now + k + 1)
        have hBk : B ≤ wr.heap.size := Nat.le_trans hB (unhide HF).size
        have HD := hide (tick_deal _ hT1.1 (Nat.le_trans hBk hT1.2.size) hR hs1)
        have HF1 := hide ((unhide HF).trans hT1.2)
        have HI1 := hide (hT1.2.row (unhide HI) (unhide HO))
        have HR1 := hide hR
        have hLn := ran_len now L k
        have hLe := fired_le (now + k + 1) (ran now L k).1
        have hL2 := (unhide HR).len
        have HLL : Hid ((ran now L k).2.length + (firedOf (now + k + 1) (ran now L k).1).length ≤ 1000000) := hide (by omega)
        have hsz := (unhide HF).size
        have e1 : ((now + k : Nat) : Int) + 1 = ((now + k + 1 : Nat) : Int) := by omega
        have hcon : (k : Int) < 65535 := by omega
        clear hT1 hw1 hs1 hR HF HI hLn hLe hL2 HA HW hT
        have HBw : Hid (B ≤ wr.heap.size ∧ w.heap.size ≤ wr.heap.size) := hide ⟨hBk, hsz⟩
        go_wp2_with (first
          | (go_at_call 55; refine (unhide HD).mono ?_; rintro e w2 ⟨rfl, sv2, sl2, Y1, Y2, Y3⟩)
          | (go_at_call 56; refine (tick_fire _ Y1 (unhide HR1) Y2).mono ?_; rintro e w3 ⟨v, rfl, Z1, sv3, sl3, Z2, Z3, Z4, Z5⟩)
          | (at_builtin; refine app_rows rfl _ _ rfl w.heap.size B u5 v _ _ rfl ((Y3.trans Z4).row (unhide HI1) (unhide HO)) rfl Z1 (Nat.le_trans (unhide HF1).size (Y3.trans Z4).size) (unhide HLL) ?_; intro v' w4 q1 q2 q3))
        go_roundw
        case rel => exact ⟨k + 1, sv3, by omega, by first | rfl | go_num, hide q1, hide ⟨sl3, Z2.beside q2 (row_out (unhide HI1) (unhide HO) (Y3.trans Z4)), Z3⟩, hide ((((unhide HF1).trans (Y3.trans Z4))).grown q2 (fun g hg => ((unhide HI1).lt g hg).1)), hide (fun g hg hF => by
            rcases q3 g hg with q | q
            · exact row_out (unhide HI1) (unhide HO) (Y3.trans Z4) g q hF
            · have := Z2.lt g hF
              omega)⟩
        case measure => simp [intOf]; omega
      · have hkl : k = T := by omega
        subst hkl
        have hcon : ¬ (k : Int) < 65535 := by omega
        clear hl hk HW hT
        go_wp2
        go_ret
        exact ⟨_, rfl, unhide HI, sv1, unhide HA, unhide HF, unhide HO⟩
  · go_loopw [5, 10] (fun c d w' => ∃ (k : Nat) (sv' : Nat → Value), k ≤ T ∧ d = .int .i64 (k : Int) ∧ Hid (Ir w' w.heap.size c (ran now L k).2) ∧ Hid (Has1 w' B H Mb (now + k) n (ran now L k).1 sv') ∧ Hid (Fr w w' (Foot H Mb sv) (Foot H Mb sv')) ∧ Hid (∀ g, c.ownBlock = some g → ¬ Foot H Mb sv' g)) (fun _ d _ => T - (intOf d).toNat)
    case atStart => exact ⟨0, sv, by omega, rfl, hide (Ir.nil _ _), HW, hide (Fr.refl _ _), hide (fun g hg => by cases hg)⟩
    case round =>
      obtain ⟨k, sv1, hk, rfl, HI, HA, HF, HO⟩ := hrel
      by_cases hl : k < T
      · obtain ⟨sl1, hw1, hs1⟩ := unhide HA
        have c0 := hw1.c0
        have fr0 := hw1.blk.free 0
        have hR := ran_rw (unhide HR) k (by omega)
        have hT1 := hw1.tick (now + k + 1)
        have hBk : B ≤ wr.heap.size := Nat.le_trans hB (unhide HF).size
        have HD := hide (tick_deal _ hT1.1 (Nat.le_trans hBk hT1.2.size) hR hs1)
        have HF1 := hide ((unhide HF).trans hT1.2)
        have HI1 := hide (hT1.2.row (unhide HI) (unhide HO))
        have HR1 := hide hR
        have hLn := ran_len now L k
        have hLe := fired_le (now + k + 1) (ran now L k).1
        have hL2 := (unhide HR).len
        have HLL : Hid ((ran now L k).2.length + (firedOf (now + k + 1) (ran now L k).1).length ≤ 1000000) := hide (by omega)
        have hsz := (unhide HF).size
        have e1 : ((now + k : Nat) : Int) + 1 = ((now + k + 1 : Nat) : Int) := by omega
        have hcon : (k : Int) < t := by omega
        clear hT1 hw1 hs1 hR HF HI hLn hLe hL2 HA HW hT
        have HBw : Hid (B ≤ wr.heap.size ∧ w.heap.size ≤ wr.heap.size) := hide ⟨hBk, hsz⟩
        go_wp2_with (first
          | (go_at_call 55; refine (unhide HD).mono ?_; rintro e w2 ⟨rfl, sv2, sl2, Y1, Y2, Y3⟩)
          | (go_at_call 56; refine (tick_fire _ Y1 (unhide HR1) Y2).mono ?_; rintro e w3 ⟨v, rfl, Z1, sv3, sl3, Z2, Z3, Z4, Z5⟩)
          | (at_builtin; refine app_rows rfl _ _ rfl w.heap.size B u5 v _ _ rfl ((Y3.trans Z4).row (unhide HI1) (unhide HO)) rfl Z1 (Nat.le_trans (unhide HF1).size (Y3.trans Z4).size) (unhide HLL) ?_; intro v' w4 q1 q2 q3))
        go_roundw
        case rel => exact ⟨k + 1, sv3, by omega, by first | rfl | go_num, hide q1, hide ⟨sl3, Z2.beside q2 (row_out (unhide HI1) (unhide HO) (Y3.trans Z4)), Z3⟩, hide ((((unhide HF1).trans (Y3.trans Z4))).grown q2 (fun g hg => ((unhide HI1).lt g hg).1)), hide (fun g hg hF => by
            rcases q3 g hg with q | q
            · exact row_out (unhide HI1) (unhide HO) (Y3.trans Z4) g q hF
            · have := Z2.lt g hF
              omega)⟩
        case measure => simp [intOf]; omega
      · have hkl : k = T := by omega
        subst hkl
        have hcon : ¬ (k : Int) < t := by omega
        clear hl hk HW hT
        go_wp2
        go_ret
        exact ⟨_, rfl, unhide HI, sv1, unhide HA, unhide HF, unhide HO⟩
end
end Go.Proofs.Ytkglaklkbodjkaa
