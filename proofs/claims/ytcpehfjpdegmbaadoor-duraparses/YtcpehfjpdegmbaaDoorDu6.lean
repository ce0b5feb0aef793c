import Derived.Test.YtcpehfjpdegmbaaDoorDu5
import Derived.Test.YtcpehfjpdegmbaaDoorBlk
namespace Go.Proofs.YtcpehfjpdegmbaaDoor
open Go.RowKit Kt Dg Du

/-- What is left ahead of a unit, and how much there is of it. -/
def restZ (r : Int) : Nat → Int
  | 0 => r
  | k + 1 => restZ r k % (unitAt k).1
def partZ (r : Int) (k : Nat) : Int := restZ r k / (unitAt k).1
theorem parts_list (r : Int) : partsOf units r = [(unitAt 0, partZ r 0), (unitAt 1, partZ r 1), (unitAt 2, partZ r 2), (unitAt 3, partZ r 3), (unitAt 4, partZ r 4), (unitAt 5, partZ r 5), (unitAt 6, partZ r 6)] := rfl
theorem rest_bd (r : Int) (h0 : 0 ≤ r) (h1 : r ≤ 4611686018427387902) : ∀ k, k ≤ 7 → 0 ≤ restZ r k ∧ restZ r k ≤ 4611686018427387902
  | 0, _ => ⟨h0, h1⟩
  | k + 1, h => by
    obtain ⟨k1, k2, _, _⟩ := units_ok _ (unit_mem k (by omega))
    have := Int.emod_nonneg (restZ r k) (show (unitAt k).1 ≠ 0 by omega)
    have := Int.emod_lt_of_pos (restZ r k) (show 0 < (unitAt k).1 by omega)
    show 0 ≤ restZ r k % (unitAt k).1 ∧ restZ r k % (unitAt k).1 ≤ _
    omega
theorem part_bd (r : Int) (h0 : 0 ≤ r) (h1 : r ≤ 4611686018427387902) (k : Nat) (h : k < 7) : 0 ≤ partZ r k ∧ partZ r k < 1000000000000000000 := by
  have hm : (unitAt k, partZ r k) ∈ partsOf units r := by
    rw [parts_list]
    rcases (show k = 0 ∨ k = 1 ∨ k = 2 ∨ k = 3 ∨ k = 4 ∨ k = 5 ∨ k = 6 by omega) with rfl | rfl | rfl | rfl | rfl | rfl | rfl
    all_goals simp
  exact (parts_ok r h0 h1 _ hm).2
def pcZ (r : Int) (i k : Nat) : Int := if k < i then partZ r k else 0
def cellsZ (r : Int) (i : Nat) : Array Value := #[.int .i64 (pcZ r i 0), .int .i64 (pcZ r i 1), .int .i64 (pcZ r i 2), .int .i64 (pcZ r i 3), .int .i64 (pcZ r i 4), .int .i64 (pcZ r i 5), .int .i64 (pcZ r i 6)]
def partsA (r : Int) : Array Value := #[.int .i64 (partZ r 0), .int .i64 (partZ r 1), .int .i64 (partZ r 2), .int .i64 (partZ r 3), .int .i64 (partZ r 4), .int .i64 (partZ r 5), .int .i64 (partZ r 6)]
def partsV (r : Int) : Value := .agg (partsA r)
theorem cells_start (r : Int) : cellsZ r 0 = #[.int .i64 0, .int .i64 0, .int .i64 0, .int .i64 0, .int .i64 0, .int .i64 0, .int .i64 0] := rfl
theorem cells_end (r : Int) : cellsZ r 7 = partsA r := rfl
theorem cells_put (r : Int) (i : Nat) (h : i < 7) : (cellsZ r i).setIfInBounds i (.int .i64 (partZ r i)) = cellsZ r (i + 1) := by
  rcases (show i = 0 ∨ i = 1 ∨ i = 2 ∨ i = 3 ∨ i = 4 ∨ i = 5 ∨ i = 6 by omega) with rfl | rfl | rfl | rfl | rfl | rfl | rfl
  all_goals rfl
theorem cells_some (r : Int) (i k : Nat) (h : k < 7) : ∃ v, (cellsZ r i)[k]? = some v :=
  ⟨_, Array.getElem?_eq_getElem (show k < (cellsZ r i).size from h)⟩
theorem bset7 {W w1 : World} {B g : Nat} (h : Below B W w1) (hg : B ≤ g) (a b c d e f i : Value) :
    Below B W (((((((w1.setCell ⟨g, 0, none⟩ a).setCell ⟨g, 1, none⟩ b).setCell ⟨g, 2, none⟩ c).setCell ⟨g, 3, none⟩ d).setCell ⟨g, 4, none⟩ e).setCell ⟨g, 5, none⟩ f).setCell ⟨g, 6, none⟩ i) :=
  ((((((h.setCell hg _).setCell hg _).setCell hg _).setCell hg _).setCell hg _).setCell hg _).setCell hg _
set_option maxHeartbeats 1000000 in
theorem parts_any (t : Int) (w : World) :
    Calls Tryd.prog 15 #[.int .i64 t] w fun e w' => e = .returned (partsV (sizeZ t)) ∧ Below w.heap.size w w' := by
  have bc := clampZ_bd t
  have hR : sizeZ t = min (max (clampZ t) (-(clampZ t))) 4611686018427387902 := rfl
  have hb := size_bd t
  have HB := hide (rest_bd (sizeZ t) hb.1 hb.2)
  have HP := hide (cells_put (sizeZ t))
  have HG := hide (cells_some (sizeZ t))
  have HE := hide (show cellsZ (sizeZ t) 7 = #[.int .i64 (partZ (sizeZ t) 0), .int .i64 (partZ (sizeZ t) 1), .int .i64 (partZ (sizeZ t) 2), .int .i64 (partZ (sizeZ t) 3), .int .i64 (partZ (sizeZ t) 4), .int .i64 (partZ (sizeZ t) 5), .int .i64 (partZ (sizeZ t) 6)] from rfl)
  have H0 := hide (cells_start (sizeZ t))
  have HV := hide (show partsV (sizeZ t) = .agg #[.int .i64 (partZ (sizeZ t) 0), .int .i64 (partZ (sizeZ t) 1), .int .i64 (partZ (sizeZ t) 2), .int .i64 (partZ (sizeZ t) 3), .int .i64 (partZ (sizeZ t) 4), .int .i64 (partZ (sizeZ t) 5), .int .i64 (partZ (sizeZ t) 6)] from rfl)
  have HR0 := hide (show restZ (sizeZ t) 0 = sizeZ t from rfl)
  have HR1 := hide (fun k => show restZ (sizeZ t) (k + 1) = restZ (sizeZ t) k % (unitAt k).1 from rfl)
  have HQ := hide (fun k => show partZ (sizeZ t) k = restZ (sizeZ t) k / (unitAt k).1 from rfl)
  have HU := hide (fun k h => units_ok _ (unit_mem k h))
  have CU := fun w' => hide (units_any w')
  have HIX := hide index_unit
  have CK := fun w' => hide (kclamp_any t w')
  generalize unitsV = UV at *
  generalize sizeZ t = R at *
  generalize clampZ t = c at *
  generalize restZ R = rest at *
  generalize partZ R = part at *
  generalize cellsZ R = cells at *
  generalize partsV R = PV at *
  generalize unitAt = ua at *
  obtain ⟨b, hbs⟩ : ∃ b, w.heap.size = b := ⟨_, rfl⟩
  go_enter Tryd.func15, Tryd.ntmps15
  go_wp2_with (first | (go_at_call 25; refine (unhide (CK _)).mono ?_; rintro e w' ⟨rfl, rfl⟩) | (go_at_call 16; refine Hid.out ?_))
  refine hide ?_
  refine (unhide (CU _)).mono ?_
  rintro e w1 ⟨rfl, hb1⟩
  have B0 : Below b w ((w.alloc (.cells #[.int .i64 0, .int .i64 0, .int .i64 0, .int .i64 0, .int .i64 0, .int .i64 0, .int .i64 0] 31)).alloc (.cells #[.int .i64 0, .int .i64 0, .int .i64 0, .int .i64 0, .int .i64 0, .int .i64 0, .int .i64 0] 31)) := by rw [← hbs]; exact below2 _ _ _
  have hz2 : ((w.alloc (.cells #[.int .i64 0, .int .i64 0, .int .i64 0, .int .i64 0, .int .i64 0, .int .i64 0, .int .i64 0] 31)).alloc (.cells #[.int .i64 0, .int .i64 0, .int .i64 0, .int .i64 0, .int .i64 0, .int .i64 0, .int .i64 0] 31)).heap.size = b + 2 := by simp [hbs]
  have K1 : Blk w1 (b + 1) 31 (cells 0) := by
    rw [unhide H0]
    refine Blk.below (Blk.new_at _ _ _ (by simp [hbs])) hb1 (by rw [hz2]; omega)
  have K0 : Blk w1 b 31 #[.int .i64 0, .int .i64 0, .int .i64 0, .int .i64 0, .int .i64 0, .int .i64 0, .int .i64 0] := Blk.below (Blk.alloc (Blk.new_at _ _ _ hbs.symm) _) hb1 (by rw [hz2]; omega)
  have B1 : Below b w w1 := B0.trans (hb1.mono (by rw [hz2]; omega))
  have hRs := hR.symm
  rw [hRs]
  clear hR hRs
  go_wp2_with fail
  go_loopw [3, 15] (fun a d w' => ∃ i : Nat, a = .int .i64 (rest i) ∧ d = .int .i64 (i : Int) ∧ i ≤ 7 ∧ Blk w' (b + 1) 31 (cells i) ∧ Blk w' b 31 #[.int .i64 0, .int .i64 0, .int .i64 0, .int .i64 0, .int .i64 0, .int .i64 0, .int .i64 0] ∧ Below b w w') (fun _ d _ => 7 - (intOf d).toNat)
  case atStart => exact ⟨0, by rw [unhide HR0], rfl, by omega, K1, K0, B1⟩
  case round =>
    obtain ⟨i, rfl, rfl, hi, K, K0', hb'⟩ := hrel
    by_cases hlt : i < 7
    · obtain ⟨r0, r1⟩ := (unhide HB) i hi
      obtain ⟨u0, u1, _⟩ := (unhide HU) i hlt
      have hix := fun w' => (unhide HIX) i hlt w'
      have HS := hide ((unhide HP) i hlt)
      have HRS := hide ((unhide HR1) i)
      have HQS := hide ((unhide HQ) i)
      obtain ⟨q, hq⟩ : ∃ q, rest i = q := ⟨_, rfl⟩
      obtain ⟨z, hz⟩ : ∃ z, (ua i).1 = z := ⟨_, rfl⟩
      rw [hq] at r0 r1 HRS HQS ⊢
      rw [hz] at u0 u1 hix HRS HQS
      have e1 : q.tdiv z = q / z := Int.tdiv_eq_ediv_of_nonneg r0
      have e2 : q.tmod z = q % z := Int.tmod_eq_emod_of_nonneg r0
      have e3 : 0 ≤ q / z := Int.ediv_nonneg r0 (by omega)
      have e4 : q / z ≤ q := Int.ediv_le_self _ r0
      have z0 : (z == 0) = false := by rw [beq_eq_false_iff_ne]; omega
      have hf := K.free
      obtain ⟨v0, hv0⟩ := (unhide HG) i i hlt
      have hcv : wr.cell? ⟨b + 1, i, none⟩ = some v0 := by rw [K.cell, hv0]
      clear hv0
      have HK := hide K
      have HK0 := hide K0'
      have hlt1 := K.lt
      clear hq hz K K0' K0 K1 B0 hz2 B1 hb1
      go_wp2_with fail
      go_roundw
      case rel => exact ⟨i + 1, by rw [unhide HRS], by go_num, by omega, by rw [← unhide HS, unhide HQS]; exact (unhide HK).put _ _, (unhide HK0).other (by omega) _ _, hb'.setCell (by simp) _⟩
      case measure => simp [intOf]; omega
    · obtain rfl : i = 7 := by omega
      rw [unhide HE] at K
      have hc := K.cell
      have c0 : wr.cell? ⟨b + 1, 0, none⟩ = some (.int .i64 (part 0)) := hc 0
      have c1 : wr.cell? ⟨b + 1, 1, none⟩ = some (.int .i64 (part 1)) := hc 1
      have c2 : wr.cell? ⟨b + 1, 2, none⟩ = some (.int .i64 (part 2)) := hc 2
      have c3 : wr.cell? ⟨b + 1, 3, none⟩ = some (.int .i64 (part 3)) := hc 3
      have c4 : wr.cell? ⟨b + 1, 4, none⟩ = some (.int .i64 (part 4)) := hc 4
      have c5 : wr.cell? ⟨b + 1, 5, none⟩ = some (.int .i64 (part 5)) := hc 5
      have c6 : wr.cell? ⟨b + 1, 6, none⟩ = some (.int .i64 (part 6)) := hc 6
      have hd := K0'.cell
      have d0 : wr.cell? ⟨b, 0, none⟩ = some (.int .i64 0) := hd 0
      have d1 : wr.cell? ⟨b, 1, none⟩ = some (.int .i64 0) := hd 1
      have d2 : wr.cell? ⟨b, 2, none⟩ = some (.int .i64 0) := hd 2
      have d3 : wr.cell? ⟨b, 3, none⟩ = some (.int .i64 0) := hd 3
      have d4 : wr.cell? ⟨b, 4, none⟩ = some (.int .i64 0) := hd 4
      have d5 : wr.cell? ⟨b, 5, none⟩ = some (.int .i64 0) := hd 5
      have d6 : wr.cell? ⟨b, 6, none⟩ = some (.int .i64 0) := hd 6
      have hf := K0'.free
      have hlb := K0'.lt
      clear hc hd K K0' K0 K1 B0 hz2 B1 hb1
      go_wp2_with fail
      exact bodyPost_ret (v := .agg #[.int .i64 (part 0), .int .i64 (part 1), .int .i64 (part 2), .int .i64 (part 3), .int .i64 (part 4), .int .i64 (part 5), .int .i64 (part 6)]) (by simp [results, Tryd.results15, go_sem, d0, d1, d2, d3, d4, d5, d6]) rfl ⟨by rw [unhide HV], by rw [hbs]; exact bset7 hb' (Nat.le_refl _) _ _ _ _ _ _ _⟩
end Go.Proofs.YtcpehfjpdegmbaaDoor
