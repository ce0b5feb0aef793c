import Derived.Test.YtcpehfjpdegmbaaDoorDu2
import Derived.Test.YtcpehfjpdegmbaaDoorStrTab
import Derived.Test.YtcpehfjpdegmbaaDoorKtMul
import Derived.Test.YtcpehfjpdegmbaaDoorShelf
import Derived.Test.YtcpehfjpdegmbaaDoorNumTx
import Derived.Lib.ItoaMem
namespace Go.Proofs.YtcpehfjpdegmbaaDoor
open Go.RowKit Kt Dg Du

def namesL : List (List UInt8) := [[100], [104], [109], [115], [109, 115], [117, 115], [110, 115]]
/-- The tables: powers of ten, and the units' names. -/
structure DTab (w : World) : Prop where
  pow : Lib.TabIs Tryd.prog w "internal/strconv.uint64pow10" .u64 Lib.pow10Tab
  nm : StrIs Tryd.prog w "fusee/dura.names" namesL
theorem pow_named : ∃ g, Tryd.prog.globalNamed "internal/strconv.uint64pow10" = some g := Option.isSome_iff_exists.1 (by kernel_rfl)
theorem names_named : Tryd.prog.globalNamed "fusee/dura.names" = some 0 := by kernel_rfl
theorem DTab.on {w w' : World} (h : DTab w) (hb : Below w.heap.size w w') : DTab w' := by
  obtain ⟨g, hg⟩ := pow_named
  exact ⟨Go.Joins.tab_stays hg h.pow hb (Nat.le_refl _), strs_stay names_named h.nm hb⟩
theorem DTab.cell {w : World} (h : DTab w) (i : Nat) (hi : i < 7) : w.cell? ⟨0, i, none⟩ = some (.string (bs (namesL.getD i []))) :=
  h.nm.cell names_named i hi
def unitAt (i : Nat) : Un := units.getD i (1, [])
theorem unit_name (i : Nat) (h : i < 7) : namesL.getD i [] = (unitAt i).2 := by
  rcases (show i = 0 ∨ i = 1 ∨ i = 2 ∨ i = 3 ∨ i = 4 ∨ i = 5 ∨ i = 6 by omega) with rfl | rfl | rfl | rfl | rfl | rfl | rfl
  all_goals rfl
theorem unit_mem (i : Nat) (h : i < 7) : unitAt i ∈ units := by
  rcases (show i = 0 ∨ i = 1 ∨ i = 2 ∨ i = 3 ∨ i = 4 ∨ i = 5 ∨ i = 6 by omega) with rfl | rfl | rfl | rfl | rfl | rfl | rfl
  all_goals (unfold unitAt units; simp)
/-- Where the reading stands behind some units. -/
def stP (l : List UInt8) (i : Nat) : Sx := (units.take i).foldl stepP (l, 0, false)
theorem take_unit (i : Nat) (h : i < 7) : units.take (i + 1) = units.take i ++ [unitAt i] := by
  rcases (show i = 0 ∨ i = 1 ∨ i = 2 ∨ i = 3 ∨ i = 4 ∨ i = 5 ∨ i = 6 by omega) with rfl | rfl | rfl | rfl | rfl | rfl | rfl
  all_goals rfl
theorem stP_succ (l : List UInt8) (i : Nat) (h : i < 7) : stP l (i + 1) = stepP (stP l i) (unitAt i) := by
  unfold stP
  rw [take_unit i h, List.foldl_append]; rfl
theorem num_dg (d : List UInt8) (h : ∀ c ∈ d, isD c = true) : ∀ a, ∃ v, numL d a = some v := by
  induction d with
  | nil => exact fun a => ⟨a, rfl⟩
  | cons c r ih =>
    intro a
    have hc := h c (by simp)
    unfold isD at hc
    rw [Bool.and_eq_true, decide_eq_true_eq, decide_eq_true_eq] at hc
    rw [numL, if_pos hc]
    exact ih (fun x hx => h x (by simp [hx])) _
theorem dg_isD (l : List UInt8) : ∀ c ∈ dg l, isD c = true := by
  unfold dg
  induction l with
  | nil => simp
  | cons a r ih =>
    rw [List.takeWhile_cons]
    split
    · intro c hc
      rcases List.mem_cons.1 hc with rfl | hc
      · assumption
      · exact ih c hc
    · simp
theorem num_dgN (l : List UInt8) : numL (dg l) 0 = some (numN (dg l)) := by
  obtain ⟨v, hv⟩ := num_dg (dg l) (dg_isD l) 0
  unfold numN; rw [hv]; rfl
theorem numN_lt (l : List UInt8) (h : (dg l).length ≤ 18) : numN (dg l) < 1000000000000000000 := by
  have := (numL_some _ (dg l) _ rfl (num_dgN l)).2
  have h2 : (10 : Nat) ^ (dg l).length ≤ 10 ^ 18 := Nat.pow_le_pow_right (by decide) h
  rw [show (10 : Nat) ^ 18 = 1000000000000000000 from by decide] at h2
  omega
theorem atoi_any (l : List UInt8) (w : World) (h : writtenB (dg l) = true) :
    Calls Tryd.prog 32 #[.string (bs (dg l))] w fun e w' => e = .returned (.tuple #[.int .i64 (numN (dg l) : Int), .nilIface]) ∧ Below w.heap.size w w' := by
  obtain ⟨h1, h2, _⟩ := (written_iff _).1 h
  refine (Tryd.strconv_Atoi (bs (dg l)) (numN (dg l) : Int) (by rw [bs_size]; exact h2) (by rw [bs_list]; exact atoi_num h1 (num_dgN l)) w).mono ?_
  rintro e w1 ⟨rfl, t, rfl⟩
  exact ⟨rfl, Go.Joins.below_bytesWorld _ _ _ _ (Nat.le_refl _)⟩
theorem stP_ok (l : List UInt8) (hl : l.length ≤ 1000000000) : ∀ i, i ≤ 7 → (stP l i).1.length ≤ 1000000000 ∧ 0 ≤ (stP l i).2.1 ∧ (stP l i).2.1 ≤ 4611686018427387903
  | 0, _ => ⟨hl, by show (0 : Int) ≤ 0; omega, by show (0 : Int) ≤ 4611686018427387903; omega⟩
  | i + 1, h => by
    have ih := stP_ok l hl i (by omega)
    rw [stP_succ l i (by omega)]
    obtain ⟨k1, k2, _, _⟩ := units_ok _ (unit_mem i (by omega))
    unfold stepP
    split
    · refine ⟨Nat.le_trans (rs_le _) ih.1, ?_⟩
      have := cap_bd (unitAt i).1 (stP l i).2.1 (numN (dg (stP l i).1) : Int) k1 ih.2.1 (by omega)
      rw [cap_eq _ _ _ k1 k2 ih.2.1 ih.2.2 (by omega)] at this
      exact this
    · exact ih
theorem index_unit (i : Nat) (h : i < 7) (w : World) : (Instr.index 31 unitsV (.int .i64 (i : Int))).run Tryd.prog w = .ok (.int .i64 (unitAt i).1) w := by
  rcases (show i = 0 ∨ i = 1 ∨ i = 2 ∨ i = 3 ∨ i = 4 ∨ i = 5 ∨ i = 6 by omega) with rfl | rfl | rfl | rfl | rfl | rfl | rfl
  all_goals kernel_rfl
theorem sum_fin (l : List UInt8) : sumZ l = fin (stP l 7) := by
  unfold sumZ stP
  rw [show units.take 7 = units from List.take_of_length_le (by decide)]
theorem stP_zero (l : List UInt8) : stP l 0 = (l, 0, false) := rfl
end Go.Proofs.YtcpehfjpdegmbaaDoor
