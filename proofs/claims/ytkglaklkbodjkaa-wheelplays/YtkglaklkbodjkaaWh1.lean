import Derived.Test.YtkglaklkbodjkaaIm
import Derived.Test.YtkglaklkbodjkaaWhMath
namespace Go.Proofs.Ytkglaklkbodjkaa
open Go.RowKit Wh

/-- A wheel's cells. -/
def wc (now : Int) (Mb : Nat) (sv : Nat → Value) : Array Value := #[.int .i64 now, .map (some Mb)] ++ Array.ofFn (n := 64) fun j => sv j.val
theorem wc_at (now : Int) (Mb : Nat) (sv : Nat → Value) (j : Nat) (h : j < 64) : (wc now Mb sv)[2 + j]? = some (sv j) := by
  unfold wc
  rw [Array.getElem?_append_right (by simp)]
  simp [h]
theorem wc_size (now : Int) (Mb : Nat) (sv : Nat → Value) : (wc now Mb sv).size = 66 := by simp [wc]
theorem wc_0 (now : Int) (Mb : Nat) (sv : Nat → Value) : (wc now Mb sv)[0]? = some (.int .i64 now) := by
  unfold wc
  rw [Array.getElem?_append_left (by simp)]; rfl
theorem wc_1 (now : Int) (Mb : Nat) (sv : Nat → Value) : (wc now Mb sv)[1]? = some (.map (some Mb)) := by
  unfold wc
  rw [Array.getElem?_append_left (by simp)]; rfl
theorem wc_ext {now : Int} {Mb : Nat} {sv : Nat → Value} {cs : Array Value} (hs : cs.size = 66) (h0 : cs[0]? = some (.int .i64 now)) (h1 : cs[1]? = some (.map (some Mb))) (h2 : ∀ j, j < 64 → cs[2 + j]? = some (sv j)) : cs = wc now Mb sv := by
  apply Array.ext_getElem?
  intro i
  by_cases h : i < 66
  · by_cases e0 : i = 0
    · subst e0; rw [h0, wc_0]
    · by_cases e1 : i = 1
      · subst e1; rw [h1, wc_1]
      · obtain ⟨j, rfl⟩ : ∃ j, i = 2 + j := ⟨i - 2, by omega⟩
        rw [h2 j (by omega), wc_at _ _ _ j (by omega)]
  · rw [Array.getElem?_eq_none (by omega), Array.getElem?_eq_none (by rw [wc_size]; omega)]
theorem wc_put (now : Int) (Mb : Nat) (sv : Nat → Value) (j : Nat) (h : j < 64) (v : Value) : (wc now Mb sv).setIfInBounds (2 + j) v = wc now Mb (fun i => if i = j then v else sv i) := by
  refine wc_ext (by rw [Array.size_setIfInBounds, wc_size]) ?_ ?_ ?_
  · rw [Array.getElem?_setIfInBounds, if_neg (by omega), wc_0]
  · rw [Array.getElem?_setIfInBounds, if_neg (by omega), wc_1]
  · intro i hi
    rw [Array.getElem?_setIfInBounds]
    by_cases e : i = j
    · subst e
      rw [if_pos rfl, if_pos (by rw [wc_size]; omega), if_pos rfl]
    · rw [if_neg (by omega), if_neg e, wc_at _ _ _ i hi]
theorem wc_now (now now' : Int) (Mb : Nat) (sv : Nat → Value) : (wc now Mb sv).setIfInBounds 0 (.int .i64 now') = wc now' Mb sv := by
  refine wc_ext (by rw [Array.size_setIfInBounds, wc_size]) ?_ ?_ ?_
  · rw [Array.getElem?_setIfInBounds, if_pos rfl, if_pos (by rw [wc_size]; omega)]
  · rw [Array.getElem?_setIfInBounds, if_neg (by omega), wc_1]
  · intro i hi
    rw [Array.getElem?_setIfInBounds, if_neg (by omega), wc_at _ _ _ i hi]
/-- A wheel in memory: its cells, its map, and the rows of its slots, each in a block of its own. -/
structure Whl (w : World) (B H Mb now n : Nat) (f : Int → Option Int) (sz : Nat) (sv : Nat → Value) (sl : Nat → List Int) : Prop where
  blk : Blk w H 77 (wc (now : Int) Mb sv)
  mp : IMap w Mb n f sz
  rows : ∀ j, j < 64 → Ir w B (sv j) (sl j)
  ap : ∀ i j a, i < 64 → j < 64 → i ≠ j → (sv i).ownBlock = some a → (sv j).ownBlock ≠ some a
  lo : H < B ∧ Mb < B ∧ H ≠ Mb
section
variable {w w' : World} {B H Mb now n : Nat} {f : Int → Option Int} {sz : Nat} {sv : Nat → Value} {sl : Nat → List Int}
theorem Whl.below (h : Whl w B H Mb now n f sz sv sl) (hb : Below w.heap.size w w') : Whl w' B H Mb now n f sz sv sl :=
  ⟨h.blk.below hb h.blk.lt, h.mp.below hb h.mp.lt, fun j hj => (h.rows j hj).below hb, h.ap, h.lo⟩
theorem Whl.c0 (h : Whl w B H Mb now n f sz sv sl) : w.cell? ⟨H, 0, none⟩ = some (.int .i64 (now : Int)) := by rw [h.blk.cell]; exact wc_0 _ _ _
theorem Whl.c1 (h : Whl w B H Mb now n f sz sv sl) : w.cell? ⟨H, 1, none⟩ = some (.map (some Mb)) := by rw [h.blk.cell]; exact wc_1 _ _ _
theorem Whl.cs (h : Whl w B H Mb now n f sz sv sl) (j : Nat) (hj : j < 64) : w.cell? ⟨H, 2 + j, none⟩ = some (sv j) := by rw [h.blk.cell]; exact wc_at _ _ _ j hj
end

theorem digit_any (t l : Nat) (ht : t < 1099511627776) (hl : l < 4) (w : World) :
    Calls Try.prog 52 #[.int .i64 (t : Int), .int .i64 (l : Int)] w fun e w' => e = .returned (.int .i64 (dig t l : Nat)) ∧ w' = w := by
  have e : ∀ q : Nat, (q : Int).tmod 16 = ((q % 16 : Nat) : Int) := fun q => by rw [Int.tmod_eq_emod_of_nonneg (by omega)]; omega
  rcases (show l = 0 ∨ l = 1 ∨ l = 2 ∨ l = 3 by omega) with rfl | rfl | rfl | rfl
  · have h := e t
    have hd : dig t 0 = t % 16 := by unfold dig; simp
    rw [hd]
    go_enter Try.func52, Try.ntmps52
    go_wp2
    go_ret
    exact ⟨by first | rfl | (refine ret_int ?_; omega), rfl⟩
  · have h := e (t / 16)
    have hd : dig t 1 = t / 16 % 16 := by unfold dig; simp
    rw [hd]
    go_enter Try.func52, Try.ntmps52
    go_wp2
    go_ret
    exact ⟨by first | rfl | (refine ret_int ?_; omega), rfl⟩
  · have h := e (t / 256)
    have hd : dig t 2 = t / 256 % 16 := by unfold dig; simp
    rw [hd]
    go_enter Try.func52, Try.ntmps52
    go_wp2
    go_ret
    exact ⟨by first | rfl | (refine ret_int ?_; omega), rfl⟩
  · have h := e (t / 4096)
    have hd : dig t 3 = t / 4096 % 16 := by unfold dig; simp
    rw [hd]
    go_enter Try.func52, Try.ntmps52
    go_wp2
    go_ret
    exact ⟨by first | rfl | (refine ret_int ?_; omega), rfl⟩
end Go.Proofs.Ytkglaklkbodjkaa
