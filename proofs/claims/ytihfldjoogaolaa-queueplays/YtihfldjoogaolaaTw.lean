import Derived.Test.YtihfldjoogaolaaTg
namespace Go.Proofs.Ytihfldjoogaolaa
open Go.RowKit

theorem node_info : (Try.prog.info? 66).map (fun i => (i.zero, i.size, i.bytes)) = some (some (.agg #[.int .i64 0, .int .i64 0, .int .i64 0, .bool false, .bool false, .int .i64 0, .int .i64 0, .int .i64 0]), 8, 56) := by kernel_rfl

def zeros (n : Nat) : Array Value := madeCells #[.int .i64 0, .int .i64 0, .int .i64 0, .bool false, .bool false, .int .i64 0, .int .i64 0, .int .i64 0] (n * 8)
theorem make_nodes (w : World) (n : Nat) (hn : n ≤ 4097) :
    (Instr.makeSlice 61 (.int .i64 (n : Int)) (.int .i64 (n : Int))).run Try.prog w = .ok (.slice (some ⟨w.heap.size, 0, none⟩) n n) (w.alloc (.cells (zeros n) 66)) := by
  have hi := node_info
  cases h : Try.prog.info? 66 with
  | none => rw [h] at hi; cases hi
  | some i =>
    rw [h] at hi
    simp only [Option.map_some, Option.some.injEq, Prod.mk.injEq] at hi
    obtain ⟨h1, h2, h3⟩ := hi
    have := run_make (P := Try.prog) w 61 66 i _ Try.underlying61 h h1 .i64 .i64 n n (by omega) (by omega) (by rw [h3]; omega) (by omega)
    rw [h2] at this
    exact this

def zeroNd : Nd := ⟨0, 0, 0, false, false, 0, fun _ => 0⟩
theorem zeros_holds {w : World} {G P : Nat} {t : TypeId} (h : Blk w G t (zeros (P + 1))) : Holds w G P (fun _ => zeroNd) := by
  refine ⟨fun i hi k hk => ?_, fun j => h.free j⟩
  rw [h.cell]
  unfold zeros madeCells
  have e : i * 8 + k < (P + 1) * 8 := by omega
  have e2 : (i * 8 + k) % 8 = k := by omega
  simp [e, e2]
  rcases (show k = 0 ∨ k = 1 ∨ k = 2 ∨ k = 3 ∨ k = 4 ∨ k = 5 ∨ k = 6 ∨ k = 7 by omega) with rfl | rfl | rfl | rfl | rfl | rfl | rfl | rfl <;> rfl

theorem new_bad (p : Int) (h : p < 1 ∨ 4096 < p) (w : World) : Calls Try.prog 17 #[.int .i64 p] w fun e w' => e = .returned (.pointer none) ∧ w' = w := by
  rcases h with h | h
  all_goals
    go_enter Try.func17, Try.ntmps17
    go_wp2
    go_ret
    exact ⟨rfl, rfl⟩

def newNd (k x : Nat) : Nd := ⟨0, 0, 0, false, false, 0, fun s => if s then 0 else if 1 ≤ x ∧ x < k then x + 1 else 0⟩
def newSt (k : Nat) : St := ⟨newNd k, 0, 1, 0⟩
theorem newNd_one : newNd 1 = fun _ => zeroNd := by
  funext x
  unfold newNd zeroNd
  congr 1
  funext s
  cases s
  · rw [if_neg (by simp), if_neg (by omega)]
  · rfl
theorem newNd_succ (k : Nat) (hk : 1 ≤ k) : setDn (newNd k) k false (k + 1) = newNd (k + 1) := by
  funext x
  unfold setDn setAt
  by_cases e : x = k
  · subst e
    rw [if_pos rfl]
    show (⟨0, 0, 0, false, false, 0, fun t => if t = false then x + 1 else (newNd x x).dn t⟩ : Nd) = ⟨0, 0, 0, false, false, 0, fun s => if s then 0 else if 1 ≤ x ∧ x < x + 1 then x + 1 else 0⟩
    simp only [Nd.mk.injEq, true_and]
    funext s
    cases s
    · simp; omega
    · rfl
  · rw [if_neg e]
    show (⟨0, 0, 0, false, false, 0, fun s => if s then 0 else if 1 ≤ x ∧ x < k then x + 1 else 0⟩ : Nd) = ⟨0, 0, 0, false, false, 0, fun s => if s then 0 else if 1 ≤ x ∧ x < k + 1 then x + 1 else 0⟩
    simp only [Nd.mk.injEq, true_and]
    funext s
    cases s
    · have : (1 ≤ x ∧ x < k) = (1 ≤ x ∧ x < k + 1) := by apply propext; omega
      simp only [this]
    · rfl
theorem new_chain (P : Nat) : ∀ (m a : Nat), 1 ≤ a → a + m = P + 1 → (m = 0 → a = P + 1) → Chain (newNd P) (if m = 0 then 0 else a) (List.range' a m)
  | 0, a, _, _, _ => rfl
  | m + 1, a, h1, h2, _ => by
    rw [if_neg (by omega), List.range'_succ]
    refine ⟨rfl, by omega, ?_⟩
    have e : (newNd P a).dn false = if m = 0 then 0 else a + 1 := by
      show (if (false : Bool) = true then 0 else if 1 ≤ a ∧ a < P then a + 1 else 0) = _
      rw [if_neg (by simp)]
      by_cases q : m = 0
      · rw [if_pos q, if_neg (by omega)]
      · rw [if_neg q, if_pos (by omega)]
    rw [e]
    exact new_chain P m (a + 1) (by omega) (by omega) (by omega)
theorem new_inv (P : Nat) (h1 : 1 ≤ P) : Inv P (newSt P) .nil (List.range' 1 P) := by
  refine ⟨⟨⟨trivial, trivial, ⟨by simp [Tr.list], by simp [Cx.places], by simp [Tr.list], by simp [Tr.list], by simp [Cx.places]⟩, rfl, ⟨rfl, rfl, rfl, ?_⟩⟩, ⟨0, rfl⟩, rfl⟩, by simp [Srt, Tr.list], ?_, ?_, List.nodup_range', ?_, ?_, rfl⟩
  · intro s
    show (if s then 0 else if 1 ≤ 0 ∧ 0 < P then 0 + 1 else 0) = 0
    cases s
    · rw [if_neg (by simp), if_neg (by omega)]
    · rfl
  · intro x _
    simp [newSt, newNd, Tr.list]
  · have := new_chain P P 1 (by omega) (by omega) (by omega)
    rw [if_neg (by omega)] at this
    exact this
  · intro x hx
    rw [List.mem_range'_1] at hx
    exact ⟨by omega, by omega, by simp [Tr.list]⟩
  · simp [Tr.list]

set_option maxRecDepth 100000 in
set_option maxHeartbeats 1000000 in
theorem new_any (P : Nat) (h1 : 1 ≤ P) (h2 : P ≤ 4096) (w : World) :
    Calls Try.prog 17 #[.int .i64 P] w fun e w' => ∃ T G st, e = .returned (.pointer (some ⟨T, 0, none⟩)) ∧ Own w' T G P st ∧ Below w.heap.size w w' ∧ w.heap.size ≤ T ∧ w.heap.size ≤ G ∧ Inv P st .nil (List.range' 1 P) ∧ ∀ x, (st.nd x).turn = 0 := by
  have hmk := fun w => make_nodes w (P + 1) (by omega)
  rw [show ((P + 1 : Nat) : Int) = (P : Int) + 1 from rfl] at hmk
  obtain ⟨B, hB⟩ : ∃ B, w.heap.size = B := ⟨_, rfl⟩
  go_enter Try.func17, Try.ntmps17
  go_wp2
  go_loopw [4] (fun s4 wr => ∃ k : Nat, 1 ≤ k ∧ k ≤ P ∧ s4 = .int .i64 k ∧ Own wr (B + 1) B P (newSt k) ∧ Below B w wr) (fun s4 _ => P - (intOf s4).toNat)
  case atStart =>
    refine ⟨1, by omega, h1, rfl, ⟨h2, by omega, ?_, ?_, ?_⟩, ?_⟩
    · exact Blk.new_at (w.alloc _) _ _ (by simp [hB])
    · show Holds _ B P (newNd 1)
      rw [newNd_one]
      exact zeros_holds ((Blk.new_at w 66 (zeros (P + 1)) hB.symm).alloc _)
    · exact ((Blk.new_at w 66 (zeros (P + 1)) hB.symm).alloc _).lt
    · rw [← hB]; exact two_below _ _ _ 0
  case round =>
    obtain ⟨k, hk1, hk2, rfl, o, hbel⟩ := hrel
    by_cases hlt : k < P
    · have c0 := o.slice
      have d6 := (o.at k (by omega)).2.2.2.2.2.2.1
      have fr := o.nod.free
      have hO := hide (And.intro o hbel)
      clear o hbel
      go_wp2
      go_roundw
      case rel =>
        have q := (unhide hO).1.putDn0 k (k + 1) (by omega)
        rw [show ({ newSt k with nd := setDn (newSt k).nd k false (k + 1) } : St) = newSt (k + 1) from by unfold newSt; simp only; rw [newNd_succ k hk1]] at q
        exact ⟨k + 1, by omega, by omega, by go_num, q, (unhide hO).2.setCell (by dsimp only; omega) _⟩
      case measure => simp [intOf]; omega
    · have e : k = P := by omega
      subst e
      have hO := hide (And.intro o hbel)
      clear o hbel
      go_wp2
      go_ret
      exact ⟨B + 1, B, newSt k, rfl, (unhide hO).1, by rw [hB]; exact (unhide hO).2, by omega, by omega, new_inv k h1, fun _ => rfl⟩
end Go.Proofs.Ytihfldjoogaolaa
