/- Rows of the law's items: a number, and the tick at which it is due. -/
import Derived.Test.YtkglaklkbodjkaaWh14
import Derived.Test.YtkglaklkbodjkaaAp
namespace Go.Proofs.Ytkglaklkbodjkaa
open Go.RowKit Wh
set_option linter.unusedVariables false

def irw : List Wh.Item → List Value
  | [] => []
  | y :: l => .int .i64 y.1 :: .int .i64 (y.2 : Int) :: irw l
theorem irw_len (L : List Wh.Item) : (irw L).length = L.length * 2 := by
  induction L with
  | nil => rfl
  | cons y l ih => simp [irw, ih]; omega
theorem irw_app (p q : List Wh.Item) : irw (p ++ q) = irw p ++ irw q := by
  induction p with
  | nil => rfl
  | cons y l ih => simp [irw, ih]
theorem irw_at (L : List Wh.Item) (i : Nat) (y : Wh.Item) (h : L[i]? = some y) : (irw L)[i * 2]? = some (.int .i64 y.1) ∧ (irw L)[i * 2 + 1]? = some (.int .i64 (y.2 : Int)) := by
  induction L generalizing i with
  | nil => simp at h
  | cons z l ih =>
    cases i with
    | zero => simp at h; subst h; exact ⟨rfl, rfl⟩
    | succ i =>
      rw [List.getElem?_cons_succ] at h
      rw [show (i + 1) * 2 = i * 2 + 2 by omega]
      exact ih i h
theorem irw_one (L : List Wh.Item) : ∀ u ∈ irw L, u.oneCell' = true := by
  induction L with
  | nil => intro u hu; cases hu
  | cons y l ih =>
    intro u hu
    rw [irw] at hu
    simp only [List.mem_cons] at hu
    rcases hu with rfl | rfl | hu
    · rfl
    · rfl
    · exact ih u hu
theorem irw_drop (p q : List Wh.Item) (j : Nat) : (irw (p ++ q))[p.length * 2 + j]? = (irw q)[j]? := by
  rw [irw_app, List.getElem?_append_right (by rw [irw_len]; omega), irw_len]
  congr 1
  omega
/-- A row of items that a call owns. -/
def Rr (w : World) (C : Nat) (v : Value) (L : List Wh.Item) : Prop := w.ownsRow C 32 2 v L.length (irw L)
theorem witInfo : (Try.prog.info? 32).map (fun i => (i.zero, i.size, i.bytes)) = some (some (.agg #[.int .i64 0, .int .i64 0]), 2, 16) := by kernel_rfl
section
variable {w w' : World} {C : Nat} {v : Value} {L : List Wh.Item}
theorem Rr.keep (h : Rr w C v L) (hb : ∀ g, v.ownBlock = some g → w'.heap[g]? = w.heap[g]?) : Rr w' C v L := by
  refine ⟨h.1, ?_⟩
  rcases h.2 with h2 | ⟨g, cap, cur, h1, h2, h3, h4⟩
  · exact .inl h2
  · refine .inr ⟨g, cap, cur, h1, h2, ?_, h4⟩
    rw [hb g (by rw [h1]; rfl)]; exact h3
theorem Rr.below (h : Rr w C v L) (hb : Below w.heap.size w w') : Rr w' C v L := h.keep fun g hg => hb.block g (h.lt g hg).2
theorem Rr.fr {F F' : Nat → Prop} (h : Rr w C v L) (k : Fr w w' F F') (hn : ∀ g, v.ownBlock = some g → ¬ F g) : Rr w' C v L := h.keep fun g hg => k.block g (h.lt g hg).2 (hn g hg)
theorem Rr.nil (w : World) (C : Nat) : Rr w C (.slice none 0 0) [] := World.ownsRow_nil _ _ _ _
theorem Rr.form (h : Rr w C v L) : ∃ a cap, v = .slice a L.length cap ∧ L.length ≤ cap ∧ cap ≤ maxLen ∧ ∀ (j : Nat) (x : Wh.Item), L[j]? = some x → ∃ g, a = some ⟨g, 0, none⟩ ∧ w.cell? ⟨g, j * 2, none⟩ = some (.int .i64 x.1) ∧ w.cell? ⟨g, j * 2 + 1, none⟩ = some (.int .i64 (x.2 : Int)) := by
  rcases h.2 with ⟨h2, h3⟩ | ⟨g, cap, cur, h1, h2, h3, h4, h5, _⟩
  · have : L = [] := List.length_eq_zero_iff.1 h3
    subst this
    exact ⟨none, 0, h2, Nat.le_refl _, by unfold maxLen; omega, fun j x hj => by simp at hj⟩
  · refine ⟨_, cap, h1, h4, h5, fun j x hj => ⟨g, rfl, ?_⟩⟩
    obtain ⟨q1, q2⟩ := irw_at L j x hj
    have e1 := World.ownsRow.cells h (g := g) (by rw [h1]; rfl) _ _ q1
    have e2 := World.ownsRow.cells h (g := g) (by rw [h1]; rfl) _ _ q2
    rw [iadd0] at e1 e2
    exact ⟨e1, e2⟩
end
/-- Where an item stands; -1. -/
def PlaceIs (L : List Wh.Item) (id p : Int) : Prop := (id ∉ L.map (·.1) ∧ p = -1) ∨ ∃ (k : Nat) (x : Wh.Item), L[k]? = some x ∧ x.1 = id ∧ p = (k : Int)
set_option maxRecDepth 100000 in
set_option maxHeartbeats 1000000 in
theorem place_any (w : World) (C : Nat) (v : Value) (L : List Wh.Item) (h : Rr w C v L) (hl : L.length ≤ 1000) (id : Int) :
    Calls Try.prog 12 #[v, .int .i64 id] w fun e w' => ∃ p, e = .returned (.int .i64 p) ∧ PlaceIs L id p ∧ Below w.heap.size w w' := by
  obtain ⟨a, cap, rfl, -, -, hc⟩ := h.form
  obtain ⟨N, hN⟩ : ∃ N, L.length = N := ⟨_, rfl⟩
  rw [hN] at hl ⊢
  have HN := hide hN
  have HC := hide hc
  clear hN hc h
  go_enter Try.func12, Try.ntmps12
  go_wp2
  go_loopw [9] (fun d w' => ∃ j : Nat, d = .int .i64 (j : Int) ∧ j ≤ N ∧ Hid (Below w.heap.size w w' ∧ ∀ (i : Nat) (x : Wh.Item), i < j → L[i]? = some x → x.1 ≠ id)) (fun d _ => N - (intOf d).toNat)
  case atStart => exact ⟨0, rfl, by omega, hide ⟨Below.refl _ _, fun i x hi => by omega⟩⟩
  case round =>
    obtain ⟨j, rfl, hj, HI⟩ := hrel
    by_cases hlt : j < N
    · obtain ⟨x, hx⟩ : ∃ x, L[j]? = some x := ⟨L[j]'(by rw [unhide HN]; exact hlt), List.getElem?_eq_getElem _⟩
      obtain ⟨g, rfl, c0, c1⟩ := (unhide HC) j x hx
      have d0 := held4 c0 wr (unhide HI).1
      have d1 := held4 c1 wr (unhide HI).1
      have HX := hide hx
      obtain ⟨xi, xd⟩ := x
      simp only at d0 d1
      clear c0 c1 hx
      by_cases he : xi = id
      · subst he
        have hb : (xi == xi) = true := by simp
        go_wp2
        go_ret
        exact ⟨_, rfl, .inr ⟨j, _, unhide HX, rfl, rfl⟩, (unhide HI).1.trans ((below1 _ _).mono (unhide HI).1.size)⟩
      · have hb : (xi == id) = false := by rw [beq_eq_false_iff_ne]; exact he
        have HN2 : Hid (Below w.heap.size w (wr.alloc (.cells #[.int .i64 xi, .int .i64 (xd : Int)] 32)) ∧ ∀ (i : Nat) (x : Wh.Item), i < j + 1 → L[i]? = some x → x.1 ≠ id) := hide ⟨(unhide HI).1.trans ((below1 _ _).mono (unhide HI).1.size), fun i y hi hy => by
          by_cases e : i = j
          · subst e
            have := unhide HX
            rw [hy] at this
            cases this
            exact he
          · exact (unhide HI).2 i y (by omega) hy⟩
        go_wp2
        go_roundw
        case rel => exact ⟨j + 1, by first | rfl | go_num, by omega, HN2⟩
        case measure => simp [intOf]; omega
    · have hjn : j = N := by omega
      subst hjn
      go_wp2
      go_ret
      refine ⟨_, rfl, .inl ⟨fun hm => ?_, rfl⟩, (unhide HI).1⟩
      obtain ⟨y, hy, e⟩ := List.mem_map.1 hm
      obtain ⟨i, hi, he⟩ := List.getElem_of_mem hy
      exact (unhide HI).2 i y (by rw [unhide HN] at hi; exact hi) (by rw [List.getElem?_eq_getElem hi, he]) e
end Go.Proofs.Ytkglaklkbodjkaa
