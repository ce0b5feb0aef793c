import Derived.Test.YtihfldjoogaolaaQu7
import Derived.Test.YtihfldjoogaolaaRd
namespace Go.Proofs.Ytihfldjoogaolaa
open Go.RowKit Kt Qu
set_option linter.unusedVariables false

theorem cellB {w w' : World} {x : Addr} {v : Value} (hb : Below w.heap.size w w') (hc : w.cell? x = some v) : w'.cell? x = some v := by
  rw [hb.cell (World.block_lt_of_cell? w x hc)]; exact hc
/-- The five cells of a timer of a row. -/
theorem tcells {w : World} {C n cap : Nat} {a : Option Addr} {L : List Tmr} (h : Rd rtm w C a n cap L) {j : Nat} {t : Tmr} (hj : L[j]? = some t) : ∃ g o, a = some ⟨g, o, none⟩ ∧ g < w.heap.size ∧
    w.cell? ⟨g, o + j * 5, none⟩ = some (.int .i64 t.id) ∧ w.cell? ⟨g, o + j * 5 + 1, none⟩ = some (.int .i64 t.clock) ∧ w.cell? ⟨g, o + j * 5 + 2, none⟩ = some (.int .i64 t.soft) ∧ w.cell? ⟨g, o + j * 5 + 3, none⟩ = some (.int .i64 t.hard) ∧ w.cell? ⟨g, o + j * 5 + 4, none⟩ = some (.bool t.lazy) := by
  obtain ⟨g, o, e, hc⟩ := h.cell j t hj
  exact ⟨g, o, e, (h.blk _ e).2.1, hc 0 _ rfl, hc 1 _ rfl, hc 2 _ rfl, hc 3 _ rfl, hc 4 _ rfl⟩
/-- Where a timer stands; -1. -/
def PlaceT (L : List Tmr) (id p : Int) : Prop := (id ∉ idsT L ∧ p = -1) ∨ ∃ (A B : List Tmr) (t : Tmr), L = A ++ t :: B ∧ t.id = id ∧ p = (A.length : Int)
theorem split_at {α : Type} {L : List α} {k : Nat} {t : α} (h : L[k]? = some t) : L = L.take k ++ t :: L.drop (k + 1) ∧ (L.take k).length = k := by
  obtain ⟨hi, he⟩ := List.getElem?_eq_some_iff.1 h
  exact ⟨by rw [← he, List.getElem_cons_drop, List.take_append_drop], by rw [List.length_take]; omega⟩
set_option maxRecDepth 100000 in
set_option maxHeartbeats 1000000 in
theorem tplace_any (w : World) (C n cap : Nat) (a : Option Addr) (L : List Tmr) (h : Rd rtm w C a n cap L) (hl : n ≤ 1000) (id : Int) :
    Calls Try.prog 7 #[.slice a n cap, .int .i64 id] w fun e w' => ∃ p, e = .returned (.int .i64 p) ∧ PlaceT L id p ∧ Below w.heap.size w w' := by
  have HN := hide h.len
  have HC := hide (fun (j : Nat) (t : Tmr) (hj : L[j]? = some t) => tcells h hj)
  clear h
  go_enter Try.func7, Try.ntmps7
  go_wp2
  go_loopw [9] (fun d w' => ∃ j : Nat, d = .int .i64 (j : Int) ∧ j ≤ n ∧ Hid (Below w.heap.size w w' ∧ ∀ (i : Nat) (x : Tmr), i < j → L[i]? = some x → x.id ≠ id)) (fun d _ => n - (intOf d).toNat)
  case atStart => exact ⟨0, rfl, by omega, hide ⟨Below.refl _ _, fun i x hi => by omega⟩⟩
  case round =>
    obtain ⟨j, rfl, hj, HI⟩ := hrel
    by_cases hlt : j < n
    · obtain ⟨t, ht⟩ : ∃ t, L[j]? = some t := ⟨L[j]'(by rw [← unhide HN]; exact hlt), List.getElem?_eq_getElem _⟩
      obtain ⟨g, o, rfl, hg, c0, c1, c2, c3, c4⟩ := (unhide HC) j t ht
      have d0 := cellB (unhide HI).1 c0
      have d1 := cellB (unhide HI).1 c1
      have d2 := cellB (unhide HI).1 c2
      have d3 := cellB (unhide HI).1 c3
      have d4 := cellB (unhide HI).1 c4
      have HX := hide ht
      obtain ⟨i1, i2, i3, i4, i5⟩ := t
      simp only at d0 d1 d2 d3 d4
      clear c0 c1 c2 c3 c4 ht
      by_cases he : i1 = id
      · subst he
        have hb : (i1 == i1) = true := by simp
        go_wp2
        go_ret
        obtain ⟨e1, e2⟩ := split_at (unhide HX)
        exact ⟨_, rfl, .inr ⟨_, _, _, e1, rfl, by rw [e2]⟩, (unhide HI).1.trans ((one_below _ _).mono (unhide HI).1.size)⟩
      · have hb : (i1 == id) = false := by rw [beq_eq_false_iff_ne]; exact he
        have HN2 : Hid (Below w.heap.size w (wr.alloc (.cells #[.int .i64 i1, .int .i64 i2, .int .i64 i3, .int .i64 i4, .bool i5] 28)) ∧ ∀ (i : Nat) (x : Tmr), i < j + 1 → L[i]? = some x → x.id ≠ id) := hide ⟨(unhide HI).1.trans ((one_below _ _).mono (unhide HI).1.size), fun i y hi hy => by
          by_cases e : i = j
          · subst e
            have := unhide HX
            rw [hy] at this
            cases this
            exact he
          · exact (unhide HI).2 i y (by omega) hy⟩
        go_wp2
        go_roundw
        case rel => exact ⟨j + 1, by first | rfl | go_num, by omega, HN2⟩
        case measure => simp [intOf]; omega
    · have hjn : j = n := by omega
      subst hjn
      go_wp2
      go_ret
      refine ⟨_, rfl, .inl ⟨fun hm => ?_, rfl⟩, (unhide HI).1⟩
      obtain ⟨y, hy, e⟩ := List.mem_map.1 hm
      obtain ⟨i, hi, he⟩ := List.getElem_of_mem hy
      exact (unhide HI).2 i y (by rw [unhide HN]; exact hi) (by rw [List.getElem?_eq_getElem hi, he]) e
/-- The row that a timer is put into, in its two parts. -/
theorem insT_parts (t : Tmr) : ∀ L : List Tmr, ∃ A B, L = A ++ B ∧ insT t L = A ++ t :: B ∧ (∀ y ∈ A, clampZ y.soft ≤ clampZ t.soft) ∧ (∀ y S, B = y :: S → clampZ t.soft < clampZ y.soft)
  | [] => ⟨[], [], rfl, rfl, (fun y hy => by cases hy), fun y S e => by cases e⟩
  | z :: r => by
    by_cases h : clampZ z.soft ≤ clampZ t.soft
    · obtain ⟨A, B, e1, e2, e3, e4⟩ := insT_parts t r
      refine ⟨z :: A, B, by rw [e1]; rfl, ?_, fun y hy => ?_, e4⟩
      · show (if _ then _ else _ : List Tmr) = _
        rw [if_pos h, e2]; rfl
      · rcases List.mem_cons.1 hy with rfl | hy
        · exact h
        · exact e3 y hy
    · refine ⟨[], z :: r, rfl, ?_, (fun y hy => by cases hy), fun y S e => by cases e; omega⟩
      show (if _ then _ else _ : List Tmr) = _
      rw [if_neg h]; rfl
end Go.Proofs.Ytihfldjoogaolaa
