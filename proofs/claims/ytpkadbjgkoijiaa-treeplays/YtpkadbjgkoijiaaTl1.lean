import Derived.Test.YtpkadbjgkoijiaaTk
namespace Go.Proofs.Ytpkadbjgkoijiaa
open Go.RowKit

/-- The items' cells. -/
def irow : List It → List Value
  | [] => []
  | y :: l => .int .i64 y.a :: .int .i64 y.b :: .int .i64 y.n :: .int .i64 y.tu :: irow l
theorem irow_len : ∀ l, (irow l).length = l.length * 4
  | [] => rfl
  | y :: l => by rw [irow, List.length_cons, List.length_cons, List.length_cons, List.length_cons, irow_len l, List.length_cons]; omega
theorem irow_append : ∀ (l m : List It), irow (l ++ m) = irow l ++ irow m
  | [], m => rfl
  | y :: l, m => by rw [List.cons_append, irow, irow_append l m, irow]; rfl
theorem irow_at : ∀ (l : List It) (j : Nat) (h : j < l.length), (irow l)[j * 4]? = some (.int .i64 l[j].a) ∧ (irow l)[j * 4 + 1]? = some (.int .i64 l[j].b) ∧ (irow l)[j * 4 + 2]? = some (.int .i64 l[j].n) ∧ (irow l)[j * 4 + 3]? = some (.int .i64 l[j].tu)
  | [], j, h => by simp at h
  | y :: l, 0, _ => ⟨rfl, rfl, rfl, rfl⟩
  | y :: l, j + 1, h => by
    have := irow_at l j (by simpa using h)
    rw [irow, show (j + 1) * 4 = j * 4 + 4 by omega]
    exact this
/-- What a row of items reads as. -/
def IRw (w : World) (v : Value) (L : List It) : Prop := ∃ a cap, v = .slice a L.length cap ∧ ∀ j, (h : j < L.length) → ∃ g, a = some ⟨g, 0, none⟩ ∧ g < w.heap.size ∧ w.cell? ⟨g, j * 4, none⟩ = some (.int .i64 L[j].a) ∧ w.cell? ⟨g, j * 4 + 1, none⟩ = some (.int .i64 L[j].b) ∧ w.cell? ⟨g, j * 4 + 2, none⟩ = some (.int .i64 L[j].n) ∧ w.cell? ⟨g, j * 4 + 3, none⟩ = some (.int .i64 L[j].tu)
theorem IRw.of_own {w : World} {C : Nat} {v : Value} {L : List It} (h : w.ownsRow C 46 4 v L.length (irow L)) : IRw w v L := by
  rcases h.2 with ⟨rfl, e⟩ | ⟨g, cap, cur, rfl, _, _, _⟩
  · exact ⟨none, 0, by rw [e], fun j hj => by omega⟩
  · refine ⟨_, cap, rfl, fun j hj => ⟨g, rfl, (h.lt g rfl).2, ?_⟩⟩
    obtain ⟨h1, h2, h3, h4⟩ := irow_at L j hj
    have e1 := h.cells (g := g) rfl _ _ h1
    have e2 := h.cells (g := g) rfl _ _ h2
    have e3 := h.cells (g := g) rfl _ _ h3
    have e4 := h.cells (g := g) rfl _ _ h4
    rw [add0] at e1 e2 e3 e4
    exact ⟨e1, e2, e3, e4⟩
/-- Where a handle stands; -1. -/
def fidx (L : List It) (pl tn : Int) : Int := match L.findIdx? (fun y => decide ((y.n : Int) = pl ∧ y.tu = tn)) with | some i => (i : Int) | none => -1
theorem fidx_none (L : List It) (pl tn : Int) (h : ∀ y ∈ L, ¬ ((y.n : Int) = pl ∧ y.tu = tn)) : fidx L pl tn = -1 := by
  unfold fidx
  rw [List.findIdx?_eq_none_iff.2 (fun y hy => decide_eq_false (h y hy))]
theorem fidx_some (L : List It) (pl tn : Int) (j : Nat) (hj : j < L.length) (hp : (L[j].n : Int) = pl ∧ L[j].tu = tn) (h : ∀ k, (hk : k < j) → ¬ ((L[k].n : Int) = pl ∧ L[k].tu = tn)) : fidx L pl tn = j := by
  unfold fidx
  have : L.findIdx? (fun y => decide ((y.n : Int) = pl ∧ y.tu = tn)) = some j := by
    rw [List.findIdx?_eq_some_iff_getElem]
    exact ⟨hj, decide_eq_true hp, fun k hk => by have := h k hk; simpa using this⟩
  rw [this]
set_option maxRecDepth 100000 in
set_option maxHeartbeats 1000000 in
theorem find_any (v : Value) (L : List It) (pl tn : Int) (w : World) (hr : IRw w v L) (hl : L.length ≤ 100000) :
    Calls Try.prog 11 #[v, .agg #[.int .i64 pl, .int .i64 tn]] w fun e w' => e = .returned (.int .i64 (fidx L pl tn)) ∧ Below w.heap.size w w' := by
  obtain ⟨a, cap, rfl, hc⟩ := hr
  obtain ⟨B, hB⟩ : ∃ B, w.heap.size = B := ⟨_, rfl⟩
  obtain ⟨W0, hW0⟩ : ∃ W0, W0 = w.alloc (.cells #[.int .i64 pl, .int .i64 tn] 27) := ⟨_, rfl⟩
  have b0 : Below B w W0 := by rw [hW0, ← hB]; exact one_below _ _
  have k0 : Blk W0 B 27 #[.int .i64 pl, .int .i64 tn] := by rw [hW0]; exact Blk.new_at _ _ _ hB.symm
  have HC := hide hc
  have HN := hide (fidx_none L pl tn)
  have HS := hide (fidx_some L pl tn)
  generalize fidx L pl tn = F at *
  have H0 := hide (And.intro b0 k0)
  clear hc b0 k0
  go_enter Try.func11, Try.ntmps11
  go_wp2_with fail
  rw [← hW0]
  go_loopw [9] (fun d w' => ∃ j : Nat, d = .int .i64 (j : Int) ∧ j ≤ L.length ∧ Hid (Below B w w' ∧ Blk w' B 27 #[.int .i64 pl, .int .i64 tn] ∧ ∀ k, (hk : k < L.length) → k < j → ¬ ((L[k].n : Int) = pl ∧ L[k].tu = tn))) (fun d _ => L.length - (intOf d).toNat)
  case atStart => exact ⟨0, rfl, by omega, hide ⟨(unhide H0).1, (unhide H0).2, fun k _ h => absurd h (by omega)⟩⟩
  case round =>
    obtain ⟨j, rfl, hj, HJ⟩ := hrel
    obtain ⟨bl, kh, hk⟩ := unhide HJ
    by_cases hlt : j < L.length
    · obtain ⟨g, rfl, hg, x0, x1, x2, x3⟩ := (unhide HC) j hlt
      have y0 : wr.cell? ⟨g, j * 4, none⟩ = some (.int .i64 L[j].a) := by rw [bl.cell (p := ⟨g, j * 4, none⟩) (by show g < B; omega)]; exact x0
      have y1 : wr.cell? ⟨g, j * 4 + 1, none⟩ = some (.int .i64 L[j].b) := by rw [bl.cell (p := ⟨g, j * 4 + 1, none⟩) (by show g < B; omega)]; exact x1
      have y2 : wr.cell? ⟨g, j * 4 + 2, none⟩ = some (.int .i64 L[j].n) := by rw [bl.cell (p := ⟨g, j * 4 + 2, none⟩) (by show g < B; omega)]; exact x2
      have y3 : wr.cell? ⟨g, j * 4 + 3, none⟩ = some (.int .i64 L[j].tu) := by rw [bl.cell (p := ⟨g, j * 4 + 3, none⟩) (by show g < B; omega)]; exact x3
      clear x0 x1 x2 x3
      have HS2 := hide (fun h => (unhide HS) j hlt h (fun k hkj => hk k (by omega) hkj))
      generalize hy : L[j] = y at *
      obtain ⟨yn, yt, ya, yb⟩ := y
      simp only at y0 y1 y2 y3 HS2
      have kw := kh.alloc (.cells #[.int .i64 ya, .int .i64 yb, .int .i64 yn, .int .i64 yt] 46)
      have c0 := kw.cell 0
      have c1 := kw.cell 1
      have bl2 : Below B w (wr.alloc (.cells #[.int .i64 ya, .int .i64 yb, .int .i64 yn, .int .i64 yt] 46)) := bl.trans ((one_below _ _).mono (by have := bl.size; omega))
      have HB := hide (And.intro bl2 (And.intro kw hk))
      have HY := hide hy
      clear bl kh hk HJ kw bl2 hy H0
      by_cases e1 : (yn : Int) = pl
      · by_cases e2 : yt = tn
        · have HF := hide ((unhide HS2) ⟨e1, e2⟩)
          subst e1 e2
          clear HS2
          go_wp2_with fail
          go_ret
          exact ⟨by rw [unhide HF]; rfl, by rw [hB]; exact (unhide HB).1⟩
        · have d2 : (yt == tn) = false := by rw [beq_eq_false_iff_ne]; exact e2
          subst e1
          clear HS2
          go_wp2_with fail
          go_roundw
          case rel =>
            obtain ⟨q1, q2, q3⟩ := unhide HB
            exact ⟨j + 1, by go_num, by omega, hide ⟨q1, q2, fun k hk hkj h => by
              rcases (show k < j ∨ k = j by omega) with h1 | rfl
              · exact q3 k hk h1 h
              · rw [unhide HY] at h; exact e2 h.2⟩⟩
          case measure => simp [intOf]; omega
      · have d1 : ((yn : Int) == pl) = false := by rw [beq_eq_false_iff_ne]; exact e1
        clear HS2
        go_wp2_with fail
        go_roundw
        case rel =>
          obtain ⟨q1, q2, q3⟩ := unhide HB
          exact ⟨j + 1, by go_num, by omega, hide ⟨q1, q2, fun k hk hkj h => by
            rcases (show k < j ∨ k = j by omega) with h1 | rfl
            · exact q3 k hk h1 h
            · rw [unhide HY] at h; exact e1 h.1⟩⟩
        case measure => simp [intOf]; omega
    · have HF := hide ((unhide HN) (fun y hy => by
        obtain ⟨k, hkl, rfl⟩ := List.getElem_of_mem hy
        exact hk k hkl (by omega)))
      clear hk kh HJ H0
      go_wp2_with fail
      go_ret
      exact ⟨by rw [unhide HF]; rfl, by rw [hB]; exact bl⟩
end Go.Proofs.Ytpkadbjgkoijiaa
