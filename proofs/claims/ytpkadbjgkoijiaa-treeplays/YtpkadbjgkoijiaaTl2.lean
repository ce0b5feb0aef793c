import Derived.Test.YtpkadbjgkoijiaaTl1
import Derived.Deep.QuietTactic
import Derived.BigQuiet
import Derived.Deep.RegionHeld3
namespace Go.Proofs.Ytpkadbjgkoijiaa
open Go.RowKit

theorem krow_at : ∀ (l : List It) (j : Nat) (h : j < l.length), (krow l)[j * 2]? = some (.int .i64 l[j].a) ∧ (krow l)[j * 2 + 1]? = some (.int .i64 l[j].b)
  | [], j, h => by simp at h
  | y :: l, 0, _ => ⟨rfl, rfl⟩
  | y :: l, j + 1, h => by
    have := krow_at l j (by simpa using h)
    rw [krow, show (j + 1) * 2 = j * 2 + 2 by omega]
    exact this
theorem tkeys (T G P : Nat) (tf : Nat → Int) (L : List It) (w : World) (h : Tre w T G P tf L) :
    Calls Try.prog 9 #[.pointer (some ⟨T, 0, none⟩)] w fun e w' => (∃ a cap, e = .returned (.slice a L.length cap) ∧ ∀ j y, L[j]? = some y → ∃ g, a = some ⟨g, 0, none⟩ ∧ g < w'.heap.size ∧ w'.cell? ⟨g, j * 2, none⟩ = some (.int .i64 y.a) ∧ w'.cell? ⟨g, j * 2 + 1, none⟩ = some (.int .i64 y.b)) ∧ Below w.heap.size w w' := by
  obtain ⟨st, t, fl, o, i, rfl, f⟩ := h
  refine (keys_any T G P st w o t fl i).mono ?_
  rintro e w' ⟨v, rfl, row, hb⟩
  refine ⟨?_, hb⟩
  have row' : w'.ownsRow w.heap.size 38 2 v (t.list.map (itOf st)).length (krow (t.list.map (itOf st))) := by rw [List.length_map]; exact row
  generalize t.list.map (itOf st) = L at *
  rcases row'.2 with ⟨rfl, e2⟩ | ⟨g, cap, cur, rfl, _⟩
  · refine ⟨none, 0, by rw [e2], fun j y hy => ?_⟩
    have := (List.getElem?_eq_some_iff.1 hy).1
    omega
  · refine ⟨_, cap, rfl, fun j y hy => ⟨g, rfl, (row'.lt g rfl).2, ?_⟩⟩
    obtain ⟨hj, hyj⟩ := List.getElem?_eq_some_iff.1 hy
    obtain ⟨h1, h2⟩ := krow_at L j hj
    rw [hyj] at h1 h2
    have e1 := row'.cells (g := g) rfl _ _ h1
    have e2 := row'.cells (g := g) rfl _ _ h2
    rw [add0] at e1 e2
    exact ⟨e1, e2⟩
theorem hold {W : World} {a : Addr} {v : Value} (h : W.cell? a = some v) : ∀ w', Below W.heap.size W w' → w'.cell? a = some v := fun w' hb => by
  rw [hb.cell (World.block_lt_of_cell? W a h)]; exact h
set_option maxRecDepth 100000 in
set_option maxHeartbeats 4000000 in
theorem same_any (v : Value) (T G P : Nat) (tf : Nat → Int) (L : List It) (w : World) (h : Tre w T G P tf L) (hr : IRw w v L) (hP : L.length ≤ 4096) :
    Calls Try.prog 13 #[.pointer (some ⟨T, 0, none⟩), v] w fun e w' => e = .returned (.bool true) ∧ Below w.heap.size w w' := by
  obtain ⟨a, cap, rfl, hc⟩ := hr
  obtain ⟨B, hB⟩ : ∃ B, w.heap.size = B := ⟨_, rfl⟩
  rw [hB] at hc
  have HC : Hid (∀ j y, L[j]? = some y → ∃ g, a = some ⟨g, 0, none⟩ ∧ g < B ∧ w.cell? ⟨g, j * 4, none⟩ = some (.int .i64 y.a) ∧ w.cell? ⟨g, j * 4 + 1, none⟩ = some (.int .i64 y.b) ∧ w.cell? ⟨g, j * 4 + 2, none⟩ = some (.int .i64 y.n) ∧ w.cell? ⟨g, j * 4 + 3, none⟩ = some (.int .i64 y.tu)) := hide (fun j y hy => by
    obtain ⟨hj, hyj⟩ := List.getElem?_eq_some_iff.1 hy
    have := hc j hj
    rwa [hyj] at this)
  have CK := hide (tkeys T G P tf L w h)
  have HH := hide h
  clear hc h
  generalize hN : L.length = N at *
  go_enter Try.func13, Try.ntmps13
  go_wp2_with (go_at_call 9; refine Hid.out ?_)
  refine hide ?_
  refine (unhide CK).mono ?_
  rintro e w1 ⟨⟨ka, kcap, rfl, hk⟩, hb1⟩
  have HK := hide hk
  rw [hB] at hb1
  have tr1 := (unhide HH).below (by rw [hB]; exact hb1)
  have CL : Hid (Calls Try.prog 15 #[.pointer (some ⟨T, 0, none⟩)] w1 fun e w' => e = .returned (.int .i64 (N : Int)) ∧ w1 = w') := hide ((tlen T G P tf L w1 tr1).mono (fun e w' h => ⟨by rw [h.1, hN], h.2.symm⟩))
  have CF := hide (tfirst T G P tf L w1 tr1)
  obtain ⟨u0, v0, o0, hv0, ho0⟩ := hdV_cases L
  rw [hv0] at CF
  have H1 := hide (And.intro tr1 (And.intro hb1 ho0))
  clear hk hb1 tr1 CK HH hv0 ho0
  go_wp2_with (first | (go_at_call 15; refine (unhide CL).mono ?_; rintro e w' ⟨rfl, rfl⟩) | (go_at_call 6; refine Hid.out ?_))
  refine hide ?_
  refine (unhide CF).mono ?_
  rintro e w2 ⟨rfl, hb2⟩
  obtain ⟨tr1, bl1, ho0⟩ := unhide H1
  obtain ⟨Q, hQ⟩ : ∃ Q, w2.heap.size = Q := ⟨_, rfl⟩
  have s2 := hb2.size
  have tr2 := (tr1.below hb2).below (one_below w2 (.cells #[.int .i64 u0, .int .i64 v0] 27))
  have lts := (tr1.below hb2).lts
  rw [hQ] at lts
  have bl2 : Below B w (w2.alloc (.cells #[.int .i64 u0, .int .i64 v0] 27)) := (bl1.trans (hb2.mono (by have := bl1.size; omega))).trans ((one_below _ _).mono (by have := bl1.size; omega))
  have hBQ : B ≤ Q := by have := bl1.size; omega
  have b12 : Below w1.heap.size w1 (w2.alloc (.cells #[.int .i64 u0, .int .i64 v0] 27)) := hb2.trans ((one_below _ _).mono s2)
  have hQ1 : w1.heap.size ≤ Q := by omega
  have H2 := hide (And.intro tr2 (And.intro bl2 (And.intro b12 (And.intro (Blk.new_at w2 27 #[.int .i64 u0, .int .i64 v0] hQ.symm) ho0))))
  clear tr1 bl1 ho0 tr2 bl2 b12 hb2 s2 H1 CF CL
  go_wp2_with fail
  go_loopw [7, 35] (fun s7 d w' => ∃ (A R : List It) (u x : Int) (o : Bool) (j : Nat), s7 = .bool o ∧ d = .int .i64 (j : Int) ∧ j ≤ N ∧ Hid (L = A ++ R ∧ A.length = j ∧ ((R = [] ∧ o = false) ∨ ∃ y R', R = y :: R' ∧ o = true ∧ u = y.n ∧ x = y.tu) ∧ Tre w' T G P tf L ∧ Below B w w' ∧ Below w1.heap.size w1 w' ∧ Blk w' Q 27 #[.int .i64 u, .int .i64 x])) (fun _ d _ => N - (intOf d).toNat)
  case atStart => exact ⟨[], L, u0, v0, o0, 0, rfl, rfl, by omega, hide ⟨rfl, rfl, (unhide H2).2.2.2.2, (unhide H2).1, (unhide H2).2.1, (unhide H2).2.2.1, (unhide H2).2.2.2.1⟩⟩
  case round =>
    obtain ⟨A, R, u, x, o, j, rfl, rfl, hj, HJ⟩ := hrel
    obtain ⟨hL, hA, ho, tr, bl, b1, kq⟩ := unhide HJ
    have hlen : A.length + R.length = N := by rw [← hN, hL, List.length_append]
    rcases ho with ⟨rfl, rfl⟩ | ⟨y, R', rfl, rfl, rfl, rfl⟩
    · have hjN : j = N := by simp only [List.length_nil] at hlen; omega
      have CH := hide (theights T G P tf L wr tr (by omega))
      have HB := hide bl
      clear hL hA tr bl b1 kq HJ H2 hlen
      subst hjN
      go_wp2_with (go_at_call 25; refine Hid.out ?_)
      refine hide ?_
      refine (unhide CH).mono ?_
      rintro e w6 ⟨⟨lo, hi, rfl, h1, h2⟩, hb6⟩
      have S6 : Below B w w6 := (unhide HB).trans (hb6.mono (by have := (unhide HB).size; omega))
      have hd : decide ((hi : Int) ≤ 2 * (lo : Int) + 1) = true := decide_eq_true (by omega)
      clear CH hb6 HB
      go_wp2_with fail
      go_ret
      exact ⟨rfl, by rw [hB]; exact S6⟩
    · have hjlt : j < N := by simp only [List.length_cons] at hlen; omega
      have hy : L[j]? = some y := by rw [hL, List.getElem?_append_right (by omega), hA, Nat.sub_self]; rfl
      obtain ⟨g, rfl, hg, x0, x1, x2, x3⟩ := (unhide HC) j y hy
      obtain ⟨g2, rfl, hg2, z0, z1⟩ := (unhide HK) j y hy
      have y0 : wr.cell? ⟨g, j * 4, none⟩ = some (.int .i64 y.a) := by rw [bl.cell (p := ⟨g, j * 4, none⟩) (by show g < B; omega)]; exact x0
      have y1 : wr.cell? ⟨g, j * 4 + 1, none⟩ = some (.int .i64 y.b) := by rw [bl.cell (p := ⟨g, j * 4 + 1, none⟩) (by show g < B; omega)]; exact x1
      have y2 : wr.cell? ⟨g, j * 4 + 2, none⟩ = some (.int .i64 y.n) := by rw [bl.cell (p := ⟨g, j * 4 + 2, none⟩) (by show g < B; omega)]; exact x2
      have y3 : wr.cell? ⟨g, j * 4 + 3, none⟩ = some (.int .i64 y.tu) := by rw [bl.cell (p := ⟨g, j * 4 + 3, none⟩) (by show g < B; omega)]; exact x3
      have k0 : wr.cell? ⟨g2, j * 2, none⟩ = some (.int .i64 y.a) := by rw [b1.cell (p := ⟨g2, j * 2, none⟩) hg2]; exact z0
      have k1 : wr.cell? ⟨g2, j * 2 + 1, none⟩ = some (.int .i64 y.b) := by rw [b1.cell (p := ⟨g2, j * 2 + 1, none⟩) hg2]; exact z1
      obtain ⟨bx, hbx⟩ : ∃ x, wr.heap.size = x := ⟨_, rfl⟩
      have bb5 := one_below wr (.cells #[.int .i64 y.a, .int .i64 y.b, .int .i64 y.n, .int .i64 y.tu] 46)
      have kx5 := Blk.new_at wr 46 #[.int .i64 y.a, .int .i64 y.b, .int .i64 y.n, .int .i64 y.tu] hbx.symm
      have CY := hide (tkey_in T G P tf L _ (tr.below bb5) y (by rw [hL]; simp))
      have H5 := hide (And.intro hL (And.intro hA (And.intro tr (And.intro bl (And.intro b1 (And.intro kq (And.intro kx5 (And.intro bb5 (And.intro k0 k1)))))))))
      clear x0 x1 x2 x3 z0 z1 hL hA tr bl b1 kq kx5 bb5 k0 k1 HJ H2 hlen hy
      go_wp2_with (go_at_call 24; refine Hid.out ?_)
      refine hide ?_
      refine (unhide CY).mono ?_
      rintro e w6 ⟨rfl, hb6⟩
      obtain ⟨hL, hA, tr, bl, b1, kq, kx5, bb5, k0, k1⟩ := unhide H5
      obtain ⟨kb, hkb⟩ : ∃ x, w6.heap.size = x := ⟨_, rfl⟩
      obtain ⟨W7, hW7⟩ : ∃ W7, W7 = w6.alloc (.cells #[.int .i64 y.a, .int .i64 y.b] 38) := ⟨_, rfl⟩
      have b7 : Below w6.heap.size w6 W7 := by rw [hW7]; exact one_below _ _
      have bw : Below wr.heap.size wr W7 := (bb5.trans (hb6.mono bb5.size)).trans (b7.mono (Nat.le_trans bb5.size hb6.size))
      have kx6 := kx5.below hb6 kx5.lt
      have kx7 := kx6.below b7 kx6.lt
      have kb7 : Blk W7 kb 38 #[.int .i64 y.a, .int .i64 y.b] := by rw [hW7]; exact Blk.new_at _ _ _ hkb.symm
      have kq7 := kq.below bw kq.lt
      have r0 := hold (W := W7) (a := ⟨bx, 0, none⟩) (v := .int .i64 y.a) (kx7.cell 0)
      have r1 := hold (W := W7) (a := ⟨bx, 1, none⟩) (v := .int .i64 y.b) (kx7.cell 1)
      have r2 := hold (W := W7) (a := ⟨bx, 2, none⟩) (v := .int .i64 y.n) (kx7.cell 2)
      have r3 := hold (W := W7) (a := ⟨bx, 3, none⟩) (v := .int .i64 y.tu) (kx7.cell 3)
      have r4 := hold (W := W7) (a := ⟨kb, 0, none⟩) (v := .int .i64 y.a) (kb7.cell 0)
      have r5 := hold (W := W7) (a := ⟨kb, 1, none⟩) (v := .int .i64 y.b) (kb7.cell 1)
      have r6 := hold (W := W7) (a := ⟨Q, 0, none⟩) (v := .int .i64 y.n) (kq7.cell 0)
      have r7 := hold (W := W7) (a := ⟨Q, 1, none⟩) (v := .int .i64 y.tu) (kq7.cell 1)
      have r8 := hold (W := W7) (a := ⟨g2, j * 2, none⟩) (v := .int .i64 y.a) (by rw [bw.cell (World.block_lt_of_cell? wr _ k0)]; exact k0)
      have r9 := hold (W := W7) (a := ⟨g2, j * 2 + 1, none⟩) (v := .int .i64 y.b) (by rw [bw.cell (World.block_lt_of_cell? wr _ k1)]; exact k1)
      have H7 := hide (And.intro hL (And.intro hA (And.intro (tr.below bw) (And.intro (bl.trans (bw.mono (by have := bl.size; omega))) (And.intro (b1.trans (bw.mono b1.size)) kq7)))))
      clear hL hA tr bl b1 kq kx5 bb5 k0 k1 kx6 kx7 kb7 kq7 bw b7 hb6 H5 CY y0 y1 y2 y3
      have HW7 := hide hW7
      clear hW7
      go_wp2_with fail
      rw [← unhide HW7]
      refine wp_region_held_drew (S := (fun w' => Below W7.heap.size W7 w')) (by kernel_rfl) ?_ (fun hHeld => ?_)
      · (first | (first | exact (Below.refl _ _).drew | assumption))
      refine wpAnyH_take (i := 0) (oi := ?o1) (v := ?v1) ?hi1 (by kernel_rfl) (by kernel_rfl) (by kernel_rfl) ?hQ1 (Or.inl ⟨?hw1, ?hy1⟩) (by assumption) ?_
      case hi1 => (simp only [List.getElem?_toArray, List.getElem?_cons_zero]; rfl)
      case hQ1 => exact fun _ _ _ h => h
      case hw1 => rfl
      case hy1 => (intro w hSw; (try dsimp only at hSw); go_simp; (try with_reducible rfl))
      simp only [Act.put, List.setIfInBounds_toArray, List.set_cons_zero, List.set_cons_succ]
      refine wpAnyH_take (i := 1) (oi := ?o2) (v := ?v2) ?hi2 (by kernel_rfl) (by kernel_rfl) (by kernel_rfl) ?hQ2 (Or.inl ⟨?hw2, ?hy2⟩) (by assumption) ?_
      case hi2 => (simp only [List.getElem?_toArray, List.getElem?_cons_succ, List.getElem?_cons_zero]; rfl)
      case hQ2 => exact fun _ _ _ h => h
      case hw2 => rfl
      case hy2 => (intro w hSw; (try dsimp only at hSw); go_simp; (try with_reducible rfl))
      simp only [Act.put, List.setIfInBounds_toArray, List.set_cons_zero, List.set_cons_succ]
      refine wpAnyH_take (i := 2) (oi := ?o3) (v := ?v3) ?hi3 (by kernel_rfl) (by kernel_rfl) (by kernel_rfl) ?hQ3 (Or.inl ⟨?hw3, ?hy3⟩) (by assumption) ?_
      case hi3 => (simp only [List.getElem?_toArray, List.getElem?_cons_succ, List.getElem?_cons_zero]; rfl)
      case hQ3 => exact fun _ _ _ h => h
      case hw3 => rfl
      case hy3 => (intro w hSw; (try dsimp only at hSw); go_simp; (try with_reducible rfl))
      simp only [Act.put, List.setIfInBounds_toArray, List.set_cons_zero, List.set_cons_succ]
      refine wpAnyH_take (i := 3) (oi := ?o4) (v := ?v4) ?hi4 (by kernel_rfl) (by kernel_rfl) (by kernel_rfl) ?hQ4 (Or.inl ⟨?hw4, ?hy4⟩) (by assumption) ?_
      case hi4 => (simp only [List.getElem?_toArray, List.getElem?_cons_succ, List.getElem?_cons_zero]; rfl)
      case hQ4 => exact fun _ _ _ h => h
      case hw4 => rfl
      case hy4 => (intro w hSw; (try dsimp only at hSw); go_simp; (try with_reducible rfl))
      simp only [Act.put, List.setIfInBounds_toArray, List.set_cons_zero, List.set_cons_succ]
      refine wpAnyH_take (i := 4) (oi := ?o5) (v := ?v5) ?hi5 (by kernel_rfl) (by kernel_rfl) (by kernel_rfl) ?hQ5 (Or.inl ⟨?hw5, ?hy5⟩) (by assumption) ?_
      case hi5 => (simp only [List.getElem?_toArray, List.getElem?_cons_succ, List.getElem?_cons_zero]; rfl)
      case hQ5 => exact fun _ _ _ h => h
      case hw5 => rfl
      case hy5 => (intro w hSw; (try dsimp only at hSw); go_simp; (try with_reducible rfl))
      simp only [Act.put, List.setIfInBounds_toArray, List.set_cons_zero, List.set_cons_succ]
      refine wpAnyH_take (i := 5) (oi := ?o6) (v := ?v6) ?hi6 (by kernel_rfl) (by kernel_rfl) (by kernel_rfl) ?hQ6 (Or.inl ⟨?hw6, ?hy6⟩) (by assumption) ?_
      case hi6 => (simp only [List.getElem?_toArray, List.getElem?_cons_succ, List.getElem?_cons_zero]; rfl)
      case hQ6 => exact fun _ _ _ h => h
      case hw6 => rfl
      case hy6 => (intro w hSw; (try dsimp only at hSw); go_simp; (try with_reducible rfl))
      simp only [Act.put, List.setIfInBounds_toArray, List.set_cons_zero, List.set_cons_succ]
      refine wpAnyH_take (i := 6) (oi := ?o7) (v := ?v7) ?hi7 (by kernel_rfl) (by kernel_rfl) (by kernel_rfl) ?hQ7 (Or.inl ⟨?hw7, ?hy7⟩) (by assumption) ?_
      case hi7 => (simp only [List.getElem?_toArray, List.getElem?_cons_succ, List.getElem?_cons_zero]; rfl)
      case hQ7 => exact fun _ _ _ h => h
      case hw7 => rfl
      case hy7 => (intro w hSw; (try dsimp only at hSw); go_simp; (try with_reducible rfl))
      simp only [Act.put, List.setIfInBounds_toArray, List.set_cons_zero, List.set_cons_succ]
      refine wpAnyH_take (i := 7) (oi := ?o8) (v := ?v8) ?hi8 (by kernel_rfl) (by kernel_rfl) (by kernel_rfl) ?hQ8 (Or.inl ⟨?hw8, ?hy8⟩) (by assumption) ?_
      case hi8 => (simp only [List.getElem?_toArray, List.getElem?_cons_succ, List.getElem?_cons_zero]; rfl)
      case hQ8 => exact fun _ _ _ h => h
      case hw8 => rfl
      case hy8 => (intro w hSw; (try dsimp only at hSw); go_simp; (try with_reducible rfl))
      simp only [Act.put, List.setIfInBounds_toArray, List.set_cons_zero, List.set_cons_succ]
      refine wpAnyH_take (i := 8) (oi := ?o9) (v := ?v9) ?hi9 (by kernel_rfl) (by kernel_rfl) (by kernel_rfl) ?hQ9 (Or.inl ⟨?hw9, ?hy9⟩) (by assumption) ?_
      case hi9 => (simp only [List.getElem?_toArray, List.getElem?_cons_succ, List.getElem?_cons_zero]; rfl)
      case hQ9 => exact fun _ _ _ h => h
      case hw9 => rfl
      case hy9 => (intro w hSw; (try dsimp only at hSw); go_simp; (try with_reducible rfl))
      simp only [Act.put, List.setIfInBounds_toArray, List.set_cons_zero, List.set_cons_succ]
      refine wpAnyH_take (i := 9) (oi := ?o10) (v := ?v10) ?hi10 (by kernel_rfl) (by kernel_rfl) (by kernel_rfl) ?hQ10 (Or.inl ⟨?hw10, ?hy10⟩) (by assumption) ?_
      case hi10 => (simp only [List.getElem?_toArray, List.getElem?_cons_succ, List.getElem?_cons_zero]; rfl)
      case hQ10 => exact fun _ _ _ h => h
      case hw10 => rfl
      case hy10 => (intro w hSw; (try dsimp only at hSw); go_simp; (try with_reducible rfl))
      simp only [Act.put, List.setIfInBounds_toArray, List.set_cons_zero, List.set_cons_succ]
      refine wpAnyH_take (i := 10) (oi := ?o11) (v := ?v11) ?hi11 (by kernel_rfl) (by kernel_rfl) (by kernel_rfl) ?hQ11 (Or.inl ⟨?hw11, ?hy11⟩) (by assumption) ?_
      case hi11 => (simp only [List.getElem?_toArray, List.getElem?_cons_succ, List.getElem?_cons_zero]; rfl)
      case hQ11 => exact fun _ _ _ h => h
      case hw11 => rfl
      case hy11 => (intro w hSw; (try dsimp only at hSw); go_simp; (try with_reducible rfl))
      simp only [Act.put, List.setIfInBounds_toArray, List.set_cons_zero, List.set_cons_succ]
      refine wpAnyH_take (i := 11) (oi := ?o12) (v := ?v12) ?hi12 (by kernel_rfl) (by kernel_rfl) (by kernel_rfl) ?hQ12 (Or.inl ⟨?hw12, ?hy12⟩) (by assumption) ?_
      case hi12 => (simp only [List.getElem?_toArray, List.getElem?_cons_succ, List.getElem?_cons_zero]; rfl)
      case hQ12 => exact fun _ _ _ h => h
      case hw12 => rfl
      case hy12 => (intro w hSw; (try dsimp only at hSw); go_simp; (try with_reducible rfl))
      simp only [Act.put, List.setIfInBounds_toArray, List.set_cons_zero, List.set_cons_succ]
      refine wpAnyH_take (i := 12) (oi := ?o13) (v := ?v13) ?hi13 (by kernel_rfl) (by kernel_rfl) (by kernel_rfl) ?hQ13 (Or.inl ⟨?hw13, ?hy13⟩) (by assumption) ?_
      case hi13 => (simp only [List.getElem?_toArray, List.getElem?_cons_succ, List.getElem?_cons_zero]; rfl)
      case hQ13 => exact fun _ _ _ h => h
      case hw13 => rfl
      case hy13 => (intro w hSw; (try dsimp only at hSw); go_simp; (try with_reducible rfl))
      simp only [Act.put, List.setIfInBounds_toArray, List.set_cons_zero, List.set_cons_succ]
      refine wpAnyH_take (i := 13) (oi := ?o14) (v := ?v14) ?hi14 (by kernel_rfl) (by kernel_rfl) (by kernel_rfl) ?hQ14 (Or.inl ⟨?hw14, ?hy14⟩) (by assumption) ?_
      case hi14 => (simp only [List.getElem?_toArray, List.getElem?_cons_succ, List.getElem?_cons_zero]; rfl)
      case hQ14 => exact fun _ _ _ h => h
      case hw14 => rfl
      case hy14 => (intro w hSw; (try dsimp only at hSw); go_simp; (try with_reducible rfl))
      simp only [Act.put, List.setIfInBounds_toArray, List.set_cons_zero, List.set_cons_succ]
      refine wpAnyH_take (i := 14) (oi := ?o15) (v := ?v15) ?hi15 (by kernel_rfl) (by kernel_rfl) (by kernel_rfl) ?hQ15 (Or.inl ⟨?hw15, ?hy15⟩) (by assumption) ?_
      case hi15 => (simp only [List.getElem?_toArray, List.getElem?_cons_succ, List.getElem?_cons_zero]; rfl)
      case hQ15 => exact fun _ _ _ h => h
      case hw15 => rfl
      case hy15 => (intro w hSw; (try dsimp only at hSw); go_simp; (try with_reducible rfl))
      simp only [Act.put, List.setIfInBounds_toArray, List.set_cons_zero, List.set_cons_succ]
      refine wpAnyH_take (i := 15) (oi := ?o16) (v := ?v16) ?hi16 (by kernel_rfl) (by kernel_rfl) (by kernel_rfl) ?hQ16 (Or.inl ⟨?hw16, ?hy16⟩) (by assumption) ?_
      case hi16 => (simp only [List.getElem?_toArray, List.getElem?_cons_succ, List.getElem?_cons_zero]; rfl)
      case hQ16 => exact fun _ _ _ h => h
      case hw16 => rfl
      case hy16 => (intro w hSw; (try dsimp only at hSw); go_simp; (try with_reducible rfl))
      simp only [Act.put, List.setIfInBounds_toArray, List.set_cons_zero, List.set_cons_succ]
      refine wpAnyH_take (i := 16) (oi := ?o17) (v := ?v17) ?hi17 (by kernel_rfl) (by kernel_rfl) (by kernel_rfl) ?hQ17 (Or.inl ⟨?hw17, ?hy17⟩) (by assumption) ?_
      case hi17 => (simp only [List.getElem?_toArray, List.getElem?_cons_succ, List.getElem?_cons_zero]; rfl)
      case hQ17 => exact fun _ _ _ h => h
      case hw17 => rfl
      case hy17 => (intro w hSw; (try dsimp only at hSw); go_simp; (try with_reducible rfl))
      simp only [Act.put, List.setIfInBounds_toArray, List.set_cons_zero, List.set_cons_succ]
      refine wpAnyH_take (i := 17) (oi := ?o18) (v := ?v18) ?hi18 (by kernel_rfl) (by kernel_rfl) (by kernel_rfl) ?hQ18 (Or.inl ⟨?hw18, ?hy18⟩) (by assumption) ?_
      case hi18 => (simp only [List.getElem?_toArray, List.getElem?_cons_succ, List.getElem?_cons_zero]; rfl)
      case hQ18 => exact fun _ _ _ h => h
      case hw18 => rfl
      case hy18 => (intro w hSw; (try dsimp only at hSw); go_simp; (try with_reducible rfl))
      simp only [Act.put, List.setIfInBounds_toArray, List.set_cons_zero, List.set_cons_succ]
      refine wpAnyH_take (i := 18) (oi := ?o19) (v := ?v19) ?hi19 (by kernel_rfl) (by kernel_rfl) (by kernel_rfl) ?hQ19 (Or.inl ⟨?hw19, ?hy19⟩) (by assumption) ?_
      case hi19 => (simp only [List.getElem?_toArray, List.getElem?_cons_succ, List.getElem?_cons_zero]; rfl)
      case hQ19 => exact fun _ _ _ h => h
      case hw19 => rfl
      case hy19 => (intro w hSw; (try dsimp only at hSw); go_simp; (try with_reducible rfl))
      simp only [Act.put, List.setIfInBounds_toArray, List.set_cons_zero, List.set_cons_succ]
      refine wpAnyH_take (i := 19) (oi := ?o20) (v := ?v20) ?hi20 (by kernel_rfl) (by kernel_rfl) (by kernel_rfl) ?hQ20 (Or.inl ⟨?hw20, ?hy20⟩) (by assumption) ?_
      case hi20 => (simp only [List.getElem?_toArray, List.getElem?_cons_succ, List.getElem?_cons_zero]; rfl)
      case hQ20 => exact fun _ _ _ h => h
      case hw20 => rfl
      case hy20 => (intro w hSw; (try dsimp only at hSw); go_simp; (try with_reducible rfl))
      simp only [Act.put, List.setIfInBounds_toArray, List.set_cons_zero, List.set_cons_succ]
      refine wpAnyH_take (i := 20) (oi := ?o21) (v := ?v21) ?hi21 (by kernel_rfl) (by kernel_rfl) (by kernel_rfl) ?hQ21 (Or.inl ⟨?hw21, ?hy21⟩) (by assumption) ?_
      case hi21 => (simp only [List.getElem?_toArray, List.getElem?_cons_succ, List.getElem?_cons_zero]; rfl)
      case hQ21 => exact fun _ _ _ h => h
      case hw21 => rfl
      case hy21 => (intro w hSw; (try dsimp only at hSw); go_simp; (try with_reducible rfl))
      simp only [Act.put, List.setIfInBounds_toArray, List.set_cons_zero, List.set_cons_succ]
      refine wpAnyH_take (i := 21) (oi := ?o22) (v := ?v22) ?hi22 (by kernel_rfl) (by kernel_rfl) (by kernel_rfl) ?hQ22 (Or.inl ⟨?hw22, ?hy22⟩) (by assumption) ?_
      case hi22 => (simp only [List.getElem?_toArray, List.getElem?_cons_succ, List.getElem?_cons_zero]; rfl)
      case hQ22 => exact fun _ _ _ h => h
      case hw22 => rfl
      case hy22 => (intro w hSw; (try dsimp only at hSw); go_simp; (try with_reducible rfl))
      simp only [Act.put, List.setIfInBounds_toArray, List.set_cons_zero, List.set_cons_succ]
      refine wpAnyH_take (i := 22) (oi := ?o23) (v := ?v23) ?hi23 (by kernel_rfl) (by kernel_rfl) (by kernel_rfl) ?hQ23 (Or.inl ⟨?hw23, ?hy23⟩) (by assumption) ?_
      case hi23 => (simp only [List.getElem?_toArray, List.getElem?_cons_succ, List.getElem?_cons_zero]; rfl)
      case hQ23 => exact fun _ _ _ h => h
      case hw23 => rfl
      case hy23 => (intro w hSw; (try dsimp only at hSw); go_simp; (try with_reducible rfl))
      simp only [Act.put, List.setIfInBounds_toArray, List.set_cons_zero, List.set_cons_succ]
      refine wpAnyH_take (i := 23) (oi := ?o24) (v := ?v24) ?hi24 (by kernel_rfl) (by kernel_rfl) (by kernel_rfl) ?hQ24 (Or.inl ⟨?hw24, ?hy24⟩) (by assumption) ?_
      case hi24 => (simp only [List.getElem?_toArray, List.getElem?_cons_succ, List.getElem?_cons_zero]; rfl)
      case hQ24 => exact fun _ _ _ h => h
      case hw24 => rfl
      case hy24 => (intro w hSw; (try dsimp only at hSw); go_simp; (try with_reducible rfl))
      simp only [Act.put, List.setIfInBounds_toArray, List.set_cons_zero, List.set_cons_succ]
      refine wpAnyH_take (i := 24) (oi := ?o25) (v := ?v25) ?hi25 (by kernel_rfl) (by kernel_rfl) (by kernel_rfl) ?hQ25 (Or.inl ⟨?hw25, ?hy25⟩) (by assumption) ?_
      case hi25 => (simp only [List.getElem?_toArray, List.getElem?_cons_succ, List.getElem?_cons_zero]; rfl)
      case hQ25 => exact fun _ _ _ h => h
      case hw25 => rfl
      case hy25 => (intro w hSw; (try dsimp only at hSw); go_simp; (try with_reducible rfl))
      simp only [Act.put, List.setIfInBounds_toArray, List.set_cons_zero, List.set_cons_succ]
      refine wpAnyH_take (i := 25) (oi := ?o26) (v := ?v26) ?hi26 (by kernel_rfl) (by kernel_rfl) (by kernel_rfl) ?hQ26 (Or.inl ⟨?hw26, ?hy26⟩) (by assumption) ?_
      case hi26 => (simp only [List.getElem?_toArray, List.getElem?_cons_succ, List.getElem?_cons_zero]; rfl)
      case hQ26 => exact fun _ _ _ h => h
      case hw26 => rfl
      case hy26 => (intro w hSw; (try dsimp only at hSw); go_simp; (try with_reducible rfl))
      simp only [Act.put, List.setIfInBounds_toArray, List.set_cons_zero, List.set_cons_succ]
      refine wpAnyH_take (i := 26) (oi := ?o27) (v := ?v27) ?hi27 (by kernel_rfl) (by kernel_rfl) (by kernel_rfl) ?hQ27 (Or.inl ⟨?hw27, ?hy27⟩) (by assumption) ?_
      case hi27 => (simp only [List.getElem?_toArray, List.getElem?_cons_succ, List.getElem?_cons_zero]; rfl)
      case hQ27 => exact fun _ _ _ h => h
      case hw27 => rfl
      case hy27 => (intro w hSw; (try dsimp only at hSw); go_simp; (try with_reducible rfl))
      simp only [Act.put, List.setIfInBounds_toArray, List.set_cons_zero, List.set_cons_succ]
      refine wpAnyH_done (by kernel_rfl) ?_ _
      obtain ⟨hL, hA, tr7, bl7, b17, kq7⟩ := unhide H7
      have dr : Below W7.heap.size W7 W7.drew := (Below.refl _ _).drew
      obtain ⟨u2, x2, o2, hv2, ho2⟩ := hdV_cases R'
      have CX := hide (tnext T G P tf A R' y W7.drew (by rw [← hL]; exact tr7.below dr))
      rw [hv2] at CX
      have H8 := hide (And.intro hL (And.intro hA (And.intro tr7 (And.intro bl7 (And.intro b17 (And.intro kq7 (And.intro dr ho2)))))))
      clear hL hA tr7 bl7 b17 kq7 dr hv2 ho2 H7 HW7
      go_wp2_with (go_at_call 14; refine Hid.out ?_)
      refine hide ?_
      refine (unhide CX).mono ?_
      rintro e w8 ⟨rfl, hb8⟩
      obtain ⟨hL, hA, tr7, bl7, b17, kq7, dr, ho2⟩ := unhide H8
      have b8 : Below W7.heap.size W7 w8 := dr.trans (hb8.mono dr.size)
      have kq8 := kq7.below b8 kq7.lt
      have g0 := kq8.cell 0
      have g1 := kq8.cell 1
      have gf := kq8.free
      have H9 := hide (And.intro hL (And.intro hA (And.intro (tr7.below b8) (And.intro (bl7.trans (b8.mono (by have := bl7.size; omega))) (And.intro (b17.trans (b8.mono b17.size)) (And.intro kq8 ho2))))))
      clear hL hA tr7 bl7 b17 kq7 dr ho2 b8 kq8 hb8 H8 CX r0 r1 r2 r3 r4 r5 r6 r7 r8 r9
      go_wp2_with fail
      go_roundw
      case rel =>
        obtain ⟨hL, hA, tr9, bl9, b19, kq9, ho2⟩ := unhide H9
        exact ⟨A ++ [y], R', u2, x2, o2, j + 1, rfl, by go_num, by omega, hide ⟨by rw [hL, List.append_assoc]; rfl, by rw [List.length_append, hA]; simp, ho2, (tr9.set (by omega) (by omega) _ _).set (by omega) (by omega) _ _, (bl9.setCell (by simp; omega) _).setCell (by simp; omega) _, (b19.setCell (by simp; omega) _).setCell (by simp; omega) _, (kq9.put _ _).put _ _⟩⟩
      case measure => simp [intOf]; omega
end Go.Proofs.Ytpkadbjgkoijiaa
