import Derived.Test.YtjngnmpjkiafpaaPh6
import Derived.Test.YtjngnmpjkiafpaaFlt
namespace Go.Proofs.Ytjngnmpjkiafpaa
open Go.RowKit Ph

/-- The row that is made. -/
def cRow (a b : Nat → Int) (k : Nat) : List Value := (List.range k).map fun i => .complex .f64 (fl (a i)) (fl (b i))
theorem cRow_succ (a b : Nat → Int) (k : Nat) : cRow a b (k + 1) = cRow a b k ++ [.complex .f64 (fl (a k)) (fl (b k))] := by
  unfold cRow; rw [List.range_succ, List.map_append]; rfl
theorem cRow_get (a b : Nat → Int) {k i : Nat} (h : i < k) : (cRow a b k)[i]? = some (.complex .f64 (fl (a i)) (fl (b i))) := by
  unfold cRow; simp [h]
theorem cInfo : (Try.prog.info? 26).map (fun i => (i.zero, i.size, i.bytes)) = some (some (.complex .f64 0 0), 1, 16) := by kernel_rfl

theorem own_below {w w' : World} {B s n : Nat} {e : TypeId} {v : Value} {xs : List Value} (h : w.ownsRow B e s v n xs) (hb : Below w.heap.size w w') : w'.ownsRow B e s v n xs :=
  h.kept (row := none) ⟨hb.os, hb.tape, hb.output, hb.size, fun k hk _ => hb.block k hk⟩ (by cases v.ownBlock <;> simp)
theorem below_drewN (w : World) (n : Nat) : Below w.heap.size w (w.drewN n) := ⟨rfl, rfl, rfl, Nat.le_refl _, fun _ _ => rfl⟩
theorem ps_bd {f : Nat → Int} {k : Nat} (h : ∀ i, i < k → inB (f i) = true) : -((k : Int) * 1048576) ≤ ps f k ∧ ps f k ≤ (k : Int) * 1048576 := by
  induction k with
  | zero => exact ⟨by simp [ps], by simp [ps]⟩
  | succ k ih =>
    have h1 := ih (fun i hi => h i (by omega))
    have h2 := (inB_iff _).1 (h k (by omega))
    show _ ≤ ps f k + f k ∧ ps f k + f k ≤ _
    omega
set_option maxRecDepth 20000 in
set_option maxHeartbeats 4000000 in
theorem lturns_short (p : Option Addr) (len cap : Nat) (a b : Nat → Int) (q : Int) (w : World) (hlen : len ≤ 50)
    (hc : ∀ i, i < len → ∃ x, p = some x ∧ w.cell? (x.add (i * 2)) = some (.int .i64 (a i)) ∧ w.cell? (x.add (i * 2 + 1)) = some (.int .i64 (b i)) ∧ x.block < w.heap.size) :
    Calls Try.prog 3 #[.slice p len cap, .int .i64 q] w fun e w' => e = .returned (.bool true) ∧ Below w.heap.size w w' := by
  obtain ⟨i0, hi, hz0, hz1, hz2⟩ := info_parts cInfo
  obtain ⟨B, hB⟩ : ∃ B, w.heap.size = B := ⟨_, rfl⟩
  rw [hB] at hc
  go_enter Try.func3, Try.ntmps3
  go_wp2_with (go_at_call 4; refine (fixed5 _).mono ?_; rintro e w1 ⟨rfl, hb1⟩)
  rw [hB] at hb1
  go_loopw [5, 6, 7, 8, 23] (fun t5 t6 t7 t8 t23 wr => ∃ k : Nat, k ≤ len ∧ t23 = .int .i64 k ∧ t6 = .int .i64 (ps a k) ∧ t7 = .int .i64 (ps b k) ∧ t8 = .bool (okS a b k) ∧ Below B w wr ∧ Hid (wr.ownsRow B 26 1 t5 k (cRow a b k)) ∧ Hid (∀ i, i < k → inB (a i) = true ∧ inB (b i) = true)) (fun _ _ _ _ t23 _ => 50 - (intOf t23).toNat)
  case atStart => exact ⟨0, Nat.zero_le _, rfl, rfl, rfl, rfl, hb1, hide (World.ownsRow_nil _ _ _ _), hide (fun i hi => absurd hi (Nat.not_lt_zero _))⟩
  case round =>
    obtain ⟨k, hk, rfl, rfl, rfl, rfl, hbel, hown, hins⟩ := hrel
    by_cases hlt : k < len
    · obtain ⟨x, rfl, hc1, hc2, hx⟩ := hc k hlt
      have e1 : wr.cell? (x.add (k * 2)) = some (.int .i64 (a k)) := by
        rw [hbel.cell (p := x.add (k * 2)) (by unfold Addr.add; split <;> exact hx)]; exact hc1
      have e2 : wr.cell? (x.add (k * 2 + 1)) = some (.int .i64 (b k)) := by
        rw [hbel.cell (p := x.add (k * 2 + 1)) (by unfold Addr.add; split <;> exact hx)]; exact hc2
      rw [← Go.Deep.add_add] at e2
      have e3 : wr.cell? ⟨(x.add (k * 2)).block, (x.add (k * 2)).off + 1, none⟩ = some (.int .i64 (b k)) := e2
      clear hc hc1 hc2 e2
      have CW := fun w' => hide (whole_any (a k) (b k) w')
      have hg : B ≤ wr.heap.size := Nat.le_trans (by omega) hbel.size
      obtain ⟨g, hgs⟩ : ∃ g, wr.heap.size = g := ⟨_, rfl⟩
      rw [hgs] at hg
      cases d : (inB (a k) && inB (b k))
      · rw [d] at CW
        go_wp2_with (go_at_call 5; refine (unhide (CW _)).mono ?_; simp only [Bool.false_eq_true, if_false]; rintro e w4 ⟨rfl, rfl⟩)
        go_ret
        exact ⟨rfl, by rw [hB]; exact hbel.alloc (by omega) _⟩
      · rw [d] at CW
        simp only [Bool.and_eq_true] at d
        have hq : q % 4 = 0 ∨ q % 4 = 1 ∨ q % 4 = 2 ∨ q % 4 = 3 := by omega
        have hand := and3 q
        obtain ⟨X, Y, T1, T2, T3⟩ := turn_there (a k) (b k) (q % 4) hq d.1 d.2
        have T1 := fun w' => hide (T1 w')
        have T2 := fun w' => hide (T2 w')
        have T3 := fun w' => hide (T3 w')
        obtain ⟨j, hj⟩ : ∃ j, q % 4 = j := ⟨_, rfl⟩
        rw [hj] at hand T1 T2 T3 hq
        have hy1 := eq_rep (fl_rep d.1) (fl_rep d.1)
        have hy2 := eq_rep (fl_rep d.2) (fl_rep d.2)
        obtain ⟨Z1, hZ1⟩ : ∃ z, fl (a k) = z := ⟨_, rfl⟩
        obtain ⟨Z2, hZ2⟩ : ∃ z, fl (b k) = z := ⟨_, rfl⟩
        rw [hZ1] at CW T1 T2 T3 hy1
        rw [hZ2] at CW T1 T2 T3 hy2
        go_wp2_with (first
          | (go_at_call 5; refine (unhide (CW _)).mono ?_; simp only [if_true]; rintro e w4 ⟨rfl, rfl⟩)
          | (go_at_call 6; with_reducible refine (unhide (T1 _)).mono ?_; rintro e w4 ⟨rfl, rfl⟩)
          | (go_at_call 6; with_reducible refine (unhide (T2 _)).mono ?_; rintro e w4 ⟨rfl, rfl⟩)
          | (go_at_call 6; with_reducible refine (unhide (T3 _)).mono ?_; rintro e w4 ⟨rfl, rfl⟩)
          | (at_builtin; refine wpList_append_own _ rfl _ _ 24 rfl B 26 i0 (.complex .f64 0 0) 1 16 Try.underlying24 hi hz0 hz1 hz2 rfl (by decide) _ _ _ rfl (((unhide hown).alloc _).alloc _) ⟨g + 1, 0, none⟩ 1 1 [.complex .f64 Z1 Z2] rfl ?c0 ?c1 ?c2 ?c3 ?c4 ?c5 ?_))
        case c0 => rfl
        case c1 =>
          intro j u hu
          have hB2 := Blk.new (wr.alloc (.cells #[.int .i64 (a k), .int .i64 (b k)] 25)) 26 #[.complex .f64 Z1 Z2]
          match j, hu with
          | 0, hu =>
            have := hB2.cell 0
            simp only [List.getElem?_cons_zero, Option.some.injEq] at hu
            subst hu
            rw [show (wr.alloc (.cells #[.int .i64 (a k), .int .i64 (b k)] 25)).heap.size = g + 1 by simp [hgs]] at this
            exact this
        case c2 => intro u hu; simp at hu; subst hu; rfl
        case c3 => unfold maxLen; omega
        case c4 => omega
        case c5 => simp; omega
        · intro v' w2 hown2 hgrow hnil
          have hne : ∀ j, u5.ownBlock = some j → B ≤ j ∧ j < g := fun j hj => hgs ▸ (unhide hown).lt j hj
          have hb2 : Below B w w2 := ((hbel.alloc (by omega) _).alloc (by simp; omega) _).grown hgrow (by simp; omega) (fun j hj => (hne j hj).1)
          have hne2 : some g ≠ u5.ownBlock := fun e => by have := hne g e.symm; omega
          have f1 : w2.cell? ⟨g, 0, none⟩ = some (.int .i64 (a k)) := hgrow.cell (a := ⟨g, 0, none⟩) (by simp [go_sem, ← hgs]) hne2
          have f2 : w2.cell? ⟨g, 1, none⟩ = some (.int .i64 (b k)) := hgrow.cell (a := ⟨g, 1, none⟩) (by simp [go_sem, ← hgs]) hne2
          have hst : okS a b (k + 1) = (okS a b k && (inB (ps a k + a k) && inB (ps b k + b k))) := rfl
          have hpa : ps a (k + 1) = ps a k + a k := rfl
          have hpb : ps b (k + 1) = ps b k + b k := rfl
          have bd1 := ps_bd (f := a) (k := k) (fun i hi => (unhide hins i hi).1)
          have bd2 := ps_bd (f := b) (k := k) (fun i hi => (unhide hins i hi).2)
          have bd3 := (inB_iff _).1 d.1
          have bd4 := (inB_iff _).1 d.2
          have bd5 : (k : Int) * 1048576 ≤ 52428800 := by omega
          have HI := hide (show ∀ i, i < k + 1 → inB (a i) = true ∧ inB (b i) = true from fun i hi => by
            rcases (show i < k ∨ i = k by omega) with h | rfl
            · exact unhide hins i h
            · exact d)
          have HO := hide (show w2.ownsRow B 26 1 v' (k + 1) (cRow a b (k + 1)) by rw [cRow_succ, hZ1, hZ2]; exact hown2)
          have CR := fun w' => hide (rright_any (ps a k + a k) (ps b k + b k) w')
          obtain ⟨PA, hPA⟩ : ∃ z, ps a k = z := ⟨_, rfl⟩
          obtain ⟨PB, hPB⟩ : ∃ z, ps b k = z := ⟨_, rfl⟩
          obtain ⟨O, hO⟩ : ∃ z, okS a b k = z := ⟨_, rfl⟩
          rw [hPA] at CR bd1 hpa hst ⊢
          rw [hPB] at CR bd2 hpb hst ⊢
          rw [hO] at hst ⊢
          obtain ⟨R, hR⟩ : ∃ z, (inB (PA + a k) && inB (PB + b k)) = z := ⟨_, rfl⟩
          rw [hR] at CR hst
          have HST := hide (And.intro hpa (And.intro hpb hst))
          clear hown hown2 hgrow hnil hne hne2 hst hpa hpb hPA hPB hO hins hR d T1 T2 T3 CW hy1 hy2 hZ1 hZ2 hand hq e1 e3
          obtain ⟨ak, hak⟩ : ∃ z, a k = z := ⟨_, rfl⟩
          obtain ⟨bk, hbk⟩ : ∃ z, b k = z := ⟨_, rfl⟩
          rw [hak] at f1 CR HST bd3 ⊢
          rw [hbk] at f2 CR HST bd4 ⊢
          clear hak hbk
          cases O
          · go_wp2_with fail
            go_quiet (fail)
            go_wp2_with fail
            go_roundw
            case rel =>
              obtain ⟨h1, h2, h3⟩ := unhide HST
              exact ⟨k + 1, by omega, by go_num, by rw [h1], by rw [h2], by rw [h3]; rfl, hb2.trans ((below_drewN _ _).mono (Nat.le_trans (Nat.le_of_eq hB.symm) hb2.size)), hide (unhide HO), HI⟩
            case measure => simp [intOf]; omega
          · go_wp2_with fail
            go_quiet (fail)
            go_wp2_with (go_at_call 7; refine (unhide (CR _)).mono ?_; rintro e w4 ⟨rfl, hb4⟩)
            go_roundw
            case rel =>
              obtain ⟨h1, h2, h3⟩ := unhide HST
              exact ⟨k + 1, by omega, by go_num, by rw [h1], by rw [h2], by rw [h3]; rfl, (hb2.trans ((below_drewN _ _).mono (Nat.le_trans (Nat.le_of_eq hB.symm) hb2.size))).trans (hb4.mono (Nat.le_trans (Nat.le_of_eq hB.symm) hb2.size)), hide (own_below (show (World.drewN w2 _).ownsRow _ _ _ _ _ _ from unhide HO) hb4), HI⟩
            case measure => simp [intOf]; omega
    · obtain rfl : k = len := by omega
      have hO := unhide hown
      have hins := unhide hins
      have hv : ∃ q cap2, u5 = .slice q k cap2 ∧ ∀ i, i < k → ∃ x X Y, q = some x ∧ wr.cell? (x.add i) = some (.complex .f64 X Y) ∧ Rep X (a i) ∧ Rep Y (b i) := by
        rcases hO.2 with ⟨rfl, h0⟩ | ⟨g, cap2, cur, rfl, -⟩
        · subst h0
          exact ⟨none, 0, rfl, fun i hi => absurd hi (Nat.not_lt_zero _)⟩
        · refine ⟨_, cap2, rfl, fun i hi => ⟨_, _, _, rfl, hO.cells (g := g) rfl i _ (cRow_get a b hi), fl_rep (hins i hi).1, fl_rep (hins i hi).2⟩⟩
      obtain ⟨q2, cap2, rfl, hq2⟩ := hv
      have CS := hide (sum_any q2 k cap2 a b wr (by omega) hq2 hins)
      have z0 : Rep 0 0 := ⟨false, 0, by decide, by decide, rfl⟩
      have hz := hide (eq_rep z0 z0)
      clear hc hO hown hq2 z0 hins
      cases d : okS a b k
      · rw [d] at CS
        go_wp2_with (go_at_call 8; refine (unhide CS).mono ?_; rintro e w4 ⟨X, Y, rfl, -, h0, rfl⟩; obtain ⟨rfl, rfl⟩ := h0 rfl; have hz := unhide hz)
        go_ret
        exact ⟨rfl, by rw [hB]; exact hbel⟩
      · rw [d] at CS
        obtain ⟨hj1, hj2⟩ := okS_in d
        go_wp2_with (first
          | (go_at_call 8; refine (unhide CS).mono ?_; rintro e w4 ⟨X, Y, rfl, h0, -, rfl⟩; obtain ⟨hX, hY⟩ := h0 rfl)
          | (go_at_call 9; refine (is_any _ _ _ _ (by assumption) (by assumption) hj1 hj2 _).mono ?_; rintro e w5 ⟨rfl, hb5⟩))
        go_ret
        exact ⟨rfl, by rw [hB]; exact hbel.trans (hb5.mono (Nat.le_trans (Nat.le_of_eq hB.symm) hbel.size))⟩

set_option maxHeartbeats 1000000 in
theorem lturns_long (p : Option Addr) (len cap : Nat) (q : Int) (w : World) (hlen : 50 < len) :
    Calls Try.prog 3 #[.slice p len cap, .int .i64 q] w fun e w' => e = .returned (.bool true) ∧ Below w.heap.size w w' := by
  have h2 : (50 : Int) < (len : Int) := by omega
  go_enter Try.func3, Try.ntmps3
  go_wp2_with (go_at_call 4; refine (fixed5 _).mono ?_; rintro e w1 ⟨rfl, hb1⟩)
  go_ret
  exact ⟨rfl, hb1⟩
theorem lturns_row (p : Option Addr) (len cap : Nat) (V : Nat → Nat → Value) (q : Int) (w : World) (h : SRow 2 w p len cap V)
    (hl : ∀ i, i < cap → ∀ j l, j < 2 → leafAt Try.prog 8 25 j = some l → l.is (V i j)) :
    Calls Try.prog 3 #[.slice p len cap, .int .i64 q] w fun e w' => e = .returned (.bool true) ∧ Below w.heap.size w w' := by
  obtain ⟨a, ha⟩ := rows_int (j := 0) (k := .i64) hl (by omega) (by kernel_rfl)
  obtain ⟨b, hb⟩ := rows_int (j := 1) (k := .i64) hl (by omega) (by kernel_rfl)
  by_cases hlen : len ≤ 50
  · refine lturns_short p len cap a b q w hlen fun i hi => ?_
    rcases h with ⟨_, h1, _⟩ | ⟨x, e, h1, _, hcell⟩
    · omega
    · have c0 := hcell i (by omega) 0 (by omega)
      have c1 := hcell i (by omega) 1 (by omega)
      rw [(ha i (by omega)).1] at c0
      rw [(hb i (by omega)).1] at c1
      refine ⟨x, e, c0, c1, ?_⟩
      have := World.block_lt_of_cell? w _ c1
      unfold Addr.add at this
      split at this <;> exact this
  · exact lturns_long p len cap q w (by omega)
end Go.Proofs.Ytjngnmpjkiafpaa
