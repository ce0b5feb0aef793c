import Derived.Test.YtjjdkkdnlnbedaaGreatQueA
import Derived.Test.YtjjdkkdnlnbedaaGreatBaA
namespace Go.Proofs.YtjjdkkdnlnbedaaGreat
open Go.RowKit Kt

theorem firstZ_succ (zs : List Int) (k : Nat) (h : k < zs.length) : firstZ (zs.take (k + 1)) = min (firstZ (zs.take k)) (clampZ (zs[k]?.getD 0)) := by
  unfold firstZ
  rw [List.take_succ_eq_append_getElem h, List.foldl_append]
  simp [List.getElem?_eq_getElem h]

set_option maxHeartbeats 400000 in
theorem first_nil (w : World) :
    Calls Tryz.prog 119 #[.slice none 0 0] w fun e w' => e = .returned (.int .i64 4611686018427387903) ∧ w' = w := by
  go_enter Tryz.func119, Tryz.ntmps119
  go_wp2
  go_outline
  go_loop [3, 8] (fun m i => m = .int .i64 4611686018427387903 ∧ i = .int .i64 0) (fun _ _ => 0)
  case atStart => exact ⟨rfl, rfl⟩
  case round =>
    obtain ⟨rfl, rfl⟩ := hrel
    go_wp2
    go_ret
    exact ⟨rfl, rfl⟩

set_option maxHeartbeats 400000 in
theorem first_some (b off len cap : Nat) (zs : List Int) (w : World) (hl : len ≤ zs.length) (hm : len ≤ 9223372036854775807)
    (hc : ∀ k, k < len → w.cell? ⟨b, off + k, none⟩ = some (.int .i64 (zs[k]?.getD 0))) :
    Calls Tryz.prog 119 #[.slice (some ⟨b, off, none⟩) len cap] w fun e w' => e = .returned (.int .i64 (firstZ (zs.take len))) ∧ w' = w := by
  go_enter Tryz.func119, Tryz.ntmps119
  go_wp2
  go_loop [3, 8] (fun m i => ∃ k : Nat, k ≤ len ∧ i = .int .i64 k ∧ m = .int .i64 (firstZ (zs.take k))) (fun _ i => len - (intOf i).toNat)
  case atStart => exact ⟨0, Nat.zero_le _, rfl, rfl⟩
  case round =>
    obtain ⟨k, hk, rfl, rfl⟩ := hrel
    by_cases hlt : k < len
    · have hcell := hc k hlt
      have HS := hide (firstZ_succ zs k (by omega))
      clear hc
      go_wp2_with (go_at_call 98; refine (kclamp_any _ _).mono ?_; rintro e w' ⟨rfl, rfl⟩)
      all_goals
        go_round
        case rel => exact ⟨k + 1, by omega, by go_num, by rw [unhide HS]; congr 1; omega⟩
        case measure => simp [intOf]; omega
    · go_wp2
      go_ret
      exact ⟨ret_int (by rw [show k = len from by omega]), rfl⟩
end Go.Proofs.YtjjdkkdnlnbedaaGreat


/- A base's Next. -/
namespace Go.Proofs.YtjjdkkdnlnbedaaGreat
open Go.RowKit Kt Qu
set_option linter.unusedVariables false

theorem first_two (w : World) (b : Nat) (t : TypeId) (x y : Int) (h : Blk w b t #[.int .i64 x, .int .i64 y]) : Calls Tryz.prog 119 #[.slice (some ⟨b, 0, none⟩) 2 2] w fun e w' => e = .returned (.int .i64 (firstZ [x, y])) ∧ w' = w :=
  first_some b 0 2 2 [x, y] w (Nat.le_refl _) (by omega) fun k hk => by
    rcases (show k = 0 ∨ k = 1 by omega) with rfl | rfl
    · exact blkAt h 0 (.int .i64 x) rfl
    · exact blkAt h 1 (.int .i64 y) rfl
/-- The least so far, and a row's first one. -/
def nx1 (l : List Tmr) (lz isl : Bool) (off d : Int) : Int := match l with
  | [] => d
  | t :: _ => if lz || !isl then firstZ [d, subZ t.soft off] else d
section
variable {w w' : World} {b n : Nat} {P : Nat → Option Qa} {R : Rows6}
theorem next_end {w0 W : World} {C : Nat} {f0 f1 f2 d v : Int} {lz : Bool} {o : Obj}
    (h : Blk W C 75 #[.int .i64 f0, .int .i64 f1, .int .i64 f2] ∧ Blk W (C + 1) 4 #[.bool lz] ∧ Blk W (C + 2) 3 #[.int .i64 d] ∧ Below C w0 W) :
    Below C w0 ((W.alloc o).setCell ⟨C + 2, 0, none⟩ (.int .i64 v)).drew ∧ Blk ((W.alloc o).setCell ⟨C + 2, 0, none⟩ (.int .i64 v)).drew C 75 #[.int .i64 f0, .int .i64 f1, .int .i64 f2] ∧ Blk ((W.alloc o).setCell ⟨C + 2, 0, none⟩ (.int .i64 v)).drew (C + 1) 4 #[.bool lz] ∧ Blk ((W.alloc o).setCell ⟨C + 2, 0, none⟩ (.int .i64 v)).drew (C + 2) 3 #[.int .i64 v] := by
  obtain ⟨m0, m1, m2, ml⟩ := h
  have hlt := m2.lt
  have b : Below C w0 ((W.alloc o).setCell ⟨C + 2, 0, none⟩ (.int .i64 v)) := (ml.alloc (by omega) o).setCell (p := ⟨C + 2, 0, none⟩) (show C ≤ C + 2 by omega) _
  refine ⟨below_drew b, (m0.alloc o).other (by omega) 0 _, (m1.alloc o).other (by omega) 0 _, ?_⟩
  exact (show Blk ((W.alloc o).setCell ⟨C + 2, 0, none⟩ (.int .i64 v)).drew (C + 2) 3 #[.int .i64 v] from (m2.alloc o).put 0 (.int .i64 v))
set_option maxRecDepth 20000 in
set_option maxHeartbeats 2000000 in
theorem nextclo (o : Option Qa) (m : Nat) (l : List Tmr) (w0 w : World) (C : Nat) (hq : Qo w o m l) (f0 f1 f2 : Int) (lz isl : Bool) (d : Int) (k : Nat) (off : Int) (hk : k = 0 ∧ off = f0 ∨ k = 1 ∧ off = f1 ∨ k = 2 ∧ off = f2)
    (k0 : Blk w C 75 #[.int .i64 f0, .int .i64 f1, .int .i64 f2]) (k1 : Blk w (C + 1) 4 #[.bool lz]) (k2 : Blk w (C + 2) 3 #[.int .i64 d]) (hlow : Below C w0 w) :
    Calls Tryz.prog 118 #[.int .i64 (k : Int), .bool isl, pv o, .pointer (some ⟨C + 1, 0, none⟩), .pointer (some ⟨C + 2, 0, none⟩), .pointer (some ⟨C, 0, none⟩)] w fun e w' => e = .returned (.tuple #[]) ∧ Below C w0 w' ∧ Blk w' C 75 #[.int .i64 f0, .int .i64 f1, .int .i64 f2] ∧ Blk w' (C + 1) 4 #[.bool lz] ∧ Blk w' (C + 2) 3 #[.int .i64 (nx1 l lz isl off d)] := by
  have CF := hide (ofirst hq)
  have hC2 := k2.lt
  obtain ⟨V, hV⟩ : ∃ V, pv o = V := ⟨_, rfl⟩
  rw [hV] at CF ⊢
  have H := hide (And.intro k0 (And.intro k1 (And.intro k2 hlow)))
  have CS := fun a b w' => hide (sub_any a b w')
  clear hq hV k0 k1 k2 hlow
  cases l with
  | nil =>
    rw [show fstV [] = .tuple #[.agg #[.int .i64 0, .int .i64 0, .int .i64 0, .int .i64 0, .bool false], .bool false] from rfl] at CF
    go_enter Tryz.func118, Tryz.ntmps118
    go_wp2_with (go_at_call 102; refine (unhide CF).mono ?_; rintro e w1 ⟨rfl, hb1⟩)
    go_end0
    obtain ⟨k0, k1, k2, hlow⟩ := unhide H
    have b2 := hb1.trans ((one_below w1 (.cells #[.int .i64 0, .int .i64 0, .int .i64 0, .int .i64 0, .bool false] 35)).mono hb1.size)
    exact ⟨rfl, hlow.trans (b2.mono (by omega)), k0.below b2 k0.lt, k1.below b2 k1.lt, k2.below b2 k2.lt⟩
  | cons t l =>
    obtain ⟨i1, i2, i3, i4, i5⟩ := t
    rw [show fstV (⟨i1, i2, i3, i4, i5⟩ :: l) = .tuple #[.agg #[.int .i64 i1, .int .i64 i2, .int .i64 i3, .int .i64 i4, .bool i5], .bool true] from rfl] at CF
    have HX := hide (show nx1 (⟨i1, i2, i3, i4, i5⟩ :: l) lz isl off d = if lz || !isl then firstZ [d, subZ i3 off] else d from rfl)
    generalize nx1 (⟨i1, i2, i3, i4, i5⟩ :: l) lz isl off d = D at *
    have HB := fun (w1 : World) (hb1 : Below w.heap.size w w1) => hide (show Blk (w1.alloc (.cells #[.int .i64 i1, .int .i64 i2, .int .i64 i3, .int .i64 i4, .bool i5] 35)) w1.heap.size 35 #[.int .i64 i1, .int .i64 i2, .int .i64 i3, .int .i64 i4, .bool i5] from Blk.new _ _ _)
    have HL := fun (w1 : World) (hb1 : Below w.heap.size w w1) => hide (And.intro ((unhide H).2.1.below hb1 (unhide H).2.1.lt) (hb1.trans ((one_below w1 (.cells #[.int .i64 i1, .int .i64 i2, .int .i64 i3, .int .i64 i4, .bool i5] 35)).mono hb1.size)))
    go_enter Tryz.func118, Tryz.ntmps118
    go_wp2_with (go_at_call 102; refine Hid.out ?_)
    refine hide ?_
    refine (unhide CF).mono ?_
    rintro e w1 ⟨rfl, hb1⟩
    obtain ⟨g, hg⟩ : ∃ g, w1.heap.size = g := ⟨_, rfl⟩
    obtain ⟨W2, hW2⟩ : ∃ W2, W2 = w1.alloc (.cells #[.int .i64 i1, .int .i64 i2, .int .i64 i3, .int .i64 i4, .bool i5] 35) := ⟨_, rfl⟩
    have b2 : Below w.heap.size w W2 := by rw [hW2]; exact hb1.trans ((one_below w1 _).mono hb1.size)
    have kt : Blk W2 g 35 #[.int .i64 i1, .int .i64 i2, .int .i64 i3, .int .i64 i4, .bool i5] := by rw [hW2]; exact Blk.new_at _ _ _ hg.symm
    obtain ⟨k0, k1, k2, hlow⟩ := unhide H
    have m0 := k0.below b2 k0.lt
    have m1 := k1.below b2 k1.lt
    have m2 := k2.below b2 k2.lt
    have ml := hlow.trans (b2.mono (by omega))
    have HM := hide (And.intro m0 (And.intro m1 (And.intro m2 ml)))
    have z1 := blkAt m1 0 (.bool lz) rfl
    have y0 : W2.drew.cell? ⟨C, k, none⟩ = some (.int .i64 off) := by
      rcases hk with ⟨rfl, rfl⟩ | ⟨rfl, rfl⟩ | ⟨rfl, rfl⟩
      · exact blkAt m0 0 (.int .i64 off) rfl
      · exact blkAt m0 1 (.int .i64 off) rfl
      · exact blkAt m0 2 (.int .i64 off) rfl
    have hk3 : k < 3 := by omega
    have hk4 : (k : Int) < 3 := by omega
    have hk5 : (0 : Int) ≤ (k : Int) ∧ (k : Int) < 3 := by omega
    have x2 : W2.drew.cell? ⟨C + 2, 0, none⟩ = some (.int .i64 d) := blkAt m2 0 (.int .i64 d) rfl
    have xf : W2.drew.frozen? ⟨C + 2, 0, none⟩ = false := m2.free 0
    have s3 : W2.drew.cell? ⟨g, 2, none⟩ = some (.int .i64 i3) := blkAt kt 2 (.int .i64 i3) rfl
    rw [hW2] at z1
    have x3 : (W2.alloc (.cells #[.int .i64 d, .int .i64 (subZ i3 off)] 3)).drew.cell? ⟨C + 2, 0, none⟩ = some (.int .i64 d) := blkAt (m2.alloc _) 0 (.int .i64 d) rfl
    have xf3 : (W2.alloc (.cells #[.int .i64 d, .int .i64 (subZ i3 off)] 3)).drew.frozen? ⟨C + 2, 0, none⟩ = false := (m2.alloc _).free 0
    have CX := hide (first_two ((W2.alloc (.cells #[.int .i64 d, .int .i64 (subZ i3 off)] 3)).drew) W2.heap.size 3 d (subZ i3 off) (Blk.new _ _ _))
    have HW2 := hide hW2
    clear b2 kt k0 k1 k2 hlow m0 m1 m2 ml HB HL CF hW2 H hb1 hk
    cases lz
    · cases isl
      · go_wp2_with fail
        rw [← unhide HW2]
        have HZ := hide z1
        clear z1
        go_region_with (first
            | (go_at_call 120; refine (unhide (CS _ _ _)).mono ?_; rintro e ws ⟨rfl, hws⟩; obtain rfl := hws.symm)
            | (go_at_call 119; refine (unhide CX).mono ?_; rintro e ws ⟨rfl, hws⟩; obtain rfl := hws.symm))
        all_goals
          go_wp2_with fail
          go_end0
          rw [show D = firstZ [d, subZ i3 off] from (unhide HX).trans (if_pos rfl)]
          exact ⟨rfl, next_end (unhide HM)⟩
      · go_wp2_with fail
        go_end0
        rw [show D = d from (unhide HX).trans (if_neg (by simp))]
        obtain ⟨m0, m1, m2, ml⟩ := unhide HM
        rw [unhide HW2] at m0 m1 m2 ml
        exact ⟨rfl, ml, m0, m1, m2⟩
    · go_wp2_with fail
      rw [← unhide HW2]
      have HZ := hide z1
      clear z1
      go_region_with (first
          | (go_at_call 120; refine (unhide (CS _ _ _)).mono ?_; rintro e ws ⟨rfl, hws⟩; obtain rfl := hws.symm)
          | (go_at_call 119; refine (unhide CX).mono ?_; rintro e ws ⟨rfl, hws⟩; obtain rfl := hws.symm))
      all_goals
        go_wp2_with fail
        go_end0
        rw [show D = firstZ [d, subZ i3 off] from (unhide HX).trans (if_pos rfl)]
        exact ⟨rfl, next_end (unhide HM)⟩
end
end Go.Proofs.YtjjdkkdnlnbedaaGreat


/- A base's Due. -/
namespace Go.Proofs.YtjjdkkdnlnbedaaGreat
open Go.RowKit Kt Qu
set_option linter.unusedVariables false

/-- Whether some timer so far is due, and a row's first one. -/
def du1 (l : List Tmr) (lz isl : Bool) (now : Int) (d : Bool) : Bool := match l with
  | [] => d
  | t :: _ => if isl = lz ∧ dueT now t then true else d
theorem untilZ_nn (a b : Int) : 0 ≤ untilZ a b := by unfold untilZ; split <;> omega
section
variable {w w' : World} {b n : Nat} {P : Nat → Option Qa} {R : Rows6}
set_option maxRecDepth 20000 in
set_option maxHeartbeats 2000000 in
theorem dueclo (o : Option Qa) (m : Nat) (l : List Tmr) (w0 w : World) (C : Nat) (hq : Qo w o m l) (f0 f1 f2 : Int) (lz isl : Bool) (d : Bool) (k : Nat) (now : Int) (hk : k = 0 ∧ now = f0 ∨ k = 1 ∧ now = f1 ∨ k = 2 ∧ now = f2)
    (k0 : Blk w C 75 #[.int .i64 f0, .int .i64 f1, .int .i64 f2]) (k1 : Blk w (C + 1) 4 #[.bool lz]) (k2 : Blk w (C + 2) 4 #[.bool d]) (hlow : Below C w0 w) :
    Calls Tryz.prog 101 #[.int .i64 (k : Int), .bool isl, pv o, .pointer (some ⟨C + 1, 0, none⟩), .pointer (some ⟨C, 0, none⟩), .pointer (some ⟨C + 2, 0, none⟩)] w fun e w' => e = .returned (.tuple #[]) ∧ Below C w0 w' ∧ Blk w' C 75 #[.int .i64 f0, .int .i64 f1, .int .i64 f2] ∧ Blk w' (C + 1) 4 #[.bool lz] ∧ Blk w' (C + 2) 4 #[.bool (du1 l lz isl now d)] := by
  have CF := hide (ofirst hq)
  have hC2 := k2.lt
  obtain ⟨V, hV⟩ : ∃ V, pv o = V := ⟨_, rfl⟩
  rw [hV] at CF ⊢
  have H := hide (And.intro k0 (And.intro k1 (And.intro k2 hlow)))
  have CS := fun a b w' => hide (until_any a b w')
  clear hq hV k0 k1 k2 hlow
  have hk3 : k < 3 := by omega
  have hk4 : (k : Int) < 3 := by omega
  have hk5 : (0 : Int) ≤ (k : Int) ∧ (k : Int) < 3 := by omega
  cases l with
  | nil =>
    rw [show fstV [] = .tuple #[.agg #[.int .i64 0, .int .i64 0, .int .i64 0, .int .i64 0, .bool false], .bool false] from rfl] at CF
    go_enter Tryz.func101, Tryz.ntmps101
    go_wp2_with (go_at_call 102; refine (unhide CF).mono ?_; rintro e w1 ⟨rfl, hb1⟩)
    have HB1 := hide hb1
    clear hb1
    refine wp_region_held_drew (S := (fun w' => Below w1.heap.size w1 w')) (by kernel_rfl) ?_ (fun hHeld => ?_)
    · (first | (first | exact (one_below _ _).drew | assumption))
    refine wpAnyH_take (i := 0) (oi := ?o1) (v := ?v1) ?hi1 (by kernel_rfl) (by kernel_rfl) (by kernel_rfl) ?hQ1 (Or.inl ⟨?hw1, ?hy1⟩) (by assumption) ?_
    case hi1 => (simp only [List.getElem?_toArray, List.getElem?_cons_zero]; rfl)
    case hQ1 => exact fun _ _ _ h => h
    case hw1 => rfl
    case hy1 => (intro w hSw; (try dsimp only at hSw); go_simp; (try with_reducible rfl))
    simp only [Act.put, List.setIfInBounds_toArray, List.set_cons_zero, List.set_cons_succ]
    refine wpAnyH_take (i := 1) (oi := ?o2) (v := ?v2) ?hi2 (by kernel_rfl) (by kernel_rfl) (by kernel_rfl) ?hQ2 (Or.inl ⟨?hw2, ?hy2⟩) (by assumption) ?_
    case hi2 => (simp only [List.getElem?_toArray, List.getElem?_cons_succ, List.getElem?_cons_zero]; rfl)
    case hQ2 => exact fun _ _ _ h => h
    case hw2 => rfl
    case hy2 => (intro w hSw; (try dsimp only at hSw); go_simp; (try with_reducible rfl))
    simp only [Act.put, List.setIfInBounds_toArray, List.set_cons_zero, List.set_cons_succ]
    refine wpAnyH_take (i := 2) (oi := ?o3) (v := undef) ?hi3 (by kernel_rfl) (by kernel_rfl) (by kernel_rfl) ?hQ3 (Or.inr ⟨?hw3, rfl⟩) (by assumption) ?_
    case hi3 => (simp only [List.getElem?_toArray, List.getElem?_cons_succ, List.getElem?_cons_zero]; rfl)
    case hQ3 => exact fun _ _ _ h => h
    case hw3 => rfl
    simp only [Act.put, List.setIfInBounds_toArray, List.set_cons_zero, List.set_cons_succ]
    refine wpAnyH_take (i := 3) (oi := ?o4) (v := undef) ?hi4 (by kernel_rfl) (by kernel_rfl) (by kernel_rfl) ?hQ4 (Or.inr ⟨?hw4, rfl⟩) (by assumption) ?_
    case hi4 => (simp only [List.getElem?_toArray, List.getElem?_cons_succ, List.getElem?_cons_zero]; rfl)
    case hQ4 => exact fun _ _ _ h => h
    case hw4 => rfl
    simp only [Act.put, List.setIfInBounds_toArray, List.set_cons_zero, List.set_cons_succ]
    refine wpAnyH_take (i := 4) (oi := ?o5) (v := undef) ?hi5 (by kernel_rfl) (by kernel_rfl) (by kernel_rfl) ?hQ5 (Or.inr ⟨?hw5, rfl⟩) (by assumption) ?_
    case hi5 => (simp only [List.getElem?_toArray, List.getElem?_cons_succ, List.getElem?_cons_zero]; rfl)
    case hQ5 => exact fun _ _ _ h => h
    case hw5 => rfl
    simp only [Act.put, List.setIfInBounds_toArray, List.set_cons_zero, List.set_cons_succ]
    refine wpAnyH_take (i := 5) (oi := ?o6) (v := ?v6) ?hi6 (by kernel_rfl) (by kernel_rfl) (by kernel_rfl) ?hQ6 (Or.inl ⟨?hw6, ?hy6⟩) (by assumption) ?_
    case hi6 => (simp only [List.getElem?_toArray, List.getElem?_cons_succ, List.getElem?_cons_zero]; rfl)
    case hQ6 => exact fun _ _ _ h => h
    case hw6 => rfl
    case hy6 => (intro w hSw; (try dsimp only at hSw); go_simp; (try with_reducible rfl))
    simp only [Act.put, List.setIfInBounds_toArray, List.set_cons_zero, List.set_cons_succ]
    refine wpAnyH_take (i := 6) (oi := ?o7) (v := ?v7) ?hi7 (by kernel_rfl) (by kernel_rfl) (by kernel_rfl) ?hQ7 (Or.inl ⟨?hw7, ?hy7⟩) (by assumption) ?_
    case hi7 => (simp only [List.getElem?_toArray, List.getElem?_cons_succ, List.getElem?_cons_zero]; rfl)
    case hQ7 => exact fun _ _ _ h => h
    case hw7 => rfl
    case hy7 => (intro w hSw; (try dsimp only at hSw); go_simp; (try with_reducible rfl))
    simp only [Act.put, List.setIfInBounds_toArray, List.set_cons_zero, List.set_cons_succ]
    refine wpAnyH_take (i := 7) (oi := ?o8) (v := undef) ?hi8 (by kernel_rfl) (by kernel_rfl) (by kernel_rfl) ?hQ8 (Or.inr ⟨?hw8, rfl⟩) (by assumption) ?_
    case hi8 => (simp only [List.getElem?_toArray, List.getElem?_cons_succ, List.getElem?_cons_zero]; rfl)
    case hQ8 => exact fun _ _ _ h => h
    case hw8 => rfl
    simp only [Act.put, List.setIfInBounds_toArray, List.set_cons_zero, List.set_cons_succ]
    refine wpAnyH_take (i := 8) (oi := ?o9) (v := undef) ?hi9 (by kernel_rfl) (by kernel_rfl) (by kernel_rfl) ?hQ9 (Or.inr ⟨?hw9, rfl⟩) (by assumption) ?_
    case hi9 => (simp only [List.getElem?_toArray, List.getElem?_cons_succ, List.getElem?_cons_zero]; rfl)
    case hQ9 => exact fun _ _ _ h => h
    case hw9 => rfl
    simp only [Act.put, List.setIfInBounds_toArray, List.set_cons_zero, List.set_cons_succ]
    refine wpAnyH_take (i := 9) (oi := ?o10) (v := undef) ?hi10 (by kernel_rfl) (by kernel_rfl) (by kernel_rfl) ?hQ10 (Or.inr ⟨?hw10, rfl⟩) (by assumption) ?_
    case hi10 => (simp only [List.getElem?_toArray, List.getElem?_cons_succ, List.getElem?_cons_zero]; rfl)
    case hQ10 => exact fun _ _ _ h => h
    case hw10 => rfl
    simp only [Act.put, List.setIfInBounds_toArray, List.set_cons_zero, List.set_cons_succ]
    refine wpAnyH_take (i := 10) (oi := ?o11) (v := undef) ?hi11 (by kernel_rfl) (by kernel_rfl) (by kernel_rfl) ?hQ11 (Or.inr ⟨?hw11, rfl⟩) (by assumption) ?_
    case hi11 => (simp only [List.getElem?_toArray, List.getElem?_cons_succ, List.getElem?_cons_zero]; rfl)
    case hQ11 => exact fun _ _ _ h => h
    case hw11 => rfl
    simp only [Act.put, List.setIfInBounds_toArray, List.set_cons_zero, List.set_cons_succ]
    refine wpAnyH_take (i := 11) (oi := ?o12) (v := undef) ?hi12 (by kernel_rfl) (by kernel_rfl) (by kernel_rfl) ?hQ12 (Or.inr ⟨?hw12, rfl⟩) (by assumption) ?_
    case hi12 => (simp only [List.getElem?_toArray, List.getElem?_cons_succ, List.getElem?_cons_zero]; rfl)
    case hQ12 => exact fun _ _ _ h => h
    case hw12 => rfl
    simp only [Act.put, List.setIfInBounds_toArray, List.set_cons_zero, List.set_cons_succ]
    refine wpAnyH_take (i := 12) (oi := ?o13) (v := undef) ?hi13 (by kernel_rfl) (by kernel_rfl) (by kernel_rfl) ?hQ13 (Or.inr ⟨?hw13, rfl⟩) (by assumption) ?_
    case hi13 => (simp only [List.getElem?_toArray, List.getElem?_cons_succ, List.getElem?_cons_zero]; rfl)
    case hQ13 => exact fun _ _ _ h => h
    case hw13 => rfl
    simp only [Act.put, List.setIfInBounds_toArray, List.set_cons_zero, List.set_cons_succ]
    refine wpAnyH_take (i := 13) (oi := ?o14) (v := undef) ?hi14 (by kernel_rfl) (by kernel_rfl) (by kernel_rfl) ?hQ14 (Or.inr ⟨?hw14, rfl⟩) (by assumption) ?_
    case hi14 => (simp only [List.getElem?_toArray, List.getElem?_cons_succ, List.getElem?_cons_zero]; rfl)
    case hQ14 => exact fun _ _ _ h => h
    case hw14 => rfl
    simp only [Act.put, List.setIfInBounds_toArray, List.set_cons_zero, List.set_cons_succ]
    refine wpAnyH_take (i := 14) (oi := ?o15) (v := ?v15) ?hi15 (by kernel_rfl) (by kernel_rfl) (by kernel_rfl) ?hQ15 (Or.inl ⟨?hw15, ?hy15⟩) (by assumption) ?_
    case hi15 => (simp only [List.getElem?_toArray, List.getElem?_cons_succ, List.getElem?_cons_zero]; rfl)
    case hQ15 => exact fun _ _ _ h => h
    case hw15 => rfl
    case hy15 => (intro w hSw; (try dsimp only at hSw); go_simp; (try with_reducible rfl))
    simp only [Act.put, List.setIfInBounds_toArray, List.set_cons_zero, List.set_cons_succ]
    refine wpAnyH_done (by kernel_rfl) ?_ _
    go_wp2_with fail
    go_end0
    obtain ⟨k0, k1, k2, hlow⟩ := unhide H
    have b2 : Below w.heap.size w (w1.alloc (.cells #[.int .i64 0, .int .i64 0, .int .i64 0, .int .i64 0, .bool false] 35)).drew := below_drew ((unhide HB1).trans ((one_below w1 _).mono (unhide HB1).size))
    exact ⟨rfl, hlow.trans (b2.mono (by omega)), k0.below b2 k0.lt, k1.below b2 k1.lt, k2.below b2 k2.lt⟩
  | cons t l =>
    obtain ⟨i1, i2, i3, i4, i5⟩ := t
    rw [show fstV (⟨i1, i2, i3, i4, i5⟩ :: l) = .tuple #[.agg #[.int .i64 i1, .int .i64 i2, .int .i64 i3, .int .i64 i4, .bool i5], .bool true] from rfl] at CF
    have HX := hide (And.intro (fun h => show du1 (⟨i1, i2, i3, i4, i5⟩ :: l) lz isl now d = true from if_pos (c := isl = lz ∧ dueT now ⟨i1, i2, i3, i4, i5⟩) h) (fun h => show du1 (⟨i1, i2, i3, i4, i5⟩ :: l) lz isl now d = d from if_neg (c := isl = lz ∧ dueT now ⟨i1, i2, i3, i4, i5⟩) h))
    generalize du1 (⟨i1, i2, i3, i4, i5⟩ :: l) lz isl now d = D at *
    have HU := hide (until_due now ⟨i1, i2, i3, i4, i5⟩)
    have HU0 := hide (untilZ_nn now i3)
    simp only at HU
    generalize dueT now ⟨i1, i2, i3, i4, i5⟩ = DU at *
    have CU := hide (fun w' => until_any now i3 w')
    generalize untilZ now i3 = U at *
    clear CS
    go_enter Tryz.func101, Tryz.ntmps101
    go_wp2_with (go_at_call 102; refine Hid.out ?_)
    refine hide ?_
    refine (unhide CF).mono ?_
    rintro e w1 ⟨rfl, hb1⟩
    obtain ⟨g, hg⟩ : ∃ g, w1.heap.size = g := ⟨_, rfl⟩
    obtain ⟨W2, hW2⟩ : ∃ W2, W2 = w1.alloc (.cells #[.int .i64 i1, .int .i64 i2, .int .i64 i3, .int .i64 i4, .bool i5] 35) := ⟨_, rfl⟩
    have b2 : Below w.heap.size w W2 := by rw [hW2]; exact hb1.trans ((one_below w1 _).mono hb1.size)
    have kt : Blk W2 g 35 #[.int .i64 i1, .int .i64 i2, .int .i64 i3, .int .i64 i4, .bool i5] := by rw [hW2]; exact Blk.new_at _ _ _ hg.symm
    obtain ⟨k0, k1, k2, hlow⟩ := unhide H
    have m0 := k0.below b2 k0.lt
    have m1 := k1.below b2 k1.lt
    have m2 := k2.below b2 k2.lt
    have ml := hlow.trans (b2.mono (by omega))
    have HM := hide (And.intro m0 (And.intro m1 (And.intro m2 ml)))
    have z1 := hkHeld m1 0 (.bool lz) rfl
    have y0 : ∀ w', Below W2.heap.size W2 w' → w'.cell? ⟨C, k, none⟩ = some (.int .i64 now) := by
      rcases hk with ⟨rfl, rfl⟩ | ⟨rfl, rfl⟩ | ⟨rfl, rfl⟩
      · exact hkHeld m0 0 (.int .i64 now) rfl
      · exact hkHeld m0 1 (.int .i64 now) rfl
      · exact hkHeld m0 2 (.int .i64 now) rfl
    have s3 := hkHeld kt 2 (.int .i64 i3) rfl
    have x2 : W2.drew.cell? ⟨C + 2, 0, none⟩ = some (.bool d) := blkAt m2 0 (.bool d) rfl
    have xf : W2.drew.frozen? ⟨C + 2, 0, none⟩ = false := m2.free 0
    have HW2 := hide hW2
    clear b2 kt k0 k1 k2 hlow m0 m1 m2 ml CF hW2 H hb1 hk
    go_wp2_with fail
    rw [← unhide HW2]
    cases isl <;> cases lz
    · by_cases hU : U = 0
      · have hUb : (U == 0) = true := by rw [beq_iff_eq]; exact hU
        have hDU : DU := by
          have h1 := unhide HU
          by_cases h2 : DU
          · exact h2
          · have := h1.2 h2; omega
        refine wp_region_held_drew (S := (fun w' => Below W2.heap.size W2 w')) (by kernel_rfl) ?_ (fun hHeld => ?_)
        · (first | (first | exact (Below.refl _ _).drew | assumption))
        refine wpAnyH_take (i := 0) (oi := ?o16) (v := ?v16) ?hi16 (by kernel_rfl) (by kernel_rfl) (by kernel_rfl) ?hQ16 (Or.inl ⟨?hw16, ?hy16⟩) (by assumption) ?_
        case hi16 => (simp only [List.getElem?_toArray, List.getElem?_cons_zero]; rfl)
        case hQ16 => exact fun _ _ _ h => h
        case hw16 => rfl
        case hy16 => (intro w hSw; (try dsimp only at hSw); go_simp; (try with_reducible rfl))
        simp only [Act.put, List.setIfInBounds_toArray, List.set_cons_zero, List.set_cons_succ]
        refine wpAnyH_take (i := 1) (oi := ?o17) (v := ?v17) ?hi17 (by kernel_rfl) (by kernel_rfl) (by kernel_rfl) ?hQ17 (Or.inl ⟨?hw17, ?hy17⟩) (by assumption) ?_
        case hi17 => (simp only [List.getElem?_toArray, List.getElem?_cons_succ, List.getElem?_cons_zero]; rfl)
        case hQ17 => exact fun _ _ _ h => h
        case hw17 => rfl
        case hy17 => (intro w hSw; (try dsimp only at hSw); go_simp; (try with_reducible rfl))
        simp only [Act.put, List.setIfInBounds_toArray, List.set_cons_zero, List.set_cons_succ]
        refine wpAnyH_take (i := 2) (oi := ?o18) (v := ?v18) ?hi18 (by kernel_rfl) (by kernel_rfl) (by kernel_rfl) ?hQ18 (Or.inl ⟨?hw18, ?hy18⟩) (by assumption) ?_
        case hi18 => (simp only [List.getElem?_toArray, List.getElem?_cons_succ, List.getElem?_cons_zero]; rfl)
        case hQ18 => exact fun _ _ _ h => h
        case hw18 => rfl
        case hy18 => (intro w hSw; (try dsimp only at hSw); go_simp; (try with_reducible rfl))
        simp only [Act.put, List.setIfInBounds_toArray, List.set_cons_zero, List.set_cons_succ]
        refine wpAnyH_take (i := 3) (oi := ?o19) (v := ?v19) ?hi19 (by kernel_rfl) (by kernel_rfl) (by kernel_rfl) ?hQ19 (Or.inl ⟨?hw19, ?hy19⟩) (by assumption) ?_
        case hi19 => (simp only [List.getElem?_toArray, List.getElem?_cons_succ, List.getElem?_cons_zero]; rfl)
        case hQ19 => exact fun _ _ _ h => h
        case hw19 => rfl
        case hy19 => (intro w hSw; (try dsimp only at hSw); go_simp; (try with_reducible rfl))
        simp only [Act.put, List.setIfInBounds_toArray, List.set_cons_zero, List.set_cons_succ]
        refine wpAnyH_take (i := 4) (oi := ?o20) (v := ?v20) ?hi20 (by kernel_rfl) (by kernel_rfl) (by kernel_rfl) ?hQ20 (Or.inl ⟨?hw20, ?hy20⟩) (by assumption) ?_
        case hi20 => (simp only [List.getElem?_toArray, List.getElem?_cons_succ, List.getElem?_cons_zero]; rfl)
        case hQ20 => exact fun _ _ _ h => h
        case hw20 => rfl
        case hy20 => (intro w hSw; (try dsimp only at hSw); go_simp; (try with_reducible rfl))
        simp only [Act.put, List.setIfInBounds_toArray, List.set_cons_zero, List.set_cons_succ]
        refine wpAnyH_take (i := 5) (oi := ?o21) (v := ?v21) ?hi21 (by kernel_rfl) (by kernel_rfl) (by kernel_rfl) ?hQ21 (Or.inl ⟨?hw21, ?hy21⟩) (by assumption) ?_
        case hi21 => (simp only [List.getElem?_toArray, List.getElem?_cons_succ, List.getElem?_cons_zero]; rfl)
        case hQ21 => exact fun _ _ _ h => h
        case hw21 => rfl
        case hy21 => (intro w hSw; (try dsimp only at hSw); go_simp; (try with_reducible rfl))
        simp only [Act.put, List.setIfInBounds_toArray, List.set_cons_zero, List.set_cons_succ]
        refine wpAnyH_take (i := 6) (oi := ?o22) (v := ?v22) ?hi22 (by kernel_rfl) (by kernel_rfl) (by kernel_rfl) ?hQ22 (Or.inl ⟨?hw22, ?hy22⟩) (by assumption) ?_
        case hi22 => (simp only [List.getElem?_toArray, List.getElem?_cons_succ, List.getElem?_cons_zero]; rfl)
        case hQ22 => exact fun _ _ _ h => h
        case hw22 => rfl
        case hy22 => (intro w hSw; (try dsimp only at hSw); go_simp; (try with_reducible rfl))
        simp only [Act.put, List.setIfInBounds_toArray, List.set_cons_zero, List.set_cons_succ]
        refine wpAnyH_take (i := 7) (oi := ?o23) (v := ?v23) ?hi23 (by kernel_rfl) (by kernel_rfl) (by kernel_rfl) ?hQ23 (Or.inl ⟨?hw23, ?hy23⟩) (by assumption) ?_
        case hi23 => (simp only [List.getElem?_toArray, List.getElem?_cons_succ, List.getElem?_cons_zero]; rfl)
        case hQ23 => exact fun _ _ _ h => h
        case hw23 => rfl
        case hy23 => (intro w hSw; (try dsimp only at hSw); go_simp; (try with_reducible rfl))
        simp only [Act.put, List.setIfInBounds_toArray, List.set_cons_zero, List.set_cons_succ]
        refine wpAnyH_take (i := 8) (oi := ?o24) (v := ?v24) ?hi24 (by kernel_rfl) (by kernel_rfl) (by kernel_rfl) ?hQ24 (Or.inl ⟨?hw24, ?hy24⟩) (by assumption) ?_
        case hi24 => (simp only [List.getElem?_toArray, List.getElem?_cons_succ, List.getElem?_cons_zero]; rfl)
        case hQ24 => exact fun _ _ _ h => h
        case hw24 => rfl
        case hy24 => (intro w hSw; (try dsimp only at hSw); go_simp; (try with_reducible rfl))
        simp only [Act.put, List.setIfInBounds_toArray, List.set_cons_zero, List.set_cons_succ]
        refine wpAnyH_take (i := 9) (oi := ?o25) (v := ?v25) ?hi25 (by kernel_rfl) (by kernel_rfl) (by kernel_rfl) ?hQ25 (Or.inl ⟨?hw25, ?hy25⟩) (by assumption) ?_
        case hi25 => (simp only [List.getElem?_toArray, List.getElem?_cons_succ, List.getElem?_cons_zero]; rfl)
        case hQ25 => exact fun _ _ _ h => h
        case hw25 => rfl
        case hy25 => (intro w hSw; (try dsimp only at hSw); go_simp; (try with_reducible rfl))
        simp only [Act.put, List.setIfInBounds_toArray, List.set_cons_zero, List.set_cons_succ]
        refine wpAnyH_take (i := 10) (oi := ?o26) (v := ?v26) ?hi26 (by kernel_rfl) (by kernel_rfl) (by kernel_rfl) ?hQ26 (Or.inl ⟨?hw26, ?hy26⟩) (by assumption) ?_
        case hi26 => (simp only [List.getElem?_toArray, List.getElem?_cons_succ, List.getElem?_cons_zero]; rfl)
        case hQ26 => exact fun _ _ _ h => h
        case hw26 => rfl
        case hy26 => (intro w hSw; (try dsimp only at hSw); go_simp; (try with_reducible rfl))
        simp only [Act.put, List.setIfInBounds_toArray, List.set_cons_zero, List.set_cons_succ]
        refine wpAnyH_take (i := 11) (oi := ?o27) (v := ?v27) ?hi27 (by kernel_rfl) (by kernel_rfl) (by kernel_rfl) ?hQ27 (Or.inl ⟨?hw27, ?hy27⟩) (by assumption) ?_
        case hi27 => (simp only [List.getElem?_toArray, List.getElem?_cons_succ, List.getElem?_cons_zero]; rfl)
        case hQ27 => exact fun _ _ _ h => h
        case hw27 => rfl
        case hy27 => (intro w hSw; (try dsimp only at hSw); go_simp; (try with_reducible rfl))
        simp only [Act.put, List.setIfInBounds_toArray, List.set_cons_zero, List.set_cons_succ]
        refine wpAnyH_ready (rs := [12]) (by kernel_rfl) (by simp) ?_
        refine AllReadyH.cons (o := ?o28) ?hi28 (fun K hK => ?_) AllReadyH.nil
        case hi28 => (simp only [List.getElem?_toArray, List.getElem?_cons_succ, List.getElem?_cons_zero]; rfl)
        go_simp
        (go_at_call 103; refine (unhide CU _).mono ?_; rintro e w4 ⟨rfl, rfl⟩); go_wp2_with fail
        refine hK.out _ _ ?_ (fun hHeld => ?_)
        · (first | (first | exact (Below.refl _ _).drew | assumption))
        clear hK K
        refine wpAnyH_take (i := 13) (oi := ?o29) (v := ?v29) ?hi29 (by kernel_rfl) (by kernel_rfl) (by kernel_rfl) ?hQ29 (Or.inl ⟨?hw29, ?hy29⟩) (by assumption) ?_
        case hi29 => (simp only [List.getElem?_toArray, List.getElem?_cons_succ, List.getElem?_cons_zero]; rfl)
        case hQ29 => exact fun _ _ _ h => h
        case hw29 => rfl
        case hy29 => (intro w hSw; (try dsimp only at hSw); go_simp; (try with_reducible rfl))
        simp only [Act.put, List.setIfInBounds_toArray, List.set_cons_zero, List.set_cons_succ]
        refine wpAnyH_take (i := 14) (oi := ?o30) (v := ?v30) ?hi30 (by kernel_rfl) (by kernel_rfl) (by kernel_rfl) ?hQ30 (Or.inl ⟨?hw30, ?hy30⟩) (by assumption) ?_
        case hi30 => (simp only [List.getElem?_toArray, List.getElem?_cons_succ, List.getElem?_cons_zero]; rfl)
        case hQ30 => exact fun _ _ _ h => h
        case hw30 => rfl
        case hy30 => (intro w hSw; (try dsimp only at hSw); go_simp; (try with_reducible rfl))
        simp only [Act.put, List.setIfInBounds_toArray, List.set_cons_zero, List.set_cons_succ]
        refine wpAnyH_done (by kernel_rfl) ?_ _
        go_wp2_with fail
        go_end0
        rw [show D = true from (unhide HX).1 ⟨by simp, hDU⟩]
        obtain ⟨m0, m1, m2, ml⟩ := unhide HM
        have ml' : Below C w0 W2.drew := below_drew ml
        exact ⟨rfl, ml'.setCell (p := ⟨C + 2, 0, none⟩) (show C ≤ C + 2 by omega) _, (show Blk W2.drew C 75 _ from m0).other (by omega) 0 _, (show Blk W2.drew (C + 1) 4 _ from m1).other (by omega) 0 _, (show Blk ((W2.setCell ⟨C + 2, 0, none⟩ (.bool true)).drew) (C + 2) 4 #[.bool true] from m2.put 0 (.bool true))⟩
      · have hUb : (U == 0) = false := by rw [beq_eq_false_iff_ne]; exact hU
        have hDU : ¬ DU := (unhide HU).1 (by have := unhide HU0; omega)
        refine wp_region_held_drew (S := (fun w' => Below W2.heap.size W2 w')) (by kernel_rfl) ?_ (fun hHeld => ?_)
        · (first | (first | exact (Below.refl _ _).drew | assumption))
        refine wpAnyH_take (i := 0) (oi := ?o31) (v := ?v31) ?hi31 (by kernel_rfl) (by kernel_rfl) (by kernel_rfl) ?hQ31 (Or.inl ⟨?hw31, ?hy31⟩) (by assumption) ?_
        case hi31 => (simp only [List.getElem?_toArray, List.getElem?_cons_zero]; rfl)
        case hQ31 => exact fun _ _ _ h => h
        case hw31 => rfl
        case hy31 => (intro w hSw; (try dsimp only at hSw); go_simp; (try with_reducible rfl))
        simp only [Act.put, List.setIfInBounds_toArray, List.set_cons_zero, List.set_cons_succ]
        refine wpAnyH_take (i := 1) (oi := ?o32) (v := ?v32) ?hi32 (by kernel_rfl) (by kernel_rfl) (by kernel_rfl) ?hQ32 (Or.inl ⟨?hw32, ?hy32⟩) (by assumption) ?_
        case hi32 => (simp only [List.getElem?_toArray, List.getElem?_cons_succ, List.getElem?_cons_zero]; rfl)
        case hQ32 => exact fun _ _ _ h => h
        case hw32 => rfl
        case hy32 => (intro w hSw; (try dsimp only at hSw); go_simp; (try with_reducible rfl))
        simp only [Act.put, List.setIfInBounds_toArray, List.set_cons_zero, List.set_cons_succ]
        refine wpAnyH_take (i := 2) (oi := ?o33) (v := ?v33) ?hi33 (by kernel_rfl) (by kernel_rfl) (by kernel_rfl) ?hQ33 (Or.inl ⟨?hw33, ?hy33⟩) (by assumption) ?_
        case hi33 => (simp only [List.getElem?_toArray, List.getElem?_cons_succ, List.getElem?_cons_zero]; rfl)
        case hQ33 => exact fun _ _ _ h => h
        case hw33 => rfl
        case hy33 => (intro w hSw; (try dsimp only at hSw); go_simp; (try with_reducible rfl))
        simp only [Act.put, List.setIfInBounds_toArray, List.set_cons_zero, List.set_cons_succ]
        refine wpAnyH_take (i := 3) (oi := ?o34) (v := ?v34) ?hi34 (by kernel_rfl) (by kernel_rfl) (by kernel_rfl) ?hQ34 (Or.inl ⟨?hw34, ?hy34⟩) (by assumption) ?_
        case hi34 => (simp only [List.getElem?_toArray, List.getElem?_cons_succ, List.getElem?_cons_zero]; rfl)
        case hQ34 => exact fun _ _ _ h => h
        case hw34 => rfl
        case hy34 => (intro w hSw; (try dsimp only at hSw); go_simp; (try with_reducible rfl))
        simp only [Act.put, List.setIfInBounds_toArray, List.set_cons_zero, List.set_cons_succ]
        refine wpAnyH_take (i := 4) (oi := ?o35) (v := ?v35) ?hi35 (by kernel_rfl) (by kernel_rfl) (by kernel_rfl) ?hQ35 (Or.inl ⟨?hw35, ?hy35⟩) (by assumption) ?_
        case hi35 => (simp only [List.getElem?_toArray, List.getElem?_cons_succ, List.getElem?_cons_zero]; rfl)
        case hQ35 => exact fun _ _ _ h => h
        case hw35 => rfl
        case hy35 => (intro w hSw; (try dsimp only at hSw); go_simp; (try with_reducible rfl))
        simp only [Act.put, List.setIfInBounds_toArray, List.set_cons_zero, List.set_cons_succ]
        refine wpAnyH_take (i := 5) (oi := ?o36) (v := ?v36) ?hi36 (by kernel_rfl) (by kernel_rfl) (by kernel_rfl) ?hQ36 (Or.inl ⟨?hw36, ?hy36⟩) (by assumption) ?_
        case hi36 => (simp only [List.getElem?_toArray, List.getElem?_cons_succ, List.getElem?_cons_zero]; rfl)
        case hQ36 => exact fun _ _ _ h => h
        case hw36 => rfl
        case hy36 => (intro w hSw; (try dsimp only at hSw); go_simp; (try with_reducible rfl))
        simp only [Act.put, List.setIfInBounds_toArray, List.set_cons_zero, List.set_cons_succ]
        refine wpAnyH_take (i := 6) (oi := ?o37) (v := ?v37) ?hi37 (by kernel_rfl) (by kernel_rfl) (by kernel_rfl) ?hQ37 (Or.inl ⟨?hw37, ?hy37⟩) (by assumption) ?_
        case hi37 => (simp only [List.getElem?_toArray, List.getElem?_cons_succ, List.getElem?_cons_zero]; rfl)
        case hQ37 => exact fun _ _ _ h => h
        case hw37 => rfl
        case hy37 => (intro w hSw; (try dsimp only at hSw); go_simp; (try with_reducible rfl))
        simp only [Act.put, List.setIfInBounds_toArray, List.set_cons_zero, List.set_cons_succ]
        refine wpAnyH_take (i := 7) (oi := ?o38) (v := ?v38) ?hi38 (by kernel_rfl) (by kernel_rfl) (by kernel_rfl) ?hQ38 (Or.inl ⟨?hw38, ?hy38⟩) (by assumption) ?_
        case hi38 => (simp only [List.getElem?_toArray, List.getElem?_cons_succ, List.getElem?_cons_zero]; rfl)
        case hQ38 => exact fun _ _ _ h => h
        case hw38 => rfl
        case hy38 => (intro w hSw; (try dsimp only at hSw); go_simp; (try with_reducible rfl))
        simp only [Act.put, List.setIfInBounds_toArray, List.set_cons_zero, List.set_cons_succ]
        refine wpAnyH_take (i := 8) (oi := ?o39) (v := ?v39) ?hi39 (by kernel_rfl) (by kernel_rfl) (by kernel_rfl) ?hQ39 (Or.inl ⟨?hw39, ?hy39⟩) (by assumption) ?_
        case hi39 => (simp only [List.getElem?_toArray, List.getElem?_cons_succ, List.getElem?_cons_zero]; rfl)
        case hQ39 => exact fun _ _ _ h => h
        case hw39 => rfl
        case hy39 => (intro w hSw; (try dsimp only at hSw); go_simp; (try with_reducible rfl))
        simp only [Act.put, List.setIfInBounds_toArray, List.set_cons_zero, List.set_cons_succ]
        refine wpAnyH_take (i := 9) (oi := ?o40) (v := ?v40) ?hi40 (by kernel_rfl) (by kernel_rfl) (by kernel_rfl) ?hQ40 (Or.inl ⟨?hw40, ?hy40⟩) (by assumption) ?_
        case hi40 => (simp only [List.getElem?_toArray, List.getElem?_cons_succ, List.getElem?_cons_zero]; rfl)
        case hQ40 => exact fun _ _ _ h => h
        case hw40 => rfl
        case hy40 => (intro w hSw; (try dsimp only at hSw); go_simp; (try with_reducible rfl))
        simp only [Act.put, List.setIfInBounds_toArray, List.set_cons_zero, List.set_cons_succ]
        refine wpAnyH_take (i := 10) (oi := ?o41) (v := ?v41) ?hi41 (by kernel_rfl) (by kernel_rfl) (by kernel_rfl) ?hQ41 (Or.inl ⟨?hw41, ?hy41⟩) (by assumption) ?_
        case hi41 => (simp only [List.getElem?_toArray, List.getElem?_cons_succ, List.getElem?_cons_zero]; rfl)
        case hQ41 => exact fun _ _ _ h => h
        case hw41 => rfl
        case hy41 => (intro w hSw; (try dsimp only at hSw); go_simp; (try with_reducible rfl))
        simp only [Act.put, List.setIfInBounds_toArray, List.set_cons_zero, List.set_cons_succ]
        refine wpAnyH_take (i := 11) (oi := ?o42) (v := ?v42) ?hi42 (by kernel_rfl) (by kernel_rfl) (by kernel_rfl) ?hQ42 (Or.inl ⟨?hw42, ?hy42⟩) (by assumption) ?_
        case hi42 => (simp only [List.getElem?_toArray, List.getElem?_cons_succ, List.getElem?_cons_zero]; rfl)
        case hQ42 => exact fun _ _ _ h => h
        case hw42 => rfl
        case hy42 => (intro w hSw; (try dsimp only at hSw); go_simp; (try with_reducible rfl))
        simp only [Act.put, List.setIfInBounds_toArray, List.set_cons_zero, List.set_cons_succ]
        refine wpAnyH_ready (rs := [12]) (by kernel_rfl) (by simp) ?_
        refine AllReadyH.cons (o := ?o43) ?hi43 (fun K hK => ?_) AllReadyH.nil
        case hi43 => (simp only [List.getElem?_toArray, List.getElem?_cons_succ, List.getElem?_cons_zero]; rfl)
        go_simp
        (go_at_call 103; refine (unhide CU _).mono ?_; rintro e w4 ⟨rfl, rfl⟩); go_wp2_with fail
        refine hK.out _ _ ?_ (fun hHeld => ?_)
        · (first | (first | exact (Below.refl _ _).drew | assumption))
        clear hK K
        refine wpAnyH_take (i := 13) (oi := ?o44) (v := ?v44) ?hi44 (by kernel_rfl) (by kernel_rfl) (by kernel_rfl) ?hQ44 (Or.inl ⟨?hw44, ?hy44⟩) (by assumption) ?_
        case hi44 => (simp only [List.getElem?_toArray, List.getElem?_cons_succ, List.getElem?_cons_zero]; rfl)
        case hQ44 => exact fun _ _ _ h => h
        case hw44 => rfl
        case hy44 => (intro w hSw; (try dsimp only at hSw); go_simp; (try with_reducible rfl))
        simp only [Act.put, List.setIfInBounds_toArray, List.set_cons_zero, List.set_cons_succ]
        refine wpAnyH_take (i := 14) (oi := ?o45) (v := ?v45) ?hi45 (by kernel_rfl) (by kernel_rfl) (by kernel_rfl) ?hQ45 (Or.inl ⟨?hw45, ?hy45⟩) (by assumption) ?_
        case hi45 => (simp only [List.getElem?_toArray, List.getElem?_cons_succ, List.getElem?_cons_zero]; rfl)
        case hQ45 => exact fun _ _ _ h => h
        case hw45 => rfl
        case hy45 => (intro w hSw; (try dsimp only at hSw); go_simp; (try with_reducible rfl))
        simp only [Act.put, List.setIfInBounds_toArray, List.set_cons_zero, List.set_cons_succ]
        refine wpAnyH_done (by kernel_rfl) ?_ _
        go_wp2_with fail
        go_end0
        rw [show D = d from (unhide HX).2 (fun h => hDU h.2)]
        obtain ⟨m0, m1, m2, ml⟩ := unhide HM
        exact ⟨rfl, below_drew ml, m0, m1, m2⟩
    · skip
      refine wp_region_held_drew (S := (fun w' => Below W2.heap.size W2 w')) (by kernel_rfl) ?_ (fun hHeld => ?_)
      · (first | (first | exact (Below.refl _ _).drew | assumption))
      refine wpAnyH_take (i := 0) (oi := ?o46) (v := ?v46) ?hi46 (by kernel_rfl) (by kernel_rfl) (by kernel_rfl) ?hQ46 (Or.inl ⟨?hw46, ?hy46⟩) (by assumption) ?_
      case hi46 => (simp only [List.getElem?_toArray, List.getElem?_cons_zero]; rfl)
      case hQ46 => exact fun _ _ _ h => h
      case hw46 => rfl
      case hy46 => (intro w hSw; (try dsimp only at hSw); go_simp; (try with_reducible rfl))
      simp only [Act.put, List.setIfInBounds_toArray, List.set_cons_zero, List.set_cons_succ]
      refine wpAnyH_take (i := 1) (oi := ?o47) (v := ?v47) ?hi47 (by kernel_rfl) (by kernel_rfl) (by kernel_rfl) ?hQ47 (Or.inl ⟨?hw47, ?hy47⟩) (by assumption) ?_
      case hi47 => (simp only [List.getElem?_toArray, List.getElem?_cons_succ, List.getElem?_cons_zero]; rfl)
      case hQ47 => exact fun _ _ _ h => h
      case hw47 => rfl
      case hy47 => (intro w hSw; (try dsimp only at hSw); go_simp; (try with_reducible rfl))
      simp only [Act.put, List.setIfInBounds_toArray, List.set_cons_zero, List.set_cons_succ]
      refine wpAnyH_take (i := 2) (oi := ?o48) (v := ?v48) ?hi48 (by kernel_rfl) (by kernel_rfl) (by kernel_rfl) ?hQ48 (Or.inl ⟨?hw48, ?hy48⟩) (by assumption) ?_
      case hi48 => (simp only [List.getElem?_toArray, List.getElem?_cons_succ, List.getElem?_cons_zero]; rfl)
      case hQ48 => exact fun _ _ _ h => h
      case hw48 => rfl
      case hy48 => (intro w hSw; (try dsimp only at hSw); go_simp; (try with_reducible rfl))
      simp only [Act.put, List.setIfInBounds_toArray, List.set_cons_zero, List.set_cons_succ]
      refine wpAnyH_take (i := 3) (oi := ?o49) (v := ?v49) ?hi49 (by kernel_rfl) (by kernel_rfl) (by kernel_rfl) ?hQ49 (Or.inl ⟨?hw49, ?hy49⟩) (by assumption) ?_
      case hi49 => (simp only [List.getElem?_toArray, List.getElem?_cons_succ, List.getElem?_cons_zero]; rfl)
      case hQ49 => exact fun _ _ _ h => h
      case hw49 => rfl
      case hy49 => (intro w hSw; (try dsimp only at hSw); go_simp; (try with_reducible rfl))
      simp only [Act.put, List.setIfInBounds_toArray, List.set_cons_zero, List.set_cons_succ]
      refine wpAnyH_take (i := 4) (oi := ?o50) (v := ?v50) ?hi50 (by kernel_rfl) (by kernel_rfl) (by kernel_rfl) ?hQ50 (Or.inl ⟨?hw50, ?hy50⟩) (by assumption) ?_
      case hi50 => (simp only [List.getElem?_toArray, List.getElem?_cons_succ, List.getElem?_cons_zero]; rfl)
      case hQ50 => exact fun _ _ _ h => h
      case hw50 => rfl
      case hy50 => (intro w hSw; (try dsimp only at hSw); go_simp; (try with_reducible rfl))
      simp only [Act.put, List.setIfInBounds_toArray, List.set_cons_zero, List.set_cons_succ]
      refine wpAnyH_take (i := 5) (oi := ?o51) (v := ?v51) ?hi51 (by kernel_rfl) (by kernel_rfl) (by kernel_rfl) ?hQ51 (Or.inl ⟨?hw51, ?hy51⟩) (by assumption) ?_
      case hi51 => (simp only [List.getElem?_toArray, List.getElem?_cons_succ, List.getElem?_cons_zero]; rfl)
      case hQ51 => exact fun _ _ _ h => h
      case hw51 => rfl
      case hy51 => (intro w hSw; (try dsimp only at hSw); go_simp; (try with_reducible rfl))
      simp only [Act.put, List.setIfInBounds_toArray, List.set_cons_zero, List.set_cons_succ]
      refine wpAnyH_take (i := 6) (oi := ?o52) (v := ?v52) ?hi52 (by kernel_rfl) (by kernel_rfl) (by kernel_rfl) ?hQ52 (Or.inl ⟨?hw52, ?hy52⟩) (by assumption) ?_
      case hi52 => (simp only [List.getElem?_toArray, List.getElem?_cons_succ, List.getElem?_cons_zero]; rfl)
      case hQ52 => exact fun _ _ _ h => h
      case hw52 => rfl
      case hy52 => (intro w hSw; (try dsimp only at hSw); go_simp; (try with_reducible rfl))
      simp only [Act.put, List.setIfInBounds_toArray, List.set_cons_zero, List.set_cons_succ]
      refine wpAnyH_take (i := 7) (oi := ?o53) (v := undef) ?hi53 (by kernel_rfl) (by kernel_rfl) (by kernel_rfl) ?hQ53 (Or.inr ⟨?hw53, rfl⟩) (by assumption) ?_
      case hi53 => (simp only [List.getElem?_toArray, List.getElem?_cons_succ, List.getElem?_cons_zero]; rfl)
      case hQ53 => exact fun _ _ _ h => h
      case hw53 => rfl
      simp only [Act.put, List.setIfInBounds_toArray, List.set_cons_zero, List.set_cons_succ]
      refine wpAnyH_take (i := 8) (oi := ?o54) (v := undef) ?hi54 (by kernel_rfl) (by kernel_rfl) (by kernel_rfl) ?hQ54 (Or.inr ⟨?hw54, rfl⟩) (by assumption) ?_
      case hi54 => (simp only [List.getElem?_toArray, List.getElem?_cons_succ, List.getElem?_cons_zero]; rfl)
      case hQ54 => exact fun _ _ _ h => h
      case hw54 => rfl
      simp only [Act.put, List.setIfInBounds_toArray, List.set_cons_zero, List.set_cons_succ]
      refine wpAnyH_take (i := 9) (oi := ?o55) (v := undef) ?hi55 (by kernel_rfl) (by kernel_rfl) (by kernel_rfl) ?hQ55 (Or.inr ⟨?hw55, rfl⟩) (by assumption) ?_
      case hi55 => (simp only [List.getElem?_toArray, List.getElem?_cons_succ, List.getElem?_cons_zero]; rfl)
      case hQ55 => exact fun _ _ _ h => h
      case hw55 => rfl
      simp only [Act.put, List.setIfInBounds_toArray, List.set_cons_zero, List.set_cons_succ]
      refine wpAnyH_take (i := 10) (oi := ?o56) (v := undef) ?hi56 (by kernel_rfl) (by kernel_rfl) (by kernel_rfl) ?hQ56 (Or.inr ⟨?hw56, rfl⟩) (by assumption) ?_
      case hi56 => (simp only [List.getElem?_toArray, List.getElem?_cons_succ, List.getElem?_cons_zero]; rfl)
      case hQ56 => exact fun _ _ _ h => h
      case hw56 => rfl
      simp only [Act.put, List.setIfInBounds_toArray, List.set_cons_zero, List.set_cons_succ]
      refine wpAnyH_take (i := 11) (oi := ?o57) (v := undef) ?hi57 (by kernel_rfl) (by kernel_rfl) (by kernel_rfl) ?hQ57 (Or.inr ⟨?hw57, rfl⟩) (by assumption) ?_
      case hi57 => (simp only [List.getElem?_toArray, List.getElem?_cons_succ, List.getElem?_cons_zero]; rfl)
      case hQ57 => exact fun _ _ _ h => h
      case hw57 => rfl
      simp only [Act.put, List.setIfInBounds_toArray, List.set_cons_zero, List.set_cons_succ]
      refine wpAnyH_take (i := 12) (oi := ?o58) (v := undef) ?hi58 (by kernel_rfl) (by kernel_rfl) (by kernel_rfl) ?hQ58 (Or.inr ⟨?hw58, rfl⟩) (by assumption) ?_
      case hi58 => (simp only [List.getElem?_toArray, List.getElem?_cons_succ, List.getElem?_cons_zero]; rfl)
      case hQ58 => exact fun _ _ _ h => h
      case hw58 => rfl
      simp only [Act.put, List.setIfInBounds_toArray, List.set_cons_zero, List.set_cons_succ]
      refine wpAnyH_take (i := 13) (oi := ?o59) (v := undef) ?hi59 (by kernel_rfl) (by kernel_rfl) (by kernel_rfl) ?hQ59 (Or.inr ⟨?hw59, rfl⟩) (by assumption) ?_
      case hi59 => (simp only [List.getElem?_toArray, List.getElem?_cons_succ, List.getElem?_cons_zero]; rfl)
      case hQ59 => exact fun _ _ _ h => h
      case hw59 => rfl
      simp only [Act.put, List.setIfInBounds_toArray, List.set_cons_zero, List.set_cons_succ]
      refine wpAnyH_take (i := 14) (oi := ?o60) (v := ?v60) ?hi60 (by kernel_rfl) (by kernel_rfl) (by kernel_rfl) ?hQ60 (Or.inl ⟨?hw60, ?hy60⟩) (by assumption) ?_
      case hi60 => (simp only [List.getElem?_toArray, List.getElem?_cons_succ, List.getElem?_cons_zero]; rfl)
      case hQ60 => exact fun _ _ _ h => h
      case hw60 => rfl
      case hy60 => (intro w hSw; (try dsimp only at hSw); go_simp; (try with_reducible rfl))
      simp only [Act.put, List.setIfInBounds_toArray, List.set_cons_zero, List.set_cons_succ]
      refine wpAnyH_done (by kernel_rfl) ?_ _
      go_wp2_with fail
      go_end0
      rw [show D = d from (unhide HX).2 (by simp)]
      obtain ⟨m0, m1, m2, ml⟩ := unhide HM
      exact ⟨rfl, below_drew ml, m0, m1, m2⟩
    · skip
      refine wp_region_held_drew (S := (fun w' => Below W2.heap.size W2 w')) (by kernel_rfl) ?_ (fun hHeld => ?_)
      · (first | (first | exact (Below.refl _ _).drew | assumption))
      refine wpAnyH_take (i := 0) (oi := ?o61) (v := ?v61) ?hi61 (by kernel_rfl) (by kernel_rfl) (by kernel_rfl) ?hQ61 (Or.inl ⟨?hw61, ?hy61⟩) (by assumption) ?_
      case hi61 => (simp only [List.getElem?_toArray, List.getElem?_cons_zero]; rfl)
      case hQ61 => exact fun _ _ _ h => h
      case hw61 => rfl
      case hy61 => (intro w hSw; (try dsimp only at hSw); go_simp; (try with_reducible rfl))
      simp only [Act.put, List.setIfInBounds_toArray, List.set_cons_zero, List.set_cons_succ]
      refine wpAnyH_take (i := 1) (oi := ?o62) (v := ?v62) ?hi62 (by kernel_rfl) (by kernel_rfl) (by kernel_rfl) ?hQ62 (Or.inl ⟨?hw62, ?hy62⟩) (by assumption) ?_
      case hi62 => (simp only [List.getElem?_toArray, List.getElem?_cons_succ, List.getElem?_cons_zero]; rfl)
      case hQ62 => exact fun _ _ _ h => h
      case hw62 => rfl
      case hy62 => (intro w hSw; (try dsimp only at hSw); go_simp; (try with_reducible rfl))
      simp only [Act.put, List.setIfInBounds_toArray, List.set_cons_zero, List.set_cons_succ]
      refine wpAnyH_take (i := 2) (oi := ?o63) (v := ?v63) ?hi63 (by kernel_rfl) (by kernel_rfl) (by kernel_rfl) ?hQ63 (Or.inl ⟨?hw63, ?hy63⟩) (by assumption) ?_
      case hi63 => (simp only [List.getElem?_toArray, List.getElem?_cons_succ, List.getElem?_cons_zero]; rfl)
      case hQ63 => exact fun _ _ _ h => h
      case hw63 => rfl
      case hy63 => (intro w hSw; (try dsimp only at hSw); go_simp; (try with_reducible rfl))
      simp only [Act.put, List.setIfInBounds_toArray, List.set_cons_zero, List.set_cons_succ]
      refine wpAnyH_take (i := 3) (oi := ?o64) (v := ?v64) ?hi64 (by kernel_rfl) (by kernel_rfl) (by kernel_rfl) ?hQ64 (Or.inl ⟨?hw64, ?hy64⟩) (by assumption) ?_
      case hi64 => (simp only [List.getElem?_toArray, List.getElem?_cons_succ, List.getElem?_cons_zero]; rfl)
      case hQ64 => exact fun _ _ _ h => h
      case hw64 => rfl
      case hy64 => (intro w hSw; (try dsimp only at hSw); go_simp; (try with_reducible rfl))
      simp only [Act.put, List.setIfInBounds_toArray, List.set_cons_zero, List.set_cons_succ]
      refine wpAnyH_take (i := 4) (oi := ?o65) (v := ?v65) ?hi65 (by kernel_rfl) (by kernel_rfl) (by kernel_rfl) ?hQ65 (Or.inl ⟨?hw65, ?hy65⟩) (by assumption) ?_
      case hi65 => (simp only [List.getElem?_toArray, List.getElem?_cons_succ, List.getElem?_cons_zero]; rfl)
      case hQ65 => exact fun _ _ _ h => h
      case hw65 => rfl
      case hy65 => (intro w hSw; (try dsimp only at hSw); go_simp; (try with_reducible rfl))
      simp only [Act.put, List.setIfInBounds_toArray, List.set_cons_zero, List.set_cons_succ]
      refine wpAnyH_take (i := 5) (oi := ?o66) (v := ?v66) ?hi66 (by kernel_rfl) (by kernel_rfl) (by kernel_rfl) ?hQ66 (Or.inl ⟨?hw66, ?hy66⟩) (by assumption) ?_
      case hi66 => (simp only [List.getElem?_toArray, List.getElem?_cons_succ, List.getElem?_cons_zero]; rfl)
      case hQ66 => exact fun _ _ _ h => h
      case hw66 => rfl
      case hy66 => (intro w hSw; (try dsimp only at hSw); go_simp; (try with_reducible rfl))
      simp only [Act.put, List.setIfInBounds_toArray, List.set_cons_zero, List.set_cons_succ]
      refine wpAnyH_take (i := 6) (oi := ?o67) (v := ?v67) ?hi67 (by kernel_rfl) (by kernel_rfl) (by kernel_rfl) ?hQ67 (Or.inl ⟨?hw67, ?hy67⟩) (by assumption) ?_
      case hi67 => (simp only [List.getElem?_toArray, List.getElem?_cons_succ, List.getElem?_cons_zero]; rfl)
      case hQ67 => exact fun _ _ _ h => h
      case hw67 => rfl
      case hy67 => (intro w hSw; (try dsimp only at hSw); go_simp; (try with_reducible rfl))
      simp only [Act.put, List.setIfInBounds_toArray, List.set_cons_zero, List.set_cons_succ]
      refine wpAnyH_take (i := 7) (oi := ?o68) (v := undef) ?hi68 (by kernel_rfl) (by kernel_rfl) (by kernel_rfl) ?hQ68 (Or.inr ⟨?hw68, rfl⟩) (by assumption) ?_
      case hi68 => (simp only [List.getElem?_toArray, List.getElem?_cons_succ, List.getElem?_cons_zero]; rfl)
      case hQ68 => exact fun _ _ _ h => h
      case hw68 => rfl
      simp only [Act.put, List.setIfInBounds_toArray, List.set_cons_zero, List.set_cons_succ]
      refine wpAnyH_take (i := 8) (oi := ?o69) (v := undef) ?hi69 (by kernel_rfl) (by kernel_rfl) (by kernel_rfl) ?hQ69 (Or.inr ⟨?hw69, rfl⟩) (by assumption) ?_
      case hi69 => (simp only [List.getElem?_toArray, List.getElem?_cons_succ, List.getElem?_cons_zero]; rfl)
      case hQ69 => exact fun _ _ _ h => h
      case hw69 => rfl
      simp only [Act.put, List.setIfInBounds_toArray, List.set_cons_zero, List.set_cons_succ]
      refine wpAnyH_take (i := 9) (oi := ?o70) (v := undef) ?hi70 (by kernel_rfl) (by kernel_rfl) (by kernel_rfl) ?hQ70 (Or.inr ⟨?hw70, rfl⟩) (by assumption) ?_
      case hi70 => (simp only [List.getElem?_toArray, List.getElem?_cons_succ, List.getElem?_cons_zero]; rfl)
      case hQ70 => exact fun _ _ _ h => h
      case hw70 => rfl
      simp only [Act.put, List.setIfInBounds_toArray, List.set_cons_zero, List.set_cons_succ]
      refine wpAnyH_take (i := 10) (oi := ?o71) (v := undef) ?hi71 (by kernel_rfl) (by kernel_rfl) (by kernel_rfl) ?hQ71 (Or.inr ⟨?hw71, rfl⟩) (by assumption) ?_
      case hi71 => (simp only [List.getElem?_toArray, List.getElem?_cons_succ, List.getElem?_cons_zero]; rfl)
      case hQ71 => exact fun _ _ _ h => h
      case hw71 => rfl
      simp only [Act.put, List.setIfInBounds_toArray, List.set_cons_zero, List.set_cons_succ]
      refine wpAnyH_take (i := 11) (oi := ?o72) (v := undef) ?hi72 (by kernel_rfl) (by kernel_rfl) (by kernel_rfl) ?hQ72 (Or.inr ⟨?hw72, rfl⟩) (by assumption) ?_
      case hi72 => (simp only [List.getElem?_toArray, List.getElem?_cons_succ, List.getElem?_cons_zero]; rfl)
      case hQ72 => exact fun _ _ _ h => h
      case hw72 => rfl
      simp only [Act.put, List.setIfInBounds_toArray, List.set_cons_zero, List.set_cons_succ]
      refine wpAnyH_take (i := 12) (oi := ?o73) (v := undef) ?hi73 (by kernel_rfl) (by kernel_rfl) (by kernel_rfl) ?hQ73 (Or.inr ⟨?hw73, rfl⟩) (by assumption) ?_
      case hi73 => (simp only [List.getElem?_toArray, List.getElem?_cons_succ, List.getElem?_cons_zero]; rfl)
      case hQ73 => exact fun _ _ _ h => h
      case hw73 => rfl
      simp only [Act.put, List.setIfInBounds_toArray, List.set_cons_zero, List.set_cons_succ]
      refine wpAnyH_take (i := 13) (oi := ?o74) (v := undef) ?hi74 (by kernel_rfl) (by kernel_rfl) (by kernel_rfl) ?hQ74 (Or.inr ⟨?hw74, rfl⟩) (by assumption) ?_
      case hi74 => (simp only [List.getElem?_toArray, List.getElem?_cons_succ, List.getElem?_cons_zero]; rfl)
      case hQ74 => exact fun _ _ _ h => h
      case hw74 => rfl
      simp only [Act.put, List.setIfInBounds_toArray, List.set_cons_zero, List.set_cons_succ]
      refine wpAnyH_take (i := 14) (oi := ?o75) (v := ?v75) ?hi75 (by kernel_rfl) (by kernel_rfl) (by kernel_rfl) ?hQ75 (Or.inl ⟨?hw75, ?hy75⟩) (by assumption) ?_
      case hi75 => (simp only [List.getElem?_toArray, List.getElem?_cons_succ, List.getElem?_cons_zero]; rfl)
      case hQ75 => exact fun _ _ _ h => h
      case hw75 => rfl
      case hy75 => (intro w hSw; (try dsimp only at hSw); go_simp; (try with_reducible rfl))
      simp only [Act.put, List.setIfInBounds_toArray, List.set_cons_zero, List.set_cons_succ]
      refine wpAnyH_done (by kernel_rfl) ?_ _
      go_wp2_with fail
      go_end0
      rw [show D = d from (unhide HX).2 (by simp)]
      obtain ⟨m0, m1, m2, ml⟩ := unhide HM
      exact ⟨rfl, below_drew ml, m0, m1, m2⟩
    · by_cases hU : U = 0
      · have hUb : (U == 0) = true := by rw [beq_iff_eq]; exact hU
        have hDU : DU := by
          have h1 := unhide HU
          by_cases h2 : DU
          · exact h2
          · have := h1.2 h2; omega
        refine wp_region_held_drew (S := (fun w' => Below W2.heap.size W2 w')) (by kernel_rfl) ?_ (fun hHeld => ?_)
        · (first | (first | exact (Below.refl _ _).drew | assumption))
        refine wpAnyH_take (i := 0) (oi := ?o76) (v := ?v76) ?hi76 (by kernel_rfl) (by kernel_rfl) (by kernel_rfl) ?hQ76 (Or.inl ⟨?hw76, ?hy76⟩) (by assumption) ?_
        case hi76 => (simp only [List.getElem?_toArray, List.getElem?_cons_zero]; rfl)
        case hQ76 => exact fun _ _ _ h => h
        case hw76 => rfl
        case hy76 => (intro w hSw; (try dsimp only at hSw); go_simp; (try with_reducible rfl))
        simp only [Act.put, List.setIfInBounds_toArray, List.set_cons_zero, List.set_cons_succ]
        refine wpAnyH_take (i := 1) (oi := ?o77) (v := ?v77) ?hi77 (by kernel_rfl) (by kernel_rfl) (by kernel_rfl) ?hQ77 (Or.inl ⟨?hw77, ?hy77⟩) (by assumption) ?_
        case hi77 => (simp only [List.getElem?_toArray, List.getElem?_cons_succ, List.getElem?_cons_zero]; rfl)
        case hQ77 => exact fun _ _ _ h => h
        case hw77 => rfl
        case hy77 => (intro w hSw; (try dsimp only at hSw); go_simp; (try with_reducible rfl))
        simp only [Act.put, List.setIfInBounds_toArray, List.set_cons_zero, List.set_cons_succ]
        refine wpAnyH_take (i := 2) (oi := ?o78) (v := ?v78) ?hi78 (by kernel_rfl) (by kernel_rfl) (by kernel_rfl) ?hQ78 (Or.inl ⟨?hw78, ?hy78⟩) (by assumption) ?_
        case hi78 => (simp only [List.getElem?_toArray, List.getElem?_cons_succ, List.getElem?_cons_zero]; rfl)
        case hQ78 => exact fun _ _ _ h => h
        case hw78 => rfl
        case hy78 => (intro w hSw; (try dsimp only at hSw); go_simp; (try with_reducible rfl))
        simp only [Act.put, List.setIfInBounds_toArray, List.set_cons_zero, List.set_cons_succ]
        refine wpAnyH_take (i := 3) (oi := ?o79) (v := ?v79) ?hi79 (by kernel_rfl) (by kernel_rfl) (by kernel_rfl) ?hQ79 (Or.inl ⟨?hw79, ?hy79⟩) (by assumption) ?_
        case hi79 => (simp only [List.getElem?_toArray, List.getElem?_cons_succ, List.getElem?_cons_zero]; rfl)
        case hQ79 => exact fun _ _ _ h => h
        case hw79 => rfl
        case hy79 => (intro w hSw; (try dsimp only at hSw); go_simp; (try with_reducible rfl))
        simp only [Act.put, List.setIfInBounds_toArray, List.set_cons_zero, List.set_cons_succ]
        refine wpAnyH_take (i := 4) (oi := ?o80) (v := ?v80) ?hi80 (by kernel_rfl) (by kernel_rfl) (by kernel_rfl) ?hQ80 (Or.inl ⟨?hw80, ?hy80⟩) (by assumption) ?_
        case hi80 => (simp only [List.getElem?_toArray, List.getElem?_cons_succ, List.getElem?_cons_zero]; rfl)
        case hQ80 => exact fun _ _ _ h => h
        case hw80 => rfl
        case hy80 => (intro w hSw; (try dsimp only at hSw); go_simp; (try with_reducible rfl))
        simp only [Act.put, List.setIfInBounds_toArray, List.set_cons_zero, List.set_cons_succ]
        refine wpAnyH_take (i := 5) (oi := ?o81) (v := ?v81) ?hi81 (by kernel_rfl) (by kernel_rfl) (by kernel_rfl) ?hQ81 (Or.inl ⟨?hw81, ?hy81⟩) (by assumption) ?_
        case hi81 => (simp only [List.getElem?_toArray, List.getElem?_cons_succ, List.getElem?_cons_zero]; rfl)
        case hQ81 => exact fun _ _ _ h => h
        case hw81 => rfl
        case hy81 => (intro w hSw; (try dsimp only at hSw); go_simp; (try with_reducible rfl))
        simp only [Act.put, List.setIfInBounds_toArray, List.set_cons_zero, List.set_cons_succ]
        refine wpAnyH_take (i := 6) (oi := ?o82) (v := ?v82) ?hi82 (by kernel_rfl) (by kernel_rfl) (by kernel_rfl) ?hQ82 (Or.inl ⟨?hw82, ?hy82⟩) (by assumption) ?_
        case hi82 => (simp only [List.getElem?_toArray, List.getElem?_cons_succ, List.getElem?_cons_zero]; rfl)
        case hQ82 => exact fun _ _ _ h => h
        case hw82 => rfl
        case hy82 => (intro w hSw; (try dsimp only at hSw); go_simp; (try with_reducible rfl))
        simp only [Act.put, List.setIfInBounds_toArray, List.set_cons_zero, List.set_cons_succ]
        refine wpAnyH_take (i := 7) (oi := ?o83) (v := ?v83) ?hi83 (by kernel_rfl) (by kernel_rfl) (by kernel_rfl) ?hQ83 (Or.inl ⟨?hw83, ?hy83⟩) (by assumption) ?_
        case hi83 => (simp only [List.getElem?_toArray, List.getElem?_cons_succ, List.getElem?_cons_zero]; rfl)
        case hQ83 => exact fun _ _ _ h => h
        case hw83 => rfl
        case hy83 => (intro w hSw; (try dsimp only at hSw); go_simp; (try with_reducible rfl))
        simp only [Act.put, List.setIfInBounds_toArray, List.set_cons_zero, List.set_cons_succ]
        refine wpAnyH_take (i := 8) (oi := ?o84) (v := ?v84) ?hi84 (by kernel_rfl) (by kernel_rfl) (by kernel_rfl) ?hQ84 (Or.inl ⟨?hw84, ?hy84⟩) (by assumption) ?_
        case hi84 => (simp only [List.getElem?_toArray, List.getElem?_cons_succ, List.getElem?_cons_zero]; rfl)
        case hQ84 => exact fun _ _ _ h => h
        case hw84 => rfl
        case hy84 => (intro w hSw; (try dsimp only at hSw); go_simp; (try with_reducible rfl))
        simp only [Act.put, List.setIfInBounds_toArray, List.set_cons_zero, List.set_cons_succ]
        refine wpAnyH_take (i := 9) (oi := ?o85) (v := ?v85) ?hi85 (by kernel_rfl) (by kernel_rfl) (by kernel_rfl) ?hQ85 (Or.inl ⟨?hw85, ?hy85⟩) (by assumption) ?_
        case hi85 => (simp only [List.getElem?_toArray, List.getElem?_cons_succ, List.getElem?_cons_zero]; rfl)
        case hQ85 => exact fun _ _ _ h => h
        case hw85 => rfl
        case hy85 => (intro w hSw; (try dsimp only at hSw); go_simp; (try with_reducible rfl))
        simp only [Act.put, List.setIfInBounds_toArray, List.set_cons_zero, List.set_cons_succ]
        refine wpAnyH_take (i := 10) (oi := ?o86) (v := ?v86) ?hi86 (by kernel_rfl) (by kernel_rfl) (by kernel_rfl) ?hQ86 (Or.inl ⟨?hw86, ?hy86⟩) (by assumption) ?_
        case hi86 => (simp only [List.getElem?_toArray, List.getElem?_cons_succ, List.getElem?_cons_zero]; rfl)
        case hQ86 => exact fun _ _ _ h => h
        case hw86 => rfl
        case hy86 => (intro w hSw; (try dsimp only at hSw); go_simp; (try with_reducible rfl))
        simp only [Act.put, List.setIfInBounds_toArray, List.set_cons_zero, List.set_cons_succ]
        refine wpAnyH_take (i := 11) (oi := ?o87) (v := ?v87) ?hi87 (by kernel_rfl) (by kernel_rfl) (by kernel_rfl) ?hQ87 (Or.inl ⟨?hw87, ?hy87⟩) (by assumption) ?_
        case hi87 => (simp only [List.getElem?_toArray, List.getElem?_cons_succ, List.getElem?_cons_zero]; rfl)
        case hQ87 => exact fun _ _ _ h => h
        case hw87 => rfl
        case hy87 => (intro w hSw; (try dsimp only at hSw); go_simp; (try with_reducible rfl))
        simp only [Act.put, List.setIfInBounds_toArray, List.set_cons_zero, List.set_cons_succ]
        refine wpAnyH_ready (rs := [12]) (by kernel_rfl) (by simp) ?_
        refine AllReadyH.cons (o := ?o88) ?hi88 (fun K hK => ?_) AllReadyH.nil
        case hi88 => (simp only [List.getElem?_toArray, List.getElem?_cons_succ, List.getElem?_cons_zero]; rfl)
        go_simp
        (go_at_call 103; refine (unhide CU _).mono ?_; rintro e w4 ⟨rfl, rfl⟩); go_wp2_with fail
        refine hK.out _ _ ?_ (fun hHeld => ?_)
        · (first | (first | exact (Below.refl _ _).drew | assumption))
        clear hK K
        refine wpAnyH_take (i := 13) (oi := ?o89) (v := ?v89) ?hi89 (by kernel_rfl) (by kernel_rfl) (by kernel_rfl) ?hQ89 (Or.inl ⟨?hw89, ?hy89⟩) (by assumption) ?_
        case hi89 => (simp only [List.getElem?_toArray, List.getElem?_cons_succ, List.getElem?_cons_zero]; rfl)
        case hQ89 => exact fun _ _ _ h => h
        case hw89 => rfl
        case hy89 => (intro w hSw; (try dsimp only at hSw); go_simp; (try with_reducible rfl))
        simp only [Act.put, List.setIfInBounds_toArray, List.set_cons_zero, List.set_cons_succ]
        refine wpAnyH_take (i := 14) (oi := ?o90) (v := ?v90) ?hi90 (by kernel_rfl) (by kernel_rfl) (by kernel_rfl) ?hQ90 (Or.inl ⟨?hw90, ?hy90⟩) (by assumption) ?_
        case hi90 => (simp only [List.getElem?_toArray, List.getElem?_cons_succ, List.getElem?_cons_zero]; rfl)
        case hQ90 => exact fun _ _ _ h => h
        case hw90 => rfl
        case hy90 => (intro w hSw; (try dsimp only at hSw); go_simp; (try with_reducible rfl))
        simp only [Act.put, List.setIfInBounds_toArray, List.set_cons_zero, List.set_cons_succ]
        refine wpAnyH_done (by kernel_rfl) ?_ _
        go_wp2_with fail
        go_end0
        rw [show D = true from (unhide HX).1 ⟨by simp, hDU⟩]
        obtain ⟨m0, m1, m2, ml⟩ := unhide HM
        have ml' : Below C w0 W2.drew := below_drew ml
        exact ⟨rfl, ml'.setCell (p := ⟨C + 2, 0, none⟩) (show C ≤ C + 2 by omega) _, (show Blk W2.drew C 75 _ from m0).other (by omega) 0 _, (show Blk W2.drew (C + 1) 4 _ from m1).other (by omega) 0 _, (show Blk ((W2.setCell ⟨C + 2, 0, none⟩ (.bool true)).drew) (C + 2) 4 #[.bool true] from m2.put 0 (.bool true))⟩
      · have hUb : (U == 0) = false := by rw [beq_eq_false_iff_ne]; exact hU
        have hDU : ¬ DU := (unhide HU).1 (by have := unhide HU0; omega)
        refine wp_region_held_drew (S := (fun w' => Below W2.heap.size W2 w')) (by kernel_rfl) ?_ (fun hHeld => ?_)
        · (first | (first | exact (Below.refl _ _).drew | assumption))
        refine wpAnyH_take (i := 0) (oi := ?o91) (v := ?v91) ?hi91 (by kernel_rfl) (by kernel_rfl) (by kernel_rfl) ?hQ91 (Or.inl ⟨?hw91, ?hy91⟩) (by assumption) ?_
        case hi91 => (simp only [List.getElem?_toArray, List.getElem?_cons_zero]; rfl)
        case hQ91 => exact fun _ _ _ h => h
        case hw91 => rfl
        case hy91 => (intro w hSw; (try dsimp only at hSw); go_simp; (try with_reducible rfl))
        simp only [Act.put, List.setIfInBounds_toArray, List.set_cons_zero, List.set_cons_succ]
        refine wpAnyH_take (i := 1) (oi := ?o92) (v := ?v92) ?hi92 (by kernel_rfl) (by kernel_rfl) (by kernel_rfl) ?hQ92 (Or.inl ⟨?hw92, ?hy92⟩) (by assumption) ?_
        case hi92 => (simp only [List.getElem?_toArray, List.getElem?_cons_succ, List.getElem?_cons_zero]; rfl)
        case hQ92 => exact fun _ _ _ h => h
        case hw92 => rfl
        case hy92 => (intro w hSw; (try dsimp only at hSw); go_simp; (try with_reducible rfl))
        simp only [Act.put, List.setIfInBounds_toArray, List.set_cons_zero, List.set_cons_succ]
        refine wpAnyH_take (i := 2) (oi := ?o93) (v := ?v93) ?hi93 (by kernel_rfl) (by kernel_rfl) (by kernel_rfl) ?hQ93 (Or.inl ⟨?hw93, ?hy93⟩) (by assumption) ?_
        case hi93 => (simp only [List.getElem?_toArray, List.getElem?_cons_succ, List.getElem?_cons_zero]; rfl)
        case hQ93 => exact fun _ _ _ h => h
        case hw93 => rfl
        case hy93 => (intro w hSw; (try dsimp only at hSw); go_simp; (try with_reducible rfl))
        simp only [Act.put, List.setIfInBounds_toArray, List.set_cons_zero, List.set_cons_succ]
        refine wpAnyH_take (i := 3) (oi := ?o94) (v := ?v94) ?hi94 (by kernel_rfl) (by kernel_rfl) (by kernel_rfl) ?hQ94 (Or.inl ⟨?hw94, ?hy94⟩) (by assumption) ?_
        case hi94 => (simp only [List.getElem?_toArray, List.getElem?_cons_succ, List.getElem?_cons_zero]; rfl)
        case hQ94 => exact fun _ _ _ h => h
        case hw94 => rfl
        case hy94 => (intro w hSw; (try dsimp only at hSw); go_simp; (try with_reducible rfl))
        simp only [Act.put, List.setIfInBounds_toArray, List.set_cons_zero, List.set_cons_succ]
        refine wpAnyH_take (i := 4) (oi := ?o95) (v := ?v95) ?hi95 (by kernel_rfl) (by kernel_rfl) (by kernel_rfl) ?hQ95 (Or.inl ⟨?hw95, ?hy95⟩) (by assumption) ?_
        case hi95 => (simp only [List.getElem?_toArray, List.getElem?_cons_succ, List.getElem?_cons_zero]; rfl)
        case hQ95 => exact fun _ _ _ h => h
        case hw95 => rfl
        case hy95 => (intro w hSw; (try dsimp only at hSw); go_simp; (try with_reducible rfl))
        simp only [Act.put, List.setIfInBounds_toArray, List.set_cons_zero, List.set_cons_succ]
        refine wpAnyH_take (i := 5) (oi := ?o96) (v := ?v96) ?hi96 (by kernel_rfl) (by kernel_rfl) (by kernel_rfl) ?hQ96 (Or.inl ⟨?hw96, ?hy96⟩) (by assumption) ?_
        case hi96 => (simp only [List.getElem?_toArray, List.getElem?_cons_succ, List.getElem?_cons_zero]; rfl)
        case hQ96 => exact fun _ _ _ h => h
        case hw96 => rfl
        case hy96 => (intro w hSw; (try dsimp only at hSw); go_simp; (try with_reducible rfl))
        simp only [Act.put, List.setIfInBounds_toArray, List.set_cons_zero, List.set_cons_succ]
        refine wpAnyH_take (i := 6) (oi := ?o97) (v := ?v97) ?hi97 (by kernel_rfl) (by kernel_rfl) (by kernel_rfl) ?hQ97 (Or.inl ⟨?hw97, ?hy97⟩) (by assumption) ?_
        case hi97 => (simp only [List.getElem?_toArray, List.getElem?_cons_succ, List.getElem?_cons_zero]; rfl)
        case hQ97 => exact fun _ _ _ h => h
        case hw97 => rfl
        case hy97 => (intro w hSw; (try dsimp only at hSw); go_simp; (try with_reducible rfl))
        simp only [Act.put, List.setIfInBounds_toArray, List.set_cons_zero, List.set_cons_succ]
        refine wpAnyH_take (i := 7) (oi := ?o98) (v := ?v98) ?hi98 (by kernel_rfl) (by kernel_rfl) (by kernel_rfl) ?hQ98 (Or.inl ⟨?hw98, ?hy98⟩) (by assumption) ?_
        case hi98 => (simp only [List.getElem?_toArray, List.getElem?_cons_succ, List.getElem?_cons_zero]; rfl)
        case hQ98 => exact fun _ _ _ h => h
        case hw98 => rfl
        case hy98 => (intro w hSw; (try dsimp only at hSw); go_simp; (try with_reducible rfl))
        simp only [Act.put, List.setIfInBounds_toArray, List.set_cons_zero, List.set_cons_succ]
        refine wpAnyH_take (i := 8) (oi := ?o99) (v := ?v99) ?hi99 (by kernel_rfl) (by kernel_rfl) (by kernel_rfl) ?hQ99 (Or.inl ⟨?hw99, ?hy99⟩) (by assumption) ?_
        case hi99 => (simp only [List.getElem?_toArray, List.getElem?_cons_succ, List.getElem?_cons_zero]; rfl)
        case hQ99 => exact fun _ _ _ h => h
        case hw99 => rfl
        case hy99 => (intro w hSw; (try dsimp only at hSw); go_simp; (try with_reducible rfl))
        simp only [Act.put, List.setIfInBounds_toArray, List.set_cons_zero, List.set_cons_succ]
        refine wpAnyH_take (i := 9) (oi := ?o100) (v := ?v100) ?hi100 (by kernel_rfl) (by kernel_rfl) (by kernel_rfl) ?hQ100 (Or.inl ⟨?hw100, ?hy100⟩) (by assumption) ?_
        case hi100 => (simp only [List.getElem?_toArray, List.getElem?_cons_succ, List.getElem?_cons_zero]; rfl)
        case hQ100 => exact fun _ _ _ h => h
        case hw100 => rfl
        case hy100 => (intro w hSw; (try dsimp only at hSw); go_simp; (try with_reducible rfl))
        simp only [Act.put, List.setIfInBounds_toArray, List.set_cons_zero, List.set_cons_succ]
        refine wpAnyH_take (i := 10) (oi := ?o101) (v := ?v101) ?hi101 (by kernel_rfl) (by kernel_rfl) (by kernel_rfl) ?hQ101 (Or.inl ⟨?hw101, ?hy101⟩) (by assumption) ?_
        case hi101 => (simp only [List.getElem?_toArray, List.getElem?_cons_succ, List.getElem?_cons_zero]; rfl)
        case hQ101 => exact fun _ _ _ h => h
        case hw101 => rfl
        case hy101 => (intro w hSw; (try dsimp only at hSw); go_simp; (try with_reducible rfl))
        simp only [Act.put, List.setIfInBounds_toArray, List.set_cons_zero, List.set_cons_succ]
        refine wpAnyH_take (i := 11) (oi := ?o102) (v := ?v102) ?hi102 (by kernel_rfl) (by kernel_rfl) (by kernel_rfl) ?hQ102 (Or.inl ⟨?hw102, ?hy102⟩) (by assumption) ?_
        case hi102 => (simp only [List.getElem?_toArray, List.getElem?_cons_succ, List.getElem?_cons_zero]; rfl)
        case hQ102 => exact fun _ _ _ h => h
        case hw102 => rfl
        case hy102 => (intro w hSw; (try dsimp only at hSw); go_simp; (try with_reducible rfl))
        simp only [Act.put, List.setIfInBounds_toArray, List.set_cons_zero, List.set_cons_succ]
        refine wpAnyH_ready (rs := [12]) (by kernel_rfl) (by simp) ?_
        refine AllReadyH.cons (o := ?o103) ?hi103 (fun K hK => ?_) AllReadyH.nil
        case hi103 => (simp only [List.getElem?_toArray, List.getElem?_cons_succ, List.getElem?_cons_zero]; rfl)
        go_simp
        (go_at_call 103; refine (unhide CU _).mono ?_; rintro e w4 ⟨rfl, rfl⟩); go_wp2_with fail
        refine hK.out _ _ ?_ (fun hHeld => ?_)
        · (first | (first | exact (Below.refl _ _).drew | assumption))
        clear hK K
        refine wpAnyH_take (i := 13) (oi := ?o104) (v := ?v104) ?hi104 (by kernel_rfl) (by kernel_rfl) (by kernel_rfl) ?hQ104 (Or.inl ⟨?hw104, ?hy104⟩) (by assumption) ?_
        case hi104 => (simp only [List.getElem?_toArray, List.getElem?_cons_succ, List.getElem?_cons_zero]; rfl)
        case hQ104 => exact fun _ _ _ h => h
        case hw104 => rfl
        case hy104 => (intro w hSw; (try dsimp only at hSw); go_simp; (try with_reducible rfl))
        simp only [Act.put, List.setIfInBounds_toArray, List.set_cons_zero, List.set_cons_succ]
        refine wpAnyH_take (i := 14) (oi := ?o105) (v := ?v105) ?hi105 (by kernel_rfl) (by kernel_rfl) (by kernel_rfl) ?hQ105 (Or.inl ⟨?hw105, ?hy105⟩) (by assumption) ?_
        case hi105 => (simp only [List.getElem?_toArray, List.getElem?_cons_succ, List.getElem?_cons_zero]; rfl)
        case hQ105 => exact fun _ _ _ h => h
        case hw105 => rfl
        case hy105 => (intro w hSw; (try dsimp only at hSw); go_simp; (try with_reducible rfl))
        simp only [Act.put, List.setIfInBounds_toArray, List.set_cons_zero, List.set_cons_succ]
        refine wpAnyH_done (by kernel_rfl) ?_ _
        go_wp2_with fail
        go_end0
        rw [show D = d from (unhide HX).2 (fun h => hDU h.2)]
        obtain ⟨m0, m1, m2, ml⟩ := unhide HM
        exact ⟨rfl, below_drew ml, m0, m1, m2⟩
end
end Go.Proofs.YtjjdkkdnlnbedaaGreat


/- A base's Next and Due: the whole calls. -/
namespace Go.Proofs.YtjjdkkdnlnbedaaGreat
open Go.RowKit Kt Qu
set_option linter.unusedVariables false

def tri (f0 f1 f2 : Int) (k : Nat) : Int := if k = 0 then f0 else if k = 1 then f1 else f2
theorem tri_at (f0 f1 f2 : Int) {k : Nat} (h : k < 3) : k = 0 ∧ tri f0 f1 f2 k = f0 ∨ k = 1 ∧ tri f0 f1 f2 k = f1 ∨ k = 2 ∧ tri f0 f1 f2 k = f2 := by
  rcases (show k = 0 ∨ k = 1 ∨ k = 2 by omega) with rfl | rfl | rfl
  · exact .inl ⟨rfl, rfl⟩
  · exact .inr (.inl ⟨rfl, rfl⟩)
  · exact .inr (.inr ⟨rfl, rfl⟩)
/-- What Next has reckoned ahead of row i. -/
def nxF (R : Rows6) (f : Nat → Int) (lz : Bool) : Nat → Int
  | 0 => 4611686018427387903
  | i + 1 => nx1 (R i) lz (decide (i % 2 = 1)) (f (i / 2)) (nxF R f lz i)
/-- What Due has found ahead of row i. -/
def duF (R : Rows6) (f : Nat → Int) (lz : Bool) : Nat → Bool
  | 0 => false
  | i + 1 => du1 (R i) lz (decide (i % 2 = 1)) (f (i / 2)) (duF R f lz i)
section
variable {w w' : World} {b n : Nat} {P : Nat → Option Qa} {R : Rows6}
set_option maxRecDepth 20000 in
set_option maxHeartbeats 1000000 in
theorem bnext (h : Bs w b n P R) (f0 f1 f2 : Int) (lz : Bool) : Calls Tryz.prog 95 #[.pointer (some ⟨b, 0, none⟩), .agg #[.int .i64 f0, .int .i64 f1, .int .i64 f2], .bool lz] w fun e w' => e = .returned (.int .i64 (nxF R (tri f0 f1 f2) lz 6)) ∧ Below w.heap.size w w' := by
  obtain ⟨C, hC⟩ : ∃ C, w.heap.size = C := ⟨_, rfl⟩
  obtain ⟨W1, hW1⟩ : ∃ W1, W1 = w.alloc (.cells #[.int .i64 f0, .int .i64 f1, .int .i64 f2] 75) := ⟨_, rfl⟩
  obtain ⟨W2, hW2⟩ : ∃ W2, W2 = W1.alloc (.cells #[.bool lz] 4) := ⟨_, rfl⟩
  obtain ⟨W3, hW3⟩ : ∃ W3, W3 = W2.alloc (.cells #[.int .i64 4611686018427387903] 3) := ⟨_, rfl⟩
  have s1 : W1.heap.size = C + 1 := by rw [hW1, ← hC]; simp
  have s2 : W2.heap.size = C + 2 := by rw [hW2]; simp [s1]
  have b1 : Below C w W1 := by rw [hW1, ← hC]; exact one_below _ _
  have b2 : Below W1.heap.size W1 W2 := by rw [hW2]; exact one_below _ _
  have b3 : Below W2.heap.size W2 W3 := by rw [hW3]; exact one_below _ _
  have k1 : Blk W1 C 75 #[.int .i64 f0, .int .i64 f1, .int .i64 f2] := by rw [hW1]; exact Blk.new_at _ _ _ hC.symm
  have k2 : Blk W2 (C + 1) 4 #[.bool lz] := by rw [hW2]; exact Blk.new_at _ _ _ s1.symm
  have k3 : Blk W3 (C + 2) 3 #[.int .i64 4611686018427387903] := by rw [hW3]; exact Blk.new_at _ _ _ s2.symm
  have k1' := k1.below b2 k1.lt
  have CE := hide (each_any b (pv (P 0)) (pv (P 1)) (pv (P 2)) (pv (P 3)) (pv (P 4)) (pv (P 5)) 118 #[.pointer (some ⟨C + 1, 0, none⟩), .pointer (some ⟨C + 2, 0, none⟩), .pointer (some ⟨C, 0, none⟩)]
    (fun i w' => Below C w w' ∧ Blk w' C 75 #[.int .i64 f0, .int .i64 f1, .int .i64 f2] ∧ Blk w' (C + 1) 4 #[.bool lz] ∧ Blk w' (C + 2) 3 #[.int .i64 (nxF R (tri f0 f1 f2) lz i)]) W3 (fun _ _ => rfl)
    (fun i w' hJ => (h.below (hC ▸ hJ.1)).blk)
    (fun i w' k l c hi hJ hk hl hc => by
      rw [bcs_at P hi hc, hk, hl]
      exact nextclo _ _ _ w w' C ((h.below (hC ▸ hJ.1)).q i hi) f0 f1 f2 lz _ _ (i / 2) _ (tri_at f0 f1 f2 (by omega)) hJ.2.1 hJ.2.2.1 hJ.2.2.2 hJ.1)
    ⟨(b1.trans (b2.mono (by omega))).trans (b3.mono (by omega)), k1'.below b3 k1'.lt, k2.below b3 k2.lt, k3⟩)
  generalize nxF R (tri f0 f1 f2) lz 6 = r at *
  rw [hW2, hW1] at hW3
  have HW := hide hW3
  clear hW1 hW2 hW3 b1 b2 b3 k1 k2 k3 k1' h s1 s2
  rw [hC]
  go_enter Tryz.func95, Tryz.ntmps95
  go_wp2_with (go_at_call 62; refine Hid.out ?_)
  refine hide ?_
  rw [← unhide HW]
  refine (unhide CE).mono ?_
  rintro e w3 ⟨rfl, hl, -, -, k1⟩
  have c1 := blkAt k1 0 (.int .i64 r) rfl
  have HL := hide hl
  clear hl k1 CE HW
  go_wp2
  go_ret
  exact ⟨rfl, unhide HL⟩
theorem next_nil (w : World) (f0 f1 f2 : Int) (lz : Bool) : Calls Tryz.prog 95 #[.pointer none, .agg #[.int .i64 f0, .int .i64 f1, .int .i64 f2], .bool lz] w fun e w' => e = .returned (.int .i64 4611686018427387903) ∧ Below w.heap.size w w' := by
  obtain ⟨C, hC⟩ : ∃ C, w.heap.size = C := ⟨_, rfl⟩
  obtain ⟨W1, hW1⟩ : ∃ W1, W1 = w.alloc (.cells #[.int .i64 f0, .int .i64 f1, .int .i64 f2] 75) := ⟨_, rfl⟩
  obtain ⟨W2, hW2⟩ : ∃ W2, W2 = W1.alloc (.cells #[.bool lz] 4) := ⟨_, rfl⟩
  obtain ⟨W3, hW3⟩ : ∃ W3, W3 = W2.alloc (.cells #[.int .i64 4611686018427387903] 3) := ⟨_, rfl⟩
  have s1 : W1.heap.size = C + 1 := by rw [hW1, ← hC]; simp
  have s2 : W2.heap.size = C + 2 := by rw [hW2]; simp [s1]
  have b1 : Below C w W1 := by rw [hW1, ← hC]; exact one_below _ _
  have b2 : Below W1.heap.size W1 W2 := by rw [hW2]; exact one_below _ _
  have b3 : Below W2.heap.size W2 W3 := by rw [hW3]; exact one_below _ _
  have k3 : Blk W3 (C + 2) 3 #[.int .i64 4611686018427387903] := by rw [hW3]; exact Blk.new_at _ _ _ s2.symm
  have HL := hide ((b1.trans (b2.mono (by omega))).trans (b3.mono (by omega)))
  have c1 := blkAt k3 0 (.int .i64 4611686018427387903) rfl
  rw [hW3, hW2, hW1] at c1 HL
  clear hW1 hW2 hW3 b1 b2 b3 k3 s1 s2
  rw [hC]
  go_enter Tryz.func95, Tryz.ntmps95
  go_wp2_with (go_at_call 62; refine (each_nil _ _).mono ?_; rintro e w3 ⟨rfl, rfl⟩)
  go_ret
  exact ⟨rfl, unhide HL⟩
set_option maxRecDepth 20000 in
set_option maxHeartbeats 1000000 in
theorem bdue (h : Bs w b n P R) (f0 f1 f2 : Int) (lz : Bool) : Calls Tryz.prog 72 #[.pointer (some ⟨b, 0, none⟩), .agg #[.int .i64 f0, .int .i64 f1, .int .i64 f2], .bool lz] w fun e w' => e = .returned (.bool (duF R (tri f0 f1 f2) lz 6)) ∧ Below w.heap.size w w' := by
  obtain ⟨C, hC⟩ : ∃ C, w.heap.size = C := ⟨_, rfl⟩
  obtain ⟨W1, hW1⟩ : ∃ W1, W1 = w.alloc (.cells #[.int .i64 f0, .int .i64 f1, .int .i64 f2] 75) := ⟨_, rfl⟩
  obtain ⟨W2, hW2⟩ : ∃ W2, W2 = W1.alloc (.cells #[.bool lz] 4) := ⟨_, rfl⟩
  obtain ⟨W3, hW3⟩ : ∃ W3, W3 = W2.alloc (.cells #[.bool false] 4) := ⟨_, rfl⟩
  have s1 : W1.heap.size = C + 1 := by rw [hW1, ← hC]; simp
  have s2 : W2.heap.size = C + 2 := by rw [hW2]; simp [s1]
  have b1 : Below C w W1 := by rw [hW1, ← hC]; exact one_below _ _
  have b2 : Below W1.heap.size W1 W2 := by rw [hW2]; exact one_below _ _
  have b3 : Below W2.heap.size W2 W3 := by rw [hW3]; exact one_below _ _
  have k1 : Blk W1 C 75 #[.int .i64 f0, .int .i64 f1, .int .i64 f2] := by rw [hW1]; exact Blk.new_at _ _ _ hC.symm
  have k2 : Blk W2 (C + 1) 4 #[.bool lz] := by rw [hW2]; exact Blk.new_at _ _ _ s1.symm
  have k3 : Blk W3 (C + 2) 4 #[.bool false] := by rw [hW3]; exact Blk.new_at _ _ _ s2.symm
  have k1' := k1.below b2 k1.lt
  have CE := hide (each_any b (pv (P 0)) (pv (P 1)) (pv (P 2)) (pv (P 3)) (pv (P 4)) (pv (P 5)) 101 #[.pointer (some ⟨C + 1, 0, none⟩), .pointer (some ⟨C, 0, none⟩), .pointer (some ⟨C + 2, 0, none⟩)]
    (fun i w' => Below C w w' ∧ Blk w' C 75 #[.int .i64 f0, .int .i64 f1, .int .i64 f2] ∧ Blk w' (C + 1) 4 #[.bool lz] ∧ Blk w' (C + 2) 4 #[.bool (duF R (tri f0 f1 f2) lz i)]) W3 (fun _ _ => rfl)
    (fun i w' hJ => (h.below (hC ▸ hJ.1)).blk)
    (fun i w' k l c hi hJ hk hl hc => by
      rw [bcs_at P hi hc, hk, hl]
      exact dueclo _ _ _ w w' C ((h.below (hC ▸ hJ.1)).q i hi) f0 f1 f2 lz _ _ (i / 2) _ (tri_at f0 f1 f2 (by omega)) hJ.2.1 hJ.2.2.1 hJ.2.2.2 hJ.1)
    ⟨(b1.trans (b2.mono (by omega))).trans (b3.mono (by omega)), k1'.below b3 k1'.lt, k2.below b3 k2.lt, k3⟩)
  generalize duF R (tri f0 f1 f2) lz 6 = r at *
  rw [hW2, hW1] at hW3
  have HW := hide hW3
  clear hW1 hW2 hW3 b1 b2 b3 k1 k2 k3 k1' h s1 s2
  rw [hC]
  go_enter Tryz.func72, Tryz.ntmps72
  go_wp2_with (go_at_call 62; refine Hid.out ?_)
  refine hide ?_
  rw [← unhide HW]
  refine (unhide CE).mono ?_
  rintro e w3 ⟨rfl, hl, -, -, k1⟩
  have c1 := blkAt k1 0 (.bool r) rfl
  have HL := hide hl
  clear hl k1 CE HW
  go_wp2
  go_ret
  exact ⟨rfl, unhide HL⟩
end
end Go.Proofs.YtjjdkkdnlnbedaaGreat

