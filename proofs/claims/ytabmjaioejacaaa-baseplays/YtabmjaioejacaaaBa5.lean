/- A base's Next. -/
import Derived.Test.YtabmjaioejacaaaBa3
import Derived.Test.YtabmjaioejacaaaKtFirst
namespace Go.Proofs.Ytabmjaioejacaaa
open Go.RowKit Kt Qu
set_option linter.unusedVariables false

theorem first_two (w : World) (b : Nat) (t : TypeId) (x y : Int) (h : Blk w b t #[.int .i64 x, .int .i64 y]) : Calls Try.prog 37 #[.slice (some ⟨b, 0, none⟩) 2 2] w fun e w' => e = .returned (.int .i64 (firstZ [x, y])) ∧ w' = w :=
  first_some b 0 2 2 [x, y] w (Nat.le_refl _) (by omega) fun k hk => by
    rcases (show k = 0 ∨ k = 1 by omega) with rfl | rfl
    · exact blkAt h 0 (.int .i64 x) rfl
    · exact blkAt h 1 (.int .i64 y) rfl
/-- The least so far, and a row's first one. -/
def nx1 (l : List Tmr) (lz isl : Bool) (off d : Int) : Int := match l with
  | [] => d
  | t :: _ => if lz || !isl then firstZ [d, subZ t.soft off] else d
section
variable {w w' : World} {b n : Nat} {P : Nat → Option Qa} {R : Rows6}
theorem next_end {w0 W : World} {C : Nat} {f0 f1 f2 d v : Int} {lz : Bool} {o : Obj}
    (h : Blk W C 23 #[.int .i64 f0, .int .i64 f1, .int .i64 f2] ∧ Blk W (C + 1) 4 #[.bool lz] ∧ Blk W (C + 2) 3 #[.int .i64 d] ∧ Below C w0 W) :
    Below C w0 ((W.alloc o).setCell ⟨C + 2, 0, none⟩ (.int .i64 v)).drew ∧ Blk ((W.alloc o).setCell ⟨C + 2, 0, none⟩ (.int .i64 v)).drew C 23 #[.int .i64 f0, .int .i64 f1, .int .i64 f2] ∧ Blk ((W.alloc o).setCell ⟨C + 2, 0, none⟩ (.int .i64 v)).drew (C + 1) 4 #[.bool lz] ∧ Blk ((W.alloc o).setCell ⟨C + 2, 0, none⟩ (.int .i64 v)).drew (C + 2) 3 #[.int .i64 v] := by
  obtain ⟨m0, m1, m2, ml⟩ := h
  have hlt := m2.lt
  have b : Below C w0 ((W.alloc o).setCell ⟨C + 2, 0, none⟩ (.int .i64 v)) := (ml.alloc (by omega) o).setCell (p := ⟨C + 2, 0, none⟩) (show C ≤ C + 2 by omega) _
  refine ⟨below_drew b, (m0.alloc o).other (by omega) 0 _, (m1.alloc o).other (by omega) 0 _, ?_⟩
  exact (show Blk ((W.alloc o).setCell ⟨C + 2, 0, none⟩ (.int .i64 v)).drew (C + 2) 3 #[.int .i64 v] from (m2.alloc o).put 0 (.int .i64 v))
set_option maxRecDepth 20000 in
set_option maxHeartbeats 2000000 in
theorem nextclo (o : Option Qa) (m : Nat) (l : List Tmr) (w0 w : World) (C : Nat) (hq : Qo w o m l) (f0 f1 f2 : Int) (lz isl : Bool) (d : Int) (k : Nat) (off : Int) (hk : k = 0 ∧ off = f0 ∨ k = 1 ∧ off = f1 ∨ k = 2 ∧ off = f2)
    (k0 : Blk w C 23 #[.int .i64 f0, .int .i64 f1, .int .i64 f2]) (k1 : Blk w (C + 1) 4 #[.bool lz]) (k2 : Blk w (C + 2) 3 #[.int .i64 d]) (hlow : Below C w0 w) :
    Calls Try.prog 36 #[.int .i64 (k : Int), .bool isl, pv o, .pointer (some ⟨C + 1, 0, none⟩), .pointer (some ⟨C + 2, 0, none⟩), .pointer (some ⟨C, 0, none⟩)] w fun e w' => e = .returned (.tuple #[]) ∧ Below C w0 w' ∧ Blk w' C 23 #[.int .i64 f0, .int .i64 f1, .int .i64 f2] ∧ Blk w' (C + 1) 4 #[.bool lz] ∧ Blk w' (C + 2) 3 #[.int .i64 (nx1 l lz isl off d)] := by
  have CF := hide (ofirst hq)
  have hC2 := k2.lt
  obtain ⟨V, hV⟩ : ∃ V, pv o = V := ⟨_, rfl⟩
  rw [hV] at CF ⊢
  have H := hide (And.intro k0 (And.intro k1 (And.intro k2 hlow)))
  have CS := fun a b w' => hide (sub_any a b w')
  clear hq hV k0 k1 k2 hlow
  cases l with
  | nil =>
    rw [show fstV [] = .tuple #[.agg #[.int .i64 0, .int .i64 0, .int .i64 0, .int .i64 0, .bool false], .bool false] from rfl] at CF
    go_enter Try.func36, Try.ntmps36
    go_wp2_with (go_at_call 26; refine (unhide CF).mono ?_; rintro e w1 ⟨rfl, hb1⟩)
    go_end0
    obtain ⟨k0, k1, k2, hlow⟩ := unhide H
    have b2 := hb1.trans ((one_below w1 (.cells #[.int .i64 0, .int .i64 0, .int .i64 0, .int .i64 0, .bool false] 29)).mono hb1.size)
    exact ⟨rfl, hlow.trans (b2.mono (by omega)), k0.below b2 k0.lt, k1.below b2 k1.lt, k2.below b2 k2.lt⟩
  | cons t l =>
    obtain ⟨i1, i2, i3, i4, i5⟩ := t
    rw [show fstV (⟨i1, i2, i3, i4, i5⟩ :: l) = .tuple #[.agg #[.int .i64 i1, .int .i64 i2, .int .i64 i3, .int .i64 i4, .bool i5], .bool true] from rfl] at CF
    have HX := hide (show nx1 (⟨i1, i2, i3, i4, i5⟩ :: l) lz isl off d = if lz || !isl then firstZ [d, subZ i3 off] else d from rfl)
    generalize nx1 (⟨i1, i2, i3, i4, i5⟩ :: l) lz isl off d = D at *
    have HB := fun (w1 : World) (hb1 : Below w.heap.size w w1) => hide (show Blk (w1.alloc (.cells #[.int .i64 i1, .int .i64 i2, .int .i64 i3, .int .i64 i4, .bool i5] 29)) w1.heap.size 29 #[.int .i64 i1, .int .i64 i2, .int .i64 i3, .int .i64 i4, .bool i5] from Blk.new _ _ _)
    have HL := fun (w1 : World) (hb1 : Below w.heap.size w w1) => hide (And.intro ((unhide H).2.1.below hb1 (unhide H).2.1.lt) (hb1.trans ((one_below w1 (.cells #[.int .i64 i1, .int .i64 i2, .int .i64 i3, .int .i64 i4, .bool i5] 29)).mono hb1.size)))
    go_enter Try.func36, Try.ntmps36
    go_wp2_with (go_at_call 26; refine Hid.out ?_)
    refine hide ?_
    refine (unhide CF).mono ?_
    rintro e w1 ⟨rfl, hb1⟩
    obtain ⟨g, hg⟩ : ∃ g, w1.heap.size = g := ⟨_, rfl⟩
    obtain ⟨W2, hW2⟩ : ∃ W2, W2 = w1.alloc (.cells #[.int .i64 i1, .int .i64 i2, .int .i64 i3, .int .i64 i4, .bool i5] 29) := ⟨_, rfl⟩
    have b2 : Below w.heap.size w W2 := by rw [hW2]; exact hb1.trans ((one_below w1 _).mono hb1.size)
    have kt : Blk W2 g 29 #[.int .i64 i1, .int .i64 i2, .int .i64 i3, .int .i64 i4, .bool i5] := by rw [hW2]; exact Blk.new_at _ _ _ hg.symm
    obtain ⟨k0, k1, k2, hlow⟩ := unhide H
    have m0 := k0.below b2 k0.lt
    have m1 := k1.below b2 k1.lt
    have m2 := k2.below b2 k2.lt
    have ml := hlow.trans (b2.mono (by omega))
    have HM := hide (And.intro m0 (And.intro m1 (And.intro m2 ml)))
    have z1 := blkAt m1 0 (.bool lz) rfl
    have y0 : W2.drew.cell? ⟨C, k, none⟩ = some (.int .i64 off) := by
      rcases hk with ⟨rfl, rfl⟩ | ⟨rfl, rfl⟩ | ⟨rfl, rfl⟩
      · exact blkAt m0 0 (.int .i64 off) rfl
      · exact blkAt m0 1 (.int .i64 off) rfl
      · exact blkAt m0 2 (.int .i64 off) rfl
    have hk3 : k < 3 := by omega
    have hk4 : (k : Int) < 3 := by omega
    have hk5 : (0 : Int) ≤ (k : Int) ∧ (k : Int) < 3 := by omega
    have x2 : W2.drew.cell? ⟨C + 2, 0, none⟩ = some (.int .i64 d) := blkAt m2 0 (.int .i64 d) rfl
    have xf : W2.drew.frozen? ⟨C + 2, 0, none⟩ = false := m2.free 0
    have s3 : W2.drew.cell? ⟨g, 2, none⟩ = some (.int .i64 i3) := blkAt kt 2 (.int .i64 i3) rfl
    rw [hW2] at z1
    have x3 : (W2.alloc (.cells #[.int .i64 d, .int .i64 (subZ i3 off)] 3)).drew.cell? ⟨C + 2, 0, none⟩ = some (.int .i64 d) := blkAt (m2.alloc _) 0 (.int .i64 d) rfl
    have xf3 : (W2.alloc (.cells #[.int .i64 d, .int .i64 (subZ i3 off)] 3)).drew.frozen? ⟨C + 2, 0, none⟩ = false := (m2.alloc _).free 0
    have CX := hide (first_two ((W2.alloc (.cells #[.int .i64 d, .int .i64 (subZ i3 off)] 3)).drew) W2.heap.size 3 d (subZ i3 off) (Blk.new _ _ _))
    have HW2 := hide hW2
    clear b2 kt k0 k1 k2 hlow m0 m1 m2 ml HB HL CF hW2 H hb1 hk
    cases lz
    · cases isl
      · go_wp2_with fail
        rw [← unhide HW2]
        have HZ := hide z1
        clear z1
        go_region_with (first
            | (go_at_call 38; refine (unhide (CS _ _ _)).mono ?_; rintro e ws ⟨rfl, hws⟩; obtain rfl := hws.symm)
            | (go_at_call 37; refine (unhide CX).mono ?_; rintro e ws ⟨rfl, hws⟩; obtain rfl := hws.symm))
        all_goals
          go_wp2_with fail
          go_end0
          rw [show D = firstZ [d, subZ i3 off] from (unhide HX).trans (if_pos rfl)]
          exact ⟨rfl, next_end (unhide HM)⟩
      · go_wp2_with fail
        go_end0
        rw [show D = d from (unhide HX).trans (if_neg (by simp))]
        obtain ⟨m0, m1, m2, ml⟩ := unhide HM
        rw [unhide HW2] at m0 m1 m2 ml
        exact ⟨rfl, ml, m0, m1, m2⟩
    · go_wp2_with fail
      rw [← unhide HW2]
      have HZ := hide z1
      clear z1
      go_region_with (first
          | (go_at_call 38; refine (unhide (CS _ _ _)).mono ?_; rintro e ws ⟨rfl, hws⟩; obtain rfl := hws.symm)
          | (go_at_call 37; refine (unhide CX).mono ?_; rintro e ws ⟨rfl, hws⟩; obtain rfl := hws.symm))
      all_goals
        go_wp2_with fail
        go_end0
        rw [show D = firstZ [d, subZ i3 off] from (unhide HX).trans (if_pos rfl)]
        exact ⟨rfl, next_end (unhide HM)⟩
end
end Go.Proofs.Ytabmjaioejacaaa
