import Derived.Test.YtabmjaioejacaaaBv
namespace Go.Proofs.Ytabmjaioejacaaa
open Go.RowKit Kt Qu
set_option linter.unusedVariables false

def fa : Tmr := ⟨1, 1, 105, 110, false⟩
def fb : Tmr := ⟨2, 0, 7, 7, true⟩
def fc : Tmr := ⟨0, 3, 0, 0, false⟩
def R0 : Rows6 := fun _ => []
def R1 : Rows6 := startR R0 fa
def R2 : Rows6 := startR R1 fb
def R3 : Rows6 := expR R2 (tri 9 200 9) false 6
def R4 : Rows6 := setT R3 1 []
set_option maxRecDepth 20000 in
set_option maxHeartbeats 1000000 in
theorem fixed14 (w : World) : Calls Try.prog 5 #[] w fun e w' => e = .returned (.bool true) ∧ Below w.heap.size w w' := by
  obtain ⟨C, hC⟩ : ∃ C, w.heap.size = C := ⟨_, rfl⟩
  have CN := hide (bnew w)
  have k1 : okT fa := okT_small (by decide) (by decide) (by decide) (by decide)
  have k2 : okT fb := okT_small (by decide) (by decide) (by decide) (by decide)
  have k3 : okT fc := okT_small (by decide) (by decide) (by decide) (by decide)
  have HK := hide (And.intro k1 (And.intro k2 k3))
  clear k1 k2 k3
  rw [hC]
  go_enter Try.func5, Try.ntmps5
  go_wp2_with (go_at_call 6; refine Hid.out ?_)
  refine hide ?_
  refine (unhide CN).mono ?_
  rintro e w1 ⟨b, rfl, q1, b1, f1⟩
  have H1 := hide (Bv.new (C := C) (hC ▸ Below.refl w.heap.size w) (by omega) q1 b1 f1)
  clear q1 b1 f1 CN
  go_wp2_with (go_at_call 8; refine Hid.out ?_)
  refine hide ?_
  have C1 := bstart (unhide H1).bs (by omega) fa (unhide HK).1
  rw [show startE (fun _ => []) fa = 0 by decide] at C1
  refine C1.mono ?_
  rintro e w2 ⟨rfl, P1, q2, f2, n2⟩
  have H2 : Hid (Bv C w w2 b 1 P1 R1) := hide ((unhide H1).step q2 f2 n2)
  clear q2 f2 n2 C1 H1
  go_wp2_with (go_at_call 8; refine Hid.out ?_)
  refine hide ?_
  have C1 := bstart (unhide H2).bs (by omega) fb (unhide HK).2.1
  rw [show startE R1 fb = 0 by decide] at C1
  refine C1.mono ?_
  rintro e w3 ⟨rfl, P2, q2, f2, n2⟩
  have H3 : Hid (Bv C w w3 b 2 P2 R2) := hide ((unhide H2).step q2 f2 n2)
  clear q2 f2 n2 C1 H2
  obtain ⟨g, hg⟩ : ∃ g, w3.heap.size = g := ⟨_, rfl⟩
  obtain ⟨W4, hW4⟩ : ∃ W4, W4 = w3.alloc (.cells #[.int .i64 0, .int .i64 100, .int .i64 0] 23) := ⟨_, rfl⟩
  have b4 : Below w3.heap.size w3 W4 := by rw [hW4]; exact one_below _ _
  have k4 : Blk W4 g 23 #[.int .i64 0, .int .i64 100, .int .i64 0] := by rw [hW4]; exact Blk.new_at _ _ _ hg.symm
  have hgC : ¬ bfoot b P2 g := fun hk => by have := (unhide H3).bs.lts g hk; omega
  have H4 := hide (And.intro ((unhide H3).below b4) (And.intro k4 hgC))
  have CX := hide (fun w' (hb : Below W4.heap.size W4 w') => (show nxF R2 (tri 0 100 0) false 6 = 5 by decide) ▸ bnext (((unhide H4).1.below hb).bs) 0 100 0 false)
  have CY := hide (fun w' (hb : Below W4.heap.size W4 w') => (show nxF R2 (tri 0 90 0) true 6 = 7 by decide) ▸ bnext (((unhide H4).1.below hb).bs) 0 90 0 true)
  have CD := hide (fun w' (hb : Below W4.heap.size W4 w') => (show duF R2 (tri 9 9 9) true 6 = true by decide) ▸ bdue (((unhide H4).1.below hb).bs) 9 9 9 true)
  have CE := hide (fun w' (hb : Below W4.heap.size W4 w') => (show expL R2 (tri 9 200 9) false 6 = [fa] from rfl) ▸ bexp (((unhide H4).1.below hb).bs) 9 200 9 false)
  have z0 := blkAt k4 0 (.int .i64 0) rfl
  have z1 := blkAt k4 1 (.int .i64 100) rfl
  have z2 := blkAt k4 2 (.int .i64 0) rfl
  rw [hW4] at z0 z1 z2
  have HW4 := hide hW4
  clear b4 k4 hgC hW4 H3
  go_wp2_with (go_at_call 17; refine Hid.out ?_)
  refine hide ?_
  rw [← unhide HW4]
  refine (unhide CX _ (Below.refl _ _)).mono ?_
  rintro e w5 ⟨rfl, b5⟩
  have HB5 := hide b5
  go_wp2_with (go_at_call 17; refine Hid.out ?_)
  refine hide ?_
  refine (unhide CY _ b5).mono ?_
  rintro e w6 ⟨rfl, b6⟩
  have b6' := b5.trans (b6.mono b5.size)
  go_wp2_with (go_at_call 11; refine Hid.out ?_)
  refine hide ?_
  refine (unhide CD _ b6').mono ?_
  rintro e w7 ⟨rfl, b7⟩
  have b7' := b6'.trans (b7.mono b6'.size)
  clear b5 b6 b6' b7
  go_wp2_with (go_at_call 12; refine Hid.out ?_)
  refine hide ?_
  refine (unhide CE _ b7').mono ?_
  rintro e w8 ⟨v, rfl, row, q8, f8⟩
  have v7 := (unhide H4).1.below b7'
  have v8 : Bv C w w8 b 2 P2 R3 := v7.step0 q8 f8
  have k8 := ((unhide H4).2.1.below b7' (unhide H4).2.1.lt).ft f8 (unhide H4).2.2
  obtain ⟨ra, rcap, hform, -, -, hcell⟩ := row.form
  obtain ⟨g8, hra, hc8⟩ := hcell 0 fa rfl
  subst hform
  subst hra
  have hg8 : ¬ bfoot b P2 g8 := fun hk => by
    have h1 := v7.bs.lts g8 hk
    have h2 := (row.lt g8 rfl).1
    omega
  have c8 : w8.cell? ⟨g8, 0, none⟩ = some (.int .i64 1) := hc8 0 (.int .i64 1) rfl
  have H8 := hide (And.intro v8 (And.intro k8 (And.intro hg8 c8)))
  have CQ := hide (bcancel_ok v8.bs (i := 1) (by omega) (X := []) (Y := []) (t := fb) rfl)
  rw [show tv fb = .agg #[.int .i64 2, .int .i64 0, .int .i64 7, .int .i64 7, .bool true] from rfl, show fb.id = 2 from rfl] at CQ
  clear row q8 f8 v7 v8 k8 b7' hcell hc8 hg8 c8 HB5 CX CY CD CE z0 z1 z2 HW4
  go_wp2_with (go_at_call 9; refine Hid.out ?_)
  refine hide ?_
  refine (unhide CQ).mono ?_
  rintro e w9 ⟨rfl, q9, f9⟩
  have v9 : Bv C w w9 b 2 P2 R4 := (unhide H8).1.step0 q9 f9
  have k9 := (unhide H8).2.1.ft f9 (unhide H4).2.2
  have c9 : w9.cell? ⟨g8, 0, none⟩ = some (.int .i64 1) := f9.cell (unhide H8).2.2.2 (unhide H8).2.2.1
  obtain ⟨W10, hW10⟩ : ∃ W10, W10 = w9.alloc (.cells #[.int .i64 2, .int .i64 0, .int .i64 7, .int .i64 7, .bool true] 29) := ⟨_, rfl⟩
  have b10 : Below w9.heap.size w9 W10 := by rw [hW10]; exact one_below _ _
  have v10 := v9.below b10
  have k10 := k9.below b10 k9.lt
  have c10 := cellB b10 c9
  have H10 := hide (And.intro v10 k10)
  have CL := hide (blen v10.bs)
  rw [show ((allT R4).length : Int) = 0 from rfl] at CL
  have HW10 := hide hW10
  have HF := hide (unhide H4).2.2
  rw [hW10] at c10
  clear q9 f9 v9 k9 c9 b10 v10 k10 hW10 CQ H8 H4
  go_wp2_with (go_at_call 14; refine Hid.out ?_)
  refine hide ?_
  rw [← unhide HW10]
  refine (unhide CL).mono ?_
  rintro e w11 ⟨rfl, b11⟩
  have v11 := (unhide H10).1.below b11
  have k11 := (unhide H10).2.below b11 (unhide H10).2.lt
  have CS := hide (bstart v11.bs (by omega) fc (unhide HK).2.2)
  rw [show startE R4 fc = 2 by decide, show tv fc = .agg #[.int .i64 0, .int .i64 3, .int .i64 0, .int .i64 0, .bool false] from rfl] at CS
  have H11 := hide (And.intro v11 k11)
  clear v11 k11 b11 H10 CL HW10
  go_wp2_with (go_at_call 8; refine Hid.out ?_)
  refine hide ?_
  refine (unhide CS).mono ?_
  rintro e w12 ⟨rfl, P12, q12, f12, n12⟩
  have v12 := (unhide H11).1.step q12 f12 n12
  have k12 := (unhide H11).2.ft f12 (unhide HF)
  have H12 := hide (And.intro v12.low v12.cs)
  have CZ := hide (start_nil w12 ⟨0, 0, 0, 0, false⟩)
  simp only [tv] at CZ
  have zz0 := hkHeld k12 0 (.int .i64 0) rfl
  have zz1 := hkHeld k12 1 (.int .i64 100) rfl
  have zz2 := hkHeld k12 2 (.int .i64 0) rfl
  clear q12 f12 n12 v12 k12 H11 CS
  go_wp2_with (first
    | (go_at_call 8; refine (unhide CZ).mono ?_; rintro e w13 ⟨rfl, b13⟩; have y0 := zz0 _ b13; have y1 := zz1 _ b13; have y2 := zz2 _ b13)
    | (go_at_call 17; refine (next_nil _ 0 100 0 true).mono ?_; rintro e w14 ⟨rfl, b14⟩)
    | (go_at_call 15; refine (has_nil _ 1).mono ?_; rintro e w15 ⟨rfl, b15⟩))
  go_ret
  obtain ⟨h1, h2⟩ := unhide H12
  have s13 := b13.size
  have s14 := b14.size
  exact ⟨rfl, ((h1.trans (b13.mono h2)).trans (b14.mono (by omega))).trans (b15.mono (by omega))⟩
end Go.Proofs.Ytabmjaioejacaaa
