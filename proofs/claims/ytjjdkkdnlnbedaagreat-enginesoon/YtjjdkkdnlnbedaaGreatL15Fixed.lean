/- The law's fixed. -/
import Derived.Test.YtjjdkkdnlnbedaaGreatEn15
namespace Go.Proofs.YtjjdkkdnlnbedaaGreat
open Go.RowKit Kt Qu
set_option linter.unusedVariables false

theorem okT_small {a b c d : Int} {e : Bool} (ha : -9223372036854775808 ≤ a ∧ a ≤ 9223372036854775807) (hb : -9223372036854775808 ≤ b ∧ b ≤ 9223372036854775807) (hc : -9223372036854775808 ≤ c ∧ c ≤ 9223372036854775807) (hd : -9223372036854775808 ≤ d ∧ d ≤ 9223372036854775807) : okT ⟨a, b, c, d, e⟩ :=
  ⟨isI_of ha.1 ha.2, isI_of hb.1 hb.2, isI_of hc.1 hc.2, isI_of hd.1 hd.2⟩
def fxT : Tmr := ⟨7, 0, 10, 12, false⟩
def fx0 : En := enNew 2 1 1000
def fs1 : Stp := ⟨1, 0, 0, fxT⟩
def fs2 : Stp := ⟨3, 0, 10, t0⟩
def fs3 : Stp := ⟨4, 0, 0, t0⟩
def fs4 : Stp := ⟨99, 0, 0, t0⟩
def fs5 : Stp := ⟨10, 1, 0, t0⟩
def fs6 : Stp := ⟨10, 0, 0, t0⟩
def fx1 : En := (fx0.step fs1).2.2
def fx2 : En := (fx1.step fs2).2.2
def fx3 : En := (fx2.step fs3).2.2
def fx4 : En := (fx3.step fs4).2.2
def fx5 : En := (fx4.step fs5).2.2
def fx6 : En := (fx5.step fs6).2.2
theorem fa1 : (fx0.step fs1).2.1 = 0 := by decide +kernel
theorem fa1b : (fx1.cp 0).arm = some 10 := by decide +kernel
theorem fa3 : (fx2.step fs3).2.1 = 0 := by decide +kernel
theorem fa3b : (fx2.step fs3).1 = [⟨7, 0, 0, 10, 10⟩] := by rfl
theorem fa4 : (fx3.step fs4).2.1 = 1 := by decide +kernel
theorem fa5 : (fx4.step fs5).2.1 = 0 := by decide +kernel
theorem fa6 : (fx5.step fs6).2.1 = 8 := by decide +kernel
theorem fa7 : fx6.len = 0 := by decide +kernel
theorem evnew (n : Nat) (le gr : Int) (C : Nat) (w0 w : World) (hb : Below C w0 w) (hC : C ≤ w.heap.size) (h1 : 1 ≤ n) (h2 : n ≤ 16) (h3 : 0 ≤ le) (h4 : le ≤ gr) (h5 : 1 ≤ gr) (h6 : gr ≤ 1099511627776) :
    Calls Tryz.prog 9 #[.int .i64 (n : Int), .int .i64 le, .int .i64 gr] w fun r w' => ∃ g l, r = .returned (.pointer (some ⟨g, 0, none⟩)) ∧ Ev C w0 w' g l (enNew n le gr) 0 0 ∧ Below w.heap.size w w' ∧ ∀ k, efoot l k → w.heap.size ≤ k := by
  refine (new_ok n le gr w h1 h2 h3 h4 h5 h6).mono ?_
  rintro r w2 ⟨l, rfl, hE, hm, hb2, hf⟩
  exact ⟨l.g, l, rfl, ⟨hE, enNew_ok le gr h1 h2, hb.trans (hb2.mono hC), Nat.le_trans hC hb2.size, fun k hk => Nat.le_trans hC (hf k hk), by rw [hm]; omega, by show (0 : Int) ≤ 0; omega, rfl⟩, hb2, hf⟩
theorem len_nil15b (w : World) : Calls Tryz.prog 19 #[.pointer none] w fun r w' => r = .returned (.int .i64 0) ∧ Below w.heap.size w w' := len_nil15 w
set_option maxRecDepth 100000 in
set_option maxHeartbeats 4000000 in
theorem lfixed15_any (w : World) : Calls Tryz.prog 8 #[] w fun r w' => r = .returned (.bool true) ∧ Below w.heap.size w w' := by
  have CN := hide (evnew 2 1 1000 w.heap.size w w (Below.refl _ _) (Nat.le_refl _) (by decide) (by decide) (by decide) (by decide) (by decide) (by decide))
  have z0 : isI 0 := isI_of (by decide) (by decide)
  have z10 : isI 10 := isI_of (by decide) (by decide)
  have k0 : okT t0 := okT_small ⟨by decide, by decide⟩ ⟨by decide, by decide⟩ ⟨by decide, by decide⟩ ⟨by decide, by decide⟩
  have k1 : okT fxT := okT_small ⟨by decide, by decide⟩ ⟨by decide, by decide⟩ ⟨by decide, by decide⟩ ⟨by decide, by decide⟩
  obtain ⟨E0, hE0⟩ : ∃ E0, E0 = fx0 := ⟨_, rfl⟩
  rw [show enNew 2 1 1000 = fx0 from rfl] at CN
  have C1 := hide (fun g l w1 (h : Ev w.heap.size w w1 g l fx0 0 0) => evdo h fs1 z0 k1 (by decide) (by decide))
  have CA := hide (fun g l w1 (h : Ev w.heap.size w w1 g l fx1 1 1) => by
    have := armed_any15 h.es (i := 0) (by decide)
    rw [h.g, fa1b] at this
    exact this)
  have C2 := hide (fun g l w1 (h : Ev w.heap.size w w1 g l fx1 1 1) => evdo h fs2 z10 k0 (by decide) (by decide))
  have C3 := hide (fun g l w1 (h : Ev w.heap.size w w1 g l fx2 2 2) => evdo h fs3 z0 k0 (by decide) (by decide))
  have C4 := hide (fun g l w1 (h : Ev w.heap.size w w1 g l fx3 3 3) => evdo h fs4 z0 k0 (by decide) (by decide))
  have C5 := hide (fun g l w1 (h : Ev w.heap.size w w1 g l fx4 4 4) => evdo h fs5 z0 k0 (by decide) (by decide))
  have C6 := hide (fun g l w1 (h : Ev w.heap.size w w1 g l fx5 5 5) => evdo h fs6 z0 k0 (by decide) (by decide))
  have CL := hide (fun g l w1 (h : Ev w.heap.size w w1 g l fx6 6 6) => by
    have := len_any15 h.es
    rw [h.g, fa7] at this
    exact this)
  rw [fa1] at C1
  rw [fa3, fa3b] at C3
  rw [fa4] at C4
  rw [fa5] at C5
  rw [fa6] at C6
  rw [show (fx0.step fs1).2.2 = fx1 from rfl] at C1
  rw [show (fx1.step fs2).2.2 = fx2 from rfl] at C2
  rw [show (fx2.step fs3).2.2 = fx3 from rfl] at C3
  rw [show (fx3.step fs4).2.2 = fx4 from rfl] at C4
  rw [show (fx4.step fs5).2.2 = fx5 from rfl] at C5
  rw [show (fx5.step fs6).2.2 = fx6 from rfl] at C6
  have CD0 := fun w' => hide (do_nil ⟨1, 0, 0, t0⟩ w')
  have CB := fun w' => hide (new_bad1 0 1 2 w' (.inl (by decide)))
  have CLN := fun w' => hide (len_nil15b w')
  simp only [stv, stc, fs1, fs2, fs3, fs4, fs5, fs6, fxT, t0] at C1 C2 C3 C4 C5 C6 CD0
  generalize fx0.step _ = S1 at *
  generalize fx1.step _ = S2 at *
  generalize fx2.step _ = S3 at *
  generalize fx3.step _ = S4 at *
  generalize fx4.step _ = S5 at *
  generalize fx5.step _ = S6 at *
  generalize fx1 = E1 at *
  generalize fx2 = E2 at *
  generalize fx3 = E3 at *
  generalize fx4 = E4 at *
  generalize fx5 = E5 at *
  generalize fx6 = E6 at *
  go_enter Tryz.func8, Tryz.ntmps8
  go_wp2_with (go_at_call 9; refine Hid.out ?_)
  refine hide ?_
  refine (unhide CN).mono ?_
  rintro r w1 ⟨g, l1, rfl, h1, -, -⟩
  have CC1 := hide (unhide C1 g l1 w1 h1)
  clear h1 C1 CN
  go_wp2_with (go_at_call 14; refine Hid.out ?_)
  refine hide ?_
  refine (unhide CC1).mono ?_
  rintro r w2 ⟨v1, l2, rfl, row1, h1, f1, -, ho1⟩
  obtain ⟨a1, cap1, hf1, -⟩ := row1.form
  generalize S1.1.length = n1 at *
  subst hf1
  have CC2 := hide (unhide CA g l2 w2 h1)
  have H1 := hide h1
  clear row1 h1 f1 ho1 CC1 CA
  go_wp2_with (go_at_call 22; refine (unhide CC2).mono ?_; rintro r w3 ⟨rfl, hb3⟩; have HB3 := hide hb3; clear hb3)
  have h1b := (unhide H1).below (unhide HB3)
  have CC3 := hide (unhide C2 g l2 w3 h1b)
  clear h1b CC2 C2
  go_wp2_with (go_at_call 14; refine Hid.out ?_)
  refine hide ?_
  refine (unhide CC3).mono ?_
  rintro r w4 ⟨v2, l4, rfl, row2, h2, f2, -, ho2⟩
  obtain ⟨a2, cap2, hf2, -⟩ := row2.form
  generalize S2.1.length = n2 at *
  subst hf2
  have CC4 := hide (unhide C3 g l4 w4 h2)
  clear row2 h2 f2 ho2 CC3 C3
  go_wp2_with (go_at_call 14; refine Hid.out ?_)
  refine hide ?_
  refine (unhide CC4).mono ?_
  rintro r w5 ⟨v3, l5, rfl, row3, h3, f3, -, ho3⟩
  obtain ⟨a3, cap3, hf3, -⟩ := row3.form
  subst hf3
  have CC5 := hide (unhide C4 g l5 w5 h3)
  have HR3 := hide (And.intro row3 ho3)
  clear row3 h3 f3 ho3 CC4 C4
  go_wp2_with (go_at_call 14; refine Hid.out ?_)
  refine hide ?_
  refine (unhide CC5).mono ?_
  rintro r w6 ⟨v4, l6, rfl, row4, h4, f4, hx4, ho4⟩
  obtain ⟨a4, cap4, hf4, -⟩ := row4.form
  generalize S4.1.length = n4 at *
  subst hf4
  have CC6 := hide (unhide C5 g l6 w6 h4)
  have HF4 := hide (And.intro f4 hx4)
  clear hx4
  clear row4 h4 f4 ho4 CC5 C5
  go_wp2_with (go_at_call 14; refine Hid.out ?_)
  refine hide ?_
  refine (unhide CC6).mono ?_
  rintro r w7 ⟨v5, l7, rfl, row5, h5, f5, hx5, ho5⟩
  obtain ⟨a5, cap5, hf5, -⟩ := row5.form
  generalize S5.1.length = n5 at *
  subst hf5
  have CC7 := hide (unhide C6 g l7 w7 h5)
  have HF5 := hide (And.intro f5 hx5)
  clear row5 h5 f5 ho5 CC6 C6 hx5
  go_wp2_with (go_at_call 14; refine Hid.out ?_)
  refine hide ?_
  refine (unhide CC7).mono ?_
  rintro r w8 ⟨v6, l8, rfl, row6, h6, f6, -, ho6⟩
  obtain ⟨a6, cap6, hf6, -⟩ := row6.form
  generalize S6.1.length = n6 at *
  subst hf6
  have row8 : Rg rfd w8 w4.heap.size (.slice a3 [(⟨7, 0, 0, 10, 10⟩ : Frd)].length cap3) [⟨7, 0, 0, 10, 10⟩] := by
    obtain ⟨r3, o3⟩ := unhide HR3
    have n5 : ∀ x, (Value.slice a3 [(⟨7, 0, 0, 10, 10⟩ : Frd)].length cap3).ownBlock = some x → ¬ efoot l6 x := fun x hx hk => by
      rcases (unhide HF4).2 x hk with q | q
      · exact o3 x hx q
      · have := (r3.lt x hx).2; omega
    have r4 := r3.ft (unhide HF4).1 o3
    have n6 : ∀ x, (Value.slice a3 [(⟨7, 0, 0, 10, 10⟩ : Frd)].length cap3).ownBlock = some x → ¬ efoot l7 x := fun x hx hk => by
      rcases (unhide HF5).2 x hk with q | q
      · exact n5 x hx q
      · have := (r4.lt x hx).2; omega
    exact ((r4.ft (unhide HF5).1 n5)).ft f6 n6
  obtain ⟨a9, cap9, hf9, -, -, hc9⟩ := row8.form
  obtain ⟨g9, hg9, hcell9⟩ := hc9 0 _ rfl
  cases hf9
  subst hg9
  have x0 : w8.cell? ⟨g9, 0, none⟩ = some (.int .i64 7) := hcell9 0 _ rfl
  have x1 : w8.cell? ⟨g9, 1, none⟩ = some (.int .i64 0) := hcell9 1 _ rfl
  have x2 : w8.cell? ⟨g9, 2, none⟩ = some (.int .i64 0) := hcell9 2 _ rfl
  have x3 : w8.cell? ⟨g9, 3, none⟩ = some (.int .i64 10) := hcell9 3 _ rfl
  have x4 : w8.cell? ⟨g9, 4, none⟩ = some (.int .i64 10) := hcell9 4 _ rfl
  have H6 := hide h6
  clear row6 h6 f6 ho6 CC7 hc9 hcell9 row8 HR3 HF4 HF5
  go_wp2_with (go_at_call 14; refine (unhide (CD0 _)).mono ?_; rintro r w9 ⟨rfl, hb9⟩; have HB9 := hide hb9; have y0 := heldK x0 w9 hb9; have y1 := heldK x1 w9 hb9; have y2 := heldK x2 w9 hb9; have y3 := heldK x3 w9 hb9; have y4 := heldK x4 w9 hb9; clear hb9)
  go_wp2_with (first | (go_at_call 9; refine (unhide (CB _)).mono ?_; rintro r w10 ⟨rfl, rfl⟩) | (go_at_call 19; refine Hid.out ?_))
  refine hide ?_
  refine (unhide (CLN _)).mono ?_
  rintro r w11 ⟨rfl, hb11⟩
  have hb8 := (unhide HB9).trans (hb11.mono (unhide HB9).size)
  have CC9 := hide (unhide CL g l8 w11 ((unhide H6).below hb8))
  have HB11 := hide hb8
  clear hb11 hb8 CL
  go_wp2_with (go_at_call 19; refine (unhide CC9).mono ?_; rintro r w12 ⟨rfl, hb12⟩; have HB12 := hide hb12; clear hb12)
  go_ret
  have h := (unhide H6).below (unhide HB11)
  exact ⟨rfl, h.low.trans ((unhide HB12).mono h.cs)⟩
end Go.Proofs.YtjjdkkdnlnbedaaGreat
