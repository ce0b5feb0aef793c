import Derived.Test.YtihfldjoogaolaaQu6
import Derived.Test.YtihfldjoogaolaaRg
import Derived.Test.YtihfldjoogaolaaTc2
namespace Go.Proofs.Ytihfldjoogaolaa
open Go.RowKit Kt Qu
set_option linter.unusedVariables false

def tc (t : Tmr) : List Value := [.int .i64 t.id, .int .i64 t.clock, .int .i64 t.soft, .int .i64 t.hard, .bool t.lazy]
theorem tmInfo : (Try.prog.info? 28).map (fun i => (i.zero, i.size, i.bytes)) = some (some (.agg #[.int .i64 0, .int .i64 0, .int .i64 0, .int .i64 0, .bool false]), 5, 40) := by kernel_rfl
/-- Rows of timers. -/
def rtm : Rec Try.prog Tmr where
  e := 28
  ty := 26
  K := 5
  bytes := 40
  z := .agg #[.int .i64 0, .int .i64 0, .int .i64 0, .int .i64 0, .bool false]
  c := tc
  pos := by decide
  len := fun _ => rfl
  one := by
    intro x u hu
    simp only [tc, List.mem_cons, List.not_mem_nil, or_false] at hu
    rcases hu with rfl | rfl | rfl | rfl | rfl <;> rfl
  und := Try.underlying26
  info := rparts tmInfo
  hz := rfl
  hb := by decide
def slen : Value → Nat
  | .slice _ l _ => l
  | _ => 0
section
variable {w : World} {a : Qa} {n : Nat} {L : List QI}
theorem qall_nil (w : World) : Calls Try.prog 13 #[.pointer none] w fun e w' => ∃ v, e = .returned v ∧ Rg rtm w' w.heap.size v [] ∧ Below w.heap.size w w' := by
  go_enter Try.func13, Try.ntmps13
  go_wp2
  go_ret
  exact ⟨_, rfl, Rg.nil _ _, Below.refl _ _⟩
set_option maxRecDepth 100000 in
set_option maxHeartbeats 2000000 in
theorem qall_any (h : Que w a n L) : Calls Try.prog 13 #[.pointer (some ⟨a.q, 0, none⟩)] w fun e w' => ∃ v, e = .returned v ∧ Rg rtm w' w.heap.size v (L.map (·.tm)) ∧ Below w.heap.size w w' := by
  obtain ⟨C, hC⟩ : ∃ b, w.heap.size = b := ⟨_, rfl⟩
  obtain ⟨N, hN⟩ : ∃ N, L.length = N := ⟨_, rfl⟩
  have hN64 : N ≤ 64 := by rw [← hN]; exact h.len
  have CL := hide (qlen_any h)
  rw [hN] at CL
  obtain ⟨cs, hcs, hmk⟩ := rg_make rtm N (by omega)
  have hmk1 : (Instr.makeSlice 26 (.int .i64 0) (.int .i64 (N : Int))).run Try.prog w = .ok (.slice (some ⟨C, 0, none⟩) 0 N) (w.alloc (.cells cs 28)) := by rw [← hC]; exact hmk w
  have r1 : Rg rtm (w.alloc (.cells cs 28)) C (.slice (some ⟨C, 0, none⟩) 0 N) [] := by
    have := Rg.made (R := rtm) w cs N (Nat.le_refl _) (by omega) hcs
    rw [hC] at this
    exact this
  obtain ⟨W1, hW1⟩ : ∃ W1, W1 = w.alloc (.cells cs 28) := ⟨_, rfl⟩
  rw [← hW1] at r1 hmk1
  have b1 : Below C w W1 := by rw [hW1, ← hC]; exact one_below _ _
  have h1 := h.below (hC ▸ b1)
  have c0 := h.c0
  have c0' := h1.c0
  obtain ⟨tf, tr, htf⟩ := h1.tre
  have CF := hide (tfirst a.t a.g 64 tf _ W1 tr)
  obtain ⟨p, u, ok, ehd, -⟩ := hdV_cases (L.map QI.it)
  rw [ehd] at CF
  have HHD := hide ehd
  have H1 := hide (And.intro h (And.intro r1 b1))
  have HN := hide hN
  clear h r1 b1 h1 tr htf ehd hmk hW1 hN
  rw [hC]
  go_enter Try.func13, Try.ntmps13
  go_wp2_with (first | (go_at_call 15; refine (unhide CL).mono ?_; rintro e wl ⟨rfl, hwl⟩; obtain rfl := hwl.symm) | (go_at_call 22; refine Hid.out ?_))
  refine hide ?_
  refine (unhide CF).mono ?_
  rintro e w2 ⟨rfl, hb2⟩
  obtain ⟨h, r1, b1⟩ := unhide H1
  obtain ⟨B, hB⟩ : ∃ b, w2.heap.size = b := ⟨_, rfl⟩
  have hWB : W1.heap.size ≤ B := by rw [← hB]; exact hb2.size
  have r2 := (r1.below hb2).below (one_below w2 (.cells #[.int .i64 p, .int .i64 u] 51))
  have k2 := Blk.new_at w2 51 #[.int .i64 p, .int .i64 u] hB.symm
  have b2 : Below C w (w2.alloc (.cells #[.int .i64 p, .int .i64 u] 51)) := (b1.trans (hb2.mono (by have := b1.size; omega))).trans ((one_below _ _).mono (by have := b1.size; have := hb2.size; omega))
  have hnB : ∀ g, (Value.slice (some ⟨C, 0, none⟩) 0 N).ownBlock = some g → g ≠ B := fun g hg => by have := (r1.lt g hg).2; omega
  have H2 := hide (And.intro r2 (And.intro k2 (And.intro b2 hnB)))
  have HQ := hide h
  clear h r1 b1 r2 k2 b2 hb2 H1 CF CL hnB hmk1 c0 c0' hWB
  go_wp2_with fail
  go_loopw [3, 4, 5] (fun s3 s4 s5 w' => ∃ (A R : List QI) (B : Nat) (p u : Int) (ok : Bool), s4 = .pointer (some ⟨B, 0, none⟩) ∧ s5 = .bool ok ∧ Hid (L = A ++ R ∧ hdV (R.map QI.it) = .tuple #[.agg #[.int .i64 p, .int .i64 u], .bool ok] ∧ Rg rtm w' C s3 (A.map (·.tm)) ∧ Blk w' B 51 #[.int .i64 p, .int .i64 u] ∧ Below C w w' ∧ ∀ g, s3.ownBlock = some g → g ≠ B)) (fun s3 _ _ _ => N - slen s3)
  case atStart => exact ⟨[], L, B, p, u, ok, rfl, rfl, hide ⟨rfl, unhide HHD, (unhide H2).1, (unhide H2).2.1, (unhide H2).2.2.1, (unhide H2).2.2.2⟩⟩
  case round =>
    obtain ⟨A, R, B, p, u, ok, rfl, rfl, HJ⟩ := hrel
    obtain ⟨hl, ehd, row, kB, bl, hnB⟩ := unhide HJ
    obtain ⟨ra, rcap, hf, -⟩ := row.form
    rw [List.length_map] at hf
    subst hf
    cases R with
    | nil =>
      rw [List.append_nil] at hl
      have : ok = false := by
        have : hdV [] = .tuple #[.agg #[.int .i64 p, .int .i64 u], .bool ok] := ehd
        unfold hdV at this
        simp at this
        exact this.2
      subst this
      have HF := hide (And.intro hl (And.intro row bl))
      clear hl ehd row kB bl hnB HJ H2
      go_wp2_with fail
      go_ret
      obtain ⟨hl, row, bl⟩ := unhide HF
      exact ⟨_, rfl, by rw [hl]; exact row, bl⟩
    | cons y R =>
      obtain ⟨rfl, rfl, rfl⟩ : p = (y.n : Int) ∧ u = y.tu ∧ ok = true := by
        have : hdV ((y :: R).map QI.it) = .tuple #[.agg #[.int .i64 p, .int .i64 u], .bool ok] := ehd
        rw [show hdV ((y :: R).map QI.it) = .tuple #[.agg #[.int .i64 y.n, .int .i64 y.tu], .bool true] from rfl] at this
        simp at this
        exact ⟨this.1.1.symm, this.1.2.symm, this.2⟩
      have hle : A.length + R.length + 1 = N := by rw [← unhide HN, hl]; simp only [List.length_append, List.length_cons]; omega
      have h := unhide HQ
      have hr : Que wr a n L := h.below (hC ▸ bl)
      have hyL : y ∈ L := by rw [hl]; simp
      have lk : ∀ w', Below wr.heap.size wr w' → (Instr.lookup 47 (.map (some a.mt)) (.agg #[.int .i64 y.n, .int .i64 y.tu]) false).run Try.prog w' = .ok (tv y.tm) w' := fun w' hb => by
        exact (hr.below hb).mt.look_some keyedH Try.underlying47 (zeroT w') (y.n, y.tu) (hr.keyOf hyL) (tF_mem hr.nd hyL) false
      obtain ⟨⟨i1, i2, i3, i4, i5⟩, htm⟩ : ∃ t, y.tm = t := ⟨_, rfl⟩
      rw [htm] at lk
      unfold tv at lk
      simp only at lk
      have bd : Below wr.heap.size wr wr.drew := below_drew (Below.refl _ _)
      have l0 := lk _ bd
      have c2 : wr.drew.cell? ⟨a.q, 2, none⟩ = some (.map (some a.mt)) := (hr.below bd).c2
      have q0 : wr.drew.cell? ⟨B, 0, none⟩ = some (.int .i64 y.n) := kB.cell 0
      have q1 : wr.drew.cell? ⟨B, 1, none⟩ = some (.int .i64 y.tu) := kB.cell 1
      obtain ⟨D, hD⟩ : ∃ D, wr.heap.size = D := ⟨_, rfl⟩
      have hCD : C ≤ D := by rw [← hD, ← hC]; exact bl.size
      have blD : ∀ o, Below C w (wr.alloc o).drew := fun o => below_drew (bl.alloc (by omega) o)
      have rowD : ∀ o, Rg rtm (wr.alloc o).drew C (.slice ra A.length rcap) (A.map (·.tm)) := fun o => row.below (below_drew (one_below wr o))
      have kBD : ∀ o, Blk (wr.alloc o).drew B 51 #[.int .i64 y.n, .int .i64 y.tu] := fun o => kB.below (below_drew (one_below wr o)) kB.lt
      have HK := hide (And.intro hl (And.intro rowD (And.intro kBD (And.intro blD hnB))))
      have HBX := hide (fun cs => show Blk (wr.alloc (.cells cs 28)).drew D 28 cs from Blk.new_at wr _ _ hD.symm)
      have hD2 : wr.drew.heap.size = D := hD
      obtain ⟨WD, hWD⟩ : ∃ WD, WD = wr.drew := ⟨_, rfl⟩
      have HWD := hide hWD
      have HTM := hide htm
      have HYL := hide hyL
      clear hl ehd row kB bl hnB h hr lk bd rowD kBD blD HJ H2 hWD htm hyL
      have hC1 := hCD
      generalize hyn : y.n = yn at *
      generalize hyu : y.tu = yu at *
      go_wp2_with fail
      go_region_law (first
        | (refine rstep_own rtm rfl _ _ rfl hC (.slice ra A.length rcap) (A.map (·.tm)) rfl ((unhide HK).2.1 _) [⟨i1, i2, i3, i4, i5⟩] (rnews_box rtm (unhide HBX _) rfl) (by simp; omega) ((unhide HK).2.2.2.1 _) ?_; intro v1 w1 o1 S1 K1; have hb1 := K1 _ _ _ ((unhide HK).2.2.1 _) (fun e => (unhide HK).2.2.2.2 _ e.symm rfl)))
      all_goals
        obtain ⟨hl, -, -, -, -⟩ := unhide HK
        obtain ⟨ra2, rcap2, hf2, -⟩ := o1.form
        have hlen1 : (A.map (·.tm) ++ [(⟨i1, i2, i3, i4, i5⟩ : Tmr)]).length = A.length + 1 := by simp
        rw [hlen1] at hf2
        subst hf2
        have hCB4 : C ≤ w1.heap.size := by have := S1.size; omega
        have hrow1 : ∀ g, (Value.slice ra2 (A.length + 1) rcap2).ownBlock = some g → g < w1.heap.size := fun g hg => (o1.lt g hg).2
        obtain ⟨B4, hB4⟩ : ∃ b, w1.heap.size = b := ⟨_, rfl⟩
        have d0 := hb1.cell 0
        have d1 := hb1.cell 1
        simp only [List.getElem?_toArray, List.getElem?_cons_zero, List.getElem?_cons_succ] at d0 d1
        obtain ⟨W4, hW4⟩ : ∃ W4, W4 = w1.alloc (.cells #[.int .i64 yn, .int .i64 yu] 51) := ⟨_, rfl⟩
        have b4 : Below w1.heap.size w1 W4 := by rw [hW4]; exact one_below _ _
        have k4 : Blk W4 B4 51 #[.int .i64 yn, .int .i64 yu] := by rw [hW4]; exact Blk.new_at _ _ _ hB4.symm
        have S4 : Below C w W4 := S1.trans (b4.mono (by have := S1.size; omega))
        have r4 := o1.below b4
        have h4 : Que W4 a n L := (unhide HQ).below (hC ▸ S4)
        have e0 : W4.drew.cell? ⟨a.q, 0, none⟩ = some (.pointer (some ⟨a.t, 0, none⟩)) := h4.c0
        have e1 : W4.drew.cell? ⟨B4, 0, none⟩ = some (.int .i64 yn) := k4.cell 0
        have e2 : W4.drew.cell? ⟨B4, 1, none⟩ = some (.int .i64 yu) := k4.cell 1
        obtain ⟨p2, u2, ok2, ehd2, -⟩ := hdV_cases (R.map QI.it)
        have CX := hide (show Calls Try.prog 23 #[.pointer (some ⟨a.t, 0, none⟩), .agg #[.int .i64 yn, .int .i64 yu]] W4.drew fun e w' => e = .returned (.tuple #[.agg #[.int .i64 p2, .int .i64 u2], .bool ok2]) ∧ Below W4.drew.heap.size W4.drew w' from by
          obtain ⟨tf4, tr4, -⟩ := h4.tre
          rw [hl, List.map_append, List.map_cons] at tr4
          have := tnext a.t a.g 64 tf4 (A.map QI.it) (R.map QI.it) (QI.it y) W4.drew (tr4.ft ((Ft.refl (fun _ => False) W4).drew) id id)
          rw [ehd2, show (QI.it y).n = yn from hyn, show (QI.it y).tu = yu from hyu] at this
          exact this)
        have H4 := hide (And.intro r4 (And.intro k4 (And.intro S4 (And.intro hl (And.intro ehd2 hrow1)))))
        have HW4 := hide hW4
        have zz0 := hkHeld (W := W4.drew) k4 0 (.int .i64 yn) rfl
        have zz1 := hkHeld (W := W4.drew) k4 1 (.int .i64 yu) rfl
        have zf0 := hkFree (W := W4.drew) k4 0
        have zf1 := hkFree (W := W4.drew) k4 1
        clear b4 k4 S4 r4 h4 ehd2 hW4 hl o1 S1 K1 hb1 hrow1 HK HBX l0 c2 q0 q1 hlen1
        go_wp2_with fail
        rw [← unhide HW4]
        go_region_with (go_at_call 23; refine (unhide CX).mono ?_; rintro e w5 ⟨rfl, hb5⟩; have y0 := zz0 w5 hb5; have y1 := zz1 w5 hb5; have y2 := zf0 w5 hb5; have y3 := zf1 w5 hb5)
        all_goals go_wp2_with fail
        all_goals (try simp only [Act.put, List.setIfInBounds_toArray, List.set_cons_zero, List.set_cons_succ, List.getElem_toArray, List.getElem_cons_succ, List.getElem_cons_zero])
        all_goals
          go_roundw
          case rel =>
            obtain ⟨r4, k4, S4, hl, ehd2, hrow1⟩ := unhide H4
            have bd4 : Below W4.heap.size W4 W4.drew := below_drew (Below.refl _ _)
            have hB4l := k4.lt
            have b5 : Below W4.heap.size W4 w5 := bd4.trans hb5
            have k5 := k4.below b5 k4.lt
            refine ⟨A ++ [y], R, B4, p2, u2, ok2, rfl, rfl, hide ⟨by rw [hl]; simp, ehd2, ?_, (k5.put 0 _).put 1 _, ?_, fun g hg => by have := hrow1 g hg; omega⟩⟩
            · rw [List.map_append, List.map_cons, List.map_nil, unhide HTM]
              refine Rg.keep (r4.below b5) fun g hg => ?_
              have hne : g ≠ B4 := by have := hrow1 g hg; omega
              rw [Below.heap_setCell _ _ _ _ (by exact hne), Below.heap_setCell _ _ _ _ (by exact hne)]
            · have hCB : C ≤ B4 := by rw [← hB4]; exact hCB4
              exact below_set2 (S4.trans (b5.mono (by omega))) hCB _ _
          case measure =>
            show N - (A.length + 1) < N - A.length; omega
end
end Go.Proofs.Ytihfldjoogaolaa
