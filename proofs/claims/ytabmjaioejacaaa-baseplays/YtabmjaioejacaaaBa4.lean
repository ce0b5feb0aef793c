/- A base's All. -/
import Derived.Test.YtabmjaioejacaaaBa3
import Derived.Test.YtabmjaioejacaaaRgStep
namespace Go.Proofs.Ytabmjaioejacaaa
open Go.RowKit Kt Qu
set_option linter.unusedVariables false

section
variable {w w' : World} {b n : Nat} {P : Nat → Option Qa} {R : Rows6}
set_option maxRecDepth 20000 in
set_option maxHeartbeats 1000000 in
theorem allclo (o : Option Qa) (m : Nat) (l : List Tmr) (w0 w : World) (C B : Nat) (hq : Qo w o m l) (v : Value) (L : List Tmr) (x y : Value) (k0 : Blk w B 27 #[v]) (row : Rg rtm w (B + 1) v L) (hlow : Below C w0 w) (hC : C ≤ B) (hL : L.length ≤ 1000) :
    Calls Try.prog 30 #[x, y, pv o, .pointer (some ⟨B, 0, none⟩)] w fun e w' => e = .returned (.tuple #[]) ∧ ∃ v', Below C w0 w' ∧ Blk w' B 27 #[v'] ∧ Rg rtm w' (B + 1) v' (L ++ l) := by
  have hl := hq.len
  have CA := hide (oall (hq.ft ((Ft.refl (fun _ => False) w).drew) (fun _ _ => id)))
  have c0 : w.drew.cell? ⟨B, 0, none⟩ = some v := blkAt k0 0 v rfl
  have f1 : w.drew.frozen? ⟨B, 0, none⟩ = false := k0.free 0
  have hlt := k0.lt
  have H := hide (And.intro k0 (And.intro row hlow))
  have HH := hide (And.intro (hkHeld (W := w.drew) k0 0 v rfl) (hkFree (W := w.drew) k0 0))
  have kd : Blk w.drew B 27 #[v] := k0
  have rd : Rg rtm w.drew (B + 1) v L := row
  have hltd : B + 1 ≤ w.drew.heap.size := hlt
  have HD := hide (And.intro kd rd)
  have HV : ∀ g, v.ownBlock = some g → B + 1 ≤ g := fun g hg => (row.lt g hg).1
  have HV2 := hide HV
  obtain ⟨V, hV⟩ : ∃ V, pv o = V := ⟨_, rfl⟩
  rw [hV] at CA ⊢
  clear hq hV k0 hlow row HV kd rd
  go_enter Try.func30, Try.ntmps30
  go_wp2
  go_region_law (first
    | (refine rstep_g rtm rfl _ _ rfl v L rfl (unhide HX).2.1 l (unhide HX).1.news (by omega) (by omega) ?_; intro v2 w2 o2 g2; obtain ⟨ra, rcap, hf, -⟩ := o2.form; subst hf; have f4 := blkAt (box_app (unhide HD).1 (unhide HX).2.2 g2 (unhide HV2)) 0 v rfl; have f5 := (box_app (unhide HD).1 (unhide HX).2.2 g2 (unhide HV2)).free 0; have HY := hide (And.intro o2 g2); clear o2 g2)
    | (go_simp; go_at_call 31; refine (unhide CA).mono ?_; rintro e w1 ⟨v1, rfl, r1, hb1⟩; have hs1 := hb1.size; have HX := hide (And.intro r1 (And.intro ((unhide HD).2.below hb1) hb1)); have f2 := (unhide HH).2 _ hb1; have f3 := (unhide HH).1 _ hb1; clear r1 hb1))
  all_goals
    go_wp2
    go_end0
    obtain ⟨k0, -, hlow⟩ := unhide H
    obtain ⟨r1, -, hb1⟩ := unhide HX
    obtain ⟨o2, g2⟩ := unhide HY
    have k2 := box_app (unhide HD).1 hb1 g2 (unhide HV2)
    have e2 : (L ++ l).length = L.length + l.length := List.length_append
    rw [e2] at o2
    have l1 : Below C w0 w1 := (below_drew hlow).trans (hb1.mono (by omega))
    refine ⟨rfl, _, (l1.grown g2 (by omega) (fun k hk => by have := unhide HV2 k hk; omega)).setCell hC _, ?_, o2.setB 0 _⟩
    simpa using k2.put 0 (.slice ra (L.length + l.length) rcap)
set_option maxRecDepth 20000 in
set_option maxHeartbeats 1000000 in
theorem ball (h : Bs w b n P R) : Calls Try.prog 13 #[.pointer (some ⟨b, 0, none⟩)] w fun e w' => ∃ v, e = .returned v ∧ Rg rtm w' w.heap.size v (allT R) ∧ Below w.heap.size w w' := by
  obtain ⟨C, hC⟩ : ∃ C, w.heap.size = C := ⟨_, rfl⟩
  obtain ⟨W1, hW1⟩ : ∃ W1, W1 = w.alloc (.cells #[.slice none 0 0] 27) := ⟨_, rfl⟩
  have b1 : Below C w W1 := by rw [hW1, ← hC]; exact one_below _ _
  have k1 : Blk W1 C 27 #[.slice none 0 0] := by rw [hW1]; exact Blk.new_at _ _ _ hC.symm
  have hlen := h.len
  have CE := hide (each_any b (pv (P 0)) (pv (P 1)) (pv (P 2)) (pv (P 3)) (pv (P 4)) (pv (P 5)) 30 #[.pointer (some ⟨C, 0, none⟩)]
    (fun i w' => i ≤ 6 ∧ ∃ v, Below C w w' ∧ Blk w' C 27 #[v] ∧ Rg rtm w' (C + 1) v (upT R i)) W1 (fun _ _ => rfl)
    (fun i w' hJ => (h.below (hC ▸ hJ.2.choose_spec.1)).blk)
    (fun i w' k l c hi hJ hk hl hc => by
      obtain ⟨hi6, v, j1, j2, j3⟩ := hJ
      rw [bcs_at P hi hc]
      refine (allclo _ _ _ w w' C C ((h.below (hC ▸ j1)).q i hi) v _ _ _ j2 j3 j1 (Nat.le_refl _) ?_).mono ?_
      · have h2 := h.lenF_bd i hi6
        unfold lenF at h2
        omega
      · rintro e w2 ⟨rfl, v', q1, q2, q3⟩
        exact ⟨rfl, by omega, v', q1, q2, q3⟩)
    ⟨by omega, _, b1, k1, Rg.nil _ _⟩)
  have HR : Hid (upT R 6 = allT R) := hide rfl
  rw [← unhide HR]
  generalize upT R 6 = r at *
  have HW := hide hW1
  clear hW1 b1 k1 h hlen
  rw [hC]
  go_enter Try.func13, Try.ntmps13
  go_wp2_with (go_at_call 21; refine Hid.out ?_)
  refine hide ?_
  rw [← unhide HW]
  refine (unhide CE).mono ?_
  rintro e w3 ⟨rfl, -, v, hl, k1, row⟩
  have c1 := blkAt k1 0 v rfl
  obtain ⟨ra, rcap, hf, -⟩ := row.form
  subst hf
  have HL := hide (And.intro hl row)
  clear hl k1 CE HW row
  go_wp2
  go_ret
  exact ⟨_, rfl, (unhide HL).2.mono (Nat.le_succ _), (unhide HL).1⟩
end
end Go.Proofs.Ytabmjaioejacaaa
