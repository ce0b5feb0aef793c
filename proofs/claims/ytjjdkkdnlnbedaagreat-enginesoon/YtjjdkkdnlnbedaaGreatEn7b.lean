/- A timer comes to an engine. -/
import Derived.Test.YtjjdkkdnlnbedaaGreatEn7
namespace Go.Proofs.YtjjdkkdnlnbedaaGreat
open Go.RowKit Kt Qu
set_option linter.unusedVariables false
section
variable {w w' : World} {l : Loc} {e : En}
set_option maxRecDepth 20000 in
set_option maxHeartbeats 2000000 in
theorem start_any15 (h : Es w l e) (ho : Onl e) (cpu : Int) (hm : l.m < 1000000) (t : Tmr) (ht : okT t) : Calls Tryz.prog 30 #[.pointer (some ⟨l.g, 0, none⟩), .int .i64 cpu, tv t] w fun r w' => r = .returned (.int .i64 (e.start cpu t).1) ∧ ∃ l', Es w' l' (e.start cpu t).2 ∧ Lx w l l' 1 ∧ Ft (efoot l) w w' := by
  have HH := hide h
  obtain ⟨bx, hbx⟩ : ∃ b, w.heap.size = b := ⟨_, rfl⟩
  obtain ⟨W1, hW1⟩ : ∃ W1, W1 = w.alloc (.cells #[.int .i64 t.id, .int .i64 t.clock, .int .i64 t.soft, .int .i64 t.hard, .bool t.lazy] 35) := ⟨_, rfl⟩
  have b1 : Below w.heap.size w W1 := by rw [hW1]; exact one_below _ _
  have k1 : Blk W1 bx 35 #[.int .i64 t.id, .int .i64 t.clock, .int .i64 t.soft, .int .i64 t.hard, .bool t.lazy] := by rw [hW1]; exact Blk.new_at _ _ _ hbx.symm
  have h1 := h.below b1
  have q1 : W1.cell? ⟨bx, 1, none⟩ = some (.int .i64 t.clock) := blkAt k1 1 _ rfl
  have q2 : W1.cell? ⟨bx, 2, none⟩ = some (.int .i64 t.soft) := blkAt k1 2 _ rfl
  have q3 : W1.cell? ⟨bx, 3, none⟩ = some (.int .i64 t.hard) := blkAt k1 3 _ rfl
  have q0 : W1.cell? ⟨bx, 0, none⟩ = some (.int .i64 t.id) := blkAt k1 0 _ rfl
  have g2 : W1.cell? ⟨l.g, 2, none⟩ = some (.int .u32 (e.M : Int)) := blkAt h1.box 2 _ rfl
  have CH := fun w' => hide (h.has cpu w')
  have HB1 := hide b1
  have HW1 := hide hW1
  have HD : Hid (∀ w', Below w.heap.size w w' → ∃ l', Es w' l' e ∧ Lx w l l' 1 ∧ Ft (efoot l) w w') := hide fun w' hb => ⟨l, h.below hb, Lx.refl _ _ _, Ft.of_below _ hb⟩
  by_cases hon : e.on cpu = true
  case neg =>
    have hon2 : e.on cpu = false := by simpa using hon
    have E : e.start cpu t = (2, e) := if_pos (.inl hon2)
    rw [E]
    rw [hon2] at CH
    obtain ⟨i1, i2, i3, i4, i5⟩ := t
    unfold tv
    simp only at q0 q1 q2 q3 HW1
    clear h ho hon hon2 E h1 k1 b1 hW1 ht
    generalize (e.M : Int) = M at *
    go_enter Tryz.func30, Tryz.ntmps30
    go_upto_region 1 with fail
    rw [← unhide HW1]
    go_wp2_with (go_at_call 61; refine (unhide (CH _)).mono ?_; rintro r w2 ⟨rfl, rfl⟩)
    go_wp2_with fail
    go_ret
    exact ⟨rfl, unhide HD _ (unhide HB1)⟩
  rw [hon] at CH
  by_cases hc0 : t.clock < 0
  · have E : e.start cpu t = (2, e) := if_pos (.inr (.inl hc0))
    rw [E]
    obtain ⟨i1, i2, i3, i4, i5⟩ := t
    unfold tv
    simp only at q0 q1 q2 q3 HW1 hc0
    clear h ho hon E h1 k1 b1 hW1 ht
    generalize (e.M : Int) = M at *
    go_enter Tryz.func30, Tryz.ntmps30
    go_upto_region 1 with fail
    rw [← unhide HW1]
    go_wp2_with (go_at_call 61; refine (unhide (CH _)).mono ?_; rintro r w2 ⟨rfl, rfl⟩)
    go_wp2_with fail
    go_ret
    exact ⟨rfl, unhide HD _ (unhide HB1)⟩
  by_cases hc1 : 3 ≤ t.clock
  · have E : e.start cpu t = (2, e) := if_pos (.inr (.inr (.inl hc1)))
    rw [E]
    obtain ⟨i1, i2, i3, i4, i5⟩ := t
    unfold tv
    simp only at q0 q1 q2 q3 HW1 hc0 hc1
    clear h ho hon E h1 k1 b1 hW1 ht
    generalize (e.M : Int) = M at *
    go_enter Tryz.func30, Tryz.ntmps30
    go_upto_region 1 with fail
    rw [← unhide HW1]
    go_wp2_with (go_at_call 61; refine (unhide (CH _)).mono ?_; rintro r w2 ⟨rfl, rfl⟩)
    go_wp2_with fail
    go_ret
    exact ⟨rfl, unhide HD _ (unhide HB1)⟩
  by_cases hc2 : t.hard < t.soft
  · have E : e.start cpu t = (2, e) := if_pos (.inr (.inr (.inr hc2)))
    rw [E]
    obtain ⟨i1, i2, i3, i4, i5⟩ := t
    unfold tv
    simp only at q0 q1 q2 q3 HW1 hc0 hc1 hc2
    clear h ho hon E h1 k1 b1 hW1 ht
    generalize (e.M : Int) = M at *
    go_enter Tryz.func30, Tryz.ntmps30
    go_upto_region 1 with fail
    rw [← unhide HW1]
    go_wp2_with (go_at_call 61; refine (unhide (CH _)).mono ?_; rintro r w2 ⟨rfl, rfl⟩)
    go_wp2_with fail
    go_ret
    exact ⟨rfl, unhide HD _ (unhide HB1)⟩
  have hne : ¬ (e.on cpu = false ∨ t.clock < 0 ∨ 3 ≤ t.clock ∨ t.hard < t.soft) := by rw [hon]; simp; omega
  have CW := hide (where_any h1 t.id ht.1)
  cases hw : e.wher t.id with
  | some j =>
    have E : e.start cpu t = (9, e) := by unfold En.start; rw [if_neg hne, if_pos (by rw [hw]; simp)]
    rw [E]
    rw [hw] at CW
    unfold whV at CW
    simp only [Option.isSome_some] at CW
    obtain ⟨i1, i2, i3, i4, i5⟩ := t
    unfold tv
    simp only at q0 q1 q2 q3 HW1 hc0 hc1 hc2 CW
    clear h ho hon E h1 k1 b1 hW1 ht hne hw
    generalize (e.M : Int) = M at *
    go_enter Tryz.func30, Tryz.ntmps30
    go_upto_region 1 with fail
    rw [← unhide HW1]
    go_wp2_with (go_at_call 61; refine (unhide (CH _)).mono ?_; rintro r w2 ⟨rfl, rfl⟩)
    go_wp2_with (go_at_call 53; refine (unhide CW).mono ?_; rintro r w3 ⟨rfl, hb3⟩; have HB3 := hide hb3; clear hb3)
    go_ret
    exact ⟨rfl, unhide HD _ ((unhide HB1).trans ((unhide HB3).mono (unhide HB1).size))⟩
  | none =>
    rw [hw] at CW
    unfold whV at CW
    simp only [Option.isSome_none] at CW
    have CLn := hide (fun w' hb => len_any15 (h1.below (w' := w') hb))
    by_cases hl : 64 ≤ e.len
    · have E : e.start cpu t = (3, e) := by unfold En.start; rw [if_neg hne, if_neg (by rw [hw]; simp), if_pos hl]
      rw [E]
      obtain ⟨i1, i2, i3, i4, i5⟩ := t
      unfold tv
      simp only at q0 q1 q2 q3 HW1 hc0 hc1 hc2 CW
      clear h ho hon E h1 k1 b1 hW1 ht hne hw
      generalize e.len = n at *
      generalize (e.M : Int) = M at *
      go_enter Tryz.func30, Tryz.ntmps30
      go_upto_region 1 with fail
      rw [← unhide HW1]
      go_wp2_with (go_at_call 61; refine (unhide (CH _)).mono ?_; rintro r w2 ⟨rfl, rfl⟩)
      go_wp2_with (first | (go_at_call 53; refine (unhide CW).mono ?_; rintro r w3 ⟨rfl, hb3⟩; have CL3 := hide (unhide CLn w3 hb3); have HB3 := hide hb3; clear hb3) | (go_at_call 19; refine (unhide CL3).mono ?_; rintro r w4 ⟨rfl, hb4⟩; have HB4 := hide hb4; clear hb4))
      go_ret
      exact ⟨rfl, unhide HD _ (((unhide HB1).trans ((unhide HB3).mono (unhide HB1).size)).trans ((unhide HB4).mono (by have := (unhide HB1).size; have := (unhide HB3).size; omega)))⟩
    · obtain ⟨i, rfl, hi, hon2⟩ := ho.at hon
      have E : e.start (i : Int) t = (0, e.set i (e.look { e.cp i with L := insA t (e.cp i).L })) := by unfold En.start; rw [if_neg hne, if_neg (by rw [hw]; simp), if_neg hl, Int.toNat_natCast]
      rw [E]
      have hle := h.n16
      have hcap := h.cap
      have hnid := wher_none hw hi
      have hlen : (e.cp i).L.length < 64 := by have := len_ge (e := e) hi; omega
      have CB := hide (fun w3 (hb : Below W1.heap.size W1 w3) => (h1.below hb).bstart hi hm ht (by omega) (by omega) hnid hlen (by omega))
      have HE3 := hide (fun w3 (hb : Below W1.heap.size W1 w3) => h1.below hb)
      have HF := hide (And.intro (h1.bf hi) (And.intro (show ¬ bfoot (l.b i) (l.P i) l.g from fun q => by have := h.uq _ _ _ h.og (h.ob i _ hi q); omega) (And.intro (show ¬ bfoot (l.b i) (l.P i) l.r from fun q => by have := h.uq _ _ _ h.orr (h.ob i _ hi q); omega) (show ¬ bfoot (l.b i) (l.P i) bx from fun q => by have := h.lt bx (h.bf hi bx q); omega))))
      have HLK := hide (fun w5 (l' : Loc) (h5 : Es w5 l' (e.set i { e.cp i with L := insA t (e.cp i).L })) => show Calls Tryz.prog 66 #[.pointer (some ⟨l'.g, 0, none⟩), .int .i64 (i : Int)] w5 fun r w' => r = .returned (.tuple #[]) ∧ Es w' l' (e.set i (e.look { e.cp i with L := insA t (e.cp i).L })) ∧ Ft (efoot l') w5 w' by
        have := look_any h5 (i := i) hi (by rw [En.set_at]; exact hon2)
        rw [En.set_at, En.set_set] at this
        exact this)
      have HK1 := hide k1
      have HIN := hide (And.intro hi hle)
      generalize e.set i (e.look { e.cp i with L := insA t (e.cp i).L }) = E2 at *
      generalize e.set i { e.cp i with L := insA t (e.cp i).L } = E1 at *
      have HEN := hide (fun w' (hb : Below W1.heap.size W1 w') => And.intro (blkAt ((unhide HE3 w' hb).box) 1 (.slice (some ⟨l.r, 0, none⟩) e.n l.cap) rfl) ((unhide HE3 w' hb).row i hi).1)
      generalize bfoot (l.b i) (l.P i) = FT at *
      obtain ⟨n, hn⟩ : ∃ n, e.n = n := ⟨_, rfl⟩
      rw [hn] at hi hle hcap HEN
      obtain ⟨NL, hNL⟩ : ∃ NL, e.len = NL := ⟨_, rfl⟩
      rw [hNL] at CLn hl
      obtain ⟨i1, i2, i3, i4, i5⟩ := t
      unfold tv at CB
      unfold tv
      simp only at q0 q1 q2 q3 HW1 hc0 hc1 hc2 CW CB HK1
      have hnl : ¬ 64 ≤ (NL : Int) := by omega
      clear h ho hon hon2 E h1 k1 b1 hW1 ht hne hw hnid hlen hn hNL HE3
      generalize (e.M : Int) = M at *
      go_enter Tryz.func30, Tryz.ntmps30
      go_upto_region 1 with fail
      rw [← unhide HW1]
      go_wp2_with (go_at_call 61; refine (unhide (CH _)).mono ?_; rintro r w2 ⟨rfl, rfl⟩)
      go_wp2_with (first | (go_at_call 53; refine (unhide CW).mono ?_; rintro r w3 ⟨rfl, hb3⟩; have CL3 := hide (unhide CLn w3 hb3); have HB3 := hide hb3; clear hb3) | (go_at_call 19; refine (unhide CL3).mono ?_; rintro r w4 ⟨rfl, hb4⟩; have HB4 := hide ((unhide HB3).trans (hb4.mono (unhide HB3).size)); clear hb4))
      have kx := (unhide HK1).below (unhide HB4) (unhide HK1).lt
      have z1 : ∀ w', Ft FT w4 w' → w'.cell? ⟨l.g, 1, none⟩ = some (.slice (some ⟨l.r, 0, none⟩) n l.cap) := fun w' f => f.cell (unhide HEN w4 (unhide HB4)).1 (unhide HF).2.1
      have z2 : ∀ w', Ft FT w4 w' → w'.cell? ⟨l.r, i * 4, none⟩ = some (.pointer (some ⟨l.b i, 0, none⟩)) := fun w' f => f.cell (unhide HEN w4 (unhide HB4)).2 (unhide HF).2.2.1
      have z3 : ∀ w', Ft FT w4 w' → w'.cell? ⟨bx, 0, none⟩ = some (.int .i64 i1) := fun w' f => blkAt (kx.ft f (unhide HF).2.2.2) 0 _ rfl
      have z4 : ∀ w', Ft FT w4 w' → w'.cell? ⟨bx, 1, none⟩ = some (.int .i64 i2) := fun w' f => blkAt (kx.ft f (unhide HF).2.2.2) 1 _ rfl
      have z5 : ∀ w', Ft FT w4 w' → w'.cell? ⟨bx, 2, none⟩ = some (.int .i64 i3) := fun w' f => blkAt (kx.ft f (unhide HF).2.2.2) 2 _ rfl
      have z6 : ∀ w', Ft FT w4 w' → w'.cell? ⟨bx, 3, none⟩ = some (.int .i64 i4) := fun w' f => blkAt (kx.ft f (unhide HF).2.2.2) 3 _ rfl
      have z7 : ∀ w', Ft FT w4 w' → w'.cell? ⟨bx, 4, none⟩ = some (.bool i5) := fun w' f => blkAt (kx.ft f (unhide HF).2.2.2) 4 _ rfl
      have S0 : Ft FT w4 w4.drew := (Ft.refl _ _).drew
      have CB4 := hide (unhide CB w4.drew ((unhide HB4).trans ((Below.refl _ _).drew.mono (unhide HB4).size)))
      clear kx q0 q1 q2 q3 g2 CB
      generalize l.b i = bi at *
      refine wp_region_held_drew (S := (fun w' => Ft FT w4 w')) (by kernel_rfl) ?_ (fun hHeld => ?_)
      · (first | assumption)
      refine wpAnyH_take (i := 0) (oi := ?o73) (v := ?v73) ?hi73 (by kernel_rfl) (by kernel_rfl) (by kernel_rfl) ?hQ73 (Or.inl ⟨?hw73, ?hy73⟩) (by assumption) ?_
      case hi73 => (simp only [List.getElem?_toArray, List.getElem?_cons_zero]; rfl)
      case hQ73 => exact fun _ _ _ h => h
      case hw73 => rfl
      case hy73 => (intro w hSw; (try dsimp only at hSw); go_simp; (try with_reducible rfl))
      simp only [Act.put, List.setIfInBounds_toArray, List.set_cons_zero, List.set_cons_succ]
      refine wpAnyH_take (i := 1) (oi := ?o74) (v := ?v74) ?hi74 (by kernel_rfl) (by kernel_rfl) (by kernel_rfl) ?hQ74 (Or.inl ⟨?hw74, ?hy74⟩) (by assumption) ?_
      case hi74 => (simp only [List.getElem?_toArray, List.getElem?_cons_succ, List.getElem?_cons_zero]; rfl)
      case hQ74 => exact fun _ _ _ h => h
      case hw74 => rfl
      case hy74 => (intro w hSw; (try dsimp only at hSw); go_simp; (try with_reducible rfl))
      simp only [Act.put, List.setIfInBounds_toArray, List.set_cons_zero, List.set_cons_succ]
      refine wpAnyH_take (i := 2) (oi := ?o75) (v := ?v75) ?hi75 (by kernel_rfl) (by kernel_rfl) (by kernel_rfl) ?hQ75 (Or.inl ⟨?hw75, ?hy75⟩) (by assumption) ?_
      case hi75 => (simp only [List.getElem?_toArray, List.getElem?_cons_succ, List.getElem?_cons_zero]; rfl)
      case hQ75 => exact fun _ _ _ h => h
      case hw75 => rfl
      case hy75 => (intro w hSw; (try dsimp only at hSw); go_simp; (try with_reducible rfl))
      simp only [Act.put, List.setIfInBounds_toArray, List.set_cons_zero, List.set_cons_succ]
      refine wpAnyH_take (i := 3) (oi := ?o76) (v := ?v76) ?hi76 (by kernel_rfl) (by kernel_rfl) (by kernel_rfl) ?hQ76 (Or.inl ⟨?hw76, ?hy76⟩) (by assumption) ?_
      case hi76 => (simp only [List.getElem?_toArray, List.getElem?_cons_succ, List.getElem?_cons_zero]; rfl)
      case hQ76 => exact fun _ _ _ h => h
      case hw76 => rfl
      case hy76 => (intro w hSw; (try dsimp only at hSw); go_simp; (try with_reducible rfl))
      simp only [Act.put, List.setIfInBounds_toArray, List.set_cons_zero, List.set_cons_succ]
      refine wpAnyH_take (i := 4) (oi := ?o77) (v := ?v77) ?hi77 (by kernel_rfl) (by kernel_rfl) (by kernel_rfl) ?hQ77 (Or.inl ⟨?hw77, ?hy77⟩) (by assumption) ?_
      case hi77 => (simp only [List.getElem?_toArray, List.getElem?_cons_succ, List.getElem?_cons_zero]; rfl)
      case hQ77 => exact fun _ _ _ h => h
      case hw77 => rfl
      case hy77 => (intro w hSw; (try dsimp only at hSw); go_simp; (try with_reducible rfl))
      simp only [Act.put, List.setIfInBounds_toArray, List.set_cons_zero, List.set_cons_succ]
      refine wpAnyH_take (i := 5) (oi := ?o78) (v := ?v78) ?hi78 (by kernel_rfl) (by kernel_rfl) (by kernel_rfl) ?hQ78 (Or.inl ⟨?hw78, ?hy78⟩) (by assumption) ?_
      case hi78 => (simp only [List.getElem?_toArray, List.getElem?_cons_succ, List.getElem?_cons_zero]; rfl)
      case hQ78 => exact fun _ _ _ h => h
      case hw78 => rfl
      case hy78 => (intro w hSw; (try dsimp only at hSw); go_simp; (try with_reducible rfl))
      simp only [Act.put, List.setIfInBounds_toArray, List.set_cons_zero, List.set_cons_succ]
      refine wpAnyH_take (i := 6) (oi := ?o79) (v := ?v79) ?hi79 (by kernel_rfl) (by kernel_rfl) (by kernel_rfl) ?hQ79 (Or.inl ⟨?hw79, ?hy79⟩) (by assumption) ?_
      case hi79 => (simp only [List.getElem?_toArray, List.getElem?_cons_succ, List.getElem?_cons_zero]; rfl)
      case hQ79 => exact fun _ _ _ h => h
      case hw79 => rfl
      case hy79 => (intro w hSw; (try dsimp only at hSw); go_simp; (try with_reducible rfl))
      simp only [Act.put, List.setIfInBounds_toArray, List.set_cons_zero, List.set_cons_succ]
      refine wpAnyH_take (i := 7) (oi := ?o80) (v := ?v80) ?hi80 (by kernel_rfl) (by kernel_rfl) (by kernel_rfl) ?hQ80 (Or.inl ⟨?hw80, ?hy80⟩) (by assumption) ?_
      case hi80 => (simp only [List.getElem?_toArray, List.getElem?_cons_succ, List.getElem?_cons_zero]; rfl)
      case hQ80 => exact fun _ _ _ h => h
      case hw80 => rfl
      case hy80 => (intro w hSw; (try dsimp only at hSw); go_simp; (try with_reducible rfl))
      simp only [Act.put, List.setIfInBounds_toArray, List.set_cons_zero, List.set_cons_succ]
      refine wpAnyH_take (i := 8) (oi := ?o81) (v := ?v81) ?hi81 (by kernel_rfl) (by kernel_rfl) (by kernel_rfl) ?hQ81 (Or.inl ⟨?hw81, ?hy81⟩) (by assumption) ?_
      case hi81 => (simp only [List.getElem?_toArray, List.getElem?_cons_succ, List.getElem?_cons_zero]; rfl)
      case hQ81 => exact fun _ _ _ h => h
      case hw81 => rfl
      case hy81 => (intro w hSw; (try dsimp only at hSw); go_simp; (try with_reducible rfl))
      simp only [Act.put, List.setIfInBounds_toArray, List.set_cons_zero, List.set_cons_succ]
      refine wpAnyH_ready (rs := [9]) (by kernel_rfl) (by simp) ?_
      refine AllReadyH.cons (o := ?o82) ?hi82 (fun K hK => ?_) AllReadyH.nil
      case hi82 => (simp only [List.getElem?_toArray, List.getElem?_cons_succ, List.getElem?_cons_zero]; rfl)
      go_simp
      (go_at_call 65; refine (unhide CB4).mono ?_; rintro r w5 ⟨rfl, l5, h5, x5, f5⟩; have S5 : Ft FT w4 w5 := S0.trans f5; have HL5 := hide (unhide HLK w5 l5 h5); have H5 := hide (And.intro x5 f5); clear h5 x5 f5); go_wp2_with fail
      refine hK.out _ _ ?_ (fun hHeld => ?_)
      · (first | assumption)
      clear hK K
      refine wpAnyH_done (by kernel_rfl) ?_ _
      have HS5 := hide S5
      rw [(unhide H5).1.g] at HL5
      clear z1 z2 z3 z4 z5 z6 z7 S0 S5 hHeld
      go_wp2_with (go_at_call 66; refine (unhide HL5).mono ?_; rintro r w6 ⟨rfl, h6, f6⟩; have H6 := hide (And.intro h6 f6); clear h6 f6)
      go_ret
      have hsz : w.heap.size ≤ w4.heap.size := by have := (unhide HB1).size; have := (unhide HB4).size; omega
      have f4 : Ft (efoot l) w w5 := ((Ft.of_below _ (unhide HB1)).trans (Ft.of_below _ (by
        have := (unhide HB4); exact this))).trans ((unhide HS5).mono (unhide HF).1)
      have x5 : Lx w l l5 1 := by
        have q := (unhide H5).1
        exact ⟨q.g, q.r, q.cap, q.c, q.b, q.d, q.m, fun k hk => (q.foot k hk).imp id (fun z => Nat.le_trans hsz z), q.more⟩
      exact ⟨rfl, l5, (unhide H6).1, x5, f4.lx (unhide H6).2 x5⟩
end
end Go.Proofs.YtjjdkkdnlnbedaaGreat
