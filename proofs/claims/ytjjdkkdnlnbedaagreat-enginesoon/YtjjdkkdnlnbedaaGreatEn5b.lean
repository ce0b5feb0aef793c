/- The interrupt's handler. -/
import Derived.Test.YtjjdkkdnlnbedaaGreatEn5
namespace Go.Proofs.YtjjdkkdnlnbedaaGreat
open Go.RowKit Kt Qu
set_option linter.unusedVariables false
section
variable {w w' : World} {l : Loc} {e : En}
set_option maxRecDepth 20000 in
set_option maxHeartbeats 2000000 in
theorem irq_any (h : Es w l e) (ho : Onl e) (cpu : Int) : Calls Tryz.prog 33 #[.pointer (some ⟨l.g, 0, none⟩), .int .i64 cpu] w fun r w' => ∃ v, r = .returned (.tuple #[v, .int .i64 (e.doIrq cpu).2.1]) ∧ Rg rfd w' w.heap.size v (e.doIrq cpu).1 ∧ Es w' l (e.doIrq cpu).2.2 ∧ Ft (efoot l) w w' := by
  have g1 : w.cell? ⟨l.g, 1, none⟩ = some (.slice (some ⟨l.r, 0, none⟩) e.n l.cap) := blkAt h.box 1 _ rfl
  have g2 : w.cell? ⟨l.g, 2, none⟩ = some (.int .u32 (e.M : Int)) := blkAt h.box 2 _ rfl
  have CH := fun w' => hide (h.has cpu w')
  have HH := hide h
  by_cases hon : e.on cpu = true
  · obtain ⟨i, rfl, hi, hon2⟩ := ho.at hon
    rw [hon] at CH
    have r1 := (h.row i hi).2.1
    have hle := h.n16
    have hcap := h.cap
    have CT := hide (h.take hi)
    by_cases hk : (e.cp i).la = true
    · have E : e.doIrq (i : Int) = (e.fired i false, 0, e.irq i) := by unfold En.doIrq; rw [if_neg (by rw [hon]; decide), if_neg (by rw [Int.toNat_natCast, hk]; decide), Int.toNat_natCast]
      rw [E]
      rw [hk] at CT
      have CF : ∀ w1, Es w1 l (e.set i { e.cp i with la := false }) → Calls Tryz.prog 71 #[.pointer (some ⟨l.g, 0, none⟩), .int .i64 (i : Int), .bool false] w1 fun r w' => ∃ v, r = .returned v ∧ Rg rfd w' w1.heap.size v (e.fired i false) ∧ Es w' l (e.set i { e.cp i with la := false, L := e.rest i false }) ∧ Ft (efoot l) w1 w' := fun w1 h1 => by
        refine (fire_any h1 (i := i) hi false).mono ?_
        rintro r w2 ⟨v, rfl, row, h2, f2⟩
        have e1 : (e.set i { e.cp i with la := false }).fired i false = e.fired i false := by unfold En.fired En.firL; rw [En.set_at]; rfl
        have e2 : (e.set i { e.cp i with la := false }).rest i false = e.rest i false := by unfold En.rest; rw [En.set_at]; rfl
        rw [e1] at row
        rw [En.set_at, En.set_set, e2] at h2
        exact ⟨v, rfl, row, h2, f2⟩
      obtain ⟨du, hdu⟩ : ∃ du, decide (0 < ((e.rest i false).filter (firB e.z.rd true)).length) = du := ⟨_, rfl⟩
      have CD : ∀ w2, Es w2 l (e.set i { e.cp i with la := false, L := e.rest i false }) → Calls Tryz.prog 72 #[.pointer (some ⟨l.b i, 0, none⟩), .agg #[.int .i64 e.z.m, .int .i64 e.z.v, .int .i64 e.z.q], .bool true] w2 fun r w' => r = .returned (.bool du) ∧ Below w2.heap.size w2 w' := fun w2 h2 => by
        have := h2.due (i := i) hi
        rw [En.set_at] at this
        rw [← hdu]
        exact this
      have CN : ∀ w2, Es w2 l (e.set i { e.cp i with la := false, L := e.rest i false }) → Calls Tryz.prog 73 #[.func (.func 54) #[.pointer (some ⟨l.c, 0, none⟩)] #[]] w2 fun r w' => r = .returned (.agg #[.int .i64 e.z.m, .int .i64 e.z.v, .int .i64 e.z.q]) ∧ Below w2.heap.size w2 w' := fun w2 h2 => h2.nows
      obtain ⟨E1, hE1⟩ : ∃ E1, E1 = e.set i { e.cp i with la := false, L := e.rest i false } := ⟨_, rfl⟩
      rw [← hE1] at CF CD CN
      have hra : (E1.cp i).ra = (e.cp i).ra := by rw [hE1, En.set_at]
      have hn1 : E1.n = e.n := by rw [hE1]; rfl
      have hc1 : e.irq i = E1.set i (E1.look { E1.cp i with ra := (E1.cp i).ra || du }) := by
        unfold En.irq En.irq1
        rw [hdu, hE1, En.set_at, En.set_set]
        rfl
      have hon1 : (E1.cp i).on = true := by rw [hE1, En.set_at]; exact hon2
      have CL : ∀ w2 x, Es w2 l (E1.set i { E1.cp i with ra := x }) → x = ((E1.cp i).ra || du) → Calls Tryz.prog 66 #[.pointer (some ⟨l.g, 0, none⟩), .int .i64 (i : Int)] w2 fun r w' => r = .returned (.tuple #[]) ∧ Es w' l (e.irq i) ∧ Ft (efoot l) w2 w' := fun w2 x h2 hx => by
        have := look_any h2 (i := i) (by show i < E1.n; rw [hn1]; exact hi) (by rw [En.set_at]; exact hon1)
        rw [En.set_at, En.set_set] at this
        rw [hc1, ← hx]
        exact this
      have HF := hide CF
      have HD := hide CD
      have HN := hide CN
      have HL := hide CL
      have HI := hide (And.intro hn1 hi)
      generalize e.irq i = E2 at *
      generalize e.fired i false = FL at *
      generalize e.set i { e.cp i with la := false } = E0 at *
      generalize e.z.m = m at *
      generalize e.z.v = v at *
      generalize e.z.q = q at *
      obtain ⟨n, hn⟩ : ∃ n, e.n = n := ⟨_, rfl⟩
      rw [hn] at hi hle hcap g1
      have HNN := hide hn
      clear h ho hon hon2 hk E CF CD CN CL hn hE1 hra hn1 hc1 hon1 hdu
      generalize (e.M : Int) = M at *
      go_enter Tryz.func33, Tryz.ntmps33
      go_wp2_with (first | (go_at_call 61; refine (unhide (CH _)).mono ?_; rintro r w1 ⟨rfl, rfl⟩) | (go_at_call 70; refine Hid.out ?_))
      refine hide ?_
      refine (unhide CT).mono ?_
      rintro r w2 ⟨rfl, h2, f2⟩
      have CF2 := hide (unhide HF w2 h2)
      have H2 := hide (And.intro h2 f2)
      clear h2 f2 CT HF
      go_wp2_with (go_at_call 71; refine Hid.out ?_)
      refine hide ?_
      refine (unhide CF2).mono ?_
      rintro r w3 ⟨v3, rfl, row3, h3, f3⟩
      obtain ⟨ra, rcap, hf, -⟩ := row3.form
      obtain ⟨FN, hFN⟩ : ∃ n, FL.length = n := ⟨_, rfl⟩
      rw [hFN] at hf
      subst hf
      have c0 : ∀ w', Below w3.heap.size w3 w' → w'.cell? ⟨l.g, 0, none⟩ = some (.pointer (some ⟨l.c, 0, none⟩)) := fun w' hb => blkAt (h3.below hb).box 0 _ rfl
      have c1 : ∀ w', Below w3.heap.size w3 w' → w'.cell? ⟨l.r, i * 4, none⟩ = some (.pointer (some ⟨l.b i, 0, none⟩)) := fun w' hb => ((h3.below hb).row i (by rw [(unhide HI).1]; exact (unhide HI).2)).1
      have S0 : Below w3.heap.size w3 w3.drew := (Below.refl _ _).drew
      have CN2 := hide (unhide HN _ (h3.below S0))
      have H3 := hide (And.intro row3 (And.intro h3 f3))
      clear row3 h3 f3 hFN CF2 HN
      go_wp2_with fail
      refine wp_region_held_drew (S := (fun w' => Below w3.heap.size w3 w')) (by kernel_rfl) ?_ (fun hHeld => ?_)
      · (first | assumption)
      refine wpAnyH_take (i := 0) (oi := ?o52) (v := ?v52) ?hi52 (by kernel_rfl) (by kernel_rfl) (by kernel_rfl) ?hQ52 (Or.inl ⟨?hw52, ?hy52⟩) (by assumption) ?_
      case hi52 => (simp only [List.getElem?_toArray, List.getElem?_cons_zero]; rfl)
      case hQ52 => exact fun _ _ _ h => h
      case hw52 => rfl
      case hy52 => (intro w hSw; (try dsimp only at hSw); go_simp; (try with_reducible rfl))
      simp only [Act.put, List.setIfInBounds_toArray, List.set_cons_zero, List.set_cons_succ]
      refine wpAnyH_take (i := 1) (oi := ?o53) (v := ?v53) ?hi53 (by kernel_rfl) (by kernel_rfl) (by kernel_rfl) ?hQ53 (Or.inl ⟨?hw53, ?hy53⟩) (by assumption) ?_
      case hi53 => (simp only [List.getElem?_toArray, List.getElem?_cons_succ, List.getElem?_cons_zero]; rfl)
      case hQ53 => exact fun _ _ _ h => h
      case hw53 => rfl
      case hy53 => (intro w hSw; (try dsimp only at hSw); go_simp; (try with_reducible rfl))
      simp only [Act.put, List.setIfInBounds_toArray, List.set_cons_zero, List.set_cons_succ]
      refine wpAnyH_take (i := 2) (oi := ?o54) (v := ?v54) ?hi54 (by kernel_rfl) (by kernel_rfl) (by kernel_rfl) ?hQ54 (Or.inl ⟨?hw54, ?hy54⟩) (by assumption) ?_
      case hi54 => (simp only [List.getElem?_toArray, List.getElem?_cons_succ, List.getElem?_cons_zero]; rfl)
      case hQ54 => exact fun _ _ _ h => h
      case hw54 => rfl
      case hy54 => (intro w hSw; (try dsimp only at hSw); go_simp; (try with_reducible rfl))
      simp only [Act.put, List.setIfInBounds_toArray, List.set_cons_zero, List.set_cons_succ]
      refine wpAnyH_take (i := 3) (oi := ?o55) (v := ?v55) ?hi55 (by kernel_rfl) (by kernel_rfl) (by kernel_rfl) ?hQ55 (Or.inl ⟨?hw55, ?hy55⟩) (by assumption) ?_
      case hi55 => (simp only [List.getElem?_toArray, List.getElem?_cons_succ, List.getElem?_cons_zero]; rfl)
      case hQ55 => exact fun _ _ _ h => h
      case hw55 => rfl
      case hy55 => (intro w hSw; (try dsimp only at hSw); go_simp; (try with_reducible rfl))
      simp only [Act.put, List.setIfInBounds_toArray, List.set_cons_zero, List.set_cons_succ]
      refine wpAnyH_take (i := 4) (oi := ?o56) (v := ?v56) ?hi56 (by kernel_rfl) (by kernel_rfl) (by kernel_rfl) ?hQ56 (Or.inl ⟨?hw56, ?hy56⟩) (by assumption) ?_
      case hi56 => (simp only [List.getElem?_toArray, List.getElem?_cons_succ, List.getElem?_cons_zero]; rfl)
      case hQ56 => exact fun _ _ _ h => h
      case hw56 => rfl
      case hy56 => (intro w hSw; (try dsimp only at hSw); go_simp; (try with_reducible rfl))
      simp only [Act.put, List.setIfInBounds_toArray, List.set_cons_zero, List.set_cons_succ]
      refine wpAnyH_take (i := 5) (oi := ?o57) (v := ?v57) ?hi57 (by kernel_rfl) (by kernel_rfl) (by kernel_rfl) ?hQ57 (Or.inl ⟨?hw57, ?hy57⟩) (by assumption) ?_
      case hi57 => (simp only [List.getElem?_toArray, List.getElem?_cons_succ, List.getElem?_cons_zero]; rfl)
      case hQ57 => exact fun _ _ _ h => h
      case hw57 => rfl
      case hy57 => (intro w hSw; (try dsimp only at hSw); go_simp; (try with_reducible rfl))
      simp only [Act.put, List.setIfInBounds_toArray, List.set_cons_zero, List.set_cons_succ]
      refine wpAnyH_take (i := 6) (oi := ?o58) (v := ?v58) ?hi58 (by kernel_rfl) (by kernel_rfl) (by kernel_rfl) ?hQ58 (Or.inl ⟨?hw58, ?hy58⟩) (by assumption) ?_
      case hi58 => (simp only [List.getElem?_toArray, List.getElem?_cons_succ, List.getElem?_cons_zero]; rfl)
      case hQ58 => exact fun _ _ _ h => h
      case hw58 => rfl
      case hy58 => (intro w hSw; (try dsimp only at hSw); go_simp; (try with_reducible rfl))
      simp only [Act.put, List.setIfInBounds_toArray, List.set_cons_zero, List.set_cons_succ]
      refine wpAnyH_take (i := 7) (oi := ?o59) (v := ?v59) ?hi59 (by kernel_rfl) (by kernel_rfl) (by kernel_rfl) ?hQ59 (Or.inl ⟨?hw59, ?hy59⟩) (by assumption) ?_
      case hi59 => (simp only [List.getElem?_toArray, List.getElem?_cons_succ, List.getElem?_cons_zero]; rfl)
      case hQ59 => exact fun _ _ _ h => h
      case hw59 => rfl
      case hy59 => (intro w hSw; (try dsimp only at hSw); go_simp; (try with_reducible rfl))
      simp only [Act.put, List.setIfInBounds_toArray, List.set_cons_zero, List.set_cons_succ]
      refine wpAnyH_take (i := 8) (oi := ?o60) (v := ?v60) ?hi60 (by kernel_rfl) (by kernel_rfl) (by kernel_rfl) ?hQ60 (Or.inl ⟨?hw60, ?hy60⟩) (by assumption) ?_
      case hi60 => (simp only [List.getElem?_toArray, List.getElem?_cons_succ, List.getElem?_cons_zero]; rfl)
      case hQ60 => exact fun _ _ _ h => h
      case hw60 => rfl
      case hy60 => (intro w hSw; (try dsimp only at hSw); go_simp; (try with_reducible rfl))
      simp only [Act.put, List.setIfInBounds_toArray, List.set_cons_zero, List.set_cons_succ]
      refine wpAnyH_ready (rs := [9]) (by kernel_rfl) (by simp) ?_
      refine AllReadyH.cons (o := ?o61) ?hi61 (fun K hK => ?_) AllReadyH.nil
      case hi61 => (simp only [List.getElem?_toArray, List.getElem?_cons_succ, List.getElem?_cons_zero]; rfl)
      go_simp
      (first | (go_at_call 73; refine (unhide CN2).mono ?_; rintro r w5 ⟨rfl, hb5⟩; have B5 : Below w3.heap.size w3 w5 := S0.trans hb5) | (go_at_call 72; refine (unhide HD _ ((unhide H3).2.1.below B5)).mono ?_; rintro r w6 ⟨rfl, hb6⟩; have B6 : Below w3.heap.size w3 w6 := B5.trans (hb6.mono B5.size))); go_wp2_with fail
      refine hK.out _ _ ?_ (fun hHeld => ?_)
      · (first | assumption)
      clear hK K
      refine wpAnyH_ready (rs := [10]) (by kernel_rfl) (by simp) ?_
      refine AllReadyH.cons (o := ?o62) ?hi62 (fun K hK => ?_) AllReadyH.nil
      case hi62 => (simp only [List.getElem?_toArray, List.getElem?_cons_succ, List.getElem?_cons_zero]; rfl)
      go_simp
      (first | (go_at_call 73; refine (unhide CN2).mono ?_; rintro r w5 ⟨rfl, hb5⟩; have B5 : Below w3.heap.size w3 w5 := S0.trans hb5) | (go_at_call 72; refine (unhide HD _ ((unhide H3).2.1.below B5)).mono ?_; rintro r w6 ⟨rfl, hb6⟩; have B6 : Below w3.heap.size w3 w6 := B5.trans (hb6.mono B5.size))); go_wp2_with fail
      refine hK.out _ _ ?_ (fun hHeld => ?_)
      · (first | assumption)
      clear hK K
      refine wpAnyH_done (by kernel_rfl) ?_ _
      have h6 := (unhide H3).2.1.below B6
      have hi1 : i < E1.n := by rw [(unhide HI).1]; exact (unhide HI).2
      have r2 := (h6.row i hi1).2.2.1
      have hfr := h6.rfr
      have F6 := hide (((unhide H2).2.trans (unhide H3).2.2).trans (Ft.of_below _ B6))
      have hrow : Hid (∀ g, (Value.slice ra FN rcap).ownBlock = some g → ¬ efoot l g) := hide fun g hg hk => by
        have h1 := (unhide H3).1.lt g hg
        have h2 := (unhide HH).lt g hk
        have := (unhide H2).2.size
        omega
      have HR := hide (((unhide H3).1.below B6).mono (unhide H2).2.size)
      clear c0 c1 S0 CN2 HD H3 hHeld B5 hb5 hb6 H2
      cases du with
      | true =>
        have h7 := h6.mark hi1 2 true (.inl rfl) rfl
        have CL2 := hide (unhide HL _ true h7 (by simp))
        have HM := hide (h6.ftR (i * 4 + 2) (.bool true))
        clear h6 h7 HL B6
        go_wp2_with (go_at_call 66; refine (unhide CL2).mono ?_; rintro r w8 ⟨rfl, h8, f8⟩; have H8 := hide (And.intro h8 f8); clear h8 f8)
        go_ret2
        exact ⟨_, rfl, (unhide HR).ft ((unhide HM).trans (unhide H8).2) (unhide hrow), (unhide H8).1, ((unhide F6).trans (unhide HM)).trans (unhide H8).2⟩
      | false =>
        have CL2 := hide (unhide HL w6 (E1.cp i).ra (h6.same rfl) (by simp))
        clear h6 HL B6
        go_wp2_with (go_at_call 66; refine (unhide CL2).mono ?_; rintro r w8 ⟨rfl, h8, f8⟩; have H8 := hide (And.intro h8 f8); clear h8 f8)
        go_ret2
        exact ⟨_, rfl, (unhide HR).ft (unhide H8).2 (unhide hrow), (unhide H8).1, (unhide F6).trans (unhide H8).2⟩
    · have E : e.doIrq (i : Int) = ([], 8, e) := by unfold En.doIrq; rw [if_neg (by rw [hon]; decide), if_pos (by rw [Int.toNat_natCast]; simpa using hk)]
      rw [E]
      have hk2 : (e.cp i).la = false := by simpa using hk
      have e0 : e.set i { e.cp i with la := false } = e := by
        have : ({ e.cp i with la := false } : Cp) = e.cp i := by rw [← hk2]
        rw [this, En.set_self]
      rw [hk2, e0] at CT
      obtain ⟨n, hn⟩ : ∃ n, e.n = n := ⟨_, rfl⟩
      rw [hn] at hi hle hcap g1
      clear h ho hon hon2 hk hk2 E hn e0
      generalize (e.M : Int) = M at *
      go_enter Tryz.func33, Tryz.ntmps33
      go_wp2_with (first | (go_at_call 61; refine (unhide (CH _)).mono ?_; rintro r w1 ⟨rfl, rfl⟩) | (go_at_call 70; refine (unhide CT).mono ?_; rintro r w2 ⟨rfl, h2, f2⟩; have H2 := hide (And.intro h2 f2); clear h2 f2))
      go_ret2
      exact ⟨_, rfl, Rg.nil _ _, (unhide H2).1, (unhide H2).2⟩
  · have hon2 : e.on cpu = false := by simpa using hon
    have E : e.doIrq cpu = ([], 2, e) := if_pos hon2
    rw [E]
    rw [hon2] at CH
    clear h ho hon hon2 E g1
    generalize (e.M : Int) = M at *
    go_enter Tryz.func33, Tryz.ntmps33
    go_wp2_with (go_at_call 61; refine (unhide (CH _)).mono ?_; rintro r w1 ⟨rfl, rfl⟩)
    go_ret2
    exact ⟨_, rfl, Rg.nil _ _, unhide HH, Ft.refl _ _⟩
end
end Go.Proofs.YtjjdkkdnlnbedaaGreat
