/- The clock changes: who is online is kicked. -/
import Derived.Test.YtjjdkkdnlnbedaaGreatEn8
namespace Go.Proofs.YtjjdkkdnlnbedaaGreat
open Go.RowKit Kt Qu
set_option linter.unusedVariables false
section
variable {w w' : World} {l : Loc} {e : En}
theorem Es.gen (h : Es w l e) : Calls Tryz.prog 74 #[.pointer (some ⟨l.c, 0, none⟩)] w fun r w' => r = .returned (.int .i64 e.z.n) ∧ w' = w := cgen_any w h.clk
theorem Es.markL (h : Es w l e) {k : Nat} (hk : k < e.n) : Es (w.setCell ⟨l.r, k * 4 + 3, none⟩ (.bool true)) l (e.set k { e.cp k with ki := true }) := h.mark hk 3 true (.inr rfl) rfl
set_option maxRecDepth 20000 in
set_option maxHeartbeats 1000000 in
theorem change_bound (h : Es w l e) (ho : Onl e) (F : Nat) (c : Nat) (r : Int × KS)
    (eg : ∀ (args : Array Value) (w : World), (callFunc F args).run Tryz.prog w = .ok (.enter F args) w)
    (hc : Calls Tryz.prog F #[.pointer (some ⟨c, 0, none⟩)] w fun x w2 => x = .returned (.int .i64 r.1) ∧ Es w2 l { e with z := r.2 } ∧ Ft (efoot l) w w2) :
    Calls Tryz.prog 36 #[.pointer (some ⟨l.g, 0, none⟩), .func (.func F) #[.pointer (some ⟨c, 0, none⟩)] #[]] w fun x w' => x = .returned (.int .i64 (e.change r).1) ∧ Es w' l (e.change r).2 ∧ Ft (efoot l) w w' := by
  have g0 : w.cell? ⟨l.g, 0, none⟩ = some (.pointer (some ⟨l.c, 0, none⟩)) := blkAt h.box 0 _ rfl
  obtain ⟨x, z⟩ := r
  simp only at hc
  have HC := hide hc
  have HH := hide h
  have CG := hide h.gen
  obtain ⟨e1, he1⟩ : ∃ e1 : En, e1 = { e with z := z } := ⟨_, rfl⟩
  rw [← he1] at HC
  have CG1 := hide (fun w1 (h1 : Es w1 l e1) => h1.gen)
  have ez : e1.z.n = z.n := by rw [he1]
  rw [ez] at CG1
  have HM := hide (fun w1 (h1 : Es w1 l e1) => And.intro (blkAt h1.box 0 (.pointer (some ⟨l.c, 0, none⟩)) rfl) (blkAt h1.box 2 (.int .u32 (e1.M : Int)) rfl))
  by_cases hn : z.n = e.z.n
  · have E : e.change (x, z) = (x, e1) := by
      unfold En.change
      rw [he1]
      simp only [hn, ne_eq, not_true_eq_false, false_and, if_false]
    rw [E]
    rw [hn] at CG1
    clear hc h ho hn E he1 ez
    generalize e.z.n = gn at *
    generalize (e1.M : Int) = M at *
    go_enter Tryz.func36, Tryz.ntmps36
    go_wp2_with (go_at_call 74; refine (unhide CG).mono ?_; rintro r w1 ⟨rfl, rfl⟩)
    refine (unhide HC).mono ?_
    rintro r w2 ⟨rfl, h2, f2⟩
    obtain ⟨g1, g2⟩ := unhide HM w2 h2
    have CG2 := hide (unhide CG1 w2 h2)
    have H2 := hide (And.intro h2 f2)
    have hbb : (gn == gn) = true := by simp
    clear h2 f2 HC CG g0 CG1 HM
    go_wp2_with (go_at_call 74; refine (unhide CG2).mono ?_; rintro r w3 ⟨rfl, rfl⟩)
    go_ret
    exact ⟨rfl, (unhide H2).1, (unhide H2).2⟩
  · have E : e.change (x, z) = (x, e1.mapL (Mk.listOf e1.M) (fun c => { c with ki := true })) := by
      rw [mapL_bits e1 _ (by rw [he1]; exact h.M16)]
      unfold En.change
      rw [he1]
      simp only [ne_eq, hn, not_false_eq_true, true_and]
    rw [E]
    have hl1 : ∀ (j k : Nat), (Mk.listOf e1.M)[j]? = some k → k < e1.n := fun j k hj => by
      have := (Mk.mem_list e1.M k).1 (List.mem_of_getElem? hj)
      rw [he1] at this ⊢
      exact (ho k this.1 this.2).1
    have HL1 := hide hl1
    have CM := hide (fun w1 (h1 : Es w1 l e1) => h1.list)
    have HST := hide (fun (j k : Nat) (h : (Mk.listOf e1.M)[j]? = some k) => list_step h)
    have hlen : (Mk.listOf e1.M).length ≤ 16 := Mk.listOf_len e1.M
    have hnn := h.n16
    have hcap := h.cap
    rw [show e.n = e1.n by rw [he1]] at hnn hcap
    have hbb : (z.n == e.z.n) = false := by simpa using hn
    clear hc h ho hn E he1 ez hl1
    generalize e.z.n = gn at *
    generalize z.n = g2n at *
    generalize Mk.listOf e1.M = LS at *
    generalize (e1.M : Int) = M at *
    obtain ⟨n, hn⟩ : ∃ n, LS.length = n := ⟨_, rfl⟩
    rw [hn] at hlen
    have HN := hide hn
    clear hn
    go_enter Tryz.func36, Tryz.ntmps36
    go_wp2_with (go_at_call 74; refine (unhide CG).mono ?_; rintro r w1 ⟨rfl, rfl⟩)
    refine (unhide HC).mono ?_
    rintro r w2 ⟨rfl, h2, f2⟩
    obtain ⟨g1, g2⟩ := unhide HM w2 h2
    have CG2 := hide (unhide CG1 w2 h2)
    have CM2 := hide (unhide CM w2 h2)
    have H1 := hide (And.intro h2 f2)
    clear h2 f2 HC CG g0 CG1 HM CM
    go_wp2_with (first | (go_at_call 74; refine (unhide CG2).mono ?_; rintro r w3 ⟨rfl, rfl⟩) | (go_at_call 27; refine Hid.out ?_))
    refine hide ?_
    refine (unhide CM2).mono ?_
    rintro r w3 ⟨v3, rfl, row3, hb3⟩
    obtain ⟨a3, cap3, hf, hcell⟩ := row3.form
    rw [Mk.ints_len, unhide HN] at hf
    subst hf
    have H3 := hide (And.intro row3 hb3)
    clear row3 hb3 hcell CM2 CG2 g1 g2
    go_wp2_with fail
    go_loopw [29] (fun s29 w' => ∃ j : Nat, s29 = .int .i64 (j : Int) ∧ j ≤ n ∧ Hid (Es w' l (e1.mapL (LS.take j) (fun c => { c with ki := true })) ∧ Ft (efoot l) w3 w')) (fun d _ => n - (intOf d).toNat)
    case atStart => exact ⟨0, rfl, by omega, hide ⟨by rw [List.take_zero, mapL_nil]; exact (unhide H1).1.below (unhide H3).2, Ft.refl _ _⟩⟩
    case round =>
      obtain ⟨j, rfl, hj, HJ⟩ := hrel
      by_cases hlt : j < n
      · obtain ⟨k, hk⟩ : ∃ k, LS[j]? = some k := ⟨_, List.getElem?_eq_getElem (by rw [unhide HN]; exact hlt)⟩
        have hkn := unhide HL1 j k hk
        obtain ⟨es1, es2⟩ := unhide HST j k hk
        have hrow := (unhide H3).1.ft (unhide HJ).2 (fun x hx => (unhide H1).1.lt x hx)
        obtain ⟨a4, cap4, hf4, hc4⟩ := hrow.form
        obtain ⟨g4, hg4, cell4⟩ := hc4 j (k : Int) (by unfold Mk.ints; rw [List.getElem?_map, hk]; rfl)
        rw [Mk.ints_len, unhide HN] at hf4
        obtain ⟨rfl, -⟩ : a3 = a4 ∧ cap3 = cap4 := by cases hf4; exact ⟨rfl, rfl⟩
        subst hg4
        have hE := (unhide HJ).1
        have g1 : wr.cell? ⟨l.g, 1, none⟩ = some (.slice (some ⟨l.r, 0, none⟩) e1.n l.cap) := blkAt hE.box 1 _ rfl
        have r3 := (hE.row k hkn).2.2.2
        have hfr := hE.rfr
        have h5 := hE.markL (k := k) hkn
        have e5 := mapL_snoc e1 (fun c => { c with ki := true }) es2
        rw [mapL_at _ _ es2, e5, ← es1] at h5
        have H5 := hide (And.intro h5 ((unhide HJ).2.trans (hE.ftR (k * 4 + 3) (.bool true))))
        clear hk es1 es2 hrow hc4 hE HJ hf4 h5 e5
        go_wp2_with fail
        go_roundw
        case rel => exact ⟨j + 1, by first | rfl | go_num, by omega, H5⟩
        case measure => simp [intOf]; omega
      · obtain rfl : j = n := by omega
        go_wp2_with fail
        go_ret
        have hJ := unhide HJ
        rw [List.take_of_length_le (Nat.le_of_eq (unhide HN))] at hJ
        exact ⟨rfl, hJ.1, ((unhide H1).2.trans (Ft.of_below _ (unhide H3).2)).trans hJ.2⟩
set_option maxRecDepth 20000 in
set_option maxHeartbeats 1000000 in
theorem change_clo (h : Es w l e) (ho : Onl e) (F : Nat) (p q : Value) (r : Int × KS)
    (eg : ∀ (args : Array Value) (w : World), (callFunc F args).run Tryz.prog w = .ok (.enter F args) w)
    (hc : Calls Tryz.prog F #[p, q] w fun x w2 => x = .returned (.int .i64 r.1) ∧ Es w2 l { e with z := r.2 } ∧ Ft (efoot l) w w2) :
    Calls Tryz.prog 36 #[.pointer (some ⟨l.g, 0, none⟩), .func (.func F) #[] #[p, q]] w fun x w' => x = .returned (.int .i64 (e.change r).1) ∧ Es w' l (e.change r).2 ∧ Ft (efoot l) w w' := by
  have g0 : w.cell? ⟨l.g, 0, none⟩ = some (.pointer (some ⟨l.c, 0, none⟩)) := blkAt h.box 0 _ rfl
  obtain ⟨x, z⟩ := r
  simp only at hc
  have HC := hide hc
  have HH := hide h
  have CG := hide h.gen
  obtain ⟨e1, he1⟩ : ∃ e1 : En, e1 = { e with z := z } := ⟨_, rfl⟩
  rw [← he1] at HC
  have CG1 := hide (fun w1 (h1 : Es w1 l e1) => h1.gen)
  have ez : e1.z.n = z.n := by rw [he1]
  rw [ez] at CG1
  have HM := hide (fun w1 (h1 : Es w1 l e1) => And.intro (blkAt h1.box 0 (.pointer (some ⟨l.c, 0, none⟩)) rfl) (blkAt h1.box 2 (.int .u32 (e1.M : Int)) rfl))
  by_cases hn : z.n = e.z.n
  · have E : e.change (x, z) = (x, e1) := by
      unfold En.change
      rw [he1]
      simp only [hn, ne_eq, not_true_eq_false, false_and, if_false]
    rw [E]
    rw [hn] at CG1
    clear hc h ho hn E he1 ez
    generalize e.z.n = gn at *
    generalize (e1.M : Int) = M at *
    go_enter Tryz.func36, Tryz.ntmps36
    go_wp2_with (go_at_call 74; refine (unhide CG).mono ?_; rintro r w1 ⟨rfl, rfl⟩)
    refine (unhide HC).mono ?_
    rintro r w2 ⟨rfl, h2, f2⟩
    obtain ⟨g1, g2⟩ := unhide HM w2 h2
    have CG2 := hide (unhide CG1 w2 h2)
    have H2 := hide (And.intro h2 f2)
    have hbb : (gn == gn) = true := by simp
    clear h2 f2 HC CG g0 CG1 HM
    go_wp2_with (go_at_call 74; refine (unhide CG2).mono ?_; rintro r w3 ⟨rfl, rfl⟩)
    go_ret
    exact ⟨rfl, (unhide H2).1, (unhide H2).2⟩
  · have E : e.change (x, z) = (x, e1.mapL (Mk.listOf e1.M) (fun c => { c with ki := true })) := by
      rw [mapL_bits e1 _ (by rw [he1]; exact h.M16)]
      unfold En.change
      rw [he1]
      simp only [ne_eq, hn, not_false_eq_true, true_and]
    rw [E]
    have hl1 : ∀ (j k : Nat), (Mk.listOf e1.M)[j]? = some k → k < e1.n := fun j k hj => by
      have := (Mk.mem_list e1.M k).1 (List.mem_of_getElem? hj)
      rw [he1] at this ⊢
      exact (ho k this.1 this.2).1
    have HL1 := hide hl1
    have CM := hide (fun w1 (h1 : Es w1 l e1) => h1.list)
    have HST := hide (fun (j k : Nat) (h : (Mk.listOf e1.M)[j]? = some k) => list_step h)
    have hlen : (Mk.listOf e1.M).length ≤ 16 := Mk.listOf_len e1.M
    have hnn := h.n16
    have hcap := h.cap
    rw [show e.n = e1.n by rw [he1]] at hnn hcap
    have hbb : (z.n == e.z.n) = false := by simpa using hn
    clear hc h ho hn E he1 ez hl1
    generalize e.z.n = gn at *
    generalize z.n = g2n at *
    generalize Mk.listOf e1.M = LS at *
    generalize (e1.M : Int) = M at *
    obtain ⟨n, hn⟩ : ∃ n, LS.length = n := ⟨_, rfl⟩
    rw [hn] at hlen
    have HN := hide hn
    clear hn
    go_enter Tryz.func36, Tryz.ntmps36
    go_wp2_with (go_at_call 74; refine (unhide CG).mono ?_; rintro r w1 ⟨rfl, rfl⟩)
    refine (unhide HC).mono ?_
    rintro r w2 ⟨rfl, h2, f2⟩
    obtain ⟨g1, g2⟩ := unhide HM w2 h2
    have CG2 := hide (unhide CG1 w2 h2)
    have CM2 := hide (unhide CM w2 h2)
    have H1 := hide (And.intro h2 f2)
    clear h2 f2 HC CG g0 CG1 HM CM
    go_wp2_with (first | (go_at_call 74; refine (unhide CG2).mono ?_; rintro r w3 ⟨rfl, rfl⟩) | (go_at_call 27; refine Hid.out ?_))
    refine hide ?_
    refine (unhide CM2).mono ?_
    rintro r w3 ⟨v3, rfl, row3, hb3⟩
    obtain ⟨a3, cap3, hf, hcell⟩ := row3.form
    rw [Mk.ints_len, unhide HN] at hf
    subst hf
    have H3 := hide (And.intro row3 hb3)
    clear row3 hb3 hcell CM2 CG2 g1 g2
    go_wp2_with fail
    go_loopw [29] (fun s29 w' => ∃ j : Nat, s29 = .int .i64 (j : Int) ∧ j ≤ n ∧ Hid (Es w' l (e1.mapL (LS.take j) (fun c => { c with ki := true })) ∧ Ft (efoot l) w3 w')) (fun d _ => n - (intOf d).toNat)
    case atStart => exact ⟨0, rfl, by omega, hide ⟨by rw [List.take_zero, mapL_nil]; exact (unhide H1).1.below (unhide H3).2, Ft.refl _ _⟩⟩
    case round =>
      obtain ⟨j, rfl, hj, HJ⟩ := hrel
      by_cases hlt : j < n
      · obtain ⟨k, hk⟩ : ∃ k, LS[j]? = some k := ⟨_, List.getElem?_eq_getElem (by rw [unhide HN]; exact hlt)⟩
        have hkn := unhide HL1 j k hk
        obtain ⟨es1, es2⟩ := unhide HST j k hk
        have hrow := (unhide H3).1.ft (unhide HJ).2 (fun x hx => (unhide H1).1.lt x hx)
        obtain ⟨a4, cap4, hf4, hc4⟩ := hrow.form
        obtain ⟨g4, hg4, cell4⟩ := hc4 j (k : Int) (by unfold Mk.ints; rw [List.getElem?_map, hk]; rfl)
        rw [Mk.ints_len, unhide HN] at hf4
        obtain ⟨rfl, -⟩ : a3 = a4 ∧ cap3 = cap4 := by cases hf4; exact ⟨rfl, rfl⟩
        subst hg4
        have hE := (unhide HJ).1
        have g1 : wr.cell? ⟨l.g, 1, none⟩ = some (.slice (some ⟨l.r, 0, none⟩) e1.n l.cap) := blkAt hE.box 1 _ rfl
        have r3 := (hE.row k hkn).2.2.2
        have hfr := hE.rfr
        have h5 := hE.markL (k := k) hkn
        have e5 := mapL_snoc e1 (fun c => { c with ki := true }) es2
        rw [mapL_at _ _ es2, e5, ← es1] at h5
        have H5 := hide (And.intro h5 ((unhide HJ).2.trans (hE.ftR (k * 4 + 3) (.bool true))))
        clear hk es1 es2 hrow hc4 hE HJ hf4 h5 e5
        go_wp2_with fail
        go_roundw
        case rel => exact ⟨j + 1, by first | rfl | go_num, by omega, H5⟩
        case measure => simp [intOf]; omega
      · obtain rfl : j = n := by omega
        go_wp2_with fail
        go_ret
        have hJ := unhide HJ
        rw [List.take_of_length_le (Nat.le_of_eq (unhide HN))] at hJ
        exact ⟨rfl, hJ.1, ((unhide H1).2.trans (Ft.of_below _ (unhide H3).2)).trans hJ.2⟩
end
end Go.Proofs.YtjjdkkdnlnbedaaGreat
