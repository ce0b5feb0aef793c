/- The handlers: kick, softirq, irq. -/
import Derived.Test.YtjjdkkdnlnbedaaGreatEn4
namespace Go.Proofs.YtjjdkkdnlnbedaaGreat
open Go.RowKit Kt Qu
set_option linter.unusedVariables false

/-- Who is online is there, and its device is on. -/
def Onl (e : En) : Prop := ∀ i, i < 16 → e.M.testBit i = true → i < e.n ∧ (e.cp i).on = true
theorem on_nat {e : En} {cpu : Int} (h : e.on cpu = true) : ∃ i : Nat, cpu = (i : Int) ∧ i < 16 ∧ e.M.testBit i = true := by
  unfold En.on Mk.hasB at h
  simp only [Bool.and_eq_true, decide_eq_true_eq] at h
  exact ⟨cpu.toNat, by omega, by omega, h.2⟩
theorem Onl.at {e : En} (ho : Onl e) {cpu : Int} (h : e.on cpu = true) : ∃ i : Nat, cpu = (i : Int) ∧ i < e.n ∧ (e.cp i).on = true := by
  obtain ⟨i, hi, h16, hb⟩ := on_nat h
  exact ⟨i, hi, ho i h16 hb⟩
section
variable {w w' : World} {l : Loc} {e : En}
theorem Es.has (h : Es w l e) (cpu : Int) (w' : World) : Calls Tryz.prog 61 #[.int .u32 (e.M : Int), .int .i64 cpu] w' fun r w2 => r = .returned (.bool (e.on cpu)) ∧ w2 = w' := Mk.has_any e.M cpu (by have := h.M16; omega) w'
theorem Es.due (h : Es w l e) {i : Nat} (hi : i < e.n) : Calls Tryz.prog 72 #[.pointer (some ⟨l.b i, 0, none⟩), .agg #[.int .i64 e.z.m, .int .i64 e.z.v, .int .i64 e.z.q], .bool true] w fun r w' => r = .returned (.bool (decide (0 < ((e.cp i).L.filter (firB e.z.rd true)).length))) ∧ Below w.heap.size w w' := by
  obtain ⟨R, hR, hL⟩ := h.bs i hi
  refine (bdue hR e.z.m e.z.v e.z.q true).mono ?_
  rintro r w2 ⟨rfl, hb⟩
  refine ⟨?_, hb⟩
  rw [due_fir hR.ok, ← hL]
  rfl
theorem Es.take (h : Es w l e) {i : Nat} (hi : i < e.n) : Calls Tryz.prog 70 #[.pointer (some ⟨l.d i, 0, none⟩)] w fun r w' => r = .returned (.bool (e.cp i).la) ∧ Es w' l (e.set i { e.cp i with la := false }) ∧ Ft (efoot l) w w' := by
  refine (take_any w (h.dv i hi)).mono ?_
  rintro r w2 ⟨rfl, hD, ht⟩
  exact ⟨rfl, h.devd hi hD (Ft.of_tch ht) rfl rfl rfl, (Ft.of_tch ht).mono fun k hk => ⟨_, hk ▸ h.od i hi⟩⟩
theorem Es.ftR (h : Es w l e) (j : Nat) (v : Value) : Ft (efoot l) w (w.setCell ⟨l.r, j, none⟩ v) := (ft_set1 w l.r j v).mono fun k hk => ⟨_, hk ▸ h.orr⟩
theorem Es.same (h : Es w l e) {c : Cp} {i : Nat} (hc : c = e.cp i) : Es w l (e.set i c) := by rw [hc, En.set_self]; exact h
set_option maxRecDepth 20000 in
set_option maxHeartbeats 1000000 in
theorem kick_any (h : Es w l e) (ho : Onl e) (cpu : Int) : Calls Tryz.prog 35 #[.pointer (some ⟨l.g, 0, none⟩), .int .i64 cpu] w fun r w' => ∃ v, r = .returned (.tuple #[v, .int .i64 (e.doKick cpu).2.1]) ∧ Rg rfd w' w.heap.size v (e.doKick cpu).1 ∧ Es w' l (e.doKick cpu).2.2 ∧ Ft (efoot l) w w' := by
  have g1 : w.cell? ⟨l.g, 1, none⟩ = some (.slice (some ⟨l.r, 0, none⟩) e.n l.cap) := blkAt h.box 1 _ rfl
  have g2 : w.cell? ⟨l.g, 2, none⟩ = some (.int .u32 (e.M : Int)) := blkAt h.box 2 _ rfl
  have CH := fun w' => hide (h.has cpu w')
  have HH := hide h
  by_cases hon : e.on cpu = true
  · obtain ⟨i, rfl, hi, hon2⟩ := ho.at hon
    rw [hon] at CH
    have r3 := (h.row i hi).2.2.2
    have hfr := h.rfr
    have hle := h.n16
    have hcap := h.cap
    by_cases hk : (e.cp i).ki = true
    · have E : e.doKick (i : Int) = ([], 0, e.kick i) := by unfold En.doKick; rw [if_neg (by rw [hon]; decide), if_neg (by rw [Int.toNat_natCast, hk]; decide), Int.toNat_natCast]
      rw [E]
      rw [hk] at r3
      have h1 := h.mark hi 3 false (.inr rfl) rfl
      have CL0 := look_any h1 (i := i) hi (by rw [En.set_at]; exact hon2)
      rw [En.set_at, En.set_set] at CL0
      have HF := hide (h.ftR (i * 4 + 3) (.bool false))
      obtain ⟨E2, hE2⟩ : ∃ E2, e.kick i = E2 := ⟨_, rfl⟩
      rw [hE2]
      have CL : Hid (Calls Tryz.prog 66 #[.pointer (some ⟨l.g, 0, none⟩), .int .i64 (i : Int)] (w.setCell ⟨l.r, i * 4 + 3, none⟩ (.bool false)) fun r w' => r = .returned (.tuple #[]) ∧ Es w' l E2 ∧ Ft (efoot l) (w.setCell ⟨l.r, i * 4 + 3, none⟩ (.bool false)) w') := by
        rw [← hE2]; exact CL0
      obtain ⟨n, hn⟩ : ∃ n, e.n = n := ⟨_, rfl⟩
      rw [hn] at hi hle hcap g1
      have hM := hide hn
      clear h ho hon hon2 hk E h1 hE2 hn CL0
      generalize (e.M : Int) = M at *
      go_enter Tryz.func35, Tryz.ntmps35
      go_wp2_with (first | (go_at_call 61; refine (unhide (CH _)).mono ?_; rintro r w1 ⟨rfl, rfl⟩) | (go_at_call 66; refine (unhide CL).mono ?_; rintro r w2 ⟨rfl, h2, f2⟩; have H2 := hide (And.intro h2 f2); clear h2 f2))
      go_ret2
      exact ⟨_, rfl, Rg.nil _ _, (unhide H2).1, (unhide HF).trans (unhide H2).2⟩
    · have E : e.doKick (i : Int) = ([], 8, e) := by unfold En.doKick; rw [if_neg (by rw [hon]; decide), if_pos (by rw [Int.toNat_natCast]; simpa using hk)]
      rw [E]
      have hk2 : (e.cp i).ki = false := by simpa using hk
      rw [hk2] at r3
      obtain ⟨n, hn⟩ : ∃ n, e.n = n := ⟨_, rfl⟩
      rw [hn] at hi hle hcap g1
      clear h ho hon hon2 hk hk2 E hn
      generalize (e.M : Int) = M at *
      go_enter Tryz.func35, Tryz.ntmps35
      go_wp2_with (go_at_call 61; refine (unhide (CH _)).mono ?_; rintro r w1 ⟨rfl, rfl⟩)
      go_ret2
      exact ⟨_, rfl, Rg.nil _ _, unhide HH, Ft.refl _ _⟩
  · have hon2 : e.on cpu = false := by simpa using hon
    have E : e.doKick cpu = ([], 2, e) := if_pos hon2
    rw [E]
    rw [hon2] at CH
    clear h ho hon hon2 E g1
    generalize (e.M : Int) = M at *
    go_enter Tryz.func35, Tryz.ntmps35
    go_wp2_with (go_at_call 61; refine (unhide (CH _)).mono ?_; rintro r w1 ⟨rfl, rfl⟩)
    go_ret2
    exact ⟨_, rfl, Rg.nil _ _, unhide HH, Ft.refl _ _⟩
set_option maxRecDepth 20000 in
set_option maxHeartbeats 1000000 in
theorem soft_any (h : Es w l e) (ho : Onl e) (cpu : Int) : Calls Tryz.prog 34 #[.pointer (some ⟨l.g, 0, none⟩), .int .i64 cpu] w fun r w' => ∃ v, r = .returned (.tuple #[v, .int .i64 (e.doSoft cpu).2.1]) ∧ Rg rfd w' w.heap.size v (e.doSoft cpu).1 ∧ Es w' l (e.doSoft cpu).2.2 ∧ Ft (efoot l) w w' := by
  have g1 : w.cell? ⟨l.g, 1, none⟩ = some (.slice (some ⟨l.r, 0, none⟩) e.n l.cap) := blkAt h.box 1 _ rfl
  have g2 : w.cell? ⟨l.g, 2, none⟩ = some (.int .u32 (e.M : Int)) := blkAt h.box 2 _ rfl
  have CH := fun w' => hide (h.has cpu w')
  have HH := hide h
  by_cases hon : e.on cpu = true
  · obtain ⟨i, rfl, hi, hon2⟩ := ho.at hon
    rw [hon] at CH
    have r3 := (h.row i hi).2.2.1
    have hfr := h.rfr
    have hle := h.n16
    have hcap := h.cap
    by_cases hk : (e.cp i).ra = true
    · have E : e.doSoft (i : Int) = (e.fired i true, 0, e.soft i) := by unfold En.doSoft; rw [if_neg (by rw [hon]; decide), if_neg (by rw [Int.toNat_natCast, hk]; decide), Int.toNat_natCast]
      rw [E]
      rw [hk] at r3
      have h1 := h.mark hi 2 false (.inl rfl) rfl
      have CF : Hid (Calls Tryz.prog 71 #[.pointer (some ⟨l.g, 0, none⟩), .int .i64 (i : Int), .bool true] (w.setCell ⟨l.r, i * 4 + 2, none⟩ (.bool false)) fun r w' => ∃ v, r = .returned v ∧ Rg rfd w' w.heap.size v (e.fired i true) ∧ Es w' l (e.set i { e.cp i with ra := false, L := e.rest i true }) ∧ Ft (efoot l) (w.setCell ⟨l.r, i * 4 + 2, none⟩ (.bool false)) w') := by
        refine hide ((fire_any h1 (i := i) hi true).mono ?_)
        rintro r w2 ⟨v, rfl, row, h2, f2⟩
        refine ⟨v, rfl, ?_, ?_, f2⟩
        · have e1 : (e.set i { e.cp i with ra := false }).fired i true = e.fired i true := by unfold En.fired En.firL; rw [En.set_at]; rfl
          rw [show (if (2:Nat) = 2 then { e.cp i with ra := false } else { e.cp i with ki := false } : Cp) = { e.cp i with ra := false } from rfl, e1] at row
          simpa using row
        · rw [En.set_at, En.set_set] at h2
          have e2 : (e.set i { e.cp i with ra := false }).rest i true = e.rest i true := by unfold En.rest; rw [En.set_at]; rfl
          rw [show (if (2:Nat) = 2 then { e.cp i with ra := false } else { e.cp i with ki := false } : Cp) = { e.cp i with ra := false } from rfl, e2] at h2
          exact h2
      have CL : ∀ w2, Es w2 l (e.set i { e.cp i with ra := false, L := e.rest i true }) → Calls Tryz.prog 66 #[.pointer (some ⟨l.g, 0, none⟩), .int .i64 (i : Int)] w2 fun r w' => r = .returned (.tuple #[]) ∧ Es w' l (e.soft i) ∧ Ft (efoot l) w2 w' := fun w2 h2 => by
        have := look_any h2 (i := i) hi (by rw [En.set_at]; exact hon2)
        rw [En.set_at, En.set_set] at this
        exact this
      have HL := hide CL
      have HF := hide (h.ftR (i * 4 + 2) (.bool false))
      have HS := hide (And.intro rfl (h.ftR (i * 4 + 2) (.bool false)) : w.heap.size = w.heap.size ∧ _)
      generalize e.soft i = E2 at *
      generalize e.fired i true = FL at *
      generalize e.set i { e.cp i with ra := false, L := e.rest i true } = E1 at *
      obtain ⟨n, hn⟩ : ∃ n, e.n = n := ⟨_, rfl⟩
      rw [hn] at hi hle hcap g1
      clear h ho hon hon2 hk E h1 CL hn
      generalize (e.M : Int) = M at *
      go_enter Tryz.func34, Tryz.ntmps34
      go_wp2_with (first | (go_at_call 61; refine (unhide (CH _)).mono ?_; rintro r w1 ⟨rfl, rfl⟩) | (go_at_call 71; refine Hid.out ?_))
      refine hide ?_
      refine (unhide CF).mono ?_
      rintro r w2 ⟨v, rfl, row2, h2, f2⟩
      have CL2 := hide (unhide HL w2 h2)
      obtain ⟨ra, rcap, hf, -⟩ := row2.form
      obtain ⟨FN, hFN⟩ : ∃ n, FL.length = n := ⟨_, rfl⟩
      rw [hFN] at hf
      subst hf
      have H2 := hide (And.intro row2 f2)
      clear row2 h2 f2 hFN
      go_wp2_with (go_at_call 66; refine (unhide CL2).mono ?_; rintro r w3 ⟨rfl, h3, f3⟩; have H3 := hide (And.intro h3 f3); clear h3 f3)
      go_ret2
      refine ⟨_, rfl, (unhide H2).1.ft (unhide H3).2 fun g hg => ?_, (unhide H3).1, ((unhide HF).trans (unhide H2).2).trans (unhide H3).2⟩
      intro hk
      have h1 := (unhide H2).1.lt g hg
      have h2 := (unhide HH).lt g hk
      omega
    · have E : e.doSoft (i : Int) = ([], 8, e) := by unfold En.doSoft; rw [if_neg (by rw [hon]; decide), if_pos (by rw [Int.toNat_natCast]; simpa using hk)]
      rw [E]
      have hk2 : (e.cp i).ra = false := by simpa using hk
      rw [hk2] at r3
      obtain ⟨n, hn⟩ : ∃ n, e.n = n := ⟨_, rfl⟩
      rw [hn] at hi hle hcap g1
      clear h ho hon hon2 hk hk2 E hn
      generalize (e.M : Int) = M at *
      go_enter Tryz.func34, Tryz.ntmps34
      go_wp2_with (go_at_call 61; refine (unhide (CH _)).mono ?_; rintro r w1 ⟨rfl, rfl⟩)
      go_ret2
      exact ⟨_, rfl, Rg.nil _ _, unhide HH, Ft.refl _ _⟩
  · have hon2 : e.on cpu = false := by simpa using hon
    have E : e.doSoft cpu = ([], 2, e) := if_pos hon2
    rw [E]
    rw [hon2] at CH
    clear h ho hon hon2 E g1
    generalize (e.M : Int) = M at *
    go_enter Tryz.func34, Tryz.ntmps34
    go_wp2_with (go_at_call 61; refine (unhide (CH _)).mono ?_; rintro r w1 ⟨rfl, rfl⟩)
    go_ret2
    exact ⟨_, rfl, Rg.nil _ _, unhide HH, Ft.refl _ _⟩
end
end Go.Proofs.YtjjdkkdnlnbedaaGreat
