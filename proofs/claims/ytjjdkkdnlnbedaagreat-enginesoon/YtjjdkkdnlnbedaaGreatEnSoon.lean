/- No alarm is too late for what it is for: where all is done at once (for EngineSoon; on the model alone). -/
import Derived.Test.YtjjdkkdnlnbedaaGreatEnFires
import Derived.Test.YtjjdkkdnlnbedaaGreatEnArm
namespace Go.Proofs.YtjjdkkdnlnbedaaGreat
open Kt Qu
set_option linter.unusedVariables false

theorem subZ_zero {s : Int} (h : 0 ≤ s ∧ s ≤ 255) : subZ s 0 = s := by
  unfold subZ
  rw [if_neg (by omega), clampZ_id (t := s) (by omega) (by omega), clampZ_id (t := 0) (by omega) (by omega), Int.sub_zero, clampZ_id (t := s) (by omega) (by omega)]
theorem mnF_le0 (f : Nat → Int) (lz : Bool) : ∀ (L : List Tmr) (m : Int), mnF f lz L m ≤ m
  | [], m => Int.le_refl _
  | y :: r, m => by
    show mnF f lz r (if lz || !y.lazy then min m (subZ y.soft (f y.clock.toNat)) else m) ≤ m
    refine Int.le_trans (mnF_le0 f lz r _) ?_
    split <;> omega
theorem mnF_le (f : Nat → Int) (lz : Bool) {t : Tmr} (hl : (lz || !t.lazy) = true) : ∀ (L : List Tmr) (m : Int), t ∈ L → mnF f lz L m ≤ subZ t.soft (f t.clock.toNat)
  | [], m, h => by cases h
  | y :: r, m, h => by
    show mnF f lz r (if lz || !y.lazy then min m (subZ y.soft (f y.clock.toNat)) else m) ≤ _
    rcases List.mem_cons.1 h with q | q
    · subst q
      rw [if_pos hl]
      exact Int.le_trans (mnF_le0 f lz r _) (by omega)
    · exact mnF_le f lz hl r _ q
theorem mnF_gt (f : Nat → Int) (lz : Bool) (x : Int) : ∀ (L : List Tmr) (m : Int), x < m → (∀ t ∈ L, (lz || !t.lazy) = true → x < subZ t.soft (f t.clock.toNat)) → x < mnF f lz L m
  | [], m, h, _ => h
  | y :: r, m, h, k => by
    show x < mnF f lz r (if lz || !y.lazy then min m (subZ y.soft (f y.clock.toNat)) else m)
    refine mnF_gt f lz x r _ ?_ (fun t ht => k t (List.mem_cons_of_mem _ ht))
    split
    · rename_i q
      have := k y (List.mem_cons_self ..) q
      omega
    · exact h
/-- The timers of a processor, and until when each must have fired. -/
def SmC (m le : Int) (B : Int → Int) (c : Cp) : Prop := ∀ t ∈ c.L, t.clock = 0 ∧ 0 ≤ t.soft ∧ t.soft ≤ 255 ∧ t.soft + le ≤ B t.id ∧ B t.id ≤ max t.soft m + le
/-- Each timer has its alarm, or its processor is about to look. -/
def PC (B : Int → Int) (c : Cp) : Prop := c.ki = false ∧ (c.la = true ∨ ∀ t ∈ c.L, (c.ra = true ∧ t.lazy = true) ∨ ∃ a, c.arm = some a ∧ a ≤ B t.id)
/-- No alarm is behind. -/
def AM (m : Int) (c : Cp) : Prop := ∀ a, c.arm = some a → m < a
theorem off_zero (z : KS) : z.off 0 = 0 := rfl
theorem rd_zero (z : KS) : z.rd 0 = z.m := rfl
theorem ahead_le {e : En} {c : Cp} {m le : Int} {B : Int → Int} (hb : SmC m le B c) {t : Tmr} (ht : t ∈ c.L) (hl : c.ra = false ∨ t.lazy = false) : e.ahead c ≤ t.soft := by
  obtain ⟨h1, h2, h3, -, -⟩ := hb t ht
  have := mnF_le e.z.off (!c.ra) (t := t) (by rcases hl with q | q <;> simp [q]) c.L maxT ht
  rw [h1, show e.z.off (Int.toNat 0) = 0 from rfl, subZ_zero ⟨h2, h3⟩] at this
  exact this
theorem ahead_gt {e : En} {c : Cp} {m le : Int} {B : Int → Int} (hb : SmC m le B c) (x : Int) (hx : x < maxT) (h : ∀ t ∈ c.L, (c.ra = true ∧ t.lazy = true) ∨ x < t.soft) : x < e.ahead c := by
  refine mnF_gt _ _ x c.L maxT hx fun t ht hl => ?_
  obtain ⟨h1, h2, h3, -, -⟩ := hb t ht
  rw [h1, show e.z.off (Int.toNat 0) = 0 from rfl, subZ_zero ⟨h2, h3⟩]
  rcases h t ht with ⟨q1, q2⟩ | q
  · rw [q1, q2] at hl; cases hl
  · exact q
theorem look_PC {e : En} {B : Int → Int} {c : Cp} (ht : Tim e) (hb : SmC e.z.m e.le B c) (hki : c.ki = false)
    (h : ∀ t ∈ c.L, (c.ra = true ∧ t.lazy = true) ∨ (∃ a, c.arm = some a ∧ a ≤ B t.id) ∨ e.z.m + e.le ≤ B t.id) : PC B (e.look c) := by
  obtain ⟨a1, a2, a3, -, a5⟩ := look_flags e c
  refine ⟨a1.trans hki, .inr fun t htm => ?_⟩
  rw [a5] at htm
  rw [a3]
  by_cases hx : c.ra = true ∧ t.lazy = true
  · exact .inl hx
  refine .inr ?_
  have hl : c.ra = false ∨ t.lazy = false := by
    cases q1 : c.ra with
    | false => exact .inl rfl
    | true => cases q2 : t.lazy with | false => exact .inr rfl | true => exact absurd ⟨q1, q2⟩ hx
  have hle := ahead_le (e := e) hb htm hl
  obtain ⟨h1, h2, h3, h4, -⟩ := hb t htm
  have hbd := ahead_bd e c
  have hn : neverB (e.ahead c) = false := by unfold neverB; simp; omega
  have hal := aim_le (e := e) (e.ahead c) hbd hn ht.m ht.le
  have hlp := ht.le
  unfold En.look
  rw [if_neg (by rw [hn]; decide)]
  show ∃ a, armTo c.arm (aimZ e.le e.gr e.z.m (e.ahead c)) = some a ∧ _
  generalize aimZ e.le e.gr e.z.m (e.ahead c) = A at *
  unfold armTo
  cases ha : c.arm with
  | none =>
    refine ⟨A, rfl, ?_⟩
    rcases h t htm with q | ⟨a, q, -⟩ | q
    · exact absurd q hx
    · rw [ha] at q; cases q
    · omega
  | some s =>
    rcases h t htm with q | ⟨a, q, q2⟩ | q
    · exact absurd q hx
    · rw [ha] at q
      have hsa : s = a := Option.some.inj q
      show ∃ a, (if s ≤ A then some s else some A) = some a ∧ _
      by_cases p : s ≤ A
      · exact ⟨s, if_pos p, by omega⟩
      · exact ⟨A, if_neg p, by omega⟩
    · show ∃ a, (if s ≤ A then some s else some A) = some a ∧ _
      by_cases p : s ≤ A
      · exact ⟨s, if_pos p, by omega⟩
      · exact ⟨A, if_neg p, by omega⟩
theorem aim_gt {e : En} (s : Int) (hs : s < maxT) (hm : 0 ≤ e.z.m ∧ e.z.m ≤ 1152921504606846976) (hl : 0 ≤ e.le ∧ e.le ≤ 1000) (hg : e.gr = 1000) (h : e.z.m < s ∨ 0 < e.le) : e.z.m < aimZ e.le e.gr e.z.m s := by
  unfold maxT at hs
  unfold aimZ
  rw [if_neg (by unfold neverB; simp; omega)]
  unfold betweenZ addZ
  rw [if_neg (by omega), if_neg (by omega), hg, clampZ_id (t := e.z.m) (by omega) (by omega), clampZ_id (t := e.le) (by omega) (by omega), clampZ_id (t := 1000) (by omega) (by omega), clampZ_id (t := e.z.m + e.le) (by omega) (by omega), clampZ_id (t := e.z.m + e.le) (by omega) (by omega), clampZ_id (t := e.z.m + 1000) (by omega) (by omega), clampZ_id (t := e.z.m + 1000) (by omega) (by omega)]
  have hc : s ≤ clampZ s := by unfold clampZ; split <;> (try split) <;> omega
  omega
theorem look_AM {e : En} {c : Cp} (ht : Tim e) (hl : 0 ≤ e.le ∧ e.le ≤ 1000) (hg : e.gr = 1000) (h : AM e.z.m c) (hgt : e.z.m < e.ahead c ∨ 0 < e.le) : AM e.z.m (e.look c) := by
  intro a ha
  unfold En.look at ha
  by_cases hn : neverB (e.ahead c) = true
  · rw [if_pos hn] at ha; exact h a ha
  rw [if_neg hn] at ha
  have hs : e.ahead c < maxT := by unfold maxT; unfold neverB at hn; simp at hn; exact hn
  have hA := aim_gt (e := e) (e.ahead c) hs ht.m hl hg hgt
  replace ha : armTo c.arm (aimZ e.le e.gr e.z.m (e.ahead c)) = some a := ha
  generalize aimZ e.le e.gr e.z.m (e.ahead c) = A at *
  unfold armTo at ha
  cases hc : c.arm with
  | none => rw [hc] at ha; cases ha; exact hA
  | some s =>
    rw [hc] at ha
    replace ha : (if s ≤ A then some s else some A) = some a := ha
    by_cases p : s ≤ A
    · rw [if_pos p] at ha; exact (Option.some.inj ha) ▸ h s hc
    · rw [if_neg p] at ha; cases ha; exact hA
end Go.Proofs.YtjjdkkdnlnbedaaGreat
