/- Alarms are never too late. -/
import Derived.Test.YtjjdkkdnlnbedaaGreatEn15
namespace Go.Proofs.YtjjdkkdnlnbedaaGreat
open Kt Qu
set_option linter.unusedVariables false

def ArmC (e : En) (c : Cp) : Prop := c.la = false → c.ra = false → c.ki = false → e.ahead c < maxT → ∃ a, c.arm = some a ∧ a ≤ max (e.ahead c) (e.z.m + e.le)
def Arm (e : En) : Prop := ∀ i, i < e.n → e.M.testBit i = true → ArmC e (e.cp i)
theorem mnF_bd (f : Nat → Int) (lz : Bool) : ∀ (L : List Tmr) (m : Int), -4611686018427387903 ≤ m → m ≤ 4611686018427387903 → -4611686018427387903 ≤ mnF f lz L m ∧ mnF f lz L m ≤ m
  | [], m, h1, h2 => ⟨h1, Int.le_refl _⟩
  | t :: r, m, h1, h2 => by
    have hb := subZ_bd t.soft (f t.clock.toNat)
    show -4611686018427387903 ≤ mnF f lz r (if lz || !t.lazy then min m (subZ t.soft (f t.clock.toNat)) else m) ∧ mnF f lz r (if lz || !t.lazy then min m (subZ t.soft (f t.clock.toNat)) else m) ≤ m
    split
    · obtain ⟨a, b⟩ := mnF_bd f lz r (min m (subZ t.soft (f t.clock.toNat))) (by omega) (by omega)
      exact ⟨a, by omega⟩
    · exact mnF_bd f lz r m h1 h2
theorem mnF_mono (f : Nat → Int) (lz : Bool) : ∀ (L : List Tmr) {m m' : Int}, m ≤ m' → mnF f lz L m ≤ mnF f lz L m'
  | [], m, m', h => h
  | t :: r, m, m', h => by
    show mnF f lz r (if lz || !t.lazy then min m (subZ t.soft (f t.clock.toNat)) else m) ≤ mnF f lz r (if lz || !t.lazy then min m' (subZ t.soft (f t.clock.toNat)) else m')
    split
    · exact mnF_mono f lz r (by omega)
    · exact mnF_mono f lz r h
theorem mnF_filter (f : Nat → Int) (lz : Bool) (p : Tmr → Bool) : ∀ (L : List Tmr) (m : Int), mnF f lz L m ≤ mnF f lz (L.filter p) m
  | [], m => Int.le_refl _
  | t :: r, m => by
    rw [List.filter_cons]
    split
    · exact mnF_filter f lz p r _
    · refine Int.le_trans ?_ (mnF_filter f lz p r m)
      show mnF f lz r (if lz || !t.lazy then min m (subZ t.soft (f t.clock.toNat)) else m) ≤ mnF f lz r m
      split
      · exact mnF_mono f lz r (by omega)
      · exact Int.le_refl _
theorem mnF_snoc (f : Nat → Int) (L : List Tmr) (t : Tmr) (m : Int) : mnF f true (L ++ [t]) m = min (mnF f true L m) (subZ t.soft (f t.clock.toNat)) := by
  unfold mnF
  rw [List.foldl_append]
  simp
theorem ahead_bd (e : En) (c : Cp) : -4611686018427387903 ≤ e.ahead c ∧ e.ahead c ≤ 4611686018427387903 := mnF_bd _ _ _ _ (by unfold maxT; omega) (by unfold maxT; omega)
theorem look_ahead (e : En) (c : Cp) : e.ahead (e.look c) = e.ahead c := by
  obtain ⟨-, -, a, -, b⟩ := look_flags e c
  unfold En.ahead
  rw [a, b]
theorem aim_le {e : En} (s : Int) (hs : -4611686018427387903 ≤ s ∧ s ≤ 4611686018427387903) (hn : neverB s = false) (hm : 0 ≤ e.z.m ∧ e.z.m ≤ 1152921504606846976) (hl : 0 ≤ e.le) : aimZ e.le e.gr e.z.m s ≤ max s (e.z.m + e.le) := by
  unfold aimZ
  rw [if_neg (by rw [hn]; decide)]
  unfold betweenZ
  have h1 : clampZ s = s := by unfold clampZ; rw [if_neg (by omega), if_neg (by omega)]
  have h2 : clampZ (addZ e.z.m e.le) ≤ e.z.m + e.le := by
    unfold addZ
    rw [if_neg (by omega)]
    have a1 : clampZ e.z.m = e.z.m := by unfold clampZ; rw [if_neg (by omega), if_neg (by omega)]
    rw [a1]
    have a2 : 0 ≤ clampZ e.le ∧ clampZ e.le ≤ e.le := by unfold clampZ; split <;> (try split) <;> omega
    have a3 : clampZ (e.z.m + clampZ e.le) ≤ e.z.m + clampZ e.le ∧ 0 ≤ clampZ (e.z.m + clampZ e.le) := by
      generalize clampZ e.le = x at *
      unfold clampZ; split <;> (try split) <;> omega
    generalize clampZ (e.z.m + clampZ e.le) = y at *
    have a4 : clampZ y ≤ y := by unfold clampZ; split <;> (try split) <;> omega
    omega
  rw [h1]
  omega
theorem look_arm {e : En} (hm : 0 ≤ e.z.m ∧ e.z.m ≤ 1152921504606846976) (hl : 0 ≤ e.le) (c : Cp) : ArmC e (e.look c) := by
  intro _ _ _ ha
  rw [look_ahead] at ha ⊢
  have hb := ahead_bd e c
  have hn : neverB (e.ahead c) = false := by unfold neverB maxT at *; simp; omega
  unfold En.look
  rw [if_neg (by rw [hn]; decide)]
  have h := aim_le (e := e) (e.ahead c) hb hn hm hl
  show ∃ a, armTo c.arm (aimZ e.le e.gr e.z.m (e.ahead c)) = some a ∧ _
  unfold armTo
  cases c.arm with
  | none => exact ⟨_, rfl, h⟩
  | some t =>
    by_cases q : t ≤ aimZ e.le e.gr e.z.m (e.ahead c)
    · exact ⟨t, if_pos q, by omega⟩
    · exact ⟨_, if_neg q, h⟩
/-- One processor has looked ahead anew, or has lost timers. -/
theorem Arm.set {e : En} (h : Arm e) {i : Nat} {c : Cp} (hc : ArmC e c) : Arm (e.set i c) := by
  intro j hj hb
  by_cases q : j = i
  · subst q; rw [En.set_at]; exact hc
  · rw [En.set_ne e c q]; exact h j hj hb
structure Tim (e : En) : Prop where
  m0 : 0 ≤ e.z.m
  m1 : e.z.m ≤ 1152921504606846976
  le : 0 ≤ e.le
theorem Tim.m {e : En} (h : Tim e) : 0 ≤ e.z.m ∧ e.z.m ≤ 1152921504606846976 := ⟨h.m0, h.m1⟩
theorem arm_next1 {e e1 : En} {l : List Frd} (h : Arm e) (ht : Tim e) (hx : e.next1 = some (l, e1)) : Arm e1 ∧ Tim e1 := by
  unfold En.next1 at hx
  split at hx
  · cases hx; exact ⟨h.set (look_arm ht.m ht.le _), ⟨ht.m0, ht.m1, ht.le⟩⟩
  · split at hx
    · cases hx; exact ⟨h.set (look_arm ht.m ht.le _), ⟨ht.m0, ht.m1, ht.le⟩⟩
    · split at hx
      · cases hx; exact ⟨h.set (look_arm ht.m ht.le _), ⟨ht.m0, ht.m1, ht.le⟩⟩
      · cases hx
theorem arm_settleF : ∀ (k : Nat) {e : En}, Arm e → Tim e → Arm (settleF k e).2
  | 0, e, h, _ => h
  | k + 1, e, h, ht => by
    show Arm (match e.next1 with | none => ([], e) | some (l, e1) => (l ++ (settleF k e1).1, (settleF k e1).2) : List Frd × En).2
    cases hx : e.next1 with
    | none => exact h
    | some o => obtain ⟨l, e1⟩ := o; exact arm_settleF k (arm_next1 h ht hx).1 (arm_next1 h ht hx).2
theorem arm_handlers {e : En} (h : Arm e) (ht : Tim e) (cpu : Int) : Arm (e.doIrq cpu).2.2 ∧ Arm (e.doSoft cpu).2.2 ∧ Arm (e.doKick cpu).2.2 := by
  unfold En.doIrq En.doSoft En.doKick
  refine ⟨?_, ?_, ?_⟩
  all_goals
    split
    · exact h
    · split
      · exact h
      · exact h.set (look_arm ht.m ht.le _)
theorem arm_start {e : En} (h : Arm e) (ht : Tim e) (cpu : Int) (t : Tmr) : Arm (e.start cpu t).2 := by
  unfold En.start
  by_cases h1 : e.on cpu = false ∨ t.clock < 0 ∨ 3 ≤ t.clock ∨ t.hard < t.soft
  · rw [if_pos h1]; exact h
  rw [if_neg h1]
  by_cases h2 : e.wher t.id ≠ none
  · rw [if_pos h2]; exact h
  rw [if_neg h2]
  by_cases h3 : 64 ≤ e.len
  · rw [if_pos h3]; exact h
  rw [if_neg h3]
  exact h.set (look_arm ht.m ht.le _)
theorem arm_cancel {e : En} (h : Arm e) (hok : EnOk e) (id : Int) : Arm (e.cancel id).2 := by
  unfold En.cancel
  split
  · exact h
  · rename_i i hw
    obtain ⟨hi, hm⟩ := wher_some hw
    obtain ⟨t, ht, -⟩ := List.mem_map.1 hm
    have hb := hok.has_bit hi ht
    refine h.set (i := i) ?_
    intro h1 h2 h3 h4
    have hle : e.ahead (e.cp i) ≤ e.ahead { e.cp i with L := (e.cp i).L.filter fun t => decide (t.id ≠ id) } := mnF_filter _ _ _ _ _
    obtain ⟨a, ha, hb2⟩ := h i hi hb h1 h2 h3 (by omega)
    exact ⟨a, ha, by omega⟩
theorem arm_adv {e : En} (h : Arm e) (k : Int) : Arm (e.adv k).2 := by
  unfold En.adv
  by_cases h0 : (act0 k e.z).1 = 0
  · rw [if_pos h0]
    have hk : 0 ≤ k := by
      unfold act0 at h0
      split at h0
      · exact absurd (show (2 : Int) = 0 from h0) (by decide)
      · rename_i hk; omega
    have hz : (act0 k e.z).2.off = e.z.off ∧ e.z.m ≤ (act0 k e.z).2.m := by
      unfold act0 at h0 ⊢
      split at h0
      · exact absurd (show (2 : Int) = 0 from h0) (by decide)
      · rename_i hk2
        rw [if_neg hk2]
        unfold KS.off
        simp only
        by_cases hs : e.z.s = true
        · simp only [hs, if_true]; exact ⟨trivial, Int.le_refl _⟩
        · simp only [hs, Bool.false_eq_true, if_false]
          exact ⟨by rw [show e.z.v + k - (e.z.m + k) = e.z.v - e.z.m by omega, show e.z.q + k - (e.z.m + k) = e.z.q - e.z.m by omega], by omega⟩
    generalize (act0 k e.z).2 = z at *
    intro i hi hb
    show ArmC _ (if e.M.testBit i = true then passC z.m (e.cp i) else e.cp i)
    rw [if_pos hb]
    have hah : ∀ c, (({ e with z := z, cp := fun i => if e.M.testBit i = true then passC z.m (e.cp i) else e.cp i } : En)).ahead c = e.ahead c := fun c => by unfold En.ahead; rw [show ({ e with z := z, cp := fun i => if e.M.testBit i = true then passC z.m (e.cp i) else e.cp i } : En).z = z from rfl, hz.1]
    intro h1 h2 h3 h4
    rw [hah] at h4 ⊢
    have hh := h i hi hb
    unfold passC at h1 h2 h3 h4 ⊢
    cases harm : (e.cp i).arm with
    | none =>
      simp only [harm] at h1 h2 h3 h4 ⊢
      obtain ⟨a, ha, -⟩ := hh h1 h2 h3 h4
      rw [harm] at ha; cases ha
    | some t =>
      simp only [harm] at h1 h2 h3 h4 ⊢
      by_cases q : t ≤ z.m
      · simp only [q, if_true] at h1; cases h1
      · simp only [q, if_false] at h1 h2 h3 h4 ⊢
        obtain ⟨a, ha, hb2⟩ := hh h1 h2 h3 h4
        refine ⟨a, ha, ?_⟩
        have := hz.2
        show a ≤ max _ (z.m + e.le)
        omega
  · rw [if_neg h0]; exact h
theorem arm_change {e : En} (h : Arm e) (r : Int × KS) (hr : r.2.n = e.z.n → r.2.off = e.z.off ∧ r.2.m = e.z.m) : Arm (e.change r).2 := by
  unfold En.change
  intro i hi hb
  have hb2 : e.M.testBit i = true := hb
  show ArmC _ (if r.2.n ≠ e.z.n ∧ e.M.testBit i = true then { e.cp i with ki := true } else e.cp i)
  by_cases q : r.2.n = e.z.n
  · rw [if_neg (fun z => z.1 q)]
    obtain ⟨a, b⟩ := hr q
    intro h1 h2 h3 h4
    have e1 : ∀ c, (({ e with z := r.2, cp := fun i => if r.2.n ≠ e.z.n ∧ e.M.testBit i = true then { e.cp i with ki := true } else e.cp i } : En)).ahead c = e.ahead c := fun c => by
      show mnF r.2.off _ _ _ = mnF e.z.off _ _ _
      rw [a]
    rw [e1] at h4 ⊢
    obtain ⟨x, hx, hx2⟩ := h i hi hb2 h1 h2 h3 h4
    refine ⟨x, hx, ?_⟩
    show x ≤ max _ (r.2.m + e.le)
    rw [b]; exact hx2
  · rw [if_pos ⟨q, hb2⟩]
    intro h1 h2 h3 h4
    cases h3
theorem actTo_same (t : Int) (z : KS) (h : (actTo t z).2.n = z.n) : (actTo t z).2.off = z.off ∧ (actTo t z).2.m = z.m := by
  unfold actTo at h ⊢
  split
  · exact ⟨rfl, rfl⟩
  · rename_i hk
    rw [if_neg hk] at h
    have hv : t = z.v := by
      by_cases q : t = z.v
      · exact q
      · have h2 : (if t = z.v then z.n else z.n + 1) = z.n := h
        rw [if_neg q] at h2; omega
    subst hv
    exact ⟨rfl, rfl⟩
theorem act3_same (z : KS) : (act3 z).2.off = z.off ∧ (act3 z).2.m = z.m := by unfold act3; split <;> exact ⟨rfl, rfl⟩
theorem act4_same (z : KS) (h : (act4 z).2.n = z.n) : (act4 z).2.off = z.off ∧ (act4 z).2.m = z.m := by
  unfold act4 at h ⊢
  split
  · rename_i hk
    rw [if_pos hk] at h
    have hv : z.c = z.q := by
      by_cases q : z.c = z.q
      · exact q
      · have h2 : (if z.c = z.q then z.n else z.n + 1) = z.n := h
        rw [if_neg q] at h2; omega
    refine ⟨?_, rfl⟩
    unfold KS.off
    simp only
    rw [hv, show z.v + (z.q - z.q) = z.v by omega]
  · exact ⟨rfl, rfl⟩
theorem arm_leave {e : En} (h : Arm e) (hok : EnOk e) (ht : Tim e) (cpu : Int) : Arm (e.leave cpu).2 := by
  cases hon : e.on cpu with
  | false => rw [show e.leave cpu = (2, e) from if_pos hon]; exact h
  | true =>
    obtain ⟨c, rfl, h16, hb⟩ := on_nat hon
    cases hnx : (Mk.nextL (Mk.listOf (Mk.woN e.M (c : Int))) (c : Int)).2 with
    | false =>
      have : e.leave (c : Int) = (8, e) := by unfold En.leave; rw [if_neg (by rw [hon]; decide), if_pos hnx]
      rw [this]; exact h
    | true =>
      obtain ⟨t, htm, ht1⟩ := nextL_mem hnx
      rw [leave_gone hon hnx ht1]
      have hg : ∀ i, i < e.n → (Mk.woN e.M (c : Int)).testBit i = true → i ≠ t → ArmC (e.gone c t (Mk.woN e.M (c : Int))) ((e.gone c t (Mk.woN e.M (c : Int))).cp i) := fun i hi hb2 hne => by
        have hn16 := hok.n16
        rw [Mk.woN_bit e.M (c : Int) i (by omega)] at hb2
        simp only [Bool.and_eq_true, Bool.not_eq_true', decide_eq_false_iff_not] at hb2
        have hic : i ≠ c := fun q => hb2.2 (by rw [q])
        show ArmC _ (if i = c then cp0 else if i = t then _ else e.cp i)
        rw [if_neg hic, if_neg hne]
        exact h i hi hb2.1
      intro i hi hb2
      by_cases q : i = t
      · subst q
        show ArmC _ (((e.gone c i _).set i _).cp i)
        rw [En.set_at]
        exact look_arm (e := e.gone c i (Mk.woN e.M (c : Int))) ht.m ht.le _
      · show ArmC _ (((e.gone c t _).set t _).cp i)
        rw [En.set_ne _ _ q]
        exact hg i hi hb2 q
theorem arm_enter {e : En} (h : Arm e) (hok : EnOk e) (cpu : Int) : Arm (e.enter cpu).2 := by
  unfold En.enter
  by_cases h1 : cpu < 0 ∨ (e.n : Int) ≤ cpu
  · rw [if_pos h1]; exact h
  rw [if_neg h1]
  by_cases h2 : e.on cpu = true
  · rw [if_pos h2]; exact h
  rw [if_neg h2]
  obtain ⟨i, rfl⟩ : ∃ i : Nat, cpu = (i : Int) := ⟨cpu.toNat, by omega⟩
  have hn16 := hok.n16
  have hi : i < e.n := by omega
  have hone : Mk.oneN (i : Int) = 2 ^ i := by unfold Mk.oneN; rw [if_pos (by omega), Int.toNat_natCast]
  have hoff : e.M.testBit i = false := by
    cases q : e.M.testBit i with
    | false => rfl
    | true => exact absurd (by unfold En.on Mk.hasB; simp only [Bool.and_eq_true, decide_eq_true_eq, Int.toNat_natCast]; exact ⟨by omega, q⟩) h2
  intro j hj hb
  have hb2 : (e.M ||| Mk.oneN (i : Int)).testBit j = true := hb
  rw [Nat.testBit_or, hone, Nat.testBit_two_pow] at hb2
  show ArmC _ (if j = (i : Int).toNat then { e.cp j with on := true } else e.cp j)
  rw [Int.toNat_natCast]
  by_cases q : j = i
  · subst q
    rw [if_pos rfl, hok.off j hi hoff]
    intro _ _ _ h4
    exact absurd h4 (Int.lt_irrefl _)
  · rw [if_neg q]
    rw [decide_eq_false (fun z => q z.symm), Bool.or_false] at hb2
    exact h j hj hb2
theorem arm_step {e : En} (h : Arm e) (hok : EnOk e) (ht : Tim e) (s : Stp) : Arm (e.step s).2.2 := by
  obtain ⟨a, b, c⟩ := arm_handlers h ht s.cpu
  unfold En.step
  by_cases q1 : s.kind = 1
  · rw [if_pos q1]; exact arm_start h ht s.cpu s.t
  rw [if_neg q1]
  by_cases q2 : s.kind = 2
  · rw [if_pos q2]; exact arm_cancel h hok s.n
  rw [if_neg q2]
  by_cases q3 : s.kind = 3
  · rw [if_pos q3]; exact arm_adv h s.n
  rw [if_neg q3]
  by_cases q4 : s.kind = 4
  · rw [if_pos q4]; exact a
  rw [if_neg q4]
  by_cases q5 : s.kind = 5
  · rw [if_pos q5]; exact b
  rw [if_neg q5]
  by_cases q6 : s.kind = 6
  · rw [if_pos q6]; exact c
  rw [if_neg q6]
  by_cases q7 : s.kind = 7
  · rw [if_pos q7]; exact arm_change h _ (actTo_same s.n e.z)
  rw [if_neg q7]
  by_cases q8 : s.kind = 8
  · rw [if_pos q8]; exact arm_change h _ (fun _ => act3_same e.z)
  rw [if_neg q8]
  by_cases q9 : s.kind = 9
  · rw [if_pos q9]; exact arm_change h _ (act4_same e.z)
  rw [if_neg q9]
  by_cases q10 : s.kind = 10
  · rw [if_pos q10]; exact arm_leave h hok ht s.cpu
  rw [if_neg q10]
  by_cases q11 : s.kind = 11
  · rw [if_pos q11]; exact arm_enter h hok s.cpu
  rw [if_neg q11]
  by_cases q12 : s.kind = 12
  · rw [if_pos q12]; exact arm_settleF 65 h ht
  rw [if_neg q12]; exact h
theorem settleF_n : ∀ (k : Nat) (e : En), (settleF k e).2.n = e.n ∧ (settleF k e).2.le = e.le
  | 0, e => ⟨rfl, rfl⟩
  | k + 1, e => by
    show (match e.next1 with | none => ([], e) | some (l, e1) => (l ++ (settleF k e1).1, (settleF k e1).2) : List Frd × En).2.n = _ ∧ (match e.next1 with | none => ([], e) | some (l, e1) => (l ++ (settleF k e1).1, (settleF k e1).2) : List Frd × En).2.le = _
    cases hx : e.next1 with
    | none => exact ⟨rfl, rfl⟩
    | some o =>
      obtain ⟨l, e1⟩ := o
      obtain ⟨a, b⟩ := settleF_n k e1
      have h : e1.n = e.n ∧ e1.le = e.le := by
        unfold En.next1 at hx
        split at hx
        · cases hx; exact ⟨rfl, rfl⟩
        · split at hx
          · cases hx; exact ⟨rfl, rfl⟩
          · split at hx
            · cases hx; exact ⟨rfl, rfl⟩
            · cases hx
      exact ⟨a.trans h.1, b.trans h.2⟩
theorem step_n (e : En) (s : Stp) : (e.step s).2.2.n = e.n ∧ (e.step s).2.2.le = e.le := by
  unfold En.step
  by_cases q1 : s.kind = 1
  · rw [if_pos q1]
    show (e.start s.cpu s.t).2.n = _ ∧ (e.start s.cpu s.t).2.le = _
    unfold En.start
    by_cases h1 : e.on s.cpu = false ∨ s.t.clock < 0 ∨ 3 ≤ s.t.clock ∨ s.t.hard < s.t.soft
    · rw [if_pos h1]; exact ⟨rfl, rfl⟩
    rw [if_neg h1]
    by_cases h2 : e.wher s.t.id ≠ none
    · rw [if_pos h2]; exact ⟨rfl, rfl⟩
    rw [if_neg h2]
    by_cases h3 : 64 ≤ e.len
    · rw [if_pos h3]; exact ⟨rfl, rfl⟩
    rw [if_neg h3]; exact ⟨rfl, rfl⟩
  rw [if_neg q1]
  by_cases q2 : s.kind = 2
  · rw [if_pos q2]
    show (e.cancel s.n).2.n = _ ∧ (e.cancel s.n).2.le = _
    unfold En.cancel; split <;> exact ⟨rfl, rfl⟩
  rw [if_neg q2]
  by_cases q3 : s.kind = 3
  · rw [if_pos q3]
    show (e.adv s.n).2.n = _ ∧ (e.adv s.n).2.le = _
    unfold En.adv; split <;> exact ⟨rfl, rfl⟩
  rw [if_neg q3]
  have hh : ((e.doIrq s.cpu).2.2.n = e.n ∧ (e.doIrq s.cpu).2.2.le = e.le) ∧ ((e.doSoft s.cpu).2.2.n = e.n ∧ (e.doSoft s.cpu).2.2.le = e.le) ∧ ((e.doKick s.cpu).2.2.n = e.n ∧ (e.doKick s.cpu).2.2.le = e.le) := by
    unfold En.doIrq En.doSoft En.doKick
    refine ⟨?_, ?_, ?_⟩ <;> (split; exact ⟨rfl, rfl⟩; split <;> exact ⟨rfl, rfl⟩)
  by_cases q4 : s.kind = 4
  · rw [if_pos q4]; exact hh.1
  rw [if_neg q4]
  by_cases q5 : s.kind = 5
  · rw [if_pos q5]; exact hh.2.1
  rw [if_neg q5]
  by_cases q6 : s.kind = 6
  · rw [if_pos q6]; exact hh.2.2
  rw [if_neg q6]
  by_cases q7 : s.kind = 7
  · rw [if_pos q7]; exact ⟨rfl, rfl⟩
  rw [if_neg q7]
  by_cases q8 : s.kind = 8
  · rw [if_pos q8]; exact ⟨rfl, rfl⟩
  rw [if_neg q8]
  by_cases q9 : s.kind = 9
  · rw [if_pos q9]; exact ⟨rfl, rfl⟩
  rw [if_neg q9]
  by_cases q10 : s.kind = 10
  · rw [if_pos q10]
    show (e.leave s.cpu).2.n = _ ∧ (e.leave s.cpu).2.le = _
    unfold En.leave
    split
    · exact ⟨rfl, rfl⟩
    · split <;> exact ⟨rfl, rfl⟩
  rw [if_neg q10]
  by_cases q11 : s.kind = 11
  · rw [if_pos q11]
    show (e.enter s.cpu).2.n = _ ∧ (e.enter s.cpu).2.le = _
    unfold En.enter
    split
    · exact ⟨rfl, rfl⟩
    · split <;> exact ⟨rfl, rfl⟩
  rw [if_neg q11]
  by_cases q12 : s.kind = 12
  · rw [if_pos q12]; exact settleF_n 65 e
  rw [if_neg q12]; exact ⟨rfl, rfl⟩
theorem off_rd (z : KS) (c : Nat) (hc : c ≤ 2) : z.off c = z.rd c - z.m := by
  rcases (show c = 0 ∨ c = 1 ∨ c = 2 by omega) with rfl | rfl | rfl
  · show (0 : Int) = z.m - z.m; omega
  · rfl
  · rfl
theorem rd_bd {z : KS} (h : Nums z.c z.m z.v z.q z.n) (c : Nat) : 0 ≤ z.rd c ∧ z.rd c ≤ 2305843009213693952 := by
  have := h.m0; have := h.mq; have := h.qc; have := h.c1; have := h.v0; have := h.v1
  unfold KS.rd tri
  split
  · omega
  · split <;> omega
theorem arm_new (n : Nat) (le gr : Int) : Arm (enNew n le gr) := fun i hi hb _ _ _ h4 => absurd h4 (Int.lt_irrefl _)
end Go.Proofs.YtjjdkkdnlnbedaaGreat
