/- Where all is done at once no timer is late: start, advance, settle (for EngineSoon; on the model alone). -/
import Derived.Test.YtjjdkkdnlnbedaaGreatEnSoon
import Derived.Test.YtjjdkkdnlnbedaaGreatEnSm
namespace Go.Proofs.YtjjdkkdnlnbedaaGreat
open Kt Qu
set_option linter.unusedVariables false

theorem due_small {m : Int} {t : Tmr} (hm : 0 ≤ m ∧ m ≤ 1000) (hs : 0 ≤ t.soft ∧ t.soft ≤ 255) : dueT m t ↔ t.soft ≤ m := by
  unfold dueT
  rw [clampZ_id (t := t.soft) (by omega) (by omega), clampZ_id (t := m) (by omega) (by omega)]
  omega
/-- One processor's part. -/
structure MidC (m le : Int) (B : Int → Int) (c : Cp) : Prop where
  sm : SmC m le B c
  pc : PC B c
  am : AM m c
  bd : ∀ t ∈ c.L, m ≤ B t.id + 1
structure QuC (m le : Int) (B : Int → Int) (c : Cp) : Prop where
  sm : SmC m le B c
  ki : c.ki = false
  la : c.la = false
  ra : c.ra = false
  arm : ∀ t ∈ c.L, ∃ a, c.arm = some a ∧ a ≤ B t.id
  bd : ∀ t ∈ c.L, m ≤ B t.id
structure Sn (m le : Int) (n : Nat) (e : En) : Prop where
  ok : EnOk e
  nn : e.n = n
  ll : e.le = le
  gr : e.gr = 1000
  M : ∀ i, i < n → e.M.testBit i = true
  zm : e.z.m = m
  zs : e.z.s = false
  zc : e.z.c = m
  m0 : 0 ≤ m
  m1 : m ≤ 1000
  l0 : 0 ≤ le
  l1 : le ≤ 1000
theorem Sn.tim {m le : Int} {n : Nat} {e : En} (h : Sn m le n e) : Tim e := by
  have := h.zm; have := h.m0; have := h.m1; have := h.ll; have := h.l0
  exact ⟨by omega, by omega, by omega⟩
theorem firB_small {e : En} {m le : Int} {n : Nat} (h : Sn m le n e) {t : Tmr} (hc : t.clock = 0) (hs : 0 ≤ t.soft ∧ t.soft ≤ 255) (lz : Bool) : firB e.z.rd lz t = (decide (t.lazy = lz) && decide (t.soft ≤ m)) := by
  unfold firB
  rw [hc, show e.z.rd (Int.toNat 0) = e.z.m from rfl, h.zm, decide_eq_decide.2 (due_small ⟨h.m0, h.m1⟩ hs)]
theorem SmC.sub {m le : Int} {B : Int → Int} {c d : Cp} (h : SmC m le B c) (hL : ∀ t ∈ d.L, t ∈ c.L) : SmC m le B d := fun t ht => h t (hL t ht)
theorem mid_irq {e : En} {m le : Int} {n : Nat} {B : Int → Int} (h : Sn m le n e) {i : Nat} (hc : MidC m le B (e.cp i)) : MidC m le B (e.look (e.irq1 i)) := by
  obtain ⟨-, -, -, -, fL⟩ := look_flags e (e.irq1 i)
  have hsub : ∀ t ∈ (e.irq1 i).L, t ∈ (e.cp i).L := fun t ht => (List.mem_filter.1 ht).1
  have hsm : SmC m le B (e.irq1 i) := hc.sm.sub hsub
  have key : ∀ t ∈ (e.irq1 i).L, ((e.irq1 i).ra = true ∧ t.lazy = true) ∨ m < t.soft := fun t ht => by
    obtain ⟨h1, h2⟩ := List.mem_filter.1 ht
    obtain ⟨a1, a2, a3, -, -⟩ := hc.sm t h1
    rw [firB_small h a1 ⟨a2, a3⟩] at h2
    by_cases q : t.soft ≤ m
    · refine .inl ⟨?_, ?_⟩
      · show ((e.cp i).ra || decide (0 < ((e.rest i false).filter (firB e.z.rd true)).length)) = true
        rw [Bool.or_eq_true]
        refine .inr (decide_eq_true (List.length_pos_of_mem (a := t) (List.mem_filter.2 ⟨ht, ?_⟩)))
        rw [firB_small h a1 ⟨a2, a3⟩, decide_eq_true q, Bool.and_true]
        cases hl : t.lazy with
        | true => rfl
        | false => rw [hl, decide_eq_true q] at h2; cases h2
      · cases hl : t.lazy with
        | true => rfl
        | false => rw [hl, decide_eq_true q] at h2; cases h2
    · exact .inr (by omega)
  have hz := h.zm; have hle := h.ll
  have hgt : m < e.ahead (e.irq1 i) := ahead_gt (e := e) hsm m (by have := h.m1; unfold maxT; omega) key
  refine ⟨hsm.sub fun t ht => by rw [fL] at ht; exact ht, ?_, ?_, fun t ht => hc.bd t (hsub t (by rw [fL] at ht; exact ht))⟩
  · refine look_PC h.tim (by rw [hz, hle]; exact hsm) hc.pc.1 fun t ht => ?_
    rcases key t ht with q | q
    · exact .inl q
    · refine .inr (.inr ?_)
      obtain ⟨a1, a2, a3, a4, -⟩ := hsm t ht
      omega
  · rw [← hz]
    refine look_AM h.tim (by rw [hle]; exact ⟨h.l0, h.l1⟩) h.gr (by rw [hz]; exact hc.am) (.inl (by rw [hz]; exact hgt))
theorem mid_soft {e : En} {m le : Int} {n : Nat} {B : Int → Int} (h : Sn m le n e) {i : Nat} (hc : MidC m le B (e.cp i)) (hla : (e.cp i).la = false) : MidC m le B (e.look { e.cp i with ra := false, L := e.rest i true }) := by
  obtain ⟨x, hx⟩ : ∃ x : Cp, x = { e.cp i with ra := false, L := e.rest i true } := ⟨_, rfl⟩
  rw [← hx]
  obtain ⟨-, -, -, -, fL⟩ := look_flags e x
  have hxL : x.L = e.rest i true := by rw [hx]
  have hxr : x.ra = false := by rw [hx]
  have hxa : x.arm = (e.cp i).arm := by rw [hx]
  have hxk : x.ki = (e.cp i).ki := by rw [hx]
  have hsub : ∀ t ∈ x.L, t ∈ (e.cp i).L := fun t ht => by rw [hxL] at ht; exact (List.mem_filter.1 ht).1
  have hsm : SmC m le B x := hc.sm.sub hsub
  have hz := h.zm; have hle := h.ll
  have harm : ∀ t ∈ x.L, t.lazy = false → ∃ a, x.arm = some a ∧ a ≤ B t.id ∧ m < a := fun t ht hl => by
    rcases hc.pc.2 with q | q
    · rw [hla] at q; cases q
    · rcases q t (hsub t ht) with ⟨_, q⟩ | ⟨a, q1, q2⟩
      · rw [hl] at q; cases q
      · exact ⟨a, hxa.trans q1, q2, hc.am a q1⟩
  have hlz : ∀ t ∈ x.L, t.lazy = true → m < t.soft := fun t ht hl => by
    rw [hxL] at ht
    obtain ⟨h1, h2⟩ := List.mem_filter.1 ht
    obtain ⟨a1, a2, a3, -, -⟩ := hc.sm t h1
    rw [firB_small h a1 ⟨a2, a3⟩, hl] at h2
    by_cases q : t.soft ≤ m
    · rw [decide_eq_true q] at h2; cases h2
    · omega
  refine ⟨hsm.sub fun t ht => by rw [fL] at ht; exact ht, ?_, ?_, fun t ht => hc.bd t (hsub t (by rw [fL] at ht; exact ht))⟩
  · refine look_PC h.tim (by rw [hz, hle]; exact hsm) (hxk.trans hc.pc.1) fun t ht => ?_
    cases hl : t.lazy with
    | false =>
      obtain ⟨a, q1, q2, -⟩ := harm t ht hl
      exact .inr (.inl ⟨a, q1, q2⟩)
    | true =>
      obtain ⟨a1, a2, a3, a4, -⟩ := hsm t ht
      have := hlz t ht hl
      exact .inr (.inr (by omega))
  · rw [← hz]
    refine look_AM h.tim (by rw [hle]; exact ⟨h.l0, h.l1⟩) h.gr (by rw [hz]; intro a ha; exact hc.am a (hxa ▸ ha)) ?_
    rw [hz, hle]
    have hl0 := h.l0
    by_cases q0 : 0 < le
    · exact .inr q0
    refine .inl (ahead_gt (e := e) hsm m (by have := h.m1; unfold maxT; omega) fun t ht => .inr ?_)
    cases hl : t.lazy with
    | true => exact hlz t ht hl
    | false =>
      obtain ⟨a, -, q2, q3⟩ := harm t ht hl
      obtain ⟨a1, a2, a3, a4, a5⟩ := hsm t ht
      omega
/-- Inside settle. -/
def Mid (m le : Int) (n : Nat) (B : Int → Int) (e : En) : Prop := Sn m le n e ∧ ∀ i, i < n → MidC m le B (e.cp i)
def Qui (m le : Int) (n : Nat) (B : Int → Int) (e : En) : Prop := Sn m le n e ∧ ∀ i, i < n → QuC m le B (e.cp i)
theorem Sn.set {m le : Int} {n : Nat} {e : En} (h : Sn m le n e) {i : Nat} {c : Cp} (ho : EnOk (e.set i c)) : Sn m le n (e.set i c) :=
  ⟨ho, h.nn, h.ll, h.gr, h.M, h.zm, h.zs, h.zc, h.m0, h.m1, h.l0, h.l1⟩
theorem Mid.next {m le : Int} {n : Nat} {B : Int → Int} {e e1 : En} {l : List Frd} (h : Mid m le n B e) (hx : e.next1 = some (l, e1)) : Mid m le n B e1 ∧ muE e1 n < muE e n ∧ ∀ f ∈ l, f.mono = m ∧ m ≤ B f.id + 1 := by
  obtain ⟨hs, hc⟩ := h
  have ho := hs.ok.next1 hx
  have hn := hs.nn
  have key : ∀ {p : Nat → Bool} {i : Nat}, (Mk.listOf e.M).find? p = some i → i < n ∧ i ∈ Mk.listOf e.M ∧ p i = true := fun hf => by
    have := (Mk.mem_list _ _).1 (List.mem_of_find?_eq_some hf)
    exact ⟨hn ▸ hs.ok.bit this.2, List.mem_of_find?_eq_some hf, List.find?_some hf⟩
  have hf : ∀ i, i < n → ∀ lz, ∀ f ∈ e.fired i lz, f.mono = m ∧ m ≤ B f.id + 1 := fun i hi lz f hm => by
    obtain ⟨t, ht, rfl⟩ := List.mem_map.1 hm
    exact ⟨hs.zm, (hc i hi).bd t (List.mem_filter.1 ht).1⟩
  have hset : ∀ {i : Nat} {c : Cp}, EnOk (e.set i c) → MidC m le B c → Mid m le n B (e.set i c) := fun {i c} h1 h2 => by
    refine ⟨hs.set h1, fun j hj => ?_⟩
    by_cases q : j = i
    · subst q; rw [En.set_at]; exact h2
    · rw [En.set_ne e c q]; exact hc j hj
  have hmu : ∀ {q i : Nat}, q ≤ 2 → i ∈ Mk.listOf e.M → i < n → flg q (e.cp i) = true → muE (e.hd q i).2.2 n < muE e n := fun a b c d => by
    have := (muE_hd a b (hn ▸ c) d).2
    rw [hn] at this
    exact this
  unfold En.next1 at hx
  split at hx
  · rename_i i hfi
    obtain ⟨k1, k2, k3⟩ := key hfi
    rw [(hc i k1).pc.1] at k3; cases k3
  · split at hx
    · rename_i i hfi
      obtain ⟨k1, k2, k3⟩ := key hfi
      have hm := hmu (q := 1) (by omega) k2 k1 k3
      have hy := (hd_yes (q := 1) (by omega) k2 k3).2
      rw [if_neg (by decide), if_pos rfl] at hy
      have hy2 := congrArg Prod.snd hy
      simp only at hy2
      rw [hy2] at hm
      cases hx
      exact ⟨hset ho (mid_irq hs (hc i k1)), hm, hf i k1 false⟩
    · rename_i hla
      split at hx
      · rename_i i hfi
        obtain ⟨k1, k2, k3⟩ := key hfi
        have hm := hmu (q := 2) (by omega) k2 k1 k3
        have hy := (hd_yes (q := 2) (by omega) k2 k3).2
        rw [if_neg (by decide), if_neg (by decide)] at hy
        have hy2 := congrArg Prod.snd hy
        simp only at hy2
        rw [hy2] at hm
        cases hx
        have hlf : (e.cp i).la = false := by
          have := List.find?_eq_none.1 hla i k2
          simpa using this
        exact ⟨hset ho (mid_soft hs (hc i k1) hlf), hm, hf i k1 true⟩
      · cases hx
theorem Mid.done {m le : Int} {n : Nat} {B : Int → Int} {e : En} (h : Mid m le n B e) (hx : e.next1 = none) : Qui m le n B e := by
  obtain ⟨hs, hc⟩ := h
  have hmem : ∀ i, i < n → i ∈ Mk.listOf e.M := fun i hi => (Mk.mem_list _ _).2 ⟨by have := hs.ok.n16; have := hs.nn; omega, hs.M i hi⟩
  unfold En.next1 at hx
  split at hx
  · cases hx
  · rename_i h1
    split at hx
    · cases hx
    · rename_i h2
      split at hx
      · cases hx
      · rename_i h3
        refine ⟨hs, fun i hi => ?_⟩
        have f1 : (e.cp i).ki = false := by simpa using List.find?_eq_none.1 h1 i (hmem i hi)
        have f2 : (e.cp i).la = false := by simpa using List.find?_eq_none.1 h2 i (hmem i hi)
        have f3 : (e.cp i).ra = false := by simpa using List.find?_eq_none.1 h3 i (hmem i hi)
        have ha : ∀ t ∈ (e.cp i).L, ∃ a, (e.cp i).arm = some a ∧ a ≤ B t.id := fun t ht => by
          rcases (hc i hi).pc.2 with q | q
          · rw [f2] at q; cases q
          · rcases q t ht with ⟨q, _⟩ | q
            · rw [f3] at q; cases q
            · exact q
        refine ⟨(hc i hi).sm, f1, f2, f3, ha, fun t ht => ?_⟩
        obtain ⟨a, h4, h5⟩ := ha t ht
        have := (hc i hi).am a h4
        omega
theorem mid_settleF {m le : Int} {n : Nat} {B : Int → Int} : ∀ (k : Nat) {e : En}, Mid m le n B e → muE e n < k → Qui m le n B (settleF k e).2 ∧ (∀ f ∈ (settleF k e).1, f.mono = m ∧ m ≤ B f.id + 1)
  | 0, e, h, hk => by omega
  | k + 1, e, h, hk => by
    show Qui m le n B (match e.next1 with | none => ([], e) | some (l, e1) => (l ++ (settleF k e1).1, (settleF k e1).2) : List Frd × En).2 ∧ (∀ f ∈ (match e.next1 with | none => ([], e) | some (l, e1) => (l ++ (settleF k e1).1, (settleF k e1).2) : List Frd × En).1, _)
    cases hx : e.next1 with
    | none => exact ⟨h.done hx, fun f hf => by cases hf⟩
    | some o =>
      obtain ⟨l, e1⟩ := o
      obtain ⟨h1, h2, h3⟩ := h.next hx
      obtain ⟨h4, h5⟩ := mid_settleF k h1 (by omega)
      refine ⟨h4, fun f hf => ?_⟩
      rcases List.mem_append.1 hf with q | q
      · exact h3 f q
      · exact h5 f q
/-- Settle leaves no timer behind, and none fires late. -/
theorem Mid.settle {m le : Int} {n : Nat} {B : Int → Int} {e : En} (h : Mid m le n B e) : Qui m le n B e.settle.2 ∧ (∀ f ∈ e.settle.1, f.mono = m ∧ m ≤ B f.id + 1) :=
  mid_settleF 65 h (by have := muE_le e n; have := h.1.ok.n16; have := h.1.nn; omega)
/-- Time goes by. -/
theorem Qui.adv {m le : Int} {n : Nat} {B : Int → Int} {e : En} (h : Qui m le n B e) {k : Int} (hk : 0 ≤ k ∧ k ≤ 1) (hm : m ≤ 999) : (e.adv k).1 = 0 ∧ Mid (m + k) le n B (e.adv k).2 := by
  obtain ⟨hs, hc⟩ := h
  have ho := hs.ok.adv k
  have h0 := hs.m0
  have hzm := hs.zm; have hzc := hs.zc; have hzs := hs.zs
  have ha : act0 k e.z = (0, ⟨e.z.c + k, e.z.m + k, e.z.v + k, e.z.q + k, e.z.s, e.z.n⟩) := by
    unfold act0
    rw [if_neg (by omega), hzs]; rfl
  unfold En.adv at ho ⊢
  rw [ha] at ho ⊢
  rw [if_pos rfl] at ho ⊢
  refine ⟨rfl, ⟨ho, hs.nn, hs.ll, hs.gr, hs.M, ?_, hs.zs, ?_, by omega, by omega, hs.l0, hs.l1⟩, fun i hi => ?_⟩
  · show e.z.m + k = _; omega
  · show e.z.c + k = _; omega
  · show MidC _ _ _ (if e.M.testBit i = true then passC (e.z.m + k) (e.cp i) else e.cp i)
    rw [if_pos (hs.M i hi), hzm]
    obtain ⟨q1, q2, q3, q4, q5, q6⟩ := hc i hi
    have hL := pass_L (m + k) (e.cp i)
    have hsm : SmC (m + k) le B (passC (m + k) (e.cp i)) := fun t ht => by
      rw [hL] at ht
      obtain ⟨a1, a2, a3, a4, a5⟩ := q1 t ht
      exact ⟨a1, a2, a3, a4, by omega⟩
    refine ⟨hsm, ?_, ?_, fun t ht => ?_⟩
    · unfold passC
      cases harm : (e.cp i).arm with
      | none => exact ⟨q2, .inr fun t ht => by obtain ⟨a, z1, -⟩ := q5 t ht; rw [harm] at z1; cases z1⟩
      | some s =>
        simp only
        by_cases p : s ≤ m + k
        · rw [if_pos p]; exact ⟨q2, .inl rfl⟩
        · rw [if_neg p]; exact ⟨q2, .inr fun t ht => .inr (q5 t ht)⟩
    · intro a hq
      unfold passC at hq
      cases harm : (e.cp i).arm with
      | none => simp only [harm] at hq; cases hq
      | some s =>
        simp only [harm] at hq
        by_cases p : s ≤ m + k
        · rw [if_pos p] at hq; cases hq
        · rw [if_neg p] at hq
          have hq2 : (e.cp i).arm = some a := hq
          rw [harm] at hq2
          have := Option.some.inj hq2
          omega
    · rw [hL] at ht
      have := q6 t ht
      omega
/-- A timer comes. -/
theorem Qui.start {m le : Int} {n : Nat} {B : Int → Int} {e : En} (h : Qui m le n B e) {i : Nat} (hi : i < n) {t : Tmr} (hc0 : t.clock = 0) (hs0 : 0 ≤ t.soft ∧ t.soft ≤ 255) (hh : t.hard = t.soft) (hok : okT t)
    (hid : ∀ u, hasT e u → u.id ≠ t.id) (hlen : e.len < 64) : (e.start (i : Int) t).1 = 0 ∧ Qui m le n (fun x => if x = t.id then max t.soft m + le else B x) (e.start (i : Int) t).2 := by
  obtain ⟨hs, hc⟩ := h
  have hon : e.on (i : Int) = true := on_mem ((Mk.mem_list _ _).2 ⟨by have := hs.ok.n16; have := hs.nn; omega, hs.M i hi⟩)
  have ho := hs.ok.start (i : Int) hok
  have hz := hs.zm; have hle := hs.ll; have hl0 := hs.l0; have hm0 := hs.m0
  unfold En.start at ho ⊢
  rw [if_neg (by rw [hon, hc0, hh]; simp), if_neg (by rw [wher_none'.2 hid]; simp), if_neg (by omega)] at ho ⊢
  rw [Int.toNat_natCast] at ho ⊢
  obtain ⟨x, hx⟩ : ∃ x : Cp, x = { e.cp i with L := insA t (e.cp i).L } := ⟨_, rfl⟩
  rw [← hx] at ho ⊢
  have hxL : x.L = insA t (e.cp i).L := by rw [hx]
  have hxk : x.ki = (e.cp i).ki := by rw [hx]
  have hxl : x.la = (e.cp i).la := by rw [hx]
  have hxr : x.ra = (e.cp i).ra := by rw [hx]
  have hxa : x.arm = (e.cp i).arm := by rw [hx]
  have hB : ∀ j, j < n → ∀ u ∈ (e.cp j).L, (fun y => if y = t.id then max t.soft m + le else B y) u.id = B u.id := fun j hj u hu => if_neg (hid u ⟨j, by rw [hs.nn]; exact hj, hu⟩)
  generalize hBB : (fun y => if y = t.id then max t.soft m + le else B y) = B' at *
  have hBt : B' t.id = max t.soft m + le := by rw [← hBB]; exact if_pos rfl
  clear hBB
  have hp := insA_perm t (e.cp i).L
  have hsx : SmC m le B' x := fun u hu => by
    rw [hxL] at hu
    rcases List.mem_cons.1 (hp.mem_iff.1 hu) with q | q
    · subst q; exact ⟨hc0, hs0.1, hs0.2, by omega, by omega⟩
    · rw [hB i hi u q]; exact (hc i hi).sm u q
  obtain ⟨f1, f2, f3, -, fL⟩ := look_flags e x
  refine ⟨rfl, hs.set ho, fun j hj => ?_⟩
  show QuC m le B' ((e.set i (e.look x)).cp j)
  by_cases q : j = i
  · subst q
    rw [En.set_at]
    obtain ⟨q1, q2, q3, q4, q5, q6⟩ := hc j hj
    have hP := look_PC (e := e) (B := B') (c := x) hs.tim (by rw [hz, hle]; exact hsx) (hxk.trans q2) (fun u hu => by
      rw [hxL] at hu
      rcases List.mem_cons.1 (hp.mem_iff.1 hu) with p | p
      · subst p; exact .inr (.inr (by omega))
      · rw [hB j hj u p, hxa]; exact .inr (.inl (q5 u p)))
    refine ⟨hsx.sub fun u hu => by rw [fL] at hu; exact hu, f1.trans (hxk.trans q2), f2.trans (hxl.trans q3), f3.trans (hxr.trans q4), fun u hu => ?_, fun u hu => ?_⟩
    · rcases hP.2 with p | p
      · rw [f2, hxl, q3] at p; cases p
      · rcases p u hu with ⟨p, _⟩ | p
        · rw [f3, hxr, q4] at p; cases p
        · exact p
    · rw [fL, hxL] at hu
      rcases List.mem_cons.1 (hp.mem_iff.1 hu) with p | p
      · subst p; omega
      · rw [hB j hj u p]; exact q6 u p
  · rw [En.set_ne e _ q]
    obtain ⟨q1, q2, q3, q4, q5, q6⟩ := hc j hj
    exact ⟨fun u hu => by rw [hB j hj u hu]; exact q1 u hu, q2, q3, q4, fun u hu => by rw [hB j hj u hu]; exact q5 u hu, fun u hu => by rw [hB j hj u hu]; exact q6 u hu⟩
theorem qui_new {n : Nat} {le : Int} (B : Int → Int) (h1 : 1 ≤ n) (h2 : n ≤ 16) (h3 : 0 ≤ le ∧ le ≤ 1000) : Qui 0 le n B (enNew n le 1000) :=
  ⟨⟨enNew_ok le 1000 h1 h2, rfl, rfl, rfl, fun i hi => by show (2 ^ n - 1).testBit i = true; rw [Nat.testBit_two_pow_sub_one]; exact decide_eq_true hi, rfl, rfl, rfl, by omega, by omega, h3.1, h3.2⟩,
    fun i hi => ⟨(fun t ht => by cases ht), rfl, rfl, rfl, (fun t ht => by cases ht), (fun t ht => by cases ht)⟩⟩
end Go.Proofs.YtjjdkkdnlnbedaaGreat
