/- What fires at a step, and what stays: on the model alone. -/
import Derived.Test.YtjjdkkdnlnbedaaGreatEn15
namespace Go.Proofs.YtjjdkkdnlnbedaaGreat
open Kt Qu
set_option linter.unusedVariables false

/-- A timer is on one of the processors. -/
def hasT (e : En) (t : Tmr) : Prop := ∃ i, i < e.n ∧ t ∈ (e.cp i).L
def idsF (l : List Frd) : List Int := l.map (·.id)
structure Fires (e e' : En) (l : List Frd) : Prop where
  n : e'.n = e.n
  has : ∀ t, hasT e' t ↔ hasT e t ∧ t.id ∉ idsF l
  due : ∀ f ∈ l, ∃ t, hasT e t ∧ t.id = f.id ∧ f.clock = t.clock ∧ dueT (e.z.rd t.clock.toNat) t ∧ f.rd = e.z.rd t.clock.toNat
  nd : (idsF l).Nodup
  len : e'.len + l.length = e.len
theorem ids_inj : ∀ {L : List Tmr}, (idsT L).Nodup → ∀ {t u : Tmr}, t ∈ L → u ∈ L → t.id = u.id → t = u
  | [], _, t, u, h, _, _ => by cases h
  | y :: r, hn, t, u, ht, hu, he => by
    obtain ⟨n1, n2⟩ := List.nodup_cons.1 (show (y.id :: idsT r).Nodup from hn)
    rcases List.mem_cons.1 ht with q1 | q1
    · rcases List.mem_cons.1 hu with q2 | q2
      · rw [q1, q2]
      · exact (n1 (show _ ∈ idsT r from List.mem_map.2 ⟨u, q2, by rw [← he, q1]⟩)).elim
    · rcases List.mem_cons.1 hu with q2 | q2
      · exact (n1 (show _ ∈ idsT r from List.mem_map.2 ⟨t, q1, by rw [he, q2]⟩)).elim
      · exact ids_inj n2 q1 q2 he
theorem EnOk.uniq {e : En} (h : EnOk e) {t u : Tmr} (ht : hasT e t) (hu : hasT e u) (he : t.id = u.id) : t = u := by
  obtain ⟨i, hi, ht⟩ := ht
  obtain ⟨j, hj, hu⟩ := hu
  by_cases q : i = j
  · subst q; exact ids_inj (h.nd i hi) ht hu he
  · exact absurd (List.mem_map.2 ⟨u, hu, he.symm⟩) (h.dj i j t.id hi hj q (List.mem_map.2 ⟨t, ht, rfl⟩))
theorem Fires.none {e e' : En} (hn : e'.n = e.n) (hL : ∀ i, i < e.n → (e'.cp i).L = (e.cp i).L) : Fires e e' [] :=
  ⟨hn, fun t => ⟨fun ⟨i, hi, ht⟩ => ⟨⟨i, hn ▸ hi, by rw [← hL i (hn ▸ hi)]; exact ht⟩, by simp [idsF]⟩, fun ⟨⟨i, hi, ht⟩, _⟩ => ⟨i, by rw [hn]; exact hi, by rw [hL i hi]; exact ht⟩⟩,
    (fun f hf => by cases hf), List.nodup_nil, by show lenTo e' e'.n + 0 = lenTo e e.n; rw [hn, lenTo_congr hL, Nat.add_zero]⟩
theorem Fires.refl (e : En) : Fires e e [] := Fires.none rfl fun _ _ => rfl
theorem filter_two {α : Type} (p : α → Bool) : ∀ L : List α, (L.filter fun x => !p x).length + (L.filter p).length = L.length
  | [] => rfl
  | y :: r => by
    have := filter_two p r
    cases h : p y <;> simp [h] <;> omega
theorem Fires.set {e : En} (h : EnOk e) {i : Nat} (hi : i < e.n) {c : Cp} {lz : Bool} (hc : c.L = e.rest i lz) : Fires e (e.set i c) (e.fired i lz) := by
  have hids : idsF (e.fired i lz) = idsT (e.firL i lz) := by unfold idsF En.fired idsT; rw [List.map_map]; rfl
  refine ⟨rfl, fun t => ⟨fun ⟨j, hj, ht⟩ => ?_, fun ⟨⟨j, hj, ht⟩, hni⟩ => ?_⟩, fun f hf => ?_, ?_, ?_⟩
  · by_cases q : j = i
    · subst q
      rw [En.set_at, hc] at ht
      obtain ⟨h1, h2⟩ := List.mem_filter.1 ht
      refine ⟨⟨j, hj, h1⟩, fun hm => ?_⟩
      rw [hids] at hm
      obtain ⟨u, hu, he⟩ := List.mem_map.1 hm
      obtain ⟨h3, h4⟩ := List.mem_filter.1 hu
      have := ids_inj (h.nd j hj) h1 h3 he.symm
      subst this
      rw [h4] at h2; cases h2
    · rw [En.set_ne e c q] at ht
      refine ⟨⟨j, hj, ht⟩, fun hm => ?_⟩
      rw [hids] at hm
      obtain ⟨u, hu, he⟩ := List.mem_map.1 hm
      exact h.dj i j u.id hi hj (fun z => q z.symm) (List.mem_map.2 ⟨u, (List.mem_filter.1 hu).1, rfl⟩) (List.mem_map.2 ⟨t, ht, he.symm⟩)
  · refine ⟨j, hj, ?_⟩
    by_cases q : j = i
    · subst q
      rw [En.set_at, hc]
      refine List.mem_filter.2 ⟨ht, ?_⟩
      cases hp : firB e.z.rd lz t with
      | false => rfl
      | true => exact absurd (by rw [hids]; exact List.mem_map.2 ⟨t, List.mem_filter.2 ⟨ht, hp⟩, rfl⟩) hni
    · rw [En.set_ne e c q]; exact ht
  · obtain ⟨t, ht, rfl⟩ := List.mem_map.1 hf
    obtain ⟨h1, h2⟩ := List.mem_filter.1 ht
    unfold firB at h2
    rw [Bool.and_eq_true, decide_eq_true_eq, decide_eq_true_eq] at h2
    exact ⟨t, ⟨i, hi, h1⟩, rfl, rfl, h2.2, rfl⟩
  · rw [hids]; exact (h.nd i hi).sublist (List.filter_sublist.map _)
  · have h1 := lenTo_set e c hi
    have h2 := filter_two (firB e.z.rd lz) (e.cp i).L
    have h3 : (e.fired i lz).length = ((e.cp i).L.filter (firB e.z.rd lz)).length := by unfold En.fired En.firL; rw [List.length_map]
    have h4 : c.L.length = ((e.cp i).L.filter fun t => !firB e.z.rd lz t).length := by rw [hc]; rfl
    show lenTo (e.set i c) e.n + _ = lenTo e e.n
    omega
theorem Fires.trans {e e1 e2 : En} {l1 l2 : List Frd} (h1 : Fires e e1 l1) (h2 : Fires e1 e2 l2) (hz : e1.z = e.z) : Fires e e2 (l1 ++ l2) := by
  have hids : idsF (l1 ++ l2) = idsF l1 ++ idsF l2 := List.map_append
  refine ⟨h2.n.trans h1.n, fun t => ?_, fun f hf => ?_, ?_, ?_⟩
  · rw [h2.has, h1.has, hids, List.mem_append]
    constructor
    · rintro ⟨⟨a, b⟩, c⟩; exact ⟨a, fun q => q.elim b c⟩
    · rintro ⟨a, b⟩; exact ⟨⟨a, fun q => b (.inl q)⟩, fun q => b (.inr q)⟩
  · rcases List.mem_append.1 hf with hf | hf
    · exact h1.due f hf
    · obtain ⟨t, a, b⟩ := h2.due f hf
      rw [hz] at b
      exact ⟨t, ((h1.has t).1 a).1, b⟩
  · rw [hids]
    refine List.nodup_append.2 ⟨h1.nd, h2.nd, fun x hx y hy he => ?_⟩
    obtain ⟨f, hf, rfl⟩ := List.mem_map.1 hy
    obtain ⟨t, a, b, -⟩ := h2.due f hf
    refine ((h1.has t).1 a).2 ?_
    rw [b, ← he]; exact hx
  · have := h1.len
    have := h2.len
    rw [List.length_append]; omega
theorem next1_fires {e e1 : En} (h : EnOk e) {l : List Frd} (hx : e.next1 = some (l, e1)) : Fires e e1 l := by
  unfold En.next1 at hx
  have key : ∀ {p : Nat → Bool} {i : Nat}, (Mk.listOf e.M).find? p = some i → i < e.n := fun hf => by
    have := (Mk.mem_list _ _).1 (List.mem_of_find?_eq_some hf)
    exact h.bit this.2
  split at hx
  · rename_i i hf
    cases hx
    obtain ⟨-, -, -, -, b⟩ := look_flags e { e.cp i with ki := false }
    refine Fires.none rfl fun j hj => ?_
    by_cases q : j = i
    · subst q; show ((e.set j _).cp j).L = _; rw [En.set_at, b]
    · show ((e.set i _).cp j).L = _; rw [En.set_ne e _ q]
  · split at hx
    · rename_i i hf
      cases hx
      obtain ⟨-, -, -, -, b⟩ := look_flags e (e.irq1 i)
      exact Fires.set h (key hf) b
    · split at hx
      · rename_i i hf
        cases hx
        obtain ⟨-, -, -, -, b⟩ := look_flags e { e.cp i with ra := false, L := e.rest i true }
        exact Fires.set h (key hf) b
      · cases hx
theorem settleF_fires : ∀ (k : Nat) {e : En}, EnOk e → Fires e (settleF k e).2 (settleF k e).1
  | 0, e, h => Fires.refl e
  | k + 1, e, h => by
    show Fires e (match e.next1 with | none => ([], e) | some (l, e1) => (l ++ (settleF k e1).1, (settleF k e1).2) : List Frd × En).2 (match e.next1 with | none => ([], e) | some (l, e1) => (l ++ (settleF k e1).1, (settleF k e1).2) : List Frd × En).1
    cases hx : e.next1 with
    | none => exact Fires.refl e
    | some o => obtain ⟨l, e1⟩ := o; exact (next1_fires h hx).trans (settleF_fires k (h.next1 hx)) (next1_z hx)
theorem on_lt {e : En} (h : EnOk e) {c : Int} (ho : e.on c = true) : c.toNat < e.n := by
  obtain ⟨j, rfl, -, hb⟩ := on_nat ho
  exact h.bit hb
theorem doIrq_fires {e : En} (h : EnOk e) (c : Int) : Fires e (e.doIrq c).2.2 (e.doIrq c).1 := by
  unfold En.doIrq
  cases ho : e.on c with
  | false => rw [if_pos rfl]; exact Fires.refl e
  | true =>
    rw [if_neg (by decide)]
    split
    · exact Fires.refl e
    · obtain ⟨-, -, -, -, b⟩ := look_flags e (e.irq1 c.toNat)
      exact Fires.set h (on_lt h ho) b
theorem doSoft_fires {e : En} (h : EnOk e) (c : Int) : Fires e (e.doSoft c).2.2 (e.doSoft c).1 := by
  unfold En.doSoft
  cases ho : e.on c with
  | false => rw [if_pos rfl]; exact Fires.refl e
  | true =>
    rw [if_neg (by decide)]
    split
    · exact Fires.refl e
    · obtain ⟨-, -, -, -, b⟩ := look_flags e { e.cp c.toNat with ra := false, L := e.rest c.toNat true }
      exact Fires.set h (on_lt h ho) b
theorem doKick_fires {e : En} (h : EnOk e) (c : Int) : Fires e (e.doKick c).2.2 (e.doKick c).1 := by
  unfold En.doKick
  cases ho : e.on c with
  | false => rw [if_pos rfl]; exact Fires.refl e
  | true =>
    rw [if_neg (by decide)]
    split
    · exact Fires.refl e
    · obtain ⟨-, -, -, -, b⟩ := look_flags e { e.cp c.toNat with ki := false }
      refine Fires.none rfl fun j hj => ?_
      by_cases q : j = c.toNat
      · subst q; show ((e.set _ _).cp _).L = _; rw [En.set_at, b]
      · show ((e.set _ _).cp j).L = _; rw [En.set_ne e _ q]
theorem pass_L (m : Int) (c : Cp) : (passC m c).L = c.L := by unfold passC; split; rfl; split <;> rfl
theorem adv_fires (e : En) (k : Int) : Fires e (e.adv k).2 [] := by
  unfold En.adv
  split
  · refine Fires.none rfl fun j hj => ?_
    show (if _ then passC _ (e.cp j) else e.cp j).L = _
    split
    · exact pass_L _ _
    · rfl
  · exact Fires.refl e
theorem change_fires (e : En) (r : Int × KS) : Fires e (e.change r).2 [] := by
  refine Fires.none rfl fun j hj => ?_
  show (if _ then _ else e.cp j : Cp).L = _
  split <;> rfl
theorem enter_fires (e : En) (c : Int) : Fires e (e.enter c).2 [] := by
  unfold En.enter
  split
  · exact Fires.refl e
  · split
    · exact Fires.refl e
    · refine Fires.none rfl fun j hj => ?_
      show (if j = c.toNat then _ else e.cp j : Cp).L = _
      by_cases q : j = c.toNat
      · rw [if_pos q, q]
      · rw [if_neg q]
theorem gone_len (e : En) (c t M : Nat) (hne : t ≠ c) : ∀ n, lenTo (e.gone c t M) n + (if c < n then (e.cp c).L.length else 0) = lenTo e n + (if t < n then (e.cp c).L.length else 0)
  | 0 => by simp [lenTo]
  | n + 1 => by
    have ih := gone_len e c t M hne n
    show lenTo (e.gone c t M) n + (if n = c then cp0 else if n = t then { e.cp t with L := foldA (e.cp t).L (e.cp c).L } else e.cp n : Cp).L.length + _ = lenTo e n + (e.cp n).L.length + _
    by_cases q : n = c
    · subst q
      rw [if_pos rfl, if_pos (by omega)]
      rw [if_neg (by omega)] at ih
      show _ + 0 + _ = _
      by_cases p : t < n
      · rw [if_pos p] at ih; rw [if_pos (by omega)]; omega
      · rw [if_neg p] at ih; rw [if_neg (by omega)]; omega
    · rw [if_neg q]
      by_cases p : n = t
      · subst p
        rw [if_pos rfl]
        show _ + (foldA _ _).length + _ = _
        rw [foldA_len, if_pos (by omega : n < n + 1)]
        rw [if_neg (by omega : ¬ n < n)] at ih
        by_cases r : c < n
        · rw [if_pos r] at ih; rw [if_pos (by omega)]; omega
        · rw [if_neg r] at ih; rw [if_neg (by omega)]; omega
      · rw [if_neg p]
        have e1 : (c < n + 1) = (c < n) := by rw [eq_iff_iff]; omega
        have e2 : (t < n + 1) = (t < n) := by rw [eq_iff_iff]; omega
        simp only [e1, e2]
        omega
theorem leave_fires {e : En} (h : EnOk e) (cpu : Int) : Fires e (e.leave cpu).2 [] := by
  cases ho : e.on cpu with
  | false => rw [show e.leave cpu = (2, e) from if_pos ho]; exact Fires.refl e
  | true =>
    obtain ⟨c, rfl, hc16, hcb⟩ := on_nat ho
    cases hnx : (Mk.nextL (Mk.listOf (Mk.woN e.M (c : Int))) (c : Int)).2 with
    | false =>
      unfold En.leave
      rw [if_neg (by rw [ho]; decide), if_pos hnx]; exact Fires.refl e
    | true =>
      obtain ⟨t, htm, ht⟩ := nextL_mem hnx
      have hb := ((Mk.mem_list _ _).1 htm)
      have hb2 := hb.2
      rw [Mk.woN_bit e.M (c : Int) t hb.1, Bool.and_eq_true] at hb2
      have hne : t ≠ c := fun q => by subst q; simp at hb2
      have hcn := h.bit hcb
      have htn := h.bit hb2.1
      rw [leave_gone ho hnx ht]
      obtain ⟨-, -, -, -, b⟩ := look_flags (e.gone c t (Mk.woN e.M (c : Int))) ((e.gone c t (Mk.woN e.M (c : Int))).cp t)
      have hL : ∀ j, (((e.gone c t (Mk.woN e.M (c : Int))).set t ((e.gone c t (Mk.woN e.M (c : Int))).look ((e.gone c t (Mk.woN e.M (c : Int))).cp t))).cp j).L = ((e.gone c t (Mk.woN e.M (c : Int))).cp j).L := fun j => by
        by_cases q : j = t
        · subst q; rw [En.set_at, b]
        · rw [En.set_ne _ _ q]
      have hcp : ∀ j, (e.gone c t (Mk.woN e.M (c : Int))).cp j = if j = c then cp0 else if j = t then { e.cp t with L := foldA (e.cp t).L (e.cp c).L } else e.cp j := fun j => rfl
      have hp := foldA_perm (e.cp t).L (e.cp c).L
      refine ⟨rfl, fun u => ⟨fun ⟨j, hj, hu⟩ => ⟨?_, by simp [idsF]⟩, fun ⟨⟨j, hj, hu⟩, _⟩ => ?_⟩, (fun f hf => by cases hf), List.nodup_nil, ?_⟩
      · replace hj : j < e.n := hj
        replace hu : u ∈ ((e.gone c t (Mk.woN e.M (c : Int))).cp j).L := by rw [← hL j]; exact hu
        rw [hcp] at hu
        by_cases q : j = c
        · rw [if_pos q] at hu; cases hu
        · rw [if_neg q] at hu
          by_cases p : j = t
          · rw [if_pos p] at hu
            rcases List.mem_append.1 (hp.mem_iff.1 hu) with hu | hu
            · exact ⟨c, hcn, hu⟩
            · exact ⟨t, htn, hu⟩
          · rw [if_neg p] at hu; exact ⟨j, hj, hu⟩
      · by_cases q : j = c
        · subst q
          refine ⟨t, htn, ?_⟩
          refine (show _ = _ from hL t).symm ▸ ?_
          rw [hcp, if_neg hne, if_pos rfl]
          exact hp.mem_iff.2 (List.mem_append.2 (.inl hu))
        · by_cases p : j = t
          · subst p
            refine ⟨j, htn, ?_⟩
            refine (show _ = _ from hL j).symm ▸ ?_
            rw [hcp, if_neg hne, if_pos rfl]
            exact hp.mem_iff.2 (List.mem_append.2 (.inr hu))
          · exact ⟨j, hj, (show _ = _ from hL j).symm ▸ (by rw [hcp, if_neg q, if_neg p]; exact hu)⟩
      · show lenTo _ e.n + 0 = lenTo e e.n
        rw [lenTo_congr (e := e.gone c t (Mk.woN e.M (c : Int))) fun j _ => hL j]
        have := gone_len e c t (Mk.woN e.M (c : Int)) hne e.n
        rw [if_pos hcn, if_pos htn] at this
        omega
/-- A step that neither starts nor cancels. -/
theorem step_fires {e : En} (h : EnOk e) (s : Stp) (h1 : s.kind ≠ 1) (h2 : s.kind ≠ 2) : Fires e (e.step s).2.2 (e.step s).1 ∧ ((e.step s).1 ≠ [] → (e.step s).2.2.z = e.z) := by
  obtain ⟨a, b, c⟩ := handler_z e s.cpu
  unfold En.step
  rw [if_neg h1, if_neg h2]
  by_cases q3 : s.kind = 3
  · rw [if_pos q3]; exact ⟨adv_fires e s.n, fun q => absurd rfl q⟩
  rw [if_neg q3]
  by_cases q4 : s.kind = 4
  · rw [if_pos q4]; exact ⟨doIrq_fires h s.cpu, fun _ => a⟩
  rw [if_neg q4]
  by_cases q5 : s.kind = 5
  · rw [if_pos q5]; exact ⟨doSoft_fires h s.cpu, fun _ => b⟩
  rw [if_neg q5]
  by_cases q6 : s.kind = 6
  · rw [if_pos q6]; exact ⟨doKick_fires h s.cpu, fun _ => c⟩
  rw [if_neg q6]
  by_cases q7 : s.kind = 7
  · rw [if_pos q7]; exact ⟨change_fires e _, fun q => absurd rfl q⟩
  rw [if_neg q7]
  by_cases q8 : s.kind = 8
  · rw [if_pos q8]; exact ⟨change_fires e _, fun q => absurd rfl q⟩
  rw [if_neg q8]
  by_cases q9 : s.kind = 9
  · rw [if_pos q9]; exact ⟨change_fires e _, fun q => absurd rfl q⟩
  rw [if_neg q9]
  by_cases q10 : s.kind = 10
  · rw [if_pos q10]; exact ⟨leave_fires h s.cpu, fun q => absurd rfl q⟩
  rw [if_neg q10]
  by_cases q11 : s.kind = 11
  · rw [if_pos q11]; exact ⟨enter_fires e s.cpu, fun q => absurd rfl q⟩
  rw [if_neg q11]
  by_cases q12 : s.kind = 12
  · rw [if_pos q12]; exact ⟨settleF_fires 65 h, fun _ => settleF_z 65 e⟩
  rw [if_neg q12]
  exact ⟨Fires.refl e, fun q => absurd rfl q⟩
end Go.Proofs.YtjjdkkdnlnbedaaGreat
