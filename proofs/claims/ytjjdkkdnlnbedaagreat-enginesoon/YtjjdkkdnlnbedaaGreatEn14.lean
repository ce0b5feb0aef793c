/- What holds of an engine holds behind each step. -/
import Derived.Test.YtjjdkkdnlnbedaaGreatEn12
namespace Go.Proofs.YtjjdkkdnlnbedaaGreat
open Kt Qu
set_option linter.unusedVariables false

theorem lenTo_out (e : En) (c : Cp) {i : Nat} : ∀ {n : Nat}, n ≤ i → lenTo (e.set i c) n = lenTo e n
  | 0, _ => rfl
  | n + 1, h => by
    show lenTo (e.set i c) n + ((e.set i c).cp n).L.length = lenTo e n + _
    rw [lenTo_out e c (n := n) (by omega), En.set_ne e c (by omega)]
theorem lenTo_set (e : En) (c : Cp) {i : Nat} : ∀ {n : Nat}, i < n → lenTo (e.set i c) n + (e.cp i).L.length = lenTo e n + c.L.length
  | 0, h => by omega
  | n + 1, h => by
    show lenTo (e.set i c) n + ((e.set i c).cp n).L.length + _ = lenTo e n + (e.cp n).L.length + _
    by_cases q : i = n
    · subst q
      rw [lenTo_out e c (Nat.le_refl i), En.set_at]; omega
    · have := lenTo_set e c (n := n) (i := i) (by omega)
      rw [En.set_ne e c (fun z => q z.symm)]; omega
theorem lenTo_congr {e e' : En} : ∀ {n : Nat}, (∀ i, i < n → (e'.cp i).L = (e.cp i).L) → lenTo e' n = lenTo e n
  | 0, _ => rfl
  | n + 1, h => by
    show lenTo e' n + (e'.cp n).L.length = lenTo e n + (e.cp n).L.length
    rw [lenTo_congr (n := n) (fun i hi => h i (by omega)), h n (by omega)]
theorem EnOk.upd {e : En} (h : EnOk e) {i : Nat} (hi : i < e.n) (hb : e.M.testBit i = true) {c : Cp} (hon : c.on = (e.cp i).on) (hnd : (idsT c.L).Nodup) (hdj : ∀ j x, j < e.n → j ≠ i → x ∈ idsT c.L → x ∉ idsT (e.cp j).L) (hlen : (e.set i c).len ≤ 64)
    (htm : ∀ t ∈ c.L, 0 ≤ t.clock ∧ t.clock ≤ 2 ∧ t.soft ≤ t.hard ∧ okT t) : EnOk (e.set i c) := by
  refine ⟨h.n1, h.n16, h.M, h.M0, fun j hj => ?_, fun j hj hbj => ?_, fun j hj => ?_, fun j k x hj hk hne hx => ?_, hlen, fun j t hj ht => ?_⟩
  · by_cases q : j = i
    · subst q; rw [En.set_at, hon]; exact h.on j hj
    · rw [En.set_ne e c q]; exact h.on j hj
  · have q : j ≠ i := fun q => by
      subst q
      rw [show e.M.testBit j = false from hbj] at hb; cases hb
    rw [En.set_ne e c q]; exact h.off j hj hbj
  · by_cases q : j = i
    · subst q; rw [En.set_at]; exact hnd
    · rw [En.set_ne e c q]; exact h.nd j hj
  · by_cases q : j = i
    · subst q
      rw [En.set_at] at hx
      rw [En.set_ne e c (fun z => hne z.symm)]
      exact hdj k x hk (fun z => hne z.symm) hx
    · rw [En.set_ne e c q] at hx
      by_cases p : k = i
      · subst p
        rw [En.set_at]
        exact fun hc => hdj j x hj q hc hx
      · rw [En.set_ne e c p]; exact h.dj j k x hj hk hne hx
  · by_cases q : j = i
    · subst q; rw [En.set_at] at ht; exact htm t ht
    · rw [En.set_ne e c q] at ht; exact h.tm j t hj ht
theorem EnOk.sub {e : En} (h : EnOk e) {i : Nat} (hi : i < e.n) (hb : e.M.testBit i = true) {c : Cp} (hon : c.on = (e.cp i).on) (hs : c.L.Sublist (e.cp i).L) : EnOk (e.set i c) := by
  have hids : ∀ x ∈ idsT c.L, x ∈ idsT (e.cp i).L := fun x hx => (hs.map _).subset hx
  refine h.upd hi hb hon ((h.nd i hi).sublist (hs.map _)) (fun j x hj hne hx => h.dj i j x hi hj (fun q => hne q.symm) (hids x hx)) ?_ (fun t ht => h.tm i t hi (hs.subset ht))
  have h1 := lenTo_set e c hi
  have h2 := hs.length_le
  have h3 := h.len
  unfold En.len at *
  show lenTo (e.set i c) e.n ≤ 64
  omega
/-- Marks, alarms and the time may change as they like. -/
theorem EnOk.flags {e e' : En} (h : EnOk e) (hn : e'.n = e.n) (hM : e'.M = e.M) (hL : ∀ i, i < e.n → (e'.cp i).L = (e.cp i).L ∧ (e'.cp i).on = (e.cp i).on) (ho : ∀ i, i < e.n → e.M.testBit i = false → e'.cp i = e.cp i) : EnOk e' := by
  refine ⟨hn ▸ h.n1, hn ▸ h.n16, by rw [hM, hn]; exact h.M, by rw [hM]; exact h.M0, fun j hj => ?_, fun j hj hb => ?_, fun j hj => ?_, fun j k x hj hk hne hx => ?_, ?_, fun j t hj ht => ?_⟩
  · rw [hn] at hj; rw [(hL j hj).2, hM]; exact h.on j hj
  · rw [hn] at hj; rw [hM] at hb; rw [ho j hj hb]; exact h.off j hj hb
  · rw [hn] at hj; rw [(hL j hj).1]; exact h.nd j hj
  · rw [hn] at hj hk
    rw [(hL j hj).1] at hx
    rw [(hL k hk).1]; exact h.dj j k x hj hk hne hx
  · have := h.len
    unfold En.len at *
    rw [hn, lenTo_congr (fun i hi => (hL i hi).1)]; exact this
  · rw [hn] at hj; rw [(hL j hj).1] at ht; exact h.tm j t hj ht
theorem EnOk.has_bit {e : En} (h : EnOk e) {i : Nat} (hi : i < e.n) {t : Tmr} (ht : t ∈ (e.cp i).L) : e.M.testBit i = true := by
  cases hb : e.M.testBit i with
  | true => rfl
  | false => rw [h.off i hi hb] at ht; cases ht
theorem EnOk.kick {e : En} (h : EnOk e) {i : Nat} (hi : i < e.n) (hb : e.M.testBit i = true) : EnOk (e.kick i) := by
  obtain ⟨-, -, -, a, b⟩ := look_flags e { e.cp i with ki := false }
  exact h.sub hi hb a (by rw [b]; exact List.Sublist.refl _)
theorem EnOk.irq {e : En} (h : EnOk e) {i : Nat} (hi : i < e.n) (hb : e.M.testBit i = true) : EnOk (e.irq i) := by
  obtain ⟨-, -, -, a, b⟩ := look_flags e (e.irq1 i)
  exact h.sub hi hb a (by rw [b]; exact List.filter_sublist)
theorem EnOk.soft {e : En} (h : EnOk e) {i : Nat} (hi : i < e.n) (hb : e.M.testBit i = true) : EnOk (e.soft i) := by
  obtain ⟨-, -, -, a, b⟩ := look_flags e { e.cp i with ra := false, L := e.rest i true }
  exact h.sub hi hb a (by rw [b]; exact List.filter_sublist)
theorem EnOk.next1 {e : En} (h : EnOk e) {l : List Frd} {e1 : En} (hx : e.next1 = some (l, e1)) : EnOk e1 := by
  unfold En.next1 at hx
  have key : ∀ {p : Nat → Bool} {i : Nat}, (Mk.listOf e.M).find? p = some i → i < e.n ∧ e.M.testBit i = true := fun hf => by
    have := (Mk.mem_list _ _).1 (List.mem_of_find?_eq_some hf)
    exact ⟨h.bit this.2, this.2⟩
  split at hx
  · rename_i i hf
    cases hx
    exact h.kick (key hf).1 (key hf).2
  · split at hx
    · rename_i i hf
      cases hx
      exact h.irq (key hf).1 (key hf).2
    · split at hx
      · rename_i i hf
        cases hx
        exact h.soft (key hf).1 (key hf).2
      · cases hx
theorem EnOk.settleF : ∀ (k : Nat) {e : En}, EnOk e → EnOk (settleF k e).2
  | 0, e, h => h
  | k + 1, e, h => by
    show EnOk (match e.next1 with | none => ([], e) | some (l, e1) => (l ++ (_root_.Go.Proofs.YtjjdkkdnlnbedaaGreat.settleF k e1).1, (_root_.Go.Proofs.YtjjdkkdnlnbedaaGreat.settleF k e1).2) : List Frd × En).2
    cases hx : e.next1 with
    | none => exact h
    | some o => obtain ⟨l, e1⟩ := o; exact EnOk.settleF k (h.next1 hx)
theorem EnOk.start {e : En} (h : EnOk e) (cpu : Int) {t : Tmr} (ht : okT t) : EnOk (e.start cpu t).2 := by
  unfold En.start
  split
  · exact h
  · rename_i h1
    split
    · exact h
    · rename_i h2
      split
      · exact h
      · rename_i h3
        have hon : e.on cpu = true := by cases q : e.on cpu with | true => rfl | false => exact absurd (.inl q) h1
        obtain ⟨i, rfl, h16, hb⟩ := on_nat hon
        have hi := h.bit hb
        have hw : e.wher t.id = none := by simpa using h2
        have hp := insA_perm t (e.cp i).L
        obtain ⟨x, hx⟩ : ∃ x : Cp, x = { e.cp i with L := insA t (e.cp i).L } := ⟨_, rfl⟩
        obtain ⟨-, -, -, a, b⟩ := look_flags e x
        have hxL : x.L = insA t (e.cp i).L := by rw [hx]
        have hxo : x.on = (e.cp i).on := by rw [hx]
        rw [hxL] at b
        rw [hxo] at a
        show EnOk (e.set (i : Int).toNat (e.look { e.cp (i : Int).toNat with L := insA t (e.cp (i : Int).toNat).L }))
        rw [Int.toNat_natCast, ← hx]
        have hids : ∀ y, y ∈ idsT (insA t (e.cp i).L) ↔ y = t.id ∨ y ∈ idsT (e.cp i).L := fun y => by
          unfold idsT
          rw [(hp.map (·.id)).mem_iff, List.map_cons, List.mem_cons]
        have hnd : (idsT (insA t (e.cp i).L)).Nodup := ((hp.map (fun y : Tmr => y.id)).symm).nodup (List.nodup_cons.2 ⟨wher_none hw hi, (show ((e.cp i).L.map (·.id)).Nodup from h.nd i hi)⟩)
        refine h.upd hi hb a (by rw [b]; exact hnd) (fun j y hj hne hy => ?_) ?_ (fun y hy => ?_)
        · rw [b] at hy
          rcases (hids y).1 hy with rfl | hy
          · exact wher_none hw hj
          · exact h.dj i j y hi hj (fun q => hne q.symm) hy
        · have q1 := lenTo_set e (e.look x) hi
          rw [b, hp.length_eq] at q1
          have q2 := h.len
          unfold En.len at *
          show lenTo (e.set i _) e.n ≤ 64
          simp only [List.length_cons] at q1
          omega
        · rw [b] at hy
          rcases List.mem_cons.1 (hp.mem_iff.1 hy) with rfl | hy
          · refine ⟨?_, ?_, ?_, ht⟩ <;> (simp only [not_or] at h1; omega)
          · exact h.tm i y hi hy
theorem EnOk.cancel {e : En} (h : EnOk e) (id : Int) : EnOk (e.cancel id).2 := by
  unfold En.cancel
  split
  · exact h
  · rename_i i hw
    obtain ⟨hi, hm⟩ := wher_some hw
    obtain ⟨t, ht, -⟩ := List.mem_map.1 hm
    exact h.sub hi (h.has_bit hi ht) rfl List.filter_sublist
theorem EnOk.adv {e : En} (h : EnOk e) (k : Int) : EnOk (e.adv k).2 := by
  unfold En.adv
  split
  · refine h.flags rfl rfl (fun i hi => ?_) (fun i hi hb => if_neg (by rw [hb]; decide))
    show (if _ then _ else _ : Cp).L = _ ∧ (if _ then _ else _ : Cp).on = _
    split
    · unfold passC
      split
      · exact ⟨rfl, rfl⟩
      · split <;> exact ⟨rfl, rfl⟩
    · exact ⟨rfl, rfl⟩
  · exact h
theorem EnOk.change {e : En} (h : EnOk e) (r : Int × KS) : EnOk (e.change r).2 := by
  unfold En.change
  refine h.flags rfl rfl (fun i hi => ?_) (fun i hi hb => if_neg (fun q => by rw [hb] at q; cases q.2))
  show (if _ then _ else _ : Cp).L = _ ∧ (if _ then _ else _ : Cp).on = _
  split <;> exact ⟨rfl, rfl⟩
theorem EnOk.enter {e : En} (h : EnOk e) (cpu : Int) : EnOk (e.enter cpu).2 := by
  unfold En.enter
  split
  · exact h
  · rename_i h1
    split
    · exact h
    · rename_i h2
      obtain ⟨i, rfl⟩ : ∃ i : Nat, cpu = (i : Int) := ⟨cpu.toNat, by omega⟩
      have hi : i < e.n := by omega
      have hn16 := h.n16
      have hone : Mk.oneN (i : Int) = 2 ^ i := by unfold Mk.oneN; rw [if_pos (by omega), Int.toNat_natCast]
      have hbit : ∀ j, (e.M ||| Mk.oneN (i : Int)).testBit j = (e.M.testBit j || decide (i = j)) := fun j => by rw [Nat.testBit_or, hone, Nat.testBit_two_pow]
      have hcp : ∀ j, ((if j = (i : Int).toNat then { e.cp j with on := true } else e.cp j : Cp)).L = (e.cp j).L := fun j => by split <;> rfl
      refine ⟨h.n1, h.n16, ?_, ?_, fun j hj => ?_, fun j hj hb => ?_, fun j hj => ?_, fun j k x hj hk hne hx => ?_, ?_, fun j t hj ht => ?_⟩
      · show e.M ||| Mk.oneN (i : Int) < 2 ^ e.n
        exact Nat.or_lt_two_pow h.M (by rw [hone]; exact Nat.pow_lt_pow_right (by omega) hi)
      · show e.M ||| Mk.oneN (i : Int) ≠ 0
        intro q
        have := hbit i
        rw [q] at this
        simp at this
      · show (if j = (i : Int).toNat then { e.cp j with on := true } else e.cp j : Cp).on = (e.M ||| Mk.oneN (i : Int)).testBit j
        rw [hbit j, Int.toNat_natCast]
        by_cases q : j = i
        · subst q; simp
        · rw [if_neg q, h.on j hj, decide_eq_false (fun z => q z.symm), Bool.or_false]
      · have hb2 : (e.M ||| Mk.oneN (i : Int)).testBit j = false := hb
        rw [hbit j] at hb2
        simp only [Bool.or_eq_false_iff, decide_eq_false_iff_not] at hb2
        show (if j = (i : Int).toNat then { e.cp j with on := true } else e.cp j : Cp) = cp0
        rw [Int.toNat_natCast, if_neg (fun z => hb2.2 z.symm)]
        exact h.off j hj hb2.1
      · show (idsT (if j = (i : Int).toNat then { e.cp j with on := true } else e.cp j : Cp).L).Nodup
        rw [hcp]; exact h.nd j hj
      · have hx2 : x ∈ idsT (if j = (i : Int).toNat then { e.cp j with on := true } else e.cp j : Cp).L := hx
        rw [hcp] at hx2
        show x ∉ idsT (if k = (i : Int).toNat then { e.cp k with on := true } else e.cp k : Cp).L
        rw [hcp]; exact h.dj j k x hj hk hne hx2
      · have := h.len
        unfold En.len at *
        refine Nat.le_trans (Nat.le_of_eq (lenTo_congr (e := e) fun j hj => ?_)) this
        exact hcp j
      · have ht2 : t ∈ (if j = (i : Int).toNat then { e.cp j with on := true } else e.cp j : Cp).L := ht
        rw [hcp] at ht2
        exact h.tm j t hj ht2
theorem leave_gone {e : En} {c t : Nat} (hon : e.on (c : Int) = true) (hnx : (Mk.nextL (Mk.listOf (Mk.woN e.M (c : Int))) (c : Int)).2 = true) (ht : (Mk.nextL (Mk.listOf (Mk.woN e.M (c : Int))) (c : Int)).1 = (t : Int)) :
    e.leave (c : Int) = (0, (e.gone c t (Mk.woN e.M (c : Int))).set t ((e.gone c t (Mk.woN e.M (c : Int))).look ((e.gone c t (Mk.woN e.M (c : Int))).cp t))) := by
  unfold En.leave
  rw [if_neg (by rw [hon]; decide), if_neg (by rw [hnx]; decide), ht]
  rfl
theorem EnOk.gone {e : En} (h : EnOk e) {c t : Nat} (hc : c < e.n) (ht : t < e.n) (hne : t ≠ c) (hbt : e.M.testBit t = true) : EnOk (e.gone c t (Mk.woN e.M (c : Int))) := by
  have hn16 := h.n16
  have hbit : ∀ j, j < 16 → (Mk.woN e.M (c : Int)).testBit j = (e.M.testBit j && !decide (c = j)) := fun j hj => by
    rw [Mk.woN_bit e.M (c : Int) j hj]
    congr 2
    exact decide_eq_decide.2 (by omega)
  have hcp : ∀ j, (e.gone c t (Mk.woN e.M (c : Int))).cp j = if j = c then cp0 else if j = t then { e.cp t with L := foldA (e.cp t).L (e.cp c).L } else e.cp j := fun j => rfl
  have hp := foldA_perm (e.cp t).L (e.cp c).L
  have hids : ∀ x, x ∈ idsT (foldA (e.cp t).L (e.cp c).L) ↔ x ∈ idsT (e.cp c).L ∨ x ∈ idsT (e.cp t).L := fun x => foldA_ids
  refine ⟨h.n1, h.n16, ?_, ?_, fun j hj => ?_, fun j hj hb => ?_, fun j hj => ?_, fun j k x hj hk hjk hx => ?_, ?_, fun j y hj hy => ?_⟩
  · show Mk.woN e.M (c : Int) < 2 ^ e.n
    unfold Mk.woN
    exact Nat.lt_of_le_of_lt (Nat.le_trans Nat.and_le_left (Nat.mod_le _ _)) h.M
  · intro q
    have hq : Mk.woN e.M (c : Int) = 0 := q
    have := hbit t (by omega)
    rw [hq, hbt] at this
    simp at this
    omega
  · rw [hcp]
    show _ = (Mk.woN e.M (c : Int)).testBit j
    have hj2 : j < e.n := hj
    rw [hbit j (by omega)]
    by_cases q : j = c
    · subst q; simp [cp0]
    · rw [if_neg q, decide_eq_false (fun z => q z.symm)]
      simp only [Bool.not_false, Bool.and_true]
      by_cases p : j = t
      · subst p; rw [if_pos rfl]; exact h.on j hj
      · rw [if_neg p]; exact h.on j hj
  · have hj2 : j < e.n := hj
    have hb2 : (Mk.woN e.M (c : Int)).testBit j = false := hb
    rw [hbit j (by omega)] at hb2
    rw [hcp]
    by_cases q : j = c
    · rw [if_pos q]
    · rw [if_neg q]
      rw [decide_eq_false (fun z => q z.symm)] at hb2
      simp only [Bool.not_false, Bool.and_true] at hb2
      have p : j ≠ t := fun p => by subst p; rw [hbt] at hb2; cases hb2
      rw [if_neg p]; exact h.off j hj hb2
  · rw [hcp]
    by_cases q : j = c
    · rw [if_pos q]; simp [cp0, idsT]
    · rw [if_neg q]
      by_cases p : j = t
      · rw [if_pos p]
        show (idsT (foldA (e.cp t).L (e.cp c).L)).Nodup
        refine ((hp.map (·.id)).symm).nodup ?_
        rw [List.map_append]
        refine List.nodup_append.2 ⟨h.nd c hc, h.nd t ht, fun x hx y hy e1 => ?_⟩
        subst e1
        exact h.dj c t x hc ht (fun z => hne z.symm) hx hy
      · rw [if_neg p]; exact h.nd j hj
  · rw [hcp] at hx ⊢
    have hj2 : j < e.n := hj
    have hk2 : k < e.n := hk
    by_cases q : j = c
    · rw [if_pos q] at hx; simp [cp0, idsT] at hx
    · rw [if_neg q] at hx
      by_cases q2 : k = c
      · rw [if_pos q2]; simp [cp0, idsT]
      · rw [if_neg q2]
        by_cases p : j = t
        · rw [if_pos p] at hx
          subst p
          rw [if_neg (fun z => hjk z.symm)]
          rcases (hids x).1 hx with hx | hx
          · exact h.dj c k x hc hk2 (fun z => q2 z.symm) hx
          · exact h.dj j k x hj2 hk2 hjk hx
        · rw [if_neg p] at hx
          by_cases p2 : k = t
          · rw [if_pos p2]
            intro hx2
            rcases (hids x).1 hx2 with hx2 | hx2
            · exact h.dj c j x hc hj2 (fun z => q z.symm) hx2 hx
            · subst p2; exact h.dj k j x hk2 hj2 (fun z => hjk z.symm) hx2 hx
          · rw [if_neg p2]; exact h.dj j k x hj2 hk2 hjk hx
  · obtain ⟨ct, hct⟩ : ∃ ct : Cp, ct = { e.cp t with L := foldA (e.cp t).L (e.cp c).L } := ⟨_, rfl⟩
    have hcL : ct.L = foldA (e.cp t).L (e.cp c).L := by rw [hct]
    have h1 := lenTo_set (e.set c cp0) ct ht
    have h2 := lenTo_set e cp0 hc
    rw [En.set_ne e cp0 hne] at h1
    have h3 : lenTo (e.gone c t (Mk.woN e.M (c : Int))) e.n = lenTo ((e.set c cp0).set t ct) e.n := lenTo_congr fun j hj => by
      rw [hcp, hct]
      by_cases q : j = c
      · subst q; rw [if_pos rfl, En.set_ne _ _ (fun z => hne z.symm), En.set_at]
      · rw [if_neg q]
        by_cases p : j = t
        · subst p; rw [if_pos rfl, En.set_at]
        · rw [if_neg p, En.set_ne _ _ p, En.set_ne _ _ q]
    have h4 := h.len
    have h5 := foldA_len (e.cp t).L (e.cp c).L
    unfold En.len at *
    show lenTo (e.gone c t _) e.n ≤ 64
    rw [h3]
    rw [hcL, h5] at h1
    have e0 : cp0.L.length = 0 := rfl
    rw [e0] at h2
    have h6 : (e.set c cp0).n = e.n := rfl
    have h7 : lenTo (e.set c cp0) (e.set c cp0).n = lenTo (e.set c cp0) e.n := rfl
    omega
  · rw [hcp] at hy
    by_cases q : j = c
    · rw [if_pos q] at hy; cases hy
    · rw [if_neg q] at hy
      by_cases p : j = t
      · rw [if_pos p] at hy
        rcases List.mem_append.1 (hp.mem_iff.1 hy) with hy | hy
        · exact h.tm c y hc hy
        · exact h.tm t y ht hy
      · rw [if_neg p] at hy; exact h.tm j y hj hy
theorem EnOk.leave {e : En} (h : EnOk e) (cpu : Int) : EnOk (e.leave cpu).2 := by
  cases hon : e.on cpu with
  | false => rw [show e.leave cpu = (2, e) from if_pos hon]; exact h
  | true =>
    obtain ⟨c, rfl, h16, hb⟩ := on_nat hon
    cases hnx : (Mk.nextL (Mk.listOf (Mk.woN e.M (c : Int))) (c : Int)).2 with
    | false =>
      have : e.leave (c : Int) = (8, e) := by unfold En.leave; rw [if_neg (by rw [hon]; decide), if_pos hnx]
      rw [this]; exact h
    | true =>
      obtain ⟨t, htm, ht1⟩ := nextL_mem hnx
      have htb := (Mk.mem_list _ _).1 htm
      have htb2 := htb.2
      rw [Mk.woN_bit e.M (c : Int) t htb.1] at htb2
      simp only [Bool.and_eq_true, Bool.not_eq_true', decide_eq_false_iff_not] at htb2
      have htc : t ≠ c := fun q => htb2.2 (by rw [q])
      have hg := h.gone (h.bit hb) (h.bit htb2.1) htc htb2.1
      rw [leave_gone hon hnx ht1]
      obtain ⟨-, -, -, a, b⟩ := look_flags (e.gone c t (Mk.woN e.M (c : Int))) ((e.gone c t (Mk.woN e.M (c : Int))).cp t)
      refine hg.sub (h.bit htb2.1) htb.2 a (by rw [b]; exact List.Sublist.refl _)
/-- Behind each step. -/
theorem EnOk.step {e : En} (h : EnOk e) (s : Stp) (ht : okT s.t) : EnOk (e.step s).2.2 := by
  have hk : ∀ {i : Nat}, e.on (i : Int) = true → i < e.n ∧ e.M.testBit i = true := fun ho => by
    obtain ⟨j, hj, -, hb⟩ := on_nat ho
    have : j = _ := (Int.ofNat_inj.1 hj).symm
    subst this
    exact ⟨h.bit hb, hb⟩
  have hc : ∀ c : Int, e.on c = true → ∃ i : Nat, c = (i : Int) := fun c ho => by obtain ⟨j, hj, -⟩ := on_nat ho; exact ⟨j, hj⟩
  have hI : EnOk (e.doIrq s.cpu).2.2 := by
    cases ho : e.on s.cpu with
    | false => rw [show e.doIrq s.cpu = ([], 2, e) from if_pos ho]; exact h
    | true =>
      obtain ⟨i, hi⟩ := hc s.cpu ho
      rw [hi] at ho ⊢
      obtain ⟨a, b⟩ := hk ho
      unfold En.doIrq
      rw [if_neg (by rw [ho]; decide)]
      by_cases q : (e.cp (i : Int).toNat).la = false
      · rw [if_pos q]; exact h
      · rw [if_neg q]; exact h.irq a b
  have hS : EnOk (e.doSoft s.cpu).2.2 := by
    cases ho : e.on s.cpu with
    | false => rw [show e.doSoft s.cpu = ([], 2, e) from if_pos ho]; exact h
    | true =>
      obtain ⟨i, hi⟩ := hc s.cpu ho
      rw [hi] at ho ⊢
      obtain ⟨a, b⟩ := hk ho
      unfold En.doSoft
      rw [if_neg (by rw [ho]; decide)]
      by_cases q : (e.cp (i : Int).toNat).ra = false
      · rw [if_pos q]; exact h
      · rw [if_neg q]; exact h.soft a b
  have hK : EnOk (e.doKick s.cpu).2.2 := by
    cases ho : e.on s.cpu with
    | false => rw [show e.doKick s.cpu = ([], 2, e) from if_pos ho]; exact h
    | true =>
      obtain ⟨i, hi⟩ := hc s.cpu ho
      rw [hi] at ho ⊢
      obtain ⟨a, b⟩ := hk ho
      unfold En.doKick
      rw [if_neg (by rw [ho]; decide)]
      by_cases q : (e.cp (i : Int).toNat).ki = false
      · rw [if_pos q]; exact h
      · rw [if_neg q]; exact h.kick a b
  unfold En.step
  by_cases q1 : s.kind = 1
  · rw [if_pos q1]; exact h.start s.cpu ht
  rw [if_neg q1]
  by_cases q2 : s.kind = 2
  · rw [if_pos q2]; exact h.cancel s.n
  rw [if_neg q2]
  by_cases q3 : s.kind = 3
  · rw [if_pos q3]; exact h.adv s.n
  rw [if_neg q3]
  by_cases q4 : s.kind = 4
  · rw [if_pos q4]; exact hI
  rw [if_neg q4]
  by_cases q5 : s.kind = 5
  · rw [if_pos q5]; exact hS
  rw [if_neg q5]
  by_cases q6 : s.kind = 6
  · rw [if_pos q6]; exact hK
  rw [if_neg q6]
  by_cases q7 : s.kind = 7
  · rw [if_pos q7]; exact h.change _
  rw [if_neg q7]
  by_cases q8 : s.kind = 8
  · rw [if_pos q8]; exact h.change _
  rw [if_neg q8]
  by_cases q9 : s.kind = 9
  · rw [if_pos q9]; exact h.change _
  rw [if_neg q9]
  by_cases q10 : s.kind = 10
  · rw [if_pos q10]; exact h.leave s.cpu
  rw [if_neg q10]
  by_cases q11 : s.kind = 11
  · rw [if_pos q11]; exact h.enter s.cpu
  rw [if_neg q11]
  by_cases q12 : s.kind = 12
  · rw [if_pos q12]; exact EnOk.settleF 65 h
  rw [if_neg q12]
  exact h
theorem enNew_ok {n : Nat} (le gr : Int) (h1 : 1 ≤ n) (h2 : n ≤ 16) : EnOk (enNew n le gr) := by
  have hz : ∀ k, lenTo (enNew n le gr) k = 0 := by
    intro k
    induction k with
    | zero => rfl
    | succ k ih => show lenTo _ k + 0 = 0; omega
  have hp := Nat.two_pow_pos n
  refine ⟨h1, h2, by show 2 ^ n - 1 < 2 ^ n; omega, ?_, fun j hj => ?_, fun j hj hb => ?_, fun j hj => by show (idsT []).Nodup; simp [idsT], fun j k x hj hk hne hx => by simp [enNew, idsT] at hx, ?_, fun j t hj ht => by cases ht⟩
  · show 2 ^ n - 1 ≠ 0
    have : 2 ^ 1 ≤ 2 ^ n := Nat.pow_le_pow_right (by omega) h1
    omega
  · have hj2 : j < n := hj
    show true = (2 ^ n - 1).testBit j
    rw [Nat.testBit_two_pow_sub_one]; simp [hj2]
  · have hj2 : j < n := hj
    have hb2 : (2 ^ n - 1).testBit j = false := hb
    rw [Nat.testBit_two_pow_sub_one] at hb2; simp [hj2] at hb2
  · unfold En.len; rw [hz]; omega
end Go.Proofs.YtjjdkkdnlnbedaaGreat
