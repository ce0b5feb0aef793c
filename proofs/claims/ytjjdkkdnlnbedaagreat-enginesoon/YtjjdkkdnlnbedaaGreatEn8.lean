/- Time goes by; the clock changes. -/
import Derived.Test.YtjjdkkdnlnbedaaGreatEn7b
namespace Go.Proofs.YtjjdkkdnlnbedaaGreat
open Go.RowKit Kt Qu
set_option linter.unusedVariables false

def En.mapL (e : En) (ls : List Nat) (f : Cp → Cp) : En := { e with cp := fun i => if i ∈ ls then f (e.cp i) else e.cp i }
theorem mapL_nil (e : En) (f : Cp → Cp) : e.mapL [] f = e := by unfold En.mapL; simp
theorem mapL_at (e : En) {ls : List Nat} (f : Cp → Cp) {k : Nat} (hk : k ∉ ls) : (e.mapL ls f).cp k = e.cp k := if_neg hk
theorem mapL_snoc (e : En) {ls : List Nat} (f : Cp → Cp) {k : Nat} (hk : k ∉ ls) : (e.mapL ls f).set k (f (e.cp k)) = e.mapL (ls ++ [k]) f := by
  unfold En.mapL En.set
  congr 1
  funext i
  simp only
  by_cases q : i = k
  · subst q; simp [hk]
  · simp [q]
theorem list_nodup (M : Nat) : (Mk.listOf M).Nodup := List.nodup_range.sublist List.filter_sublist
theorem list_step {M j k : Nat} (h : (Mk.listOf M)[j]? = some k) : (Mk.listOf M).take (j + 1) = (Mk.listOf M).take j ++ [k] ∧ k ∉ (Mk.listOf M).take j := by
  refine ⟨by rw [List.take_add_one, h]; rfl, fun hm => ?_⟩
  obtain ⟨hj, he⟩ := List.getElem?_eq_some_iff.1 h
  have hn := list_nodup M
  rw [← List.take_append_drop j (Mk.listOf M), List.drop_eq_getElem_cons hj, he] at hn
  exact (List.nodup_append.1 hn).2.2 k hm k (by simp) rfl
theorem mapL_bits (e : En) (f : Cp → Cp) (hM : e.M < 65536) : e.mapL (Mk.listOf e.M) f = { e with cp := fun i => if e.M.testBit i = true then f (e.cp i) else e.cp i } := by
  unfold En.mapL
  congr 1
  funext i
  have : (i ∈ Mk.listOf e.M) = (e.M.testBit i = true) := by
    rw [Mk.mem_list]
    refine propext ⟨fun h => h.2, fun h => ⟨?_, h⟩⟩
    by_cases q : i < 16
    · exact q
    · have h2 : e.M.testBit i = false := Nat.testBit_lt_two_pow (Nat.lt_of_lt_of_le hM (by have : 2 ^ 16 ≤ 2 ^ i := Nat.pow_le_pow_right (by omega) (by omega); simpa using this))
      rw [h2] at h; cases h
  simp only [this]
theorem Ir.ft {w w' : World} {B : Nat} {v : Value} {L : List Int} {F : Nat → Prop} (h : Ir w B v L) (f : Ft F w w') (hF : ∀ k, F k → k < B) : Ir w' B v L := h.keep fun g h1 h2 => f.block g h2 fun q => by have := hF g q; omega
section
variable {w w' : World} {l : Loc} {e : En}
theorem Es.adv (h : Es w l e) (k : Int) : Calls Tryz.prog 68 #[.pointer (some ⟨l.c, 0, none⟩), .int .i64 k] w fun r w' => r = .returned (.int .i64 (act0 k e.z).1) ∧ Es w' l { e with z := (act0 k e.z).2 } ∧ Ft (efoot l) w w' := by
  have hc : CBs 0 w w l.c e.z := ⟨h.clk, h.nums, Below.refl _ _, Nat.zero_le _, Nat.zero_le _⟩
  refine (badv hc k).mono ?_
  rintro r w2 ⟨rfl, hc2, ht⟩
  exact ⟨rfl, h.clkd hc2.clk hc2.nums (Ft.of_tch ht), (Ft.of_tch ht).mono fun x hx => ⟨_, hx ▸ h.oc⟩⟩
theorem Es.pass (h : Es w l e) {k : Nat} (hk : k < e.n) (m : Int) (h0 : 0 ≤ m) (h1 : m ≤ 1152921504606846976) : Calls Tryz.prog 69 #[.pointer (some ⟨l.d k, 0, none⟩), .int .i64 m] w fun r w' => (∃ x, r = .returned (.bool x)) ∧ Es w' l (e.set k (passC m (e.cp k))) ∧ Ft (efoot l) w w' := by
  have hD := h.dv k hk
  have hF : ∀ x, x = l.d k → efoot l x := fun x hx => ⟨_, hx ▸ h.od k hk⟩
  have hz : clampZ m = m := by unfold clampZ; rw [if_neg (by omega), if_neg (by omega)]
  cases ha : (e.cp k).arm with
  | none =>
    rw [ha] at hD
    refine (pass_off m w hD).mono ?_
    rintro r w2 ⟨rfl, hD2, ht⟩
    have e1 : passC m (e.cp k) = e.cp k := by unfold passC; rw [ha]
    rw [e1]
    refine ⟨⟨_, rfl⟩, h.devd hk (by rw [ha]; exact hD2) (Ft.of_tch ht) rfl rfl rfl, (Ft.of_tch ht).mono hF⟩
  | some t =>
    rw [ha] at hD
    by_cases ht : t ≤ m
    · refine (pass_yes m w hD (by rw [hz]; exact ht)).mono ?_
      rintro r w2 ⟨rfl, hD2, ht2⟩
      have e1 : passC m (e.cp k) = { e.cp k with arm := none, la := true } := by unfold passC; rw [ha]; exact if_pos ht
      rw [e1]
      exact ⟨⟨_, rfl⟩, h.devd hk hD2 (Ft.of_tch ht2) rfl rfl rfl, (Ft.of_tch ht2).mono hF⟩
    · refine (pass_late m w hD (by rw [hz]; exact ht)).mono ?_
      rintro r w2 ⟨rfl, hD2, ht2⟩
      have e1 : passC m (e.cp k) = e.cp k := by unfold passC; rw [ha]; exact if_neg ht
      rw [e1]
      exact ⟨⟨_, rfl⟩, h.devd hk (by rw [ha]; exact hD2) (Ft.of_tch ht2) rfl rfl rfl, (Ft.of_tch ht2).mono hF⟩
theorem Es.list (h : Es w l e) : Calls Tryz.prog 27 #[.int .u32 (e.M : Int)] w fun r w' => ∃ v, r = .returned v ∧ Ir w' w.heap.size v (Mk.ints (Mk.listOf e.M)) ∧ Below w.heap.size w w' := Mk.list_any e.M (by have := h.M16; omega) w
set_option maxRecDepth 20000 in
set_option maxHeartbeats 1000000 in
theorem advance_any (h : Es w l e) (ho : Onl e) (k : Int) : Calls Tryz.prog 32 #[.pointer (some ⟨l.g, 0, none⟩), .int .i64 k] w fun r w' => r = .returned (.int .i64 (e.adv k).1) ∧ Es w' l (e.adv k).2 ∧ Ft (efoot l) w w' := by
  have g0 : w.cell? ⟨l.g, 0, none⟩ = some (.pointer (some ⟨l.c, 0, none⟩)) := blkAt h.box 0 _ rfl
  have CA := hide (h.adv k)
  have HH := hide h
  by_cases hx : (act0 k e.z).1 = 0
  · obtain ⟨z, hz⟩ : ∃ z, (act0 k e.z).2 = z := ⟨_, rfl⟩
    have E : e.adv k = (0, { e with z := z, cp := fun i => if e.M.testBit i = true then passC z.m (e.cp i) else e.cp i }) := by
      unfold En.adv; rw [if_pos hx, hz]
    rw [E]
    rw [hx, hz] at CA
    have hmap : { e with z := z, cp := fun i => if e.M.testBit i = true then passC z.m (e.cp i) else e.cp i } = ({ e with z := z } : En).mapL (Mk.listOf e.M) (passC z.m) := (mapL_bits ({ e with z := z } : En) (passC z.m) h.M16).symm
    rw [hmap]
    obtain ⟨e1, he1⟩ : ∃ e1 : En, e1 = { e with z := z } := ⟨_, rfl⟩
    rw [← he1] at CA
    rw [← he1]
    have ho1 : ∀ i, i < 16 → e.M.testBit i = true → i < e1.n := fun i h1 h2 => by rw [he1]; exact (ho i h1 h2).1
    have eM : e1.M = e.M := by rw [he1]
    have ez : e1.z = z := by rw [he1]
    rw [← ez, ← eM]
    have hl1 : ∀ (j k : Nat), (Mk.listOf e1.M)[j]? = some k → k < e1.n := fun j k hj => by
      have := (Mk.mem_list e1.M k).1 (List.mem_of_getElem? hj)
      rw [eM] at this
      exact ho1 k this.1 this.2
    have HL1 := hide hl1
    have CN := hide (fun w1 (h1 : Es w1 l e1) => h1.now 0 e1.z.m (.inl ⟨rfl, rfl⟩))
    have CM := hide (fun w1 (h1 : Es w1 l e1) => h1.list)
    have HM := hide (fun w1 (h1 : Es w1 l e1) => And.intro (blkAt h1.box 0 (.pointer (some ⟨l.c, 0, none⟩)) rfl) (blkAt h1.box 2 (.int .u32 (e1.M : Int)) rfl))
    have HZ := hide (fun w1 (h1 : Es w1 l e1) => show 0 ≤ e1.z.m ∧ e1.z.m ≤ 1152921504606846976 from ⟨h1.nums.m0, by have := h1.nums.mq; have := h1.nums.qc; have := h1.nums.c1; omega⟩)
    have HST := hide (fun (j k : Nat) (h : (Mk.listOf e1.M)[j]? = some k) => list_step h)
    have hlen : (Mk.listOf e1.M).length ≤ 16 := Mk.listOf_len e1.M
    clear h ho hx hz E hmap he1 ho1 eM ez hl1
    generalize e1.z.m = m at *
    generalize Mk.listOf e1.M = LS at *
    generalize (e1.M : Int) = M at *
    obtain ⟨n, hn⟩ : ∃ n, LS.length = n := ⟨_, rfl⟩
    rw [hn] at hlen
    have HN := hide hn
    clear hn
    go_enter Tryz.func32, Tryz.ntmps32
    go_wp2_with (go_at_call 68; refine Hid.out ?_)
    refine hide ?_
    refine (unhide CA).mono ?_
    rintro r w1 ⟨rfl, h1, f1⟩
    obtain ⟨g1, g2⟩ := unhide HM w1 h1
    have CN1 := hide (unhide CN w1 h1)
    have CM1 := hide (unhide CM w1 h1)
    have hz := hide (unhide HZ w1 h1)
    have hnn := h1.n16
    have hcap := h1.cap
    have H1 := hide (And.intro h1 f1)
    clear h1 f1 CA g0 HM CN CM HZ
    go_wp2_with (first | (go_at_call 54; refine (unhide CN1).mono ?_; rintro r w2 ⟨rfl, rfl⟩) | (go_at_call 27; refine Hid.out ?_))
    refine hide ?_
    refine (unhide CM1).mono ?_
    rintro r w3 ⟨v3, rfl, row3, hb3⟩
    obtain ⟨a3, cap3, hf, hcell⟩ := row3.form
    rw [Mk.ints_len, unhide HN] at hf
    subst hf
    have H3 := hide (And.intro row3 hb3)
    clear row3 hb3 hcell CM1 CN1 g1 g2
    go_wp2_with fail
    go_loopw [33] (fun s33 w' => ∃ j : Nat, s33 = .int .i64 (j : Int) ∧ j ≤ n ∧ Hid (Es w' l (e1.mapL (LS.take j) (passC m)) ∧ Ft (efoot l) w3 w')) (fun d _ => n - (intOf d).toNat)
    case atStart => exact ⟨0, rfl, by omega, hide ⟨by rw [List.take_zero, mapL_nil]; exact (unhide H1).1.below (unhide H3).2, Ft.refl _ _⟩⟩
    case round =>
      obtain ⟨j, rfl, hj, HJ⟩ := hrel
      by_cases hlt : j < n
      · obtain ⟨k, hk⟩ : ∃ k, LS[j]? = some k := ⟨_, List.getElem?_eq_getElem (by rw [unhide HN]; exact hlt)⟩
        have hkn := unhide HL1 j k hk
        obtain ⟨es1, es2⟩ := unhide HST j k hk
        have hrow := (unhide H3).1.ft (unhide HJ).2 (fun x hx => (unhide H1).1.lt x hx)
        obtain ⟨a4, cap4, hf4, hc4⟩ := hrow.form
        obtain ⟨g4, hg4, cell4⟩ := hc4 j (k : Int) (by unfold Mk.ints; rw [List.getElem?_map, hk]; rfl)
        rw [Mk.ints_len, unhide HN] at hf4
        obtain ⟨rfl, -⟩ : a3 = a4 ∧ cap3 = cap4 := by cases hf4; exact ⟨rfl, rfl⟩
        subst hg4
        have hE := (unhide HJ).1
        have g1 : wr.cell? ⟨l.g, 1, none⟩ = some (.slice (some ⟨l.r, 0, none⟩) e1.n l.cap) := blkAt hE.box 1 _ rfl
        have r1 := (hE.row k hkn).2.1
        have CP := hide (hE.pass (k := k) hkn m (unhide hz).1 (unhide hz).2)
        rw [mapL_at _ _ es2, mapL_snoc _ _ es2, ← es1] at CP
        have HF := hide (unhide HJ).2
        clear hk es1 es2 hrow hc4 hE HJ hf4
        generalize l.d k = dk at *
        go_wp2_with (go_at_call 69; refine Hid.out ?_)
        refine hide ?_
        refine (unhide CP).mono ?_
        rintro r w5 ⟨⟨x, rfl⟩, h5, f5⟩
        have H5 := hide (And.intro h5 f5)
        clear h5 f5 CP
        go_wp2_with fail
        go_roundw
        case rel => exact ⟨j + 1, by first | rfl | go_num, by omega, hide ⟨(unhide H5).1, (unhide HF).trans (unhide H5).2⟩⟩
        case measure => simp [intOf]; omega
      · obtain rfl : j = n := by omega
        go_wp2_with fail
        go_ret
        have hJ := unhide HJ
        rw [List.take_of_length_le (Nat.le_of_eq (unhide HN))] at hJ
        exact ⟨rfl, hJ.1, ((unhide H1).2.trans (Ft.of_below _ (unhide H3).2)).trans hJ.2⟩
  · have E : e.adv k = ((act0 k e.z).1, e) := by unfold En.adv; rw [if_neg hx]
    rw [E]
    have e2 : (act0 k e.z).2 = e.z := by
      unfold act0 at hx ⊢
      split at hx
      · rw [if_pos (by assumption)]
      · exact absurd rfl hx
    have e3 : ({ e with z := (act0 k e.z).2 } : En) = e := by rw [e2]
    rw [e3] at CA
    generalize (act0 k e.z).1 = x at *
    clear h ho E e2 e3
    go_enter Tryz.func32, Tryz.ntmps32
    go_wp2_with (go_at_call 68; refine (unhide CA).mono ?_; rintro r w1 ⟨rfl, h1, f1⟩; have H1 := hide (And.intro h1 f1); clear h1 f1)
    all_goals (try go_ret)
    exact ⟨rfl, (unhide H1).1, (unhide H1).2⟩
end
end Go.Proofs.YtjjdkkdnlnbedaaGreat
