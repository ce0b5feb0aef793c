import Derived.Test.YtihfldjoogaolaaLq
import Derived.Test.YtihfldjoogaolaaKt
namespace Go.Proofs.Ytihfldjoogaolaa
open Go.RowKit Kt Qu
set_option linter.unusedVariables false

theorem box2 (w : World) (a b : Obj) : Below w.heap.size w ((w.alloc a).alloc b) := (one_below w a).trans ((one_below _ b).mono (one_below w a).size)
set_option maxRecDepth 100000 in
set_option maxHeartbeats 2000000 in
theorem tput_some (w : World) (C n cap g o : Nat) (pre post : List Tmr) (h : Rd rtm w C (some ⟨g, o, none⟩) n cap (pre ++ post)) (hl : n ≤ 1000) (t : Tmr)
    (hpre : ∀ y ∈ pre, clampZ y.soft ≤ clampZ t.soft) (hpost : ∀ y S, post = y :: S → clampZ t.soft < clampZ y.soft) :
    Calls Try.prog 8 #[.slice (some ⟨g, o, none⟩) n cap, tv t] w fun e w' => ∃ v', e = .returned v' ∧ Rg rtm w' w.heap.size v' (pre ++ t :: post) ∧ Below w.heap.size w w' := by
  obtain ⟨B, hB⟩ : ∃ B, w.heap.size = B := ⟨_, rfl⟩
  obtain ⟨i1, i2, i3, i4, i5⟩ := t
  obtain ⟨W0, hW0⟩ : ∃ W0, W0 = w.alloc (.cells #[.int .i64 i1, .int .i64 i2, .int .i64 i3, .int .i64 i4, .bool i5] 28) := ⟨_, rfl⟩
  have b0 : Below B w W0 := by rw [hW0, ← hB]; exact one_below _ _
  have k0 : Blk W0 B 28 #[.int .i64 i1, .int .i64 i2, .int .i64 i3, .int .i64 i4, .bool i5] := by rw [hW0]; exact Blk.new_at _ _ _ hB.symm
  have hr0 : Rd rtm W0 C (some ⟨g, o, none⟩) n cap (pre ++ post) := h.below (hB ▸ b0)
  have hle := h.le
  have hmax := h.max
  unfold maxLen at hmax
  have hN := h.len
  have hpN : pre.length ≤ n := by rw [hN]; simp
  have HAT := hide (fun (j : Nat) (y : Tmr) (hj : (pre ++ post)[j]? = some y) => (tcells hr0 hj))
  have H0 := hide (And.intro b0 (And.intro k0 hr0))
  have HPR := hide hpre
  have HPO := hide hpost
  have CC := fun s w' => hide (rclamp_any s w')
  simp only at HPR HPO
  obtain ⟨K, hK⟩ : ∃ K, clampZ i3 = K := ⟨_, rfl⟩
  have CK := CC i3
  rw [hK] at HPR HPO CK
  have HN := hide hN
  have HW0 := hide hW0
  rw [hB]
  clear b0 k0 hr0 h hpre hpost hN hW0 hK
  unfold tv
  simp only
  go_enter Try.func8, Try.ntmps8
  go_wp2_with fail
  rw [← unhide HW0]
  go_loopw [5] (fun d w' => ∃ t : Nat, t ≤ pre.length ∧ d = .int .i64 (t : Int) ∧ Hid (Below W0.heap.size W0 w')) (fun d _ => 5001 - (intOf d).toNat)
  case atStart => exact ⟨0, by omega, rfl, hide (Below.refl _ _)⟩
  case round =>
    obtain ⟨t, ht, rfl, HT⟩ := hrel
    have q2 : wr.cell? ⟨B, 2, none⟩ = some (.int .i64 i3) := cellB (unhide HT) ((unhide H0).2.1.cell 2)
    by_cases htN : t < n
    · obtain ⟨z, hz⟩ : ∃ z, (pre ++ post)[t]? = some z := ⟨_, List.getElem?_eq_getElem (by rw [← unhide HN]; exact htN)⟩
      obtain ⟨g', o', he, -, -, -, x2, -, -⟩ := unhide HAT t z hz
      cases he
      have y2 := cellB (unhide HT) x2
      have hd1 : decide ((t : Int) < (n : Int)) = true := decide_eq_true (by omega)
      have CZ := CC z.soft
      by_cases htp : t < pre.length
      · have hkb : clampZ z.soft ≤ K := unhide HPR z (by
          rw [List.getElem?_append_left htp] at hz
          exact List.mem_of_getElem? hz)
        generalize clampZ z.soft = Kz at *
        generalize z.soft = zs at *
        have hkb2 : decide (Kz ≤ K) = true := decide_eq_true hkb
        clear x2 hz hkb
        go_wp2_with fail
        go_quiet (first | (go_at_call 12; with_reducible refine (unhide (CZ _)).mono ?_; rintro e w9 ⟨rfl, rfl⟩; exact ⟨rfl, _, rfl⟩) | (go_at_call 12; with_reducible refine (unhide (CK _)).mono ?_; rintro e w9 ⟨rfl, rfl⟩; exact ⟨rfl, _, rfl⟩))
        have HT2 := hide ((unhide HT).trans ((show Below wr.heap.size wr (wr.drewN nq) from ⟨rfl, rfl, rfl, Nat.le_refl _, fun _ _ => rfl⟩).mono (unhide HT).size))
        go_wp2_with fail
        go_roundw
        case rel => exact ⟨t + 1, by omega, by first | rfl | go_num, HT2⟩
        case measure => simp [intOf]; omega
      · obtain rfl : t = pre.length := by omega
        have hkb : K < clampZ z.soft := by
          rw [List.getElem?_append_right (Nat.le_refl _), Nat.sub_self] at hz
          cases hp : post with
          | nil => rw [hp] at hz; cases hz
          | cons y S =>
            rw [hp] at hz
            cases hz
            exact unhide HPO _ _ hp
        generalize clampZ z.soft = Kz at *
        generalize z.soft = zs at *
        have hkb2 : decide (Kz ≤ K) = false := decide_eq_false (by omega)
        clear x2 hz hkb
        go_wp2_with fail
        go_quiet (first | (go_at_call 12; with_reducible refine (unhide (CZ _)).mono ?_; rintro e w9 ⟨rfl, rfl⟩; exact ⟨rfl, _, rfl⟩) | (go_at_call 12; with_reducible refine (unhide (CK _)).mono ?_; rintro e w9 ⟨rfl, rfl⟩; exact ⟨rfl, _, rfl⟩))
        go_wp2_with fail
        have HT2 := hide ((unhide HT).trans ((show Below wr.heap.size wr (wr.drewN nq) from ⟨rfl, rfl, rfl, Nat.le_refl _, fun _ _ => rfl⟩).mono (unhide HT).size))
        generalize wr.drewN nq = w5 at *
        obtain ⟨b0, k0, hr0⟩ := unhide H0
        have rW := hr0.below (unhide HT2)
        have kx := k0.below (unhide HT2) k0.lt
        obtain ⟨D, hD⟩ : ∃ D, w5.heap.size = D := ⟨_, rfl⟩
        have e0 : ∀ o : Obj, (w5.alloc o).drew.cell? ⟨B, 0, none⟩ = some (.int .i64 i1) := fun o => (kx.alloc o).cell 0
        have e1 : ∀ o : Obj, (w5.alloc o).drew.cell? ⟨B, 1, none⟩ = some (.int .i64 i2) := fun o => (kx.alloc o).cell 1
        have e2 : ∀ o : Obj, (w5.alloc o).drew.cell? ⟨B, 2, none⟩ = some (.int .i64 i3) := fun o => (kx.alloc o).cell 2
        have e3 : ∀ o : Obj, (w5.alloc o).drew.cell? ⟨B, 3, none⟩ = some (.int .i64 i4) := fun o => (kx.alloc o).cell 3
        have e4 : ∀ o : Obj, (w5.alloc o).drew.cell? ⟨B, 4, none⟩ = some (.bool i5) := fun o => (kx.alloc o).cell 4
        have f0 : w5.drew.cell? ⟨B, 0, none⟩ = some (.int .i64 i1) := kx.cell 0
        have f1 : w5.drew.cell? ⟨B, 1, none⟩ = some (.int .i64 i2) := kx.cell 1
        have f2 : w5.drew.cell? ⟨B, 2, none⟩ = some (.int .i64 i3) := kx.cell 2
        have f3 : w5.drew.cell? ⟨B, 3, none⟩ = some (.int .i64 i4) := kx.cell 3
        have f4 : w5.drew.cell? ⟨B, 4, none⟩ = some (.bool i5) := kx.cell 4
        have c0 : ∀ w', Below D w5 w' → w'.cell? ⟨B, 0, none⟩ = some (.int .i64 i1) := fun w' hb => cellB (hD ▸ hb) (kx.cell 0)
        have c1 : ∀ w', Below D w5 w' → w'.cell? ⟨B, 1, none⟩ = some (.int .i64 i2) := fun w' hb => cellB (hD ▸ hb) (kx.cell 1)
        have c2 : ∀ w', Below D w5 w' → w'.cell? ⟨B, 2, none⟩ = some (.int .i64 i3) := fun w' hb => cellB (hD ▸ hb) (kx.cell 2)
        have c3 : ∀ w', Below D w5 w' → w'.cell? ⟨B, 3, none⟩ = some (.int .i64 i4) := fun w' hb => cellB (hD ▸ hb) (kx.cell 3)
        have c4 : ∀ w', Below D w5 w' → w'.cell? ⟨B, 4, none⟩ = some (.bool i5) := fun w' hb => cellB (hD ▸ hb) (kx.cell 4)
        have n1 := fun w' (h : Below D w5 w') => dnews_pre (rW.below (hD ▸ h)) cap (fun e => by cases e)
        have n3 := fun w' (h : Below D w5 w') => dnews_from (rW.below (hD ▸ h)) (unhide HN).symm (cap - pre.length)
        have hp0 : (0 : Int) ≤ (pre.length : Int) := by omega
        have hp1 : (pre.length : Int) ≤ (cap : Int) := by omega
        have hp2 : (pre.length : Int) ≤ (n : Int) := by omega
        have hp3 : (n : Int) ≤ (cap : Int) := by omega
        have HL := hide (show pre.length ≤ 5000 ∧ post.length ≤ 5000 by have := unhide HN; rw [List.length_append] at this; omega)
        have HI := hide (And.intro n1 (And.intro n3 b0))
        have BE : ∀ o : Obj, Below D w5 (w5.alloc o).drew := fun o => by rw [← hD]; exact below_drew (one_below w5 o)
        have BE2 : ∀ o p : Obj, Below D w5 ((w5.alloc o).alloc p).drew := fun o p => by rw [← hD]; exact below_drew (box2 w5 o p)
        have HBE := hide (And.intro BE BE2)
        clear BE BE2 n1 n3 rW b0 hr0 k0 kx
        go_region_law (first
          | (refine rstep_own rtm rfl _ _ rfl hD _ [] rfl (by first | exact rown_empty rtm (Nat.le_refl _) hD | exact World.ownsRow.alloc (rown_empty rtm (Nat.le_refl _) hD) _ | exact rown_empty rtm (Nat.le_succ _) (by simp [hD])) pre (by first | exact (unhide HI).1 _ ((unhide HBE).1 _) | exact (unhide HI).1 _ ((unhide HBE).2 _ _)) (by have := (unhide HL).1; simp; omega) (by first | exact (unhide HBE).1 _ | exact (unhide HBE).2 _ _) ?_; intro v1 w1 o1 S1 K1; rw [List.nil_append] at o1)
          | (refine rstep_own rtm rfl _ _ rfl hD _ pre rfl (by first | exact o1 | exact World.ownsRow.alloc o1 _) [⟨i1, i2, i3, i4, i5⟩] (by first | exact rnews_box rtm (Blk.new _ _ _) rfl | exact rnews_box rtm (K1 _ _ _ (Blk.new_at _ _ _ (show D + 1 = _ by simp [hD])) (fun e => Nat.ne_of_gt (Nat.lt_succ_self D) (Option.some.inj e))) rfl | exact rnews_box rtm (K1 _ _ _ (Blk.alloc (Blk.new_at _ _ _ hD.symm) _) (fun e => Nat.ne_of_lt (Nat.lt_succ_self D) (Option.some.inj e))) rfl) (by have := (unhide HL).1; simp; omega) (by first | exact S1 | exact S1.alloc (by have := S1.size; omega) _) ?_; intro v2 w2 o2 S2 K2)
          | (refine rstep_own rtm rfl _ _ rfl hD _ (pre ++ [(⟨i1, i2, i3, i4, i5⟩ : Tmr)]) rfl o2 post ((unhide HI).2.1 _ S2) (by have := (unhide HL).1; have := (unhide HL).2; simp; omega) S2 ?_; intro v3 w3 o3 S3 K3))
        all_goals go_wp2_with fail
        all_goals
          go_ret
          refine ⟨v3, rfl, ?_, ?_⟩
          · have hb := (unhide HI).2.2.size
            have hs := (unhide HT2).size
            rw [List.append_assoc] at o3
            exact Rg.mono o3 (by omega)
          · have hb := (unhide HI).2.2
            exact (hb.trans ((unhide HT2).mono (hB ▸ hb.size))).trans (S3.mono (by have := hb.size; have := (unhide HT2).size; omega))
    · obtain rfl : t = pre.length := by omega
      have hd1 : decide ((pre.length : Int) < (n : Int)) = false := decide_eq_false (by omega)
      go_wp2_with fail
      go_quiet (fail)
      go_wp2_with fail
      have HT2 := hide ((unhide HT).trans ((show Below wr.heap.size wr (wr.drewN nq) from ⟨rfl, rfl, rfl, Nat.le_refl _, fun _ _ => rfl⟩).mono (unhide HT).size))
      generalize wr.drewN nq = w5 at *
      obtain ⟨b0, k0, hr0⟩ := unhide H0
      have rW := hr0.below (unhide HT2)
      have kx := k0.below (unhide HT2) k0.lt
      obtain ⟨D, hD⟩ : ∃ D, w5.heap.size = D := ⟨_, rfl⟩
      have e0 : ∀ o : Obj, (w5.alloc o).drew.cell? ⟨B, 0, none⟩ = some (.int .i64 i1) := fun o => (kx.alloc o).cell 0
      have e1 : ∀ o : Obj, (w5.alloc o).drew.cell? ⟨B, 1, none⟩ = some (.int .i64 i2) := fun o => (kx.alloc o).cell 1
      have e2 : ∀ o : Obj, (w5.alloc o).drew.cell? ⟨B, 2, none⟩ = some (.int .i64 i3) := fun o => (kx.alloc o).cell 2
      have e3 : ∀ o : Obj, (w5.alloc o).drew.cell? ⟨B, 3, none⟩ = some (.int .i64 i4) := fun o => (kx.alloc o).cell 3
      have e4 : ∀ o : Obj, (w5.alloc o).drew.cell? ⟨B, 4, none⟩ = some (.bool i5) := fun o => (kx.alloc o).cell 4
      have f0 : w5.drew.cell? ⟨B, 0, none⟩ = some (.int .i64 i1) := kx.cell 0
      have f1 : w5.drew.cell? ⟨B, 1, none⟩ = some (.int .i64 i2) := kx.cell 1
      have f2 : w5.drew.cell? ⟨B, 2, none⟩ = some (.int .i64 i3) := kx.cell 2
      have f3 : w5.drew.cell? ⟨B, 3, none⟩ = some (.int .i64 i4) := kx.cell 3
      have f4 : w5.drew.cell? ⟨B, 4, none⟩ = some (.bool i5) := kx.cell 4
      have c0 : ∀ w', Below D w5 w' → w'.cell? ⟨B, 0, none⟩ = some (.int .i64 i1) := fun w' hb => cellB (hD ▸ hb) (kx.cell 0)
      have c1 : ∀ w', Below D w5 w' → w'.cell? ⟨B, 1, none⟩ = some (.int .i64 i2) := fun w' hb => cellB (hD ▸ hb) (kx.cell 1)
      have c2 : ∀ w', Below D w5 w' → w'.cell? ⟨B, 2, none⟩ = some (.int .i64 i3) := fun w' hb => cellB (hD ▸ hb) (kx.cell 2)
      have c3 : ∀ w', Below D w5 w' → w'.cell? ⟨B, 3, none⟩ = some (.int .i64 i4) := fun w' hb => cellB (hD ▸ hb) (kx.cell 3)
      have c4 : ∀ w', Below D w5 w' → w'.cell? ⟨B, 4, none⟩ = some (.bool i5) := fun w' hb => cellB (hD ▸ hb) (kx.cell 4)
      have n1 := fun w' (h : Below D w5 w') => dnews_pre (rW.below (hD ▸ h)) cap (fun e => by cases e)
      have n3 := fun w' (h : Below D w5 w') => dnews_from (rW.below (hD ▸ h)) (unhide HN).symm (cap - pre.length)
      have hp0 : (0 : Int) ≤ (pre.length : Int) := by omega
      have hp1 : (pre.length : Int) ≤ (cap : Int) := by omega
      have hp2 : (pre.length : Int) ≤ (n : Int) := by omega
      have hp3 : (n : Int) ≤ (cap : Int) := by omega
      have HL := hide (show pre.length ≤ 5000 ∧ post.length ≤ 5000 by have := unhide HN; rw [List.length_append] at this; omega)
      have HI := hide (And.intro n1 (And.intro n3 b0))
      have BE : ∀ o : Obj, Below D w5 (w5.alloc o).drew := fun o => by rw [← hD]; exact below_drew (one_below w5 o)
      have BE2 : ∀ o p : Obj, Below D w5 ((w5.alloc o).alloc p).drew := fun o p => by rw [← hD]; exact below_drew (box2 w5 o p)
      have HBE := hide (And.intro BE BE2)
      clear BE BE2 n1 n3 rW b0 hr0 k0 kx
      go_region_law (first
        | (refine rstep_own rtm rfl _ _ rfl hD _ [] rfl (by first | exact rown_empty rtm (Nat.le_refl _) hD | exact World.ownsRow.alloc (rown_empty rtm (Nat.le_refl _) hD) _ | exact rown_empty rtm (Nat.le_succ _) (by simp [hD])) pre (by first | exact (unhide HI).1 _ ((unhide HBE).1 _) | exact (unhide HI).1 _ ((unhide HBE).2 _ _)) (by have := (unhide HL).1; simp; omega) (by first | exact (unhide HBE).1 _ | exact (unhide HBE).2 _ _) ?_; intro v1 w1 o1 S1 K1; rw [List.nil_append] at o1)
        | (refine rstep_own rtm rfl _ _ rfl hD _ pre rfl (by first | exact o1 | exact World.ownsRow.alloc o1 _) [⟨i1, i2, i3, i4, i5⟩] (by first | exact rnews_box rtm (Blk.new _ _ _) rfl | exact rnews_box rtm (K1 _ _ _ (Blk.new_at _ _ _ (show D + 1 = _ by simp [hD])) (fun e => Nat.ne_of_gt (Nat.lt_succ_self D) (Option.some.inj e))) rfl | exact rnews_box rtm (K1 _ _ _ (Blk.alloc (Blk.new_at _ _ _ hD.symm) _) (fun e => Nat.ne_of_lt (Nat.lt_succ_self D) (Option.some.inj e))) rfl) (by have := (unhide HL).1; simp; omega) (by first | exact S1 | exact S1.alloc (by have := S1.size; omega) _) ?_; intro v2 w2 o2 S2 K2)
        | (refine rstep_own rtm rfl _ _ rfl hD _ (pre ++ [(⟨i1, i2, i3, i4, i5⟩ : Tmr)]) rfl o2 post ((unhide HI).2.1 _ S2) (by have := (unhide HL).1; have := (unhide HL).2; simp; omega) S2 ?_; intro v3 w3 o3 S3 K3))
      all_goals go_wp2_with fail
      all_goals
        go_ret
        refine ⟨v3, rfl, ?_, ?_⟩
        · have hb := (unhide HI).2.2.size
          have hs := (unhide HT2).size
          rw [List.append_assoc] at o3
          exact Rg.mono o3 (by omega)
        · have hb := (unhide HI).2.2
          exact (hb.trans ((unhide HT2).mono (hB ▸ hb.size))).trans (S3.mono (by have := hb.size; have := (unhide HT2).size; omega))
set_option maxRecDepth 100000 in
set_option maxHeartbeats 2000000 in
theorem tput_none (w : World) (t : Tmr) :
    Calls Try.prog 8 #[.slice none 0 0, tv t] w fun e w' => ∃ v', e = .returned v' ∧ Rg rtm w' w.heap.size v' [t] ∧ Below w.heap.size w w' := by
  obtain ⟨B, hB⟩ : ∃ B, w.heap.size = B := ⟨_, rfl⟩
  obtain ⟨i1, i2, i3, i4, i5⟩ := t
  obtain ⟨W0, hW0⟩ : ∃ W0, W0 = w.alloc (.cells #[.int .i64 i1, .int .i64 i2, .int .i64 i3, .int .i64 i4, .bool i5] 28) := ⟨_, rfl⟩
  have b0 : Below B w W0 := by rw [hW0, ← hB]; exact one_below _ _
  have k0 : Blk W0 B 28 #[.int .i64 i1, .int .i64 i2, .int .i64 i3, .int .i64 i4, .bool i5] := by rw [hW0]; exact Blk.new_at _ _ _ hB.symm
  have H0 := hide (And.intro b0 k0)
  have HW0 := hide hW0
  rw [hB]
  clear b0 k0 hW0
  unfold tv
  simp only
  go_enter Try.func8, Try.ntmps8
  go_wp2_with fail
  rw [← unhide HW0]
  go_loopw [5] (fun d w' => d = .int .i64 0 ∧ Hid (Below W0.heap.size W0 w')) (fun d _ => 5001 - (intOf d).toNat)
  case atStart => exact ⟨rfl, hide (Below.refl _ _)⟩
  case round =>
    obtain ⟨rfl, HT⟩ := hrel
    go_wp2_with fail
    go_quiet (fail)
    go_wp2_with fail
    have HT2 := hide ((unhide HT).trans ((show Below wr.heap.size wr (wr.drewN nq) from ⟨rfl, rfl, rfl, Nat.le_refl _, fun _ _ => rfl⟩).mono (unhide HT).size))
    generalize wr.drewN nq = w5 at *
    obtain ⟨b0, k0⟩ := unhide H0
    have kx := k0.below (unhide HT2) k0.lt
    obtain ⟨D, hD⟩ : ∃ D, w5.heap.size = D := ⟨_, rfl⟩
    have e0 : ∀ o : Obj, (w5.alloc o).drew.cell? ⟨B, 0, none⟩ = some (.int .i64 i1) := fun o => (kx.alloc o).cell 0
    have e1 : ∀ o : Obj, (w5.alloc o).drew.cell? ⟨B, 1, none⟩ = some (.int .i64 i2) := fun o => (kx.alloc o).cell 1
    have e2 : ∀ o : Obj, (w5.alloc o).drew.cell? ⟨B, 2, none⟩ = some (.int .i64 i3) := fun o => (kx.alloc o).cell 2
    have e3 : ∀ o : Obj, (w5.alloc o).drew.cell? ⟨B, 3, none⟩ = some (.int .i64 i4) := fun o => (kx.alloc o).cell 3
    have e4 : ∀ o : Obj, (w5.alloc o).drew.cell? ⟨B, 4, none⟩ = some (.bool i5) := fun o => (kx.alloc o).cell 4
    have f0 : w5.drew.cell? ⟨B, 0, none⟩ = some (.int .i64 i1) := kx.cell 0
    have f1 : w5.drew.cell? ⟨B, 1, none⟩ = some (.int .i64 i2) := kx.cell 1
    have f2 : w5.drew.cell? ⟨B, 2, none⟩ = some (.int .i64 i3) := kx.cell 2
    have f3 : w5.drew.cell? ⟨B, 3, none⟩ = some (.int .i64 i4) := kx.cell 3
    have f4 : w5.drew.cell? ⟨B, 4, none⟩ = some (.bool i5) := kx.cell 4
    have c0 : ∀ w', Below D w5 w' → w'.cell? ⟨B, 0, none⟩ = some (.int .i64 i1) := fun w' hb => cellB (hD ▸ hb) (kx.cell 0)
    have c1 : ∀ w', Below D w5 w' → w'.cell? ⟨B, 1, none⟩ = some (.int .i64 i2) := fun w' hb => cellB (hD ▸ hb) (kx.cell 1)
    have c2 : ∀ w', Below D w5 w' → w'.cell? ⟨B, 2, none⟩ = some (.int .i64 i3) := fun w' hb => cellB (hD ▸ hb) (kx.cell 2)
    have c3 : ∀ w', Below D w5 w' → w'.cell? ⟨B, 3, none⟩ = some (.int .i64 i4) := fun w' hb => cellB (hD ▸ hb) (kx.cell 3)
    have c4 : ∀ w', Below D w5 w' → w'.cell? ⟨B, 4, none⟩ = some (.bool i5) := fun w' hb => cellB (hD ▸ hb) (kx.cell 4)
    have BE : ∀ o : Obj, Below D w5 (w5.alloc o).drew := fun o => by rw [← hD]; exact below_drew (one_below w5 o)
    have BE2 : ∀ o p : Obj, Below D w5 ((w5.alloc o).alloc p).drew := fun o p => by rw [← hD]; exact below_drew (box2 w5 o p)
    have HBE := hide (And.intro BE BE2)
    have HI := hide b0
    clear BE BE2 b0 k0 kx
    go_region_law (first
      | (refine rstep_own rtm rfl _ _ rfl hD _ [] rfl (by first | exact rown_empty rtm (Nat.le_refl _) hD | exact World.ownsRow.alloc (rown_empty rtm (Nat.le_refl _) hD) _ | exact rown_empty rtm (Nat.le_succ _) (by simp [hD])) [] (rnews_nil rtm _) (by simp) (by first | exact (unhide HBE).1 _ | exact (unhide HBE).2 _ _) ?_; intro v1 w1 o1 S1 K1; rw [List.nil_append] at o1)
      | (refine rstep_own rtm rfl _ _ rfl hD _ [] rfl (by first | exact o1 | exact World.ownsRow.alloc o1 _) [⟨i1, i2, i3, i4, i5⟩] (by first | exact rnews_box rtm (Blk.new _ _ _) rfl | exact rnews_box rtm (K1 _ _ _ (Blk.new_at _ _ _ (show D + 1 = _ by simp [hD])) (fun e => Nat.ne_of_gt (Nat.lt_succ_self D) (Option.some.inj e))) rfl | exact rnews_box rtm (K1 _ _ _ (Blk.alloc (Blk.new_at _ _ _ hD.symm) _) (fun e => Nat.ne_of_lt (Nat.lt_succ_self D) (Option.some.inj e))) rfl) (by simp) (by first | exact S1 | exact S1.alloc (by have := S1.size; omega) _) ?_; intro v2 w2 o2 S2 K2)
      | (refine rstep_own rtm rfl _ _ rfl hD _ [(⟨i1, i2, i3, i4, i5⟩ : Tmr)] rfl o2 [] (rnews_nil rtm _) (by simp) S2 ?_; intro v3 w3 o3 S3 K3))
    all_goals go_wp2_with fail
    all_goals
      go_ret
      refine ⟨v3, rfl, ?_, ?_⟩
      · have hb := (unhide HI).size
        have hs := (unhide HT2).size
        rw [List.append_nil] at o3
        exact Rg.mono o3 (by omega)
      · have hb := (unhide HI)
        exact (hb.trans ((unhide HT2).mono (hB ▸ hb.size))).trans (S3.mono (by have := hb.size; have := (unhide HT2).size; omega))
end Go.Proofs.Ytihfldjoogaolaa
