import Derived.Test.YtabmjaioejacaaaL14Fixed
import Derived.Test.YtabmjaioejacaaaMv1
import Derived.Deep.DeepCutAuto
import Derived.Deep.CutBlock
namespace Go.Proofs.Ytabmjaioejacaaa
open Go.RowKit Kt Qu
set_option linter.unusedVariables false
set_option linter.unusedSimpArgs false

set_option maxRecDepth 100000 in
theorem lmoves_long (p : Option Addr) (len cap : Nat) (o0 o1 o2 : Int) (w : World) (hlen : 50 < len) : Calls Try.prog 4 #[.slice p len cap, .agg #[.int .i64 o0, .int .i64 o1, .int .i64 o2]] w fun e w' => e = .returned (.bool true) ∧ Below w.heap.size w w' := by
  have h2 : (50 : Int) < (len : Int) := by omega
  have hb := hide (one_below w (.cells #[.int .i64 o0, .int .i64 o1, .int .i64 o2] 23))
  go_enter Try.func4, Try.ntmps4
  go_wp2_with (go_at_call 5; refine (fixed14 _).mono ?_; rintro e w1 ⟨rfl, hb1⟩)
  go_ret
  exact ⟨rfl, (unhide hb).trans (hb1.mono (unhide hb).size)⟩
set_option maxRecDepth 100000 in
set_option maxHeartbeats 4000000 in
theorem lmoves_short (p : Option Addr) (len cap : Nat) (T : Nat → Tmr) (o0 o1 o2 : Int) (w : World) (hlen : len ≤ 50)
    (hk : ∀ i, i < len → okT (T i))
    (hc : ∀ i, i < len → ∃ x, p = some x ∧ x.block < w.heap.size ∧ ∀ k v, (tc (T i))[k]? = some v → w.cell? ((x.add (i * 5)).add k) = some v) :
    Calls Try.prog 4 #[.slice p len cap, .agg #[.int .i64 o0, .int .i64 o1, .int .i64 o2]] w fun e w' => e = .returned (.bool true) ∧ Below w.heap.size w w' := by
  obtain ⟨g, hg⟩ : ∃ g, w.heap.size = g := ⟨_, rfl⟩
  obtain ⟨W0, hW0⟩ : ∃ W0, W0 = w.alloc (.cells #[.int .i64 o0, .int .i64 o1, .int .i64 o2] 23) := ⟨_, rfl⟩
  have b0 : Below w.heap.size w W0 := by rw [hW0]; exact one_below _ _
  have k0 : Blk W0 g 23 #[.int .i64 o0, .int .i64 o1, .int .i64 o2] := by rw [hW0]; exact Blk.new_at _ _ _ hg.symm
  have CF := hide (fixed14 W0)
  have CN := fun w' => hide (bnew w')
  obtain ⟨C, hC⟩ : ∃ C, W0.heap.size = C := ⟨_, rfl⟩
  rw [hC] at CF
  have hgC : g < C := by have := k0.lt; omega
  have HCC := hide (fun (i : Nat) (hi : i < len) => show ∃ x, p = some x ∧ x.block < C ∧ ∀ k v, (tc (T i))[k]? = some v → W0.cell? ((x.add (i * 5)).add k) = some v by
    obtain ⟨x, e, hx, h⟩ := hc i hi
    refine ⟨x, e, by have := b0.size; omega, fun k v hv => ?_⟩
    rw [b0.cell (by rw [show ((x.add (i * 5)).add k).block = x.block by unfold Addr.add; split <;> (split <;> rfl)]; exact hx)]
    exact h k v hv)
  have HK := hide hk
  have HB0 := hide b0
  have HK0 := hide k0
  have hl2 : ((len : Nat) : Int) ≤ 50 := by omega
  have HW0 := hide hW0
  clear hc hk b0 k0 hW0
  go_enter Try.func4, Try.ntmps4
  go_wp2_with (go_at_call 5; refine Hid.out ?_)
  refine hide ?_
  rw [← unhide HW0]
  refine (unhide CF).mono ?_
  rintro e w1 ⟨rfl, hb1⟩
  have HB1 := hide hb1
  clear hb1
  go_wp2_with (go_at_call 6; refine Hid.out ?_)
  refine hide ?_
  refine (unhide (CN _)).mono ?_
  rintro e w2 ⟨a, rfl, qa, ba, ha⟩
  have HA := hide (And.intro qa (And.intro ba ha))
  clear qa ba ha
  go_wp2_with (go_at_call 6; refine Hid.out ?_)
  refine hide ?_
  refine (unhide (CN _)).mono ?_
  rintro e w3 ⟨b, rfl, qb, bb, hb⟩
  have HB := hide (And.intro qb (And.intro bb hb))
  clear qb bb hb
  go_wp2_with (go_at_call 6; refine Hid.out ?_)
  refine hide ?_
  refine (unhide (CN _)).mono ?_
  rintro e w4 ⟨c, rfl, qc, bc, hc⟩
  have H4 : Hid (B3 C W0 w4 a b c 0 0 0 (fun _ => none) (fun _ => none) (fun _ => none) (fun _ => []) (fun _ => []) (fun _ => [])) := by
    obtain ⟨qa, ba, ha⟩ := unhide HA
    obtain ⟨qb, bb, hb⟩ := unhide HB
    have b1 := unhide HB1
    have l1 := qa.blk.lt
    have l2 := qb.blk.lt
    have s1 := b1.size
    have s2 := ba.size
    have s3 := bb.size
    have s4 := bc.size
    exact hide (B3.new (b1.trans ((ba.trans ((bb.trans (bc.mono s3)).mono s2)).mono (by omega))) (by omega) ((qa.below bb).below bc) (qb.below bc) qc (by omega) (by omega) (by omega))
  clear qc bc hc HA HB HB1 CF CN HW0
  go_wp2_with fail
  go_loopw [29] (fun s29 w' => ∃ (i : Nat) (Pa Pb : Nat → Option Qa) (R : Rows6), s29 = .int .i64 (i : Int) ∧ i ≤ len ∧ Hid (B3 C W0 w' a b c i i 0 Pa Pb (fun _ => none) R R (fun _ => []) ∧ (allT R).length ≤ i ∧ ∀ y ∈ allT R, y.soft ≤ y.hard)) (fun d _ => len - (intOf d).toNat)
  case atStart => exact ⟨0, _, _, _, rfl, by omega, hide ⟨unhide H4, by simp [allT, upT], fun y hy => by simp [allT, upT] at hy⟩⟩
  case round =>
    clear H4
    obtain ⟨i, Pa, Pb, R, rfl, hi, HI⟩ := hrel
    by_cases hlt : i < len
    · obtain ⟨x, rfl, hx, hcl⟩ := (unhide HCC) i hlt
      have hki := (unhide HK) i hlt
      have hcl2 : ∀ k v, (tc (T i))[k]? = some v → wr.cell? ((x.add (i * 5)).add k) = some v := fun k v hv => by
        rw [(unhide HI).1.low.cell (by rw [show ((x.add (i * 5)).add k).block = x.block by unfold Addr.add; split <;> (split <;> rfl)]; exact hx)]
        exact hcl k v hv
      clear hcl
      generalize T i = t at *
      have HKP := hide (start_keeps R t (unhide HI).2.1 (unhide HI).2.2)
      obtain ⟨bx, hbx⟩ : ∃ b, wr.heap.size = b := ⟨_, rfl⟩
      have hki2 := hide hki
      have CSt := hide (fun (n : Nat) (P : Nat → Option Qa) (d : Nat) (w' : World) (hn : n < 1000000) (q : Bs w' d n P R) => bstart q hn t hki)
      obtain ⟨E, hE⟩ : ∃ E, startE R t = E := ⟨_, rfl⟩
      obtain ⟨R2, hR2⟩ : ∃ R2, startR R t = R2 := ⟨_, rfl⟩
      rw [hE, hR2] at CSt
      rw [hR2] at HKP
      obtain ⟨i1, i2, i3, i4, i5⟩ := t
      simp only [tv] at CSt
      have e0 : wr.cell? (x.add (i * 5)) = some (.int .i64 i1) := hcl2 0 (.int .i64 i1) rfl
      have e1 : wr.cell? ⟨(x.add (i * 5)).block, (x.add (i * 5)).off + 1, none⟩ = some (.int .i64 i2) := hcl2 1 (.int .i64 i2) rfl
      have e2 : wr.cell? ⟨(x.add (i * 5)).block, (x.add (i * 5)).off + 2, none⟩ = some (.int .i64 i3) := hcl2 2 (.int .i64 i3) rfl
      have e3 : wr.cell? ⟨(x.add (i * 5)).block, (x.add (i * 5)).off + 3, none⟩ = some (.int .i64 i4) := hcl2 3 (.int .i64 i4) rfl
      have e4 : wr.cell? ⟨(x.add (i * 5)).block, (x.add (i * 5)).off + 4, none⟩ = some (.bool i5) := hcl2 4 (.bool i5) rfl
      obtain ⟨W3, hW3⟩ : ∃ W3, W3 = wr.alloc (.cells #[.int .i64 i1, .int .i64 i2, .int .i64 i3, .int .i64 i4, .bool i5] 29) := ⟨_, rfl⟩
      have b3 : Below wr.heap.size wr W3 := by rw [hW3]; exact one_below _ _
      have k3 : Blk W3 bx 29 #[.int .i64 i1, .int .i64 i2, .int .i64 i3, .int .i64 i4, .bool i5] := by rw [hW3]; exact Blk.new_at _ _ _ hbx.symm
      have q3 := ((unhide HI).1.below b3).below (below_drew (Below.refl _ _))
      obtain ⟨F, hF⟩ : ∃ F : Nat → Prop, F = fun k => bfoot a Pa k ∨ bfoot b Pb k := ⟨_, rfl⟩
      have hFa : ∀ k, bfoot a Pa k → F k := fun k hk => by rw [hF]; exact .inl hk
      have hFb : ∀ k, bfoot b Pb k → F k := fun k hk => by rw [hF]; exact .inr hk
      have hFx : ¬ F bx := fun h => by
        rw [hF] at h
        have o := (unhide HI).1.out (g := bx) (by omega)
        rcases h with h | h
        · exact o.1 h
        · exact o.2.1 h
      have r0 : ∀ w', Ft F W3 w' → w'.cell? ⟨bx, 0, none⟩ = some (.int .i64 i1) := fun w' hf => blkAt (k3.ft hf hFx) 0 (.int .i64 i1) rfl
      have r1 : ∀ w', Ft F W3 w' → w'.cell? ⟨bx, 1, none⟩ = some (.int .i64 i2) := fun w' hf => blkAt (k3.ft hf hFx) 1 (.int .i64 i2) rfl
      have r2 : ∀ w', Ft F W3 w' → w'.cell? ⟨bx, 2, none⟩ = some (.int .i64 i3) := fun w' hf => blkAt (k3.ft hf hFx) 2 (.int .i64 i3) rfl
      have r3 : ∀ w', Ft F W3 w' → w'.cell? ⟨bx, 3, none⟩ = some (.int .i64 i4) := fun w' hf => blkAt (k3.ft hf hFx) 3 (.int .i64 i4) rfl
      have r4 : ∀ w', Ft F W3 w' → w'.cell? ⟨bx, 4, none⟩ = some (.bool i5) := fun w' hf => blkAt (k3.ft hf hFx) 4 (.bool i5) rfl
      have S0 : Ft F W3 W3.drew := (Ft.refl F W3).drew
      have H3 := hide q3
      have HFF := hide (And.intro hFa hFb)
      have HW3 := hide hW3
      have hn1 : i < 1000000 := by omega
      clear hcl2 hki hE hR2 b3 k3 q3 hF hFa hFb hFx hW3 HI hki2
      go_upto_region 9 with fail
      rw [← unhide HW3]
      clear e0 e1 e2 e3 e4 HW3
      refine wp_region_held_drew (S := (fun w' => Ft F W3 w')) (by kernel_rfl) ?_ (fun hHeld => ?_)
      · (first | assumption)
      refine wpAnyH_take (i := 0) (oi := ?o1) (v := ?v1) ?hi1 (by kernel_rfl) (by kernel_rfl) (by kernel_rfl) ?hQ1 (Or.inl ⟨?hw1, ?hy1⟩) (by assumption) ?_
      case hi1 => (simp only [List.getElem?_toArray, List.getElem?_cons_zero]; rfl)
      case hQ1 => exact fun _ _ _ h => h
      case hw1 => rfl
      case hy1 => (intro w hSw; (try dsimp only at hSw); go_simp; (try with_reducible rfl))
      simp only [Act.put, List.setIfInBounds_toArray, List.set_cons_zero, List.set_cons_succ]
      refine wpAnyH_take (i := 1) (oi := ?o2) (v := ?v2) ?hi2 (by kernel_rfl) (by kernel_rfl) (by kernel_rfl) ?hQ2 (Or.inl ⟨?hw2, ?hy2⟩) (by assumption) ?_
      case hi2 => (simp only [List.getElem?_toArray, List.getElem?_cons_succ, List.getElem?_cons_zero]; rfl)
      case hQ2 => exact fun _ _ _ h => h
      case hw2 => rfl
      case hy2 => (intro w hSw; (try dsimp only at hSw); go_simp; (try with_reducible rfl))
      simp only [Act.put, List.setIfInBounds_toArray, List.set_cons_zero, List.set_cons_succ]
      refine wpAnyH_take (i := 3) (oi := ?o3) (v := ?v3) ?hi3 (by kernel_rfl) (by kernel_rfl) (by kernel_rfl) ?hQ3 (Or.inl ⟨?hw3, ?hy3⟩) (by assumption) ?_
      case hi3 => (simp only [List.getElem?_toArray, List.getElem?_cons_succ, List.getElem?_cons_zero]; rfl)
      case hQ3 => exact fun _ _ _ h => h
      case hw3 => rfl
      case hy3 => (intro w hSw; (try dsimp only at hSw); go_simp; (try with_reducible rfl))
      simp only [Act.put, List.setIfInBounds_toArray, List.set_cons_zero, List.set_cons_succ]
      refine wpAnyH_take (i := 4) (oi := ?o4) (v := ?v4) ?hi4 (by kernel_rfl) (by kernel_rfl) (by kernel_rfl) ?hQ4 (Or.inl ⟨?hw4, ?hy4⟩) (by assumption) ?_
      case hi4 => (simp only [List.getElem?_toArray, List.getElem?_cons_succ, List.getElem?_cons_zero]; rfl)
      case hQ4 => exact fun _ _ _ h => h
      case hw4 => rfl
      case hy4 => (intro w hSw; (try dsimp only at hSw); go_simp; (try with_reducible rfl))
      simp only [Act.put, List.setIfInBounds_toArray, List.set_cons_zero, List.set_cons_succ]
      refine wpAnyH_ready (rs := [2]) (by kernel_rfl) (by simp) ?_
      refine AllReadyH.cons (o := ?o5) ?hi5 (fun K hK => ?_) AllReadyH.nil
      case hi5 => (simp only [List.getElem?_toArray, List.getElem?_cons_succ, List.getElem?_cons_zero]; rfl)
      go_simp
      (first | (go_at_call 8; with_reducible refine (unhide CSt _ _ _ _ hn1 (unhide H3).qa).mono ?_; rintro e w5 ⟨rfl, Pa2, q5, f5, n5⟩; have S5 : Ft F W3 w5 := S0.trans (f5.mono (unhide HFF).1); have H5 := hide ((unhide H3).stepA q5 f5 n5); clear q5 f5 n5) | (go_at_call 8; with_reducible refine (unhide CSt _ _ _ _ hn1 (unhide H5).qb).mono ?_; rintro e w6 ⟨rfl, Pb2, q6, f6, n6⟩; have S6 : Ft F W3 w6 := S5.trans (f6.mono (unhide HFF).2); have H6 := hide ((unhide H5).stepB q6 f6 n6); clear q6 f6 n6)); go_wp2_with fail
      refine hK.out _ _ ?_ (fun hHeld => ?_)
      · (first | assumption)
      clear hK K
      refine wpAnyH_ready (rs := [5]) (by kernel_rfl) (by simp) ?_
      refine AllReadyH.cons (o := ?o6) ?hi6 (fun K hK => ?_) AllReadyH.nil
      case hi6 => (simp only [List.getElem?_toArray, List.getElem?_cons_succ, List.getElem?_cons_zero]; rfl)
      go_simp
      (first | (go_at_call 8; with_reducible refine (unhide CSt _ _ _ _ hn1 (unhide H3).qa).mono ?_; rintro e w5 ⟨rfl, Pa2, q5, f5, n5⟩; have S5 : Ft F W3 w5 := S0.trans (f5.mono (unhide HFF).1); have H5 := hide ((unhide H3).stepA q5 f5 n5); clear q5 f5 n5) | (go_at_call 8; with_reducible refine (unhide CSt _ _ _ _ hn1 (unhide H5).qb).mono ?_; rintro e w6 ⟨rfl, Pb2, q6, f6, n6⟩; have S6 : Ft F W3 w6 := S5.trans (f6.mono (unhide HFF).2); have H6 := hide ((unhide H5).stepB q6 f6 n6); clear q6 f6 n6)); go_wp2_with fail
      refine hK.out _ _ ?_ (fun hHeld => ?_)
      · (first | assumption)
      clear hK K
      refine wpAnyH_take (i := 6) (oi := ?o7) (v := ?v7) ?hi7 (by kernel_rfl) (by kernel_rfl) (by kernel_rfl) ?hQ7 (Or.inl ⟨?hw7, ?hy7⟩) (by assumption) ?_
      case hi7 => (simp only [List.getElem?_toArray, List.getElem?_cons_succ, List.getElem?_cons_zero]; rfl)
      case hQ7 => exact fun _ _ _ h => h
      case hw7 => rfl
      case hy7 => (intro w hSw; (try dsimp only at hSw); go_simp; (try with_reducible rfl))
      simp only [Act.put, List.setIfInBounds_toArray, List.set_cons_zero, List.set_cons_succ]
      refine wpAnyH_done (by kernel_rfl) ?_ _
      have hEE : (E == E) = true := by simp
      have H7 := hide (And.intro (unhide H6) (unhide HKP))
      clear H3 H5 H6 S0 S5 S6 r0 r1 r2 r3 r4 HFF CSt HKP
      go_wp2_with fail
      go_roundw
      case rel => exact ⟨i + 1, _, _, R2, by first | rfl | go_num, by omega, H7⟩
      case measure => simp [intOf]; omega
    · obtain rfl : i = len := by omega
      have CAl := hide (ball (unhide HI).1.qa)
      go_wp2_with (go_at_call 13; refine Hid.out ?_)
      refine hide ?_
      refine (unhide CAl).mono ?_
      rintro e w6 ⟨vA, rfl, rA, b6⟩
      obtain ⟨aA, capA, rfl, rdA⟩ := Rd.of rA
      obtain ⟨L, hL⟩ : ∃ L, allT R = L := ⟨_, rfl⟩
      obtain ⟨N, hN⟩ : ∃ N, L.length = N := ⟨_, rfl⟩
      have hNi : N ≤ 50 := by rw [← hN, ← hL]; have := (unhide HI).2.1; omega
      rw [hL, hN] at rdA
      rw [hL, hN]
      have HR := hide (show Rok R ∧ allT R = L ∧ L.length = N ∧ ∀ y ∈ L, y.soft ≤ y.hard from ⟨(unhide HI).1.qa.ok, hL, hN, fun y hy => (unhide HI).2.2 y (by rw [hL]; exact hy)⟩)
      have H6 : Hid (B3 C W0 w6 a b c i i 0 Pa Pb (fun _ => none) R R (fun _ => []) ∧ Rd rtm w6 C aA N capA L ∧ (∀ x, aA = some x → Out3 a b c Pa Pb (fun _ => none) x.block) ∧ allT R = L.drop 0 ∧ allT (fun _ => []) = L.take 0) := by
        have h := (unhide HI).1
        have hCw := h.cs
        refine hide ⟨h.below b6, ⟨rdA.len, rdA.le, rdA.max, rdA.nil, fun x e => ⟨Nat.le_trans hCw (rdA.blk x e).1, (rdA.blk x e).2⟩, rdA.cell⟩, fun x e => h.out (rdA.blk x e).1, by rw [hL]; rfl, by simp [allT, upT]⟩
      clear CAl rA b6 rdA HI hL hN
      go_wp2_with fail
      go_loopw [44] (fun s44 w' => ∃ (j : Nat) (Pc : Nat → Option Qa) (Ra Rc : Rows6), s44 = .int .i64 (j : Int) ∧ j ≤ N ∧ Hid (B3 C W0 w' a b c i i j Pa Pb Pc Ra R Rc ∧ Rd rtm w' C aA N capA L ∧ (∀ x, aA = some x → Out3 a b c Pa Pb Pc x.block) ∧ allT Ra = L.drop j ∧ allT Rc = L.take j)) (fun d _ => N - (intOf d).toNat)
      case atStart => exact ⟨0, _, R, fun _ => [], rfl, by omega, H6⟩
      case round =>
        clear H6
        obtain ⟨j, Pc, Ra, Rc, rfl, hj, HJ⟩ := hrel
        by_cases hjl : j < N
        · obtain ⟨hRok, hRL, hLN, hsf⟩ := unhide HR
          obtain ⟨q, rd, ho, hd, ht⟩ := unhide HJ
          obtain ⟨y, hy⟩ : ∃ y, L[j]? = some y := ⟨_, List.getElem?_eq_getElem (by rw [hLN]; exact hjl)⟩
          obtain ⟨⟨x0, A, B, hx6, hRx, hdr⟩, hE, hS, hP⟩ := move_one hRok q.qa.ok q.qc.ok hRL hy hd ht (by omega) hsf
          have hyo := q.qa.okt y (by
            obtain ⟨h1, h2⟩ := List.getElem?_eq_some_iff.1 hy
            rw [hd, List.drop_eq_getElem_cons h1, h2]; simp)
          obtain ⟨g', o', rfl, hgl', y0, y1, y2, y3, y4⟩ := tcells rd hy
          obtain ⟨j1, j2, j3, j4, j5⟩ := y
          simp only at y0 y1 y2 y3 y4
          obtain ⟨B7, hB7⟩ : ∃ b, wr.heap.size = b := ⟨_, rfl⟩
          obtain ⟨W7, hW7⟩ : ∃ W7, W7 = wr.alloc (.cells #[.int .i64 j1, .int .i64 j2, .int .i64 j3, .int .i64 j4, .bool j5] 29) := ⟨_, rfl⟩
          have b7 : Below wr.heap.size wr W7 := by rw [hW7]; exact one_below _ _
          have k7 : Blk W7 B7 29 #[.int .i64 j1, .int .i64 j2, .int .i64 j3, .int .i64 j4, .bool j5] := by rw [hW7]; exact Blk.new_at _ _ _ hB7.symm
          have q7 := q.below b7
          have o7 : Out3 a b c Pa Pb Pc B7 := q.out (by omega)
          have CD := hide (bcancel_ok q7.qa hx6 hRx)
          simp only [tv] at CD
          have z0 : W7.cell? ⟨B7, 0, none⟩ = some (.int .i64 j1) := blkAt k7 0 _ rfl
          have H7 := hide (And.intro q7 (And.intro (rd.below b7) (And.intro ho (And.intro hdr (And.intro o7 (And.intro k7 (And.intro hE (And.intro hS (And.intro hP hyo)))))))))
          have HW7 := hide hW7
          have hp0 : (0 : Int) ≤ (j : Int) := by omega
          have hp1 : (j : Int) < (N : Int) := by omega
          clear hRok hRL hLN hsf q rd ho hd ht hy hx6 hRx hdr hE hS hP hyo hgl' hW7 b7 k7 q7 o7 HJ
          go_wp2_with (go_at_call 9; refine Hid.out ?_)
          refine hide ?_
          rw [← unhide HW7]
          refine (unhide CD).mono ?_
          rintro e w8 ⟨rfl, q8, f8⟩
          obtain ⟨q7, rd7, ho, hdr, o7, k7, hE, hS, hP, hyo⟩ := unhide H7
          have t8 := q7.stepA q8 f8 (fun k hk => .inl hk)
          have rd8 := rd7.ft f8 (fun x e => (ho x e).1)
          have k8 := k7.ft f8 o7.1
          obtain ⟨B9, hB9⟩ : ∃ b, w8.heap.size = b := ⟨_, rfl⟩
          obtain ⟨W9, hW9⟩ : ∃ W9, W9 = w8.alloc (.cells #[.int .i64 j1, .int .i64 j2, .int .i64 j3, .int .i64 j4, .bool j5] 29) := ⟨_, rfl⟩
          have b9 : Below w8.heap.size w8 W9 := by rw [hW9]; exact one_below _ _
          have k9 : Blk W9 B9 29 #[.int .i64 j1, .int .i64 j2, .int .i64 j3, .int .i64 j4, .bool j5] := by rw [hW9]; exact Blk.new_at _ _ _ hB9.symm
          have k79 := k8.below b9 k8.lt
          have q9 := t8.below b9
          have CS := hide (bstart q9.qc (by omega) ⟨j1, j2, j3, j4, j5⟩ hyo)
          rw [hE, hS] at CS
          simp only [tv] at CS
          have H9 := hide (And.intro q9 (And.intro (rd8.below b9) (And.intro ho (And.intro hdr hP))))
          have HW9 := hide hW9
          have u0 : W9.cell? ⟨B7, 0, none⟩ = some (.int .i64 j1) := blkAt k79 0 _ rfl
          have u1 : W9.cell? ⟨B7, 1, none⟩ = some (.int .i64 j2) := blkAt k79 1 _ rfl
          have u2 : W9.cell? ⟨B7, 2, none⟩ = some (.int .i64 j3) := blkAt k79 2 _ rfl
          have u3 : W9.cell? ⟨B7, 3, none⟩ = some (.int .i64 j4) := blkAt k79 3 _ rfl
          have u4 : W9.cell? ⟨B7, 4, none⟩ = some (.bool j5) := blkAt k79 4 _ rfl
          have v0 : W9.cell? ⟨B9, 0, none⟩ = some (.int .i64 j1) := blkAt k9 0 _ rfl
          have v1 : W9.cell? ⟨B9, 1, none⟩ = some (.int .i64 j2) := blkAt k9 1 _ rfl
          have v2 : W9.cell? ⟨B9, 2, none⟩ = some (.int .i64 j3) := blkAt k9 2 _ rfl
          have v3 : W9.cell? ⟨B9, 3, none⟩ = some (.int .i64 j4) := blkAt k9 3 _ rfl
          have v4 : W9.cell? ⟨B9, 4, none⟩ = some (.bool j5) := blkAt k9 4 _ rfl
          clear q8 f8 q7 rd7 ho hdr o7 k7 hE hS hP hyo t8 rd8 k8 hW9 b9 k9 k79 q9 CD H7 z0 y0 y1 y2 y3 y4 HW7
          go_upto_region 16 with fail
          rw [← unhide HW9]
          clear HW9
          go_wp2_with (go_at_call 8; refine Hid.out ?_)
          refine hide ?_
          refine (unhide CS).mono ?_
          rintro e w10 ⟨rfl, Pc2, q10, f10, n10⟩
          obtain ⟨q9, rd9, ho, hdr, hP⟩ := unhide H9
          have H10 := hide (show B3 C W0 w10 a b c i i (j + 1) Pa Pb Pc2 (setT Ra x0 (A ++ B)) R (putT Rc ⟨j1, j2, j3, j4, j5⟩) ∧ Rd rtm w10 C (some ⟨g', o', none⟩) N capA L ∧ (∀ x, some (⟨g', o', none⟩ : Addr) = some x → Out3 a b c Pa Pb Pc2 x.block) ∧ allT (setT Ra x0 (A ++ B)) = L.drop (j + 1) ∧ allT (putT Rc ⟨j1, j2, j3, j4, j5⟩) = L.take (j + 1) from
            ⟨q9.stepC q10 f10 n10, rd9.ft f10 (fun x e => (ho x e).2.2), fun x e => ⟨(ho x e).1, (ho x e).2.1, fun hk => by
              rcases n10 _ hk with h | h
              · exact (ho x e).2.2 h
              · have := (rd9.blk x e).2.1; omega⟩, hdr, hP⟩)
          clear q10 f10 n10 q9 rd9 ho hdr hP H9 CS u0 u1 u2 u3 u4 v0 v1 v2 v3 v4
          go_wp2_with fail
          go_roundw
          case rel => exact ⟨j + 1, _, _, _, by first | rfl | go_num, by omega, H10⟩
          case measure => simp [intOf]; omega
        · obtain rfl : j = N := by omega
          obtain ⟨hRok, hRL, hLN, hsf⟩ := unhide HR
          obtain ⟨q, -, -, hd, ht⟩ := unhide HJ
          rw [← hLN, List.drop_length] at hd
          rw [← hLN, List.take_length] at ht
          obtain ⟨B11, hB11⟩ : ∃ b, wr.heap.size = b := ⟨_, rfl⟩
          obtain ⟨W11, hW11⟩ : ∃ W11, W11 = wr.alloc (.cells #[.bool false, .bool true] 4) := ⟨_, rfl⟩
          have b11 : Below wr.heap.size wr W11 := by rw [hW11]; exact one_below _ _
          have k11 : Blk W11 B11 4 #[.bool false, .bool true] := by rw [hW11]; exact Blk.new_at _ _ _ hB11.symm
          have H11 := hide (show B3 C W0 W11 a b c i i j Pa Pb Pc Ra R Rc ∧ Blk W11 B11 4 #[.bool false, .bool true] ∧ Out3 a b c Pa Pb Pc B11 ∧ allT R = allT Rc ∧ (allT R).length ≤ 50 from ⟨q.below b11, k11, q.out (by omega), by rw [hRL, ht], by rw [hRL, hLN]; exact hNi⟩)
          have HRa := hide hd
          have HW11 := hide hW11
          clear hRok hRL hLN hsf q hd ht hW11 b11 k11 HJ HR
          go_upto_region 20 with fail
          rw [← unhide HW11]
          clear HW11
          go_wp2_with fail
          go_loopw [71] (fun s71 w' => ∃ (k : Nat) (Rb Rd : Rows6), s71 = .int .i64 (k : Int) ∧ k ≤ 2 ∧ Hid (B3 C W0 w' a b c i i j Pa Pb Pc Ra Rb Rd ∧ Blk w' B11 4 #[.bool false, .bool true] ∧ Out3 a b c Pa Pb Pc B11 ∧ allT Rb = allT Rd ∧ (allT Rb).length ≤ 50)) (fun d _ => 2 - (intOf d).toNat)
          case atStart => exact ⟨0, R, Rc, rfl, by omega, H11⟩
          case round =>
            clear H11
            obtain ⟨k, Rb, Rd', rfl, hk2, HK2⟩ := hrel
            by_cases hkl : k < 2
            · obtain ⟨q, kb, ho, hRR, hRl⟩ := unhide HK2
              obtain ⟨lz, hlz⟩ : ∃ lz, wr.cell? ⟨B11, k, none⟩ = some (.bool lz) := by
                rcases (show k = 0 ∨ k = 1 by omega) with rfl | rfl
                · exact ⟨false, blkAt kb 0 _ rfl⟩
                · exact ⟨true, blkAt kb 1 _ rfl⟩
              have hk3 : (k : Int) < 2 := by omega
              have hk4 : (0 : Int) ≤ (k : Int) ∧ (k : Int) < 2 := by omega
              have kt := (unhide HK0).below q.low hgC
              have gC : ∀ {d : Nat} {P : Nat → Option Qa}, (∀ x, bfoot d P x → C ≤ x) → ¬ bfoot d P g := fun h hx => by have := h g hx; omega
              obtain ⟨F, hF⟩ : ∃ F : Nat → Prop, F = fun k => bfoot b Pb k ∨ bfoot c Pc k := ⟨_, rfl⟩
              have hFb : ∀ k, bfoot b Pb k → F k := fun k hk => by rw [hF]; exact .inl hk
              have hFc : ∀ k, bfoot c Pc k → F k := fun k hk => by rw [hF]; exact .inr hk
              have hFg : ¬ F g := fun h => by
                rw [hF] at h
                rcases h with h | h
                · exact gC q.fb h
                · exact gC q.fc h
              have r0 : ∀ w', Ft F wr w' → w'.cell? ⟨g, 0, none⟩ = some (.int .i64 o0) := fun w' hf => blkAt (kt.ft hf hFg) 0 (.int .i64 o0) rfl
              have r1 : ∀ w', Ft F wr w' → w'.cell? ⟨g, 1, none⟩ = some (.int .i64 o1) := fun w' hf => blkAt (kt.ft hf hFg) 1 (.int .i64 o1) rfl
              have r2 : ∀ w', Ft F wr w' → w'.cell? ⟨g, 2, none⟩ = some (.int .i64 o2) := fun w' hf => blkAt (kt.ft hf hFg) 2 (.int .i64 o2) rfl
              have S0 : Ft F wr wr.drew := (Ft.refl F wr).drew
              have qd := q.below (below_drew (Below.refl _ _))
              have kbd := kb.below (below_drew (Below.refl _ _)) kb.lt
              have CB := hide (bexp qd.qb o0 o1 o2 lz)
              have CC := hide (fun (w' : World) (q' : Bs w' c j Pc Rd') => bexp q' o0 o1 o2 lz)
              obtain ⟨LL, hLL⟩ : ∃ LL, expL Rb (tri o0 o1 o2) lz 6 = LL := ⟨_, rfl⟩
              have hLL2 : expL Rd' (tri o0 o1 o2) lz 6 = LL := by rw [← hLL, exp_fir q.qb.ok, exp_fir q.qc.ok, hRR]
              have hRR2 : allT (expR Rb (tri o0 o1 o2) lz 6) = allT (expR Rd' (tri o0 o1 o2) lz 6) := by rw [expR_fir q.qb.ok, expR_fir q.qc.ok, hRR]
              have hRl2 : (allT (expR Rb (tri o0 o1 o2) lz 6)).length ≤ 50 := by rw [expR_fir q.qb.ok]; exact Nat.le_trans (List.length_filter_le _ _) hRl
              have hLl : LL.length ≤ 50 := by rw [← hLL, exp_fir q.qb.ok]; exact Nat.le_trans (List.length_filter_le _ _) hRl
              have HRR := hide (And.intro hRR2 hRl2)
              generalize expR Rb (tri o0 o1 o2) lz 6 = Rb2 at *
              generalize expR Rd' (tri o0 o1 o2) lz 6 = Rd2 at *
              rw [hLL] at CB
              rw [hLL2] at CC
              have H3 := hide (And.intro qd (And.intro kbd ho))
              have HFF := hide (And.intro hFb hFc)
              clear q kb ho hRR hRl kt gC hF hFb hFc hFg qd kbd hLL hLL2 hRR2 hRl2 HK2
              go_wp2_with fail
              refine wp_region_held_drew (S := (fun w' => Ft F wr w')) (by kernel_rfl) ?_ (fun hHeld => ?_)
              · (first | assumption)
              refine wpAnyH_take (i := 0) (oi := ?o8) (v := ?v8) ?hi8 (by kernel_rfl) (by kernel_rfl) (by kernel_rfl) ?hQ8 (Or.inl ⟨?hw8, ?hy8⟩) (by assumption) ?_
              case hi8 => (simp only [List.getElem?_toArray, List.getElem?_cons_zero]; rfl)
              case hQ8 => exact fun _ _ _ h => h
              case hw8 => rfl
              case hy8 => (intro w hSw; (try dsimp only at hSw); go_simp; (try with_reducible rfl))
              simp only [Act.put, List.setIfInBounds_toArray, List.set_cons_zero, List.set_cons_succ]
              refine wpAnyH_take (i := 1) (oi := ?o9) (v := ?v9) ?hi9 (by kernel_rfl) (by kernel_rfl) (by kernel_rfl) ?hQ9 (Or.inl ⟨?hw9, ?hy9⟩) (by assumption) ?_
              case hi9 => (simp only [List.getElem?_toArray, List.getElem?_cons_succ, List.getElem?_cons_zero]; rfl)
              case hQ9 => exact fun _ _ _ h => h
              case hw9 => rfl
              case hy9 => (intro w hSw; (try dsimp only at hSw); go_simp; (try with_reducible rfl))
              simp only [Act.put, List.setIfInBounds_toArray, List.set_cons_zero, List.set_cons_succ]
              refine wpAnyH_take (i := 2) (oi := ?o10) (v := ?v10) ?hi10 (by kernel_rfl) (by kernel_rfl) (by kernel_rfl) ?hQ10 (Or.inl ⟨?hw10, ?hy10⟩) (by assumption) ?_
              case hi10 => (simp only [List.getElem?_toArray, List.getElem?_cons_succ, List.getElem?_cons_zero]; rfl)
              case hQ10 => exact fun _ _ _ h => h
              case hw10 => rfl
              case hy10 => (intro w hSw; (try dsimp only at hSw); go_simp; (try with_reducible rfl))
              simp only [Act.put, List.setIfInBounds_toArray, List.set_cons_zero, List.set_cons_succ]
              refine wpAnyH_take (i := 4) (oi := ?o11) (v := ?v11) ?hi11 (by kernel_rfl) (by kernel_rfl) (by kernel_rfl) ?hQ11 (Or.inl ⟨?hw11, ?hy11⟩) (by assumption) ?_
              case hi11 => (simp only [List.getElem?_toArray, List.getElem?_cons_succ, List.getElem?_cons_zero]; rfl)
              case hQ11 => exact fun _ _ _ h => h
              case hw11 => rfl
              case hy11 => (intro w hSw; (try dsimp only at hSw); go_simp; (try with_reducible rfl))
              simp only [Act.put, List.setIfInBounds_toArray, List.set_cons_zero, List.set_cons_succ]
              refine wpAnyH_take (i := 5) (oi := ?o12) (v := ?v12) ?hi12 (by kernel_rfl) (by kernel_rfl) (by kernel_rfl) ?hQ12 (Or.inl ⟨?hw12, ?hy12⟩) (by assumption) ?_
              case hi12 => (simp only [List.getElem?_toArray, List.getElem?_cons_succ, List.getElem?_cons_zero]; rfl)
              case hQ12 => exact fun _ _ _ h => h
              case hw12 => rfl
              case hy12 => (intro w hSw; (try dsimp only at hSw); go_simp; (try with_reducible rfl))
              simp only [Act.put, List.setIfInBounds_toArray, List.set_cons_zero, List.set_cons_succ]
              refine wpAnyH_take (i := 6) (oi := ?o13) (v := ?v13) ?hi13 (by kernel_rfl) (by kernel_rfl) (by kernel_rfl) ?hQ13 (Or.inl ⟨?hw13, ?hy13⟩) (by assumption) ?_
              case hi13 => (simp only [List.getElem?_toArray, List.getElem?_cons_succ, List.getElem?_cons_zero]; rfl)
              case hQ13 => exact fun _ _ _ h => h
              case hw13 => rfl
              case hy13 => (intro w hSw; (try dsimp only at hSw); go_simp; (try with_reducible rfl))
              simp only [Act.put, List.setIfInBounds_toArray, List.set_cons_zero, List.set_cons_succ]
              refine wpAnyH_ready (rs := [3]) (by kernel_rfl) (by simp) ?_
              refine AllReadyH.cons (o := ?o14) ?hi14 (fun K hK => ?_) AllReadyH.nil
              case hi14 => (simp only [List.getElem?_toArray, List.getElem?_cons_succ, List.getElem?_cons_zero]; rfl)
              go_simp
              (first | (go_at_call 12; refine (unhide CC _ (unhide H5).1.qc).mono ?_; rintro e w6 ⟨v6, rfl, r6, q6, f6⟩; have S6 : Ft F wr w6 := S5.trans (f6.mono (unhide HFF).2); have H6 := hide (And.intro q6 (And.intro r6 f6)); clear q6 f6 r6) | (go_at_call 12; refine (unhide CB).mono ?_; rintro e w5 ⟨v5, rfl, r5, q5, f5⟩; have S5 : Ft F wr w5 := S0.trans (f5.mono (unhide HFF).1); have H5 := hide (And.intro ((unhide H3).1.stepB q5 f5 (fun k hk => .inl hk)) (And.intro r5 (And.intro ((unhide H3).2.1.ft f5 (unhide H3).2.2.2.1) q5))); clear q5 f5 r5)); go_wp2_with fail
              refine hK.out _ _ ?_ (fun hHeld => ?_)
              · (first | assumption)
              clear hK K
              refine wpAnyH_ready (rs := [7]) (by kernel_rfl) (by simp) ?_
              refine AllReadyH.cons (o := ?o15) ?hi15 (fun K hK => ?_) AllReadyH.nil
              case hi15 => (simp only [List.getElem?_toArray, List.getElem?_cons_succ, List.getElem?_cons_zero]; rfl)
              go_simp
              (first | (go_at_call 12; refine (unhide CC _ (unhide H5).1.qc).mono ?_; rintro e w6 ⟨v6, rfl, r6, q6, f6⟩; have S6 : Ft F wr w6 := S5.trans (f6.mono (unhide HFF).2); have H6 := hide (And.intro q6 (And.intro r6 f6)); clear q6 f6 r6) | (go_at_call 12; refine (unhide CB).mono ?_; rintro e w5 ⟨v5, rfl, r5, q5, f5⟩; have S5 : Ft F wr w5 := S0.trans (f5.mono (unhide HFF).1); have H5 := hide (And.intro ((unhide H3).1.stepB q5 f5 (fun k hk => .inl hk)) (And.intro r5 (And.intro ((unhide H3).2.1.ft f5 (unhide H3).2.2.2.1) q5))); clear q5 f5 r5)); go_wp2_with fail
              refine hK.out _ _ ?_ (fun hHeld => ?_)
              · (first | assumption)
              clear hK K
              refine wpAnyH_take (i := 8) (oi := ?o16) (v := ?v16) ?hi16 (by kernel_rfl) (by kernel_rfl) (by kernel_rfl) ?hQ16 (Or.inl ⟨?hw16, ?hy16⟩) (by assumption) ?_
              case hi16 => (simp only [List.getElem?_toArray, List.getElem?_cons_succ, List.getElem?_cons_zero]; rfl)
              case hQ16 => exact fun _ _ _ h => h
              case hw16 => rfl
              case hy16 => (intro w hSw; (try dsimp only at hSw); go_simp; (try with_reducible rfl))
              simp only [Act.put, List.setIfInBounds_toArray, List.set_cons_zero, List.set_cons_succ]
              refine wpAnyH_take (i := 9) (oi := ?o17) (v := ?v17) ?hi17 (by kernel_rfl) (by kernel_rfl) (by kernel_rfl) ?hQ17 (Or.inl ⟨?hw17, ?hy17⟩) (by assumption) ?_
              case hi17 => (simp only [List.getElem?_toArray, List.getElem?_cons_succ, List.getElem?_cons_zero]; rfl)
              case hQ17 => exact fun _ _ _ h => h
              case hw17 => rfl
              case hy17 => (intro w hSw; (try dsimp only at hSw); go_simp; (try with_reducible rfl))
              simp only [Act.put, List.setIfInBounds_toArray, List.set_cons_zero, List.set_cons_succ]
              refine wpAnyH_done (by kernel_rfl) ?_ _
              obtain ⟨q5, r5, kb5, -⟩ := unhide H5
              obtain ⟨q6, r6, f6⟩ := unhide H6
              have t6 := q5.stepC q6 f6 (fun k hk => .inl hk)
              have kb6 := kb5.ft f6 (unhide H3).2.2.2.2
              have r56 := r5.ft f6 (fun k hk e => by have h1 := (r5.lt k hk).1; have h2 := (unhide H3).1.qc.lts k e; omega)
              obtain ⟨aX, capX, rfl, rdX⟩ := Rd.of r56
              obtain ⟨aY, capY, rfl, rdY⟩ := Rd.of r6
              obtain ⟨M, hM⟩ : ∃ M, LL.length = M := ⟨_, rfl⟩
              rw [hM] at rdX rdY ⊢
              have HXY := hide (And.intro rdX (And.intro rdY hM))
              have H7 := hide (show B3 C W0 w6 a b c i i j Pa Pb Pc Ra Rb2 Rd2 ∧ Blk w6 B11 4 #[.bool false, .bool true] ∧ Out3 a b c Pa Pb Pc B11 ∧ allT Rb2 = allT Rd2 ∧ (allT Rb2).length ≤ 50 from ⟨t6, kb6, (unhide H3).2.2, unhide HRR⟩)
              have hMM : (M == M) = true := by simp
              have hM5 : (M : Int) ≤ 50 := by omega
              clear q5 r5 kb5 q6 r6 f6 t6 kb6 r56 rdX rdY hM H3 H5 H6 HRR HFF CB CC S0 S5 S6 r0 r1 r2 hlz
              go_wp2_with fail
              go_loopw [90] (fun d w' => ∃ q : Nat, d = .int .i64 (q : Int) ∧ q ≤ M ∧ Hid (Below w6.heap.size w6 w')) (fun d _ => M - (intOf d).toNat)
              case atStart => exact ⟨0, rfl, by omega, hide (Below.refl _ _)⟩
              case round =>
                obtain ⟨q, rfl, hq, HJ⟩ := hrel
                by_cases hql : q < M
                · obtain ⟨y, hy⟩ : ∃ y, LL[q]? = some y := ⟨_, List.getElem?_eq_getElem (by rw [(unhide HXY).2.2]; exact hql)⟩
                  obtain ⟨gA, oA, rfl, -, x0, x1, x2, x3, x4⟩ := tcells (unhide HXY).1 hy
                  obtain ⟨gB, oB, rfl, -, y0, y1, y2, y3, y4⟩ := tcells (unhide HXY).2.1 hy
                  obtain ⟨j1, j2, j3, j4, j5⟩ := y
                  simp only at x0 x1 x2 x3 x4 y0 y1 y2 y3 y4
                  have s0 := fun w' (hb : Below wr.heap.size wr w') => cellB hb (cellB (unhide HJ) x0)
                  have s1 := fun w' (hb : Below wr.heap.size wr w') => cellB hb (cellB (unhide HJ) x1)
                  have s2 := fun w' (hb : Below wr.heap.size wr w') => cellB hb (cellB (unhide HJ) x2)
                  have s3 := fun w' (hb : Below wr.heap.size wr w') => cellB hb (cellB (unhide HJ) x3)
                  have s4 := fun w' (hb : Below wr.heap.size wr w') => cellB hb (cellB (unhide HJ) x4)
                  have t0' := fun w' (hb : Below wr.heap.size wr w') => cellB hb (cellB (unhide HJ) y0)
                  have t1' := fun w' (hb : Below wr.heap.size wr w') => cellB hb (cellB (unhide HJ) y1)
                  have t2' := fun w' (hb : Below wr.heap.size wr w') => cellB hb (cellB (unhide HJ) y2)
                  have t3' := fun w' (hb : Below wr.heap.size wr w') => cellB hb (cellB (unhide HJ) y3)
                  have t4' := fun w' (hb : Below wr.heap.size wr w') => cellB hb (cellB (unhide HJ) y4)
                  have hdr : Below wr.heap.size wr wr.drew := below_drew (Below.refl _ _)
                  have hp0 : (0 : Int) ≤ (q : Int) := by omega
                  have hp1 : (q : Int) < (M : Int) := by omega
                  have HJ2 := hide (show Below w6.heap.size w6 wr.drew from below_drew (unhide HJ))
                  clear x0 x1 x2 x3 x4 y0 y1 y2 y3 y4 hy HJ
                  go_wp2_with fail
                  refine wp_region_held_drew (S := (fun w' => Below wr.heap.size wr w')) (by kernel_rfl) ?_ (fun hHeld => ?_)
                  · (first | (with_reducible assumption))
                  refine wpAnyH_take (i := 0) (oi := ?o18) (v := ?v18) ?hi18 (by kernel_rfl) (by kernel_rfl) (by kernel_rfl) ?hQ18 (Or.inl ⟨?hw18, ?hy18⟩) (by assumption) ?_
                  case hi18 => (simp only [List.getElem?_toArray, List.getElem?_cons_zero]; rfl)
                  case hQ18 => exact fun _ _ _ h => h
                  case hw18 => rfl
                  case hy18 => (intro w hSw; (try dsimp only at hSw); go_simp; (try with_reducible rfl))
                  simp only [Act.put, List.setIfInBounds_toArray, List.set_cons_zero, List.set_cons_succ]
                  refine wpAnyH_take (i := 1) (oi := ?o19) (v := ?v19) ?hi19 (by kernel_rfl) (by kernel_rfl) (by kernel_rfl) ?hQ19 (Or.inl ⟨?hw19, ?hy19⟩) (by assumption) ?_
                  case hi19 => (simp only [List.getElem?_toArray, List.getElem?_cons_succ, List.getElem?_cons_zero]; rfl)
                  case hQ19 => exact fun _ _ _ h => h
                  case hw19 => rfl
                  case hy19 => (intro w hSw; (try dsimp only at hSw); go_simp; (try with_reducible rfl))
                  simp only [Act.put, List.setIfInBounds_toArray, List.set_cons_zero, List.set_cons_succ]
                  refine wpAnyH_take (i := 2) (oi := ?o20) (v := ?v20) ?hi20 (by kernel_rfl) (by kernel_rfl) (by kernel_rfl) ?hQ20 (Or.inl ⟨?hw20, ?hy20⟩) (by assumption) ?_
                  case hi20 => (simp only [List.getElem?_toArray, List.getElem?_cons_succ, List.getElem?_cons_zero]; rfl)
                  case hQ20 => exact fun _ _ _ h => h
                  case hw20 => rfl
                  case hy20 => (intro w hSw; (try dsimp only at hSw); go_simp; (try with_reducible rfl))
                  simp only [Act.put, List.setIfInBounds_toArray, List.set_cons_zero, List.set_cons_succ]
                  refine wpAnyH_take (i := 3) (oi := ?o21) (v := ?v21) ?hi21 (by kernel_rfl) (by kernel_rfl) (by kernel_rfl) ?hQ21 (Or.inl ⟨?hw21, ?hy21⟩) (by assumption) ?_
                  case hi21 => (simp only [List.getElem?_toArray, List.getElem?_cons_succ, List.getElem?_cons_zero]; rfl)
                  case hQ21 => exact fun _ _ _ h => h
                  case hw21 => rfl
                  case hy21 => (intro w hSw; (try dsimp only at hSw); go_simp; (try with_reducible rfl))
                  simp only [Act.put, List.setIfInBounds_toArray, List.set_cons_zero, List.set_cons_succ]
                  refine wpAnyH_take (i := 4) (oi := ?o22) (v := ?v22) ?hi22 (by kernel_rfl) (by kernel_rfl) (by kernel_rfl) ?hQ22 (Or.inl ⟨?hw22, ?hy22⟩) (by assumption) ?_
                  case hi22 => (simp only [List.getElem?_toArray, List.getElem?_cons_succ, List.getElem?_cons_zero]; rfl)
                  case hQ22 => exact fun _ _ _ h => h
                  case hw22 => rfl
                  case hy22 => (intro w hSw; (try dsimp only at hSw); go_simp; (try with_reducible rfl))
                  simp only [Act.put, List.setIfInBounds_toArray, List.set_cons_zero, List.set_cons_succ]
                  refine wpAnyH_take (i := 5) (oi := ?o23) (v := ?v23) ?hi23 (by kernel_rfl) (by kernel_rfl) (by kernel_rfl) ?hQ23 (Or.inl ⟨?hw23, ?hy23⟩) (by assumption) ?_
                  case hi23 => (simp only [List.getElem?_toArray, List.getElem?_cons_succ, List.getElem?_cons_zero]; rfl)
                  case hQ23 => exact fun _ _ _ h => h
                  case hw23 => rfl
                  case hy23 => (intro w hSw; (try dsimp only at hSw); go_simp; (try with_reducible rfl))
                  simp only [Act.put, List.setIfInBounds_toArray, List.set_cons_zero, List.set_cons_succ]
                  refine wpAnyH_take (i := 6) (oi := ?o24) (v := ?v24) ?hi24 (by kernel_rfl) (by kernel_rfl) (by kernel_rfl) ?hQ24 (Or.inl ⟨?hw24, ?hy24⟩) (by assumption) ?_
                  case hi24 => (simp only [List.getElem?_toArray, List.getElem?_cons_succ, List.getElem?_cons_zero]; rfl)
                  case hQ24 => exact fun _ _ _ h => h
                  case hw24 => rfl
                  case hy24 => (intro w hSw; (try dsimp only at hSw); go_simp; (try with_reducible rfl))
                  simp only [Act.put, List.setIfInBounds_toArray, List.set_cons_zero, List.set_cons_succ]
                  refine wpAnyH_take (i := 7) (oi := ?o25) (v := ?v25) ?hi25 (by kernel_rfl) (by kernel_rfl) (by kernel_rfl) ?hQ25 (Or.inl ⟨?hw25, ?hy25⟩) (by assumption) ?_
                  case hi25 => (simp only [List.getElem?_toArray, List.getElem?_cons_succ, List.getElem?_cons_zero]; rfl)
                  case hQ25 => exact fun _ _ _ h => h
                  case hw25 => rfl
                  case hy25 => (intro w hSw; (try dsimp only at hSw); go_simp; (try with_reducible rfl))
                  simp only [Act.put, List.setIfInBounds_toArray, List.set_cons_zero, List.set_cons_succ]
                  refine wpAnyH_take (i := 8) (oi := ?o26) (v := ?v26) ?hi26 (by kernel_rfl) (by kernel_rfl) (by kernel_rfl) ?hQ26 (Or.inl ⟨?hw26, ?hy26⟩) (by assumption) ?_
                  case hi26 => (simp only [List.getElem?_toArray, List.getElem?_cons_succ, List.getElem?_cons_zero]; rfl)
                  case hQ26 => exact fun _ _ _ h => h
                  case hw26 => rfl
                  case hy26 => (intro w hSw; (try dsimp only at hSw); go_simp; (try with_reducible rfl))
                  simp only [Act.put, List.setIfInBounds_toArray, List.set_cons_zero, List.set_cons_succ]
                  refine wpAnyH_done (by kernel_rfl) ?_ _
                  clear s0 s1 s2 s3 s4 t0' t1' t2' t3' t4' hdr
                  go_wp2_with fail
                  go_roundw
                  case rel => exact ⟨q + 1, by first | rfl | go_num, by omega, HJ2⟩
                  case measure => simp [intOf]; omega
                · obtain rfl : q = M := by omega
                  have H8 := hide (show B3 C W0 wr a b c i i j Pa Pb Pc Ra Rb2 Rd2 ∧ Blk wr B11 4 #[.bool false, .bool true] ∧ Out3 a b c Pa Pb Pc B11 ∧ allT Rb2 = allT Rd2 ∧ (allT Rb2).length ≤ 50 from ⟨(unhide H7).1.below (unhide HJ), (unhide H7).2.1.below (unhide HJ) (unhide H7).2.1.lt, (unhide H7).2.2⟩)
                  clear H7 HJ HXY
                  go_wp2_with fail
                  go_roundw
                  case rel => exact ⟨k + 1, Rb2, Rd2, by first | rfl | go_num, by omega, H8⟩
                  case measure => simp [intOf]; omega
            · obtain rfl : k = 2 := by omega
              obtain ⟨q, -, -, hRR, hRl⟩ := unhide HK2
              have CL := hide (fun (w' : World) (d n : Nat) (P : Nat → Option Qa) (R' : Rows6) (q' : Bs w' d n P R') => blen q')
              have C1 := hide (blen q.qa)
              rw [unhide HRa] at C1
              have HQ := hide q
              have HLL := hide (show ((allT Rb).length : Int) = ((allT Rd').length : Int) by rw [hRR])
              clear q hRR hRl HK2
              go_wp2_with (go_at_call 14; refine Hid.out ?_)
              refine hide ?_
              refine (unhide C1).mono ?_
              rintro e w5 ⟨rfl, b5⟩
              have q5 := (unhide HQ).below b5
              have C2 := hide (blen q5.qb)
              have H5 := hide q5
              clear b5 q5 C1 HQ
              go_wp2_with (go_at_call 14; refine Hid.out ?_)
              refine hide ?_
              refine (unhide C2).mono ?_
              rintro e w6 ⟨rfl, b6⟩
              have q6 := (unhide H5).below b6
              have C3 := hide (blen q6.qc)
              have H6 := hide q6
              rw [unhide HLL]
              generalize ((allT Rd').length : Int) = nn at *
              have hnn : (nn == nn) = true := by simp
              clear b6 q6 C2 H5 HLL
              go_wp2_with (go_at_call 14; refine Hid.out ?_)
              refine hide ?_
              refine (unhide C3).mono ?_
              rintro e w7 ⟨rfl, b7⟩
              have q7 := (unhide H6).below b7
              have HB := hide q7.low
              clear b7 q7 C3 H6
              go_wp2_with fail
              go_ret
              exact ⟨rfl, (unhide HB0).trans ((unhide HB).mono (by rw [← hC]; have := (unhide HB0).size; omega))⟩
end Go.Proofs.Ytabmjaioejacaaa
