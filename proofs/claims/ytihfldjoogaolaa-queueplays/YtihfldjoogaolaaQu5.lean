import Derived.Test.YtihfldjoogaolaaQu4
namespace Go.Proofs.Ytihfldjoogaolaa
open Go.RowKit Kt Qu
set_option linter.unusedVariables false

section
variable {w : World} {a : Qa} {n : Nat} {L : List QI}
theorem qdrop_nil (w : World) (id : Int) : Calls Try.prog 10 #[.pointer none, .int .i64 id] w fun e w' => e = .returned (.tuple #[tv t0, .bool false]) ∧ Below w.heap.size w w' := by
  obtain ⟨B0, hB0⟩ : ∃ b, w.heap.size = b := ⟨_, rfl⟩
  have k0 : Blk (w.alloc (.cells #[.int .i64 0, .int .i64 0, .int .i64 0, .int .i64 0, .bool false] 28)) B0 28 #[.int .i64 0, .int .i64 0, .int .i64 0, .int .i64 0, .bool false] := Blk.new_at _ _ _ hB0.symm
  have z0 := k0.cell 0
  have z1 := k0.cell 1
  have z2 := k0.cell 2
  have z3 := k0.cell 3
  have z4 := k0.cell 4
  have zf := k0.free
  simp only [List.getElem?_toArray, List.getElem?_cons_zero, List.getElem?_cons_succ] at z0 z1 z2 z3 z4
  have HB := hide (one_below w (.cells #[.int .i64 0, .int .i64 0, .int .i64 0, .int .i64 0, .bool false] 28))
  rw [hB0] at HB ⊢
  have CN := fun w' => hide (qhas_nil w' id)
  clear k0
  go_enter Try.func10, Try.ntmps10
  go_wp2_with (go_at_call 16; refine (unhide (CN _)).mono ?_; rintro e w' ⟨rfl, rfl⟩)
  exact bodyPost_ret (v := .tuple #[.agg #[.int .i64 0, .int .i64 0, .int .i64 0, .int .i64 0, .bool false], .bool false]) (by simp [results, Try.results10, go_sem, z0, z1, z2, z3, z4]) rfl ⟨rfl, unhide HB⟩
set_option maxHeartbeats 400000 in
theorem qdrop_none (h : Que w a n L) (id : Int) (hid : isI id) (hin : id ∉ L.map (·.tm.id)) : Calls Try.prog 10 #[.pointer (some ⟨a.q, 0, none⟩), .int .i64 id] w fun e w' => e = .returned (.tuple #[tv t0, .bool false]) ∧ Below w.heap.size w w' := by
  obtain ⟨B0, hB0⟩ : ∃ b, w.heap.size = b := ⟨_, rfl⟩
  obtain ⟨W0, hW0⟩ : ∃ W0, W0 = w.alloc (.cells #[.int .i64 0, .int .i64 0, .int .i64 0, .int .i64 0, .bool false] 28) := ⟨_, rfl⟩
  have b0 : Below w.heap.size w W0 := by rw [hW0]; exact one_below _ _
  have k0 : Blk W0 B0 28 #[.int .i64 0, .int .i64 0, .int .i64 0, .int .i64 0, .bool false] := by rw [hW0]; exact Blk.new_at _ _ _ hB0.symm
  have CH := hide (qhas_out (h.below b0) id hid hin)
  have HW := hide hW0
  have H0 := hide (And.intro k0 b0)
  clear h k0 b0 hW0 hid hin
  rw [hB0] at H0 ⊢
  go_enter Try.func10, Try.ntmps10
  go_wp2_with (go_at_call 16; refine Hid.out ?_)
  refine hide ?_
  rw [← unhide HW]
  refine (unhide CH).mono ?_
  rintro e w1 ⟨rfl, hb1⟩
  have k1 := (unhide H0).1.below hb1 (unhide H0).1.lt
  have z0 := k1.cell 0
  have z1 := k1.cell 1
  have z2 := k1.cell 2
  have z3 := k1.cell 3
  have z4 := k1.cell 4
  have zf := k1.free
  simp only [List.getElem?_toArray, List.getElem?_cons_zero, List.getElem?_cons_succ] at z0 z1 z2 z3 z4
  have HB := hide ((unhide H0).2.trans (hb1.mono (by have := (unhide H0).2.size; omega)))
  clear k1 hb1
  go_wp2_with fail
  exact bodyPost_ret (v := .tuple #[.agg #[.int .i64 0, .int .i64 0, .int .i64 0, .int .i64 0, .bool false], .bool false]) (by simp [results, Try.results10, go_sem, z0, z1, z2, z3, z4]) rfl ⟨rfl, below_set5 (unhide HB) (Nat.le_refl _) _ _ _ _ _⟩
theorem ft_set5b (w : World) (b : Nat) (u v x y z : Value) : Ft (fun k => k = b) w (((((w.setCell ⟨b, 0, none⟩ u).setCell ⟨b, 1, none⟩ v).setCell ⟨b, 2, none⟩ x).setCell ⟨b, 3, none⟩ y).setCell ⟨b, 4, none⟩ z) :=
  (((((Ft.refl (fun k => k = b) w).set (k := b) (.inl rfl) 0 u).set (k := b) (.inl rfl) 1 v).set (k := b) (.inl rfl) 2 x).set (k := b) (.inl rfl) 3 y).set (k := b) (.inl rfl) 4 z
theorem ft_set5 {F : Nat → Prop} {w w' : World} {b : Nat} (h : Ft F w w') (hb : w.heap.size ≤ b) (u v x y z : Value) : Ft F w (((((w'.setCell ⟨b, 0, none⟩ u).setCell ⟨b, 1, none⟩ v).setCell ⟨b, 2, none⟩ x).setCell ⟨b, 3, none⟩ y).setCell ⟨b, 4, none⟩ z) :=
  ((((h.set (.inr hb) 0 u).set (.inr hb) 1 v).set (.inr hb) 2 x).set (.inr hb) 3 y).set (.inr hb) 4 z
set_option maxRecDepth 100000 in
set_option maxHeartbeats 1000000 in
theorem qdrop_ok (X Y : List QI) (y : QI) (h : Que w a n (X ++ y :: Y)) : Calls Try.prog 10 #[.pointer (some ⟨a.q, 0, none⟩), .int .i64 y.tm.id] w fun e w' => e = .returned (.tuple #[tv y.tm, .bool true]) ∧ Que w' a n (X ++ Y) ∧ Ft a.foot w w' := by
  obtain ⟨B0, hB0⟩ : ∃ b, w.heap.size = b := ⟨_, rfl⟩
  obtain ⟨W0, hW0⟩ : ∃ W0, W0 = w.alloc (.cells #[.int .i64 0, .int .i64 0, .int .i64 0, .int .i64 0, .bool false] 28) := ⟨_, rfl⟩
  have b0 : Below w.heap.size w W0 := by rw [hW0]; exact one_below _ _
  have k0 : Blk W0 B0 28 #[.int .i64 0, .int .i64 0, .int .i64 0, .int .i64 0, .bool false] := by rw [hW0]; exact Blk.new_at _ _ _ hB0.symm
  have h0 := h.below b0
  have hyL : y ∈ X ++ y :: Y := by simp
  have hid := (h.ok y hyL).1.1
  have CH := hide (qhas_in h0 y hyL)
  have HW := hide hW0
  have H0 := hide (And.intro h0 (And.intro k0 (And.intro b0 hid)))
  obtain ⟨yn, yu, ⟨i1, i2, i3, i4, i5⟩⟩ := y
  obtain ⟨y, hyd⟩ : ∃ y : QI, y = ⟨yn, yu, ⟨i1, i2, i3, i4, i5⟩⟩ := ⟨_, rfl⟩
  rw [← hyd] at H0 CH hyL ⊢
  have HYD := hide hyd
  have HYL := hide hyL
  have HLT := hide h.lts
  rw [show y.tm.id = i1 by rw [hyd], show y.tm = ⟨i1, i2, i3, i4, i5⟩ by rw [hyd]]
  rw [show y.tm.id = i1 by rw [hyd]] at CH
  clear h k0 b0 hW0 hid h0 hyd hyL
  go_enter Try.func10, Try.ntmps10
  go_wp2_with (go_at_call 16; refine Hid.out ?_)
  refine hide ?_
  rw [← unhide HW]
  refine (unhide CH).mono ?_
  rintro e w1 ⟨rfl, hb1⟩
  obtain ⟨h0, k0, b0, hid⟩ := unhide H0
  have h1 := h0.below hb1
  have k1 := k0.below hb1 k0.lt
  obtain ⟨B1, hB1⟩ : ∃ b, w1.heap.size = b := ⟨_, rfl⟩
  have c1 := h1.c1
  have l1 : (Instr.lookup 46 (.map (some a.mh)) (.int .i64 i1) false).run Try.prog w1 = .ok (.agg #[.int .i64 yn, .int .i64 yu]) w1 := by
    have := h1.mh.look_some keyedI Try.underlying46 (zeroH w1) y.tm.id (keyI hid) (hF_mem h1.nd (unhide HYL)) false
    rw [unhide HYD] at this
    exact this
  obtain ⟨W2, hW2⟩ : ∃ W2, W2 = w1.alloc (.cells #[.int .i64 yn, .int .i64 yu] 51) := ⟨_, rfl⟩
  have b2 : Below w1.heap.size w1 W2 := by rw [hW2]; exact one_below _ _
  have kh : Blk W2 B1 51 #[.int .i64 yn, .int .i64 yu] := by rw [hW2]; exact Blk.new_at _ _ _ hB1.symm
  have h2 := h1.below b2
  have k2 := k1.below b2 k1.lt
  have l2 : ∀ w', Below W2.heap.size W2 w' → (Instr.lookup 47 (.map (some a.mt)) (.agg #[.int .i64 yn, .int .i64 yu]) false).run Try.prog w' = .ok (.agg #[.int .i64 i1, .int .i64 i2, .int .i64 i3, .int .i64 i4, .bool i5]) w' := by
    intro w' hb
    have := (h2.below hb).mt.look_some keyedH Try.underlying47 (zeroT w') (y.n, y.tu) (h2.keyOf (unhide HYL)) (tF_mem h2.nd (unhide HYL)) false
    rw [unhide HYD] at this
    exact this
  have bd : Below W2.heap.size W2 W2.drew := below_drew (Below.refl _ _)
  have bo : ∀ o, Below W2.heap.size W2 (W2.alloc o).drew := fun o => below_drew (one_below _ _)
  have l3 := l2 _ bd
  have l4 := fun o => l2 _ (bo o)
  have c2 := h2.c2
  have c3 := fun o => (h2.below (bo o)).c2
  have q0 := kh.cell 0
  have q1 := kh.cell 1
  have q2 := fun o => (kh.below (bo o) kh.lt).cell 0
  have q3 := fun o => (kh.below (bo o) kh.lt).cell 1
  simp only [List.getElem?_toArray, List.getElem?_cons_zero, List.getElem?_cons_succ] at q0 q1 q2 q3
  clear l2 bd bo
  have hB1B : B0 < B1 := by rw [← hB1]; exact k1.lt
  have H2 := hide (And.intro h2 (And.intro k2 (And.intro kh (And.intro hid ((b0.trans (hb1.mono b0.size)).trans (b2.mono (Nat.le_trans b0.size hb1.size)))))))
  have HW2 := hide hW2
  clear h0 k0 b0 hid h1 k1 hb1 h2 k2 kh b2 hW2 H0 CH HW
  go_wp2_with fail
  rw [← unhide HW2]
  go_region
  obtain ⟨h2, k2, kh, hid, b2⟩ := unhide H2
  obtain ⟨B2, hB2⟩ : ∃ b, W2.heap.size = b := ⟨_, rfl⟩
  rw [hB2]
  obtain ⟨W3, hW3⟩ : ∃ W3, W3 = (W2.alloc (.cells #[.int .i64 i1, .int .i64 i2, .int .i64 i3, .int .i64 i4, .bool i5] 28)).drew := ⟨_, rfl⟩
  rw [← hW3]
  have b3 : Below W2.heap.size W2 W3 := by rw [hW3]; exact below_drew (one_below _ _)
  have h3 := h2.below b3
  have k3 := k2.below b3 k2.lt
  have kh3 := kh.below b3 kh.lt
  have kt3 : Blk W3 B2 28 #[.int .i64 i1, .int .i64 i2, .int .i64 i3, .int .i64 i4, .bool i5] := by rw [hW3]; exact Blk.new_at _ _ _ hB2.symm
  have hlo : ∀ k, a.foot k → k < w.heap.size := unhide HLT
  have nB0 : ¬ a.foot B0 := fun hk => by have := hlo _ hk; omega
  have nB1 : ¬ a.foot B1 := fun hk => by have := hlo _ hk; omega
  have nB2 : ¬ a.foot B2 := fun hk => by have := hlo _ hk; have := kh.lt; omega
  have ntg : ∀ {b}, ¬ a.foot b → ¬ a.tg b := fun hn hk => hn (Qa.tg_foot hk)
  have K0 := fun w' (hb : Ft a.tg W3 w') => hb.cell h3.c0 h3.ap.tgq
  have K1 := fun w' (hb : Ft a.tg W3 w') => hb.cell (x := ⟨B1, 0, none⟩) (v := .int .i64 yn) (kh3.cell 0) (ntg nB1)
  have K2 := fun w' (hb : Ft a.tg W3 w') => hb.cell (x := ⟨B1, 1, none⟩) (v := .int .i64 yu) (kh3.cell 1) (ntg nB1)
  have hdr : Ft a.tg W3 W3.drew := (Ft.refl _ _).drew
  obtain ⟨tf, tr, htf⟩ := h3.tre
  have CT := hide (show Calls Try.prog 20 #[.pointer (some ⟨a.t, 0, none⟩), .agg #[.int .i64 yn, .int .i64 yu]] W3.drew fun e w' => e = .returned (.int .i64 0) ∧ Tre w' a.t a.g 64 tf ((X ++ Y).map QI.it) ∧ Touch a.t a.g W3.drew w' from by
    rw [List.map_append, List.map_cons] at tr
    have e := unhide HYD
    have := tdrop_in a.t a.g 64 tf _ _ (QI.it y) W3.drew (tr.ft ((Ft.refl (fun _ => False) W3).drew) id id)
    rw [List.map_append]
    rw [e] at this
    exact this)
  have H3 := hide (And.intro h3 (And.intro k3 (And.intro kh3 (And.intro kt3 (And.intro hid (And.intro (b2.trans (b3.mono b2.size)) htf))))))
  have HN := hide (And.intro nB0 (And.intro nB1 nB2))
  have hB21 : B1 < B2 := by rw [← hB2]; exact kh.lt
  clear h2 k2 kh hid b2 b3 h3 k3 kh3 kt3 hlo nB0 nB1 nB2 ntg tr htf hW3 H2 HW2 l1 l3 l4 c1 c2 c3 q0 q1 q2 q3
  go_wp2_with fail
  refine wp_region_held_drew (S := (fun w' => Ft a.tg W3 w')) (by kernel_rfl) ?_ (fun hHeld => ?_)
  · (first | (with_reducible assumption))
  refine wpAnyH_take (i := 0) (oi := ?o1) (v := ?v1) ?hi1 (by kernel_rfl) (by kernel_rfl) (by kernel_rfl) ?hQ1 (Or.inl ⟨?hw1, ?hy1⟩) (by assumption) ?_
  case hi1 => (simp only [List.getElem?_toArray, List.getElem?_cons_zero]; rfl)
  case hQ1 => exact fun _ _ _ h => h
  case hw1 => rfl
  case hy1 => (intro w hSw; (try dsimp only at hSw); go_simp; (try with_reducible rfl))
  simp only [Act.put, List.setIfInBounds_toArray, List.set_cons_zero, List.set_cons_succ]
  refine wpAnyH_take (i := 1) (oi := ?o2) (v := ?v2) ?hi2 (by kernel_rfl) (by kernel_rfl) (by kernel_rfl) ?hQ2 (Or.inl ⟨?hw2, ?hy2⟩) (by assumption) ?_
  case hi2 => (simp only [List.getElem?_toArray, List.getElem?_cons_succ, List.getElem?_cons_zero]; rfl)
  case hQ2 => exact fun _ _ _ h => h
  case hw2 => rfl
  case hy2 => (intro w hSw; (try dsimp only at hSw); go_simp; (try with_reducible rfl))
  simp only [Act.put, List.setIfInBounds_toArray, List.set_cons_zero, List.set_cons_succ]
  refine wpAnyH_take (i := 2) (oi := ?o3) (v := ?v3) ?hi3 (by kernel_rfl) (by kernel_rfl) (by kernel_rfl) ?hQ3 (Or.inl ⟨?hw3, ?hy3⟩) (by assumption) ?_
  case hi3 => (simp only [List.getElem?_toArray, List.getElem?_cons_succ, List.getElem?_cons_zero]; rfl)
  case hQ3 => exact fun _ _ _ h => h
  case hw3 => rfl
  case hy3 => (intro w hSw; (try dsimp only at hSw); go_simp; (try with_reducible rfl))
  simp only [Act.put, List.setIfInBounds_toArray, List.set_cons_zero, List.set_cons_succ]
  refine wpAnyH_take (i := 3) (oi := ?o4) (v := ?v4) ?hi4 (by kernel_rfl) (by kernel_rfl) (by kernel_rfl) ?hQ4 (Or.inl ⟨?hw4, ?hy4⟩) (by assumption) ?_
  case hi4 => (simp only [List.getElem?_toArray, List.getElem?_cons_succ, List.getElem?_cons_zero]; rfl)
  case hQ4 => exact fun _ _ _ h => h
  case hw4 => rfl
  case hy4 => (intro w hSw; (try dsimp only at hSw); go_simp; (try with_reducible rfl))
  simp only [Act.put, List.setIfInBounds_toArray, List.set_cons_zero, List.set_cons_succ]
  refine wpAnyH_take (i := 4) (oi := ?o5) (v := ?v5) ?hi5 (by kernel_rfl) (by kernel_rfl) (by kernel_rfl) ?hQ5 (Or.inl ⟨?hw5, ?hy5⟩) (by assumption) ?_
  case hi5 => (simp only [List.getElem?_toArray, List.getElem?_cons_succ, List.getElem?_cons_zero]; rfl)
  case hQ5 => exact fun _ _ _ h => h
  case hw5 => rfl
  case hy5 => (intro w hSw; (try dsimp only at hSw); go_simp; (try with_reducible rfl))
  simp only [Act.put, List.setIfInBounds_toArray, List.set_cons_zero, List.set_cons_succ]
  refine wpAnyH_ready (rs := [5]) (by kernel_rfl) (by simp) ?_
  refine AllReadyH.cons (o := ?o6) ?hi6 (fun K hK => ?_) AllReadyH.nil
  case hi6 => (simp only [List.getElem?_toArray, List.getElem?_cons_succ, List.getElem?_cons_zero]; rfl)
  go_simp
  (go_at_call 20; refine (unhide CT).mono ?_; rintro e w4 ⟨rfl, tr4, tt4⟩; have hbq := Ft.trans hdr (Ft.of_touch (F := a.tg) tt4 (.inl rfl) (.inr rfl)))
  refine hK.out _ _ ?_ (fun hHeld => ?_)
  · (first | (with_reducible assumption))
  clear hK K
  refine wpAnyH_done (by kernel_rfl) ?_ _
  obtain ⟨h3, k3, kh3, kt3, hid, b3, htf⟩ := unhide H3
  obtain ⟨nB0, nB1, nB2⟩ := unhide HN
  have ntg : ∀ {b}, ¬ a.foot b → ¬ a.tg b := fun hn hk => hn (Qa.tg_foot hk)
  have kq4 := h3.blk.ft hbq h3.ap.tgq
  have mh4 := h3.mh.ft hbq h3.ap.tgh
  have mt4 := h3.mt.ft hbq h3.ap.tgm
  have k4 := k3.ft hbq (ntg nB0)
  have kh4 := kh3.ft hbq (ntg nB1)
  have kt4 := kt3.ft hbq (ntg nB2)
  obtain ⟨w5, e1, g1, r1⟩ := mh4.del keyedI Try.underlying46 ik_inj i1 (keyI (by have := hid; rw [unhide HYD] at this; exact this)) 0
  have f5 : Ft a.foot w4 w5 := (Ft.refl _ _).grown r1 (fun g e => by cases e; exact .inl (.inr (.inr (.inr (.inl rfl)))))
  have f5m : Ft (fun k => k = a.mh) w4 w5 := (Ft.refl _ _).grown r1 (fun g e => by cases e; exact .inl rfl)
  have kq5 := kq4.ft f5m h3.ap.qh
  have mt5 := mt4.ft f5m h3.ap.hm.symm
  have k5 := k4.ft f5 nB0
  have kh5 := kh4.ft f5 nB1
  have kt5 := kt4.ft f5 nB2
  have hyL := unhide HYL
  have hkey := h3.keyOf hyL
  rw [unhide HYD] at hkey
  obtain ⟨w6, e2, g2, r2⟩ := (mt5.below (below_drew (Below.refl w5.heap.size w5)) mt5.lt).del keyedH Try.underlying47 hk_inj (yn, yu) hkey 0
  have f6 : Ft a.foot w5 w6 := (Ft.refl _ _).drew.grown r2 (fun g e => by cases e; exact .inl (.inr (.inr (.inr (.inr rfl)))))
  have f6m : Ft (fun k => k = a.mt) w5 w6 := (Ft.refl _ _).drew.grown r2 (fun g e => by cases e; exact .inl rfl)
  have k6 := k5.ft f6 nB0
  have kt6 := kt5.ft f6 nB2
  have hfull : Que w6 a n (X ++ Y) := by
    have hlen : (X ++ y :: Y).length - 1 = (X ++ Y).length := by simp only [List.length_append, List.length_cons]; omega
    refine ⟨kq5.ft f6m h3.ap.qm, ⟨tf, (tr4.ft f5m h3.ap.th h3.ap.gh).ft f6m h3.ap.tm h3.ap.gm, htf⟩, ?_, ?_, h3.nd.del, fun z hz => h3.ok z ?_, h3.ap, h3.nb⟩
    · have := g1.ft f6m h3.ap.hm
      have e : hF (X ++ y :: Y) i1 = some (y.n, y.tu) := by
        have := hF_mem h3.nd hyL
        rw [show y.tm.id = i1 by rw [unhide HYD]] at this
        exact this
      rw [e, Option.isSome_some, if_pos rfl, hlen] at this
      rw [← hF_del_split h3.nd, show y.tm.id = i1 by rw [unhide HYD]]
      exact this
    · have e : tF (X ++ y :: Y) (yn, yu) = some y.tm := by
        have := tF_mem h3.nd hyL
        rw [show (y.n, y.tu) = (yn, yu) by rw [unhide HYD]] at this
        exact this
      rw [e, Option.isSome_some, if_pos rfl, hlen] at g2
      rw [← tF_del_split h3.nd, show (y.n, y.tu) = (yn, yu) by rw [unhide HYD]]
      exact g2
    · rcases List.mem_append.1 hz with hz | hz
      · simp [hz]
      · simp [hz]
  have hfin : Ft a.foot w w6 := (Ft.of_below _ b3).trans (((hbq.mono fun k hk => Qa.tg_foot hk).trans f5).trans f6)
  have HFIN := hide (And.intro hfull (And.intro hfin nB0))
  have d1 := kq4.cell 1
  have d2 := kq5.cell 2
  have x0 := kh5.cell 0
  have x1 := kh5.cell 1
  have y0 := kt6.cell 0
  have y1 := kt6.cell 1
  have y2 := kt6.cell 2
  have y3 := kt6.cell 3
  have y4 := kt6.cell 4
  have z0 := k6.cell 0
  have z1 := k6.cell 1
  have z2 := k6.cell 2
  have z3 := k6.cell 3
  have z4 := k6.cell 4
  have zf := k6.free
  simp only [List.getElem?_toArray, List.getElem?_cons_zero, List.getElem?_cons_succ] at d1 d2 x0 x1 y0 y1 y2 y3 y4 z0 z1 z2 z3 z4
  simp only [ik, hk] at e1 e2
  clear h3 k3 kh3 kt3 hid b3 htf nB0 nB1 nB2 ntg kq4 mh4 mt4 k4 kh4 kt4 g1 r1 f5 f5m kq5 mt5 k5 kh5 kt5 hyL hkey g2 r2 f6 f6m k6 kt6 hfull hfin tr4 tt4 hbq hdr K0 K1 K2
  go_wp2_with fail
  go_region
  go_wp2_with fail
  exact bodyPost_ret (v := .tuple #[.agg #[.int .i64 i1, .int .i64 i2, .int .i64 i3, .int .i64 i4, .bool i5], .bool true]) (by simp [results, Try.results10, go_sem, z0, z1, z2, z3, z4]) rfl ⟨rfl, (unhide HFIN).1.ft (ft_set5b _ _ _ _ _ _ _) (fun k hk e => (unhide HFIN).2.2 (e ▸ hk)), ft_set5 (unhide HFIN).2.1 (by omega) _ _ _ _ _⟩
end
end Go.Proofs.Ytihfldjoogaolaa
