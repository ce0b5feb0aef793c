/- What an engine is asked, more. -/
import Derived.Test.YtjjdkkdnlnbedaaGreatEn6
namespace Go.Proofs.YtjjdkkdnlnbedaaGreat
open Go.RowKit Kt Qu
set_option linter.unusedVariables false
theorem proc_f0 (a b c d : Value) (w : World) : (Instr.field 71 (.agg #[a, b, c, d]) 0).run Tryz.prog w = .ok a w := by kernel_rfl
theorem proc_f1 (a b c d : Value) (w : World) : (Instr.field 71 (.agg #[a, b, c, d]) 1).run Tryz.prog w = .ok b w := by kernel_rfl
section
variable {w w' : World} {l : Loc} {e : En}
set_option maxRecDepth 20000 in
theorem timers_any (h : Es w l e) {i : Nat} (hi : i < e.n) : Calls Tryz.prog 11 #[.pointer (some ⟨l.g, 0, none⟩), .int .i64 (i : Int)] w fun r w' => ∃ v, r = .returned v ∧ Rg rtm w' w.heap.size v (e.cp i).L ∧ Below w.heap.size w w' := by
  have CS := hide (show_in h hi w (Below.refl _ _))
  have CB := hide (fun w' hb => (h.below (w' := w') hb).ball hi)
  generalize (e.cp i).L = L at *
  generalize (e.cp i).ra = ra at *
  generalize (e.cp i).ki = ki at *
  generalize l.b i = bi at *
  generalize l.d i = di at *
  have fx := proc_f0 (.pointer (some ⟨bi, 0, none⟩)) (.pointer (some ⟨di, 0, none⟩)) (.bool ra) (.bool ki)
  clear h hi
  go_enter Tryz.func11, Tryz.ntmps11
  go_wp2_with (go_at_call 28; refine (unhide CS).mono ?_; rintro r w1 ⟨rfl, hb1⟩)
  have CB1 := hide (unhide CB w1 hb1)
  have HB := hide hb1
  clear hb1 CB CS
  go_wp2_with (go_at_call 29; refine Hid.out ?_)
  refine hide ?_
  refine (unhide CB1).mono ?_
  rintro r w2 ⟨v, rfl, row, hb2⟩
  obtain ⟨ra, rcap, hf, -⟩ := row.form
  have HR := hide (And.intro row hb2)
  clear row hb2 CB1
  subst hf
  go_wp2_with fail
  go_ret
  exact ⟨_, rfl, (unhide HR).1.mono (unhide HB).size, (unhide HB).trans ((unhide HR).2.mono (unhide HB).size)⟩
set_option maxRecDepth 20000 in
theorem armed_any15 (h : Es w l e) {i : Nat} (hi : i < e.n) : Calls Tryz.prog 22 #[.pointer (some ⟨l.g, 0, none⟩), .int .i64 (i : Int)] w fun r w' => r = .returned (.tuple #[.int .i64 ((e.cp i).arm.getD 0), .bool (e.cp i).arm.isSome]) ∧ Below w.heap.size w w' := by
  have CS := hide (show_in h hi w (Below.refl _ _))
  have CB := hide (fun w' hb => armed_any w' ((h.below (w' := w') hb).dv i hi))
  generalize (e.cp i).arm.getD 0 = at_ at *
  generalize (e.cp i).arm.isSome = ar at *
  generalize (e.cp i).ra = ra at *
  generalize (e.cp i).ki = ki at *
  generalize l.b i = bi at *
  generalize l.d i = di at *
  have fx := proc_f1 (.pointer (some ⟨bi, 0, none⟩)) (.pointer (some ⟨di, 0, none⟩)) (.bool ra) (.bool ki)
  clear h hi
  go_enter Tryz.func22, Tryz.ntmps22
  go_wp2_with (go_at_call 28; refine (unhide CS).mono ?_; rintro r w1 ⟨rfl, hb1⟩)
  have CB1 := hide (unhide CB w1 hb1)
  have HB := hide hb1
  clear hb1 CB CS
  go_wp2_with (go_at_call 58; refine (unhide CB1).mono ?_; rintro r w2 ⟨rfl, hb2⟩)
  go_ret2
  exact ⟨rfl, (unhide HB).trans (hb2.mono (unhide HB).size)⟩
set_option maxRecDepth 20000 in
theorem now_any (h : Es w l e) (k : Int) (h0 : 0 ≤ k) (h2 : k ≤ 2) : Calls Tryz.prog 17 #[.pointer (some ⟨l.g, 0, none⟩), .int .i64 k] w fun r w' => r = .returned (.tuple #[.int .i64 (e.z.rd k.toNat), .bool true]) ∧ w' = w := by
  have g0 : w.cell? ⟨l.g, 0, none⟩ = some (.pointer (some ⟨l.c, 0, none⟩)) := blkAt h.box 0 _ rfl
  have CN := hide (h.now k (e.z.rd k.toNat) (by
    rcases (show k = 0 ∨ k = 1 ∨ k = 2 by omega) with rfl | rfl | rfl
    · exact .inl ⟨rfl, rfl⟩
    · exact .inr (.inl ⟨rfl, rfl⟩)
    · exact .inr (.inr ⟨rfl, rfl⟩)))
  generalize e.z.rd k.toNat = x at *
  clear h h0 h2
  go_enter Tryz.func17, Tryz.ntmps17
  go_wp2_with (go_at_call 54; refine (unhide CN).mono ?_; rintro r w1 ⟨rfl, rfl⟩)
  go_ret2
  exact ⟨rfl, rfl⟩
set_option maxRecDepth 20000 in
theorem online_any (h : Es w l e) : Calls Tryz.prog 10 #[.pointer (some ⟨l.g, 0, none⟩)] w fun r w' => ∃ v, r = .returned v ∧ Ir w' w.heap.size v (Mk.ints (Mk.listOf e.M)) ∧ Below w.heap.size w w' := by
  have g2 : w.cell? ⟨l.g, 2, none⟩ = some (.int .u32 (e.M : Int)) := blkAt h.box 2 _ rfl
  have CM := hide (Mk.list_any e.M (by have := h.M16; omega) w)
  generalize Mk.ints (Mk.listOf e.M) = L at *
  generalize (e.M : Int) = M at *
  clear h
  go_enter Tryz.func10, Tryz.ntmps10
  go_wp2_with (go_at_call 27; refine Hid.out ?_)
  refine hide ?_
  refine (unhide CM).mono ?_
  rintro r w2 ⟨v, rfl, row, hb2⟩
  obtain ⟨ra, rcap, hf, -⟩ := row.form
  have HR := hide (And.intro row hb2)
  clear row hb2 CM
  subst hf
  go_wp2_with fail
  go_ret
  exact ⟨_, rfl, (unhide HR).1, (unhide HR).2⟩
set_option maxRecDepth 20000 in
theorem pending_any (h : Es w l e) {i : Nat} (hi : i < e.n) : Calls Tryz.prog 20 #[.pointer (some ⟨l.g, 0, none⟩), .int .i64 (i : Int)] w fun r w' => r = .returned (.tuple #[.bool (e.cp i).la, .bool (e.cp i).ra, .bool (e.cp i).ki]) ∧ Below w.heap.size w w' := by
  have CS := hide (show_in h hi w (Below.refl _ _))
  have CB := hide (fun w' hb => latched_any w' ((h.below (w' := w') hb).dv i hi))
  generalize (e.cp i).la = la at *
  generalize (e.cp i).ra = ra at *
  generalize (e.cp i).ki = ki at *
  generalize l.b i = bi at *
  generalize l.d i = di at *
  clear h hi
  go_enter Tryz.func20, Tryz.ntmps20
  go_wp2_with (go_at_call 28; refine (unhide CS).mono ?_; rintro r w1 ⟨rfl, hb1⟩)
  obtain ⟨B, hB⟩ : ∃ b, w1.heap.size = b := ⟨_, rfl⟩
  obtain ⟨W2, hW2⟩ : ∃ W2, W2 = w1.alloc (.cells #[.pointer (some ⟨bi, 0, none⟩), .pointer (some ⟨di, 0, none⟩), .bool ra, .bool ki] 71) := ⟨_, rfl⟩
  have b2 : Below w1.heap.size w1 W2 := by rw [hW2]; exact one_below _ _
  have k2 : Blk W2 B 71 #[.pointer (some ⟨bi, 0, none⟩), .pointer (some ⟨di, 0, none⟩), .bool ra, .bool ki] := by rw [hW2]; exact Blk.new_at _ _ _ hB.symm
  have B2 := hb1.trans (b2.mono hb1.size)
  have c1 : ∀ w', Below W2.heap.size W2 w' → w'.cell? ⟨B, 1, none⟩ = some (.pointer (some ⟨di, 0, none⟩)) := fun w' hb => blkAt (k2.below hb k2.lt) 1 _ rfl
  have c2 : ∀ w', Below W2.heap.size W2 w' → w'.cell? ⟨B, 2, none⟩ = some (.bool ra) := fun w' hb => blkAt (k2.below hb k2.lt) 2 _ rfl
  have c3 : ∀ w', Below W2.heap.size W2 w' → w'.cell? ⟨B, 3, none⟩ = some (.bool ki) := fun w' hb => blkAt (k2.below hb k2.lt) 3 _ rfl
  have CB2 := hide (fun w' (hb : Below W2.heap.size W2 w') => unhide CB w' (B2.trans (hb.mono B2.size)))
  have S0 : Below W2.heap.size W2 W2.drew := (Below.refl _ _).drew
  have HB := hide B2
  have HW2 := hide hW2
  clear hb1 b2 k2 B2 hW2 CB CS
  go_wp2_with fail
  rw [← unhide HW2]
  refine wp_region_held_drew (S := (fun w' => Below W2.heap.size W2 w')) (by kernel_rfl) ?_ (fun hHeld => ?_)
  · (first | assumption)
  refine wpAnyH_take (i := 0) (oi := ?o63) (v := ?v63) ?hi63 (by kernel_rfl) (by kernel_rfl) (by kernel_rfl) ?hQ63 (Or.inl ⟨?hw63, ?hy63⟩) (by assumption) ?_
  case hi63 => (simp only [List.getElem?_toArray, List.getElem?_cons_zero]; rfl)
  case hQ63 => exact fun _ _ _ h => h
  case hw63 => rfl
  case hy63 => (intro w hSw; (try dsimp only at hSw); go_simp; (try with_reducible rfl))
  simp only [Act.put, List.setIfInBounds_toArray, List.set_cons_zero, List.set_cons_succ]
  refine wpAnyH_take (i := 1) (oi := ?o64) (v := ?v64) ?hi64 (by kernel_rfl) (by kernel_rfl) (by kernel_rfl) ?hQ64 (Or.inl ⟨?hw64, ?hy64⟩) (by assumption) ?_
  case hi64 => (simp only [List.getElem?_toArray, List.getElem?_cons_succ, List.getElem?_cons_zero]; rfl)
  case hQ64 => exact fun _ _ _ h => h
  case hw64 => rfl
  case hy64 => (intro w hSw; (try dsimp only at hSw); go_simp; (try with_reducible rfl))
  simp only [Act.put, List.setIfInBounds_toArray, List.set_cons_zero, List.set_cons_succ]
  refine wpAnyH_take (i := 3) (oi := ?o65) (v := ?v65) ?hi65 (by kernel_rfl) (by kernel_rfl) (by kernel_rfl) ?hQ65 (Or.inl ⟨?hw65, ?hy65⟩) (by assumption) ?_
  case hi65 => (simp only [List.getElem?_toArray, List.getElem?_cons_succ, List.getElem?_cons_zero]; rfl)
  case hQ65 => exact fun _ _ _ h => h
  case hw65 => rfl
  case hy65 => (intro w hSw; (try dsimp only at hSw); go_simp; (try with_reducible rfl))
  simp only [Act.put, List.setIfInBounds_toArray, List.set_cons_zero, List.set_cons_succ]
  refine wpAnyH_take (i := 4) (oi := ?o66) (v := ?v66) ?hi66 (by kernel_rfl) (by kernel_rfl) (by kernel_rfl) ?hQ66 (Or.inl ⟨?hw66, ?hy66⟩) (by assumption) ?_
  case hi66 => (simp only [List.getElem?_toArray, List.getElem?_cons_succ, List.getElem?_cons_zero]; rfl)
  case hQ66 => exact fun _ _ _ h => h
  case hw66 => rfl
  case hy66 => (intro w hSw; (try dsimp only at hSw); go_simp; (try with_reducible rfl))
  simp only [Act.put, List.setIfInBounds_toArray, List.set_cons_zero, List.set_cons_succ]
  refine wpAnyH_take (i := 5) (oi := ?o67) (v := ?v67) ?hi67 (by kernel_rfl) (by kernel_rfl) (by kernel_rfl) ?hQ67 (Or.inl ⟨?hw67, ?hy67⟩) (by assumption) ?_
  case hi67 => (simp only [List.getElem?_toArray, List.getElem?_cons_succ, List.getElem?_cons_zero]; rfl)
  case hQ67 => exact fun _ _ _ h => h
  case hw67 => rfl
  case hy67 => (intro w hSw; (try dsimp only at hSw); go_simp; (try with_reducible rfl))
  simp only [Act.put, List.setIfInBounds_toArray, List.set_cons_zero, List.set_cons_succ]
  refine wpAnyH_take (i := 6) (oi := ?o68) (v := ?v68) ?hi68 (by kernel_rfl) (by kernel_rfl) (by kernel_rfl) ?hQ68 (Or.inl ⟨?hw68, ?hy68⟩) (by assumption) ?_
  case hi68 => (simp only [List.getElem?_toArray, List.getElem?_cons_succ, List.getElem?_cons_zero]; rfl)
  case hQ68 => exact fun _ _ _ h => h
  case hw68 => rfl
  case hy68 => (intro w hSw; (try dsimp only at hSw); go_simp; (try with_reducible rfl))
  simp only [Act.put, List.setIfInBounds_toArray, List.set_cons_zero, List.set_cons_succ]
  refine wpAnyH_ready (rs := [2]) (by kernel_rfl) (by simp) ?_
  refine AllReadyH.cons (o := ?o69) ?hi69 (fun K hK => ?_) AllReadyH.nil
  case hi69 => (simp only [List.getElem?_toArray, List.getElem?_cons_succ, List.getElem?_cons_zero]; rfl)
  go_simp
  (go_at_call 57; refine (unhide CB2 _ (by assumption)).mono ?_; rintro r w4 ⟨rfl, rfl⟩); go_wp2_with fail
  refine hK.out _ _ ?_ (fun hHeld => ?_)
  · (first | assumption)
  clear hK K
  refine wpAnyH_take (i := 7) (oi := ?o70) (v := ?v70) ?hi70 (by kernel_rfl) (by kernel_rfl) (by kernel_rfl) ?hQ70 (Or.inl ⟨?hw70, ?hy70⟩) (by assumption) ?_
  case hi70 => (simp only [List.getElem?_toArray, List.getElem?_cons_succ, List.getElem?_cons_zero]; rfl)
  case hQ70 => exact fun _ _ _ h => h
  case hw70 => rfl
  case hy70 => (intro w hSw; (try dsimp only at hSw); go_simp; (try with_reducible rfl))
  simp only [Act.put, List.setIfInBounds_toArray, List.set_cons_zero, List.set_cons_succ]
  refine wpAnyH_take (i := 8) (oi := ?o71) (v := ?v71) ?hi71 (by kernel_rfl) (by kernel_rfl) (by kernel_rfl) ?hQ71 (Or.inl ⟨?hw71, ?hy71⟩) (by assumption) ?_
  case hi71 => (simp only [List.getElem?_toArray, List.getElem?_cons_succ, List.getElem?_cons_zero]; rfl)
  case hQ71 => exact fun _ _ _ h => h
  case hw71 => rfl
  case hy71 => (intro w hSw; (try dsimp only at hSw); go_simp; (try with_reducible rfl))
  simp only [Act.put, List.setIfInBounds_toArray, List.set_cons_zero, List.set_cons_succ]
  refine wpAnyH_take (i := 9) (oi := ?o72) (v := ?v72) ?hi72 (by kernel_rfl) (by kernel_rfl) (by kernel_rfl) ?hQ72 (Or.inl ⟨?hw72, ?hy72⟩) (by assumption) ?_
  case hi72 => (simp only [List.getElem?_toArray, List.getElem?_cons_succ, List.getElem?_cons_zero]; rfl)
  case hQ72 => exact fun _ _ _ h => h
  case hw72 => rfl
  case hy72 => (intro w hSw; (try dsimp only at hSw); go_simp; (try with_reducible rfl))
  simp only [Act.put, List.setIfInBounds_toArray, List.set_cons_zero, List.set_cons_succ]
  refine wpAnyH_done (by kernel_rfl) ?_ _
  go_wp2_with fail
  (try simp only [Exit.inBlock, Exit.then])
  refine bodyPost_ret (v := .tuple #[.bool la, .bool ra, .bool ki]) ?hr rfl ?_
  case hr => simp [results, Tryz.results20]
  exact ⟨rfl, (unhide HB).trans ((by assumption : Below W2.heap.size W2 _).mono (unhide HB).size)⟩
end
end Go.Proofs.YtjjdkkdnlnbedaaGreat
