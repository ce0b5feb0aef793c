/- A processor looks ahead. -/
import Derived.Test.YtjjdkkdnlnbedaaGreatEn2
namespace Go.Proofs.YtjjdkkdnlnbedaaGreat
open Go.RowKit Kt Qu
set_option linter.unusedVariables false

section
variable {w w' : World} {l : Loc} {e : En}
/-- What the clocks tell. -/
theorem Es.now (h : Es w l e) (k f : Int) (hk : k = 0 ∧ f = e.z.m ∨ k = 1 ∧ f = e.z.v ∨ k = 2 ∧ f = e.z.q) : Calls Tryz.prog 54 #[.pointer (some ⟨l.c, 0, none⟩), .int .i64 k] w fun r w2 => r = .returned (.tuple #[.int .i64 f, .bool true]) ∧ w2 = w := by
  rcases hk with ⟨rfl, rfl⟩ | ⟨rfl, rfl⟩ | ⟨rfl, rfl⟩
  · exact nowR w h.clk h.nums 0 (by decide) (by decide)
  · exact nowR w h.clk h.nums 1 (by decide) (by decide)
  · exact nowR w h.clk h.nums 2 (by decide) (by decide)
theorem Es.ofst (h : Es w l e) (k f : Int) (hk : k = 0 ∧ f = 0 ∨ k = 1 ∧ f = e.z.v - e.z.m ∨ k = 2 ∧ f = e.z.q - e.z.m) : Calls Tryz.prog 86 #[.pointer (some ⟨l.c, 0, none⟩), .int .i64 k] w fun r w2 => r = .returned (.tuple #[.int .i64 f, .bool true]) ∧ w2 = w := by
  rcases hk with ⟨rfl, rfl⟩ | ⟨rfl, rfl⟩ | ⟨rfl, rfl⟩
  · exact offset_in w h.clk 0 (by decide) (by decide)
  · exact offset_in w h.clk 1 (by decide) (by decide)
  · exact offset_in w h.clk 2 (by decide) (by decide)
theorem Es.nows (h : Es w l e) : Calls Tryz.prog 73 #[.func (.func 54) #[.pointer (some ⟨l.c, 0, none⟩)] #[]] w fun r w' => r = .returned (.agg #[.int .i64 e.z.m, .int .i64 e.z.v, .int .i64 e.z.q]) ∧ Below w.heap.size w w' :=
  ofclocks_any 54 l.c _ _ _ w (fun _ _ => by kernel_rfl) (fun w' k f hk hb => (h.below hb).now k f hk)
theorem Es.ofsts (h : Es w l e) : Calls Tryz.prog 73 #[.func (.func 86) #[.pointer (some ⟨l.c, 0, none⟩)] #[]] w fun r w' => r = .returned (.agg #[.int .i64 0, .int .i64 (e.z.v - e.z.m), .int .i64 (e.z.q - e.z.m)]) ∧ Below w.heap.size w w' :=
  ofclocks_any 86 l.c _ _ _ w (fun _ _ => by kernel_rfl) (fun w' k f hk hb => (h.below hb).ofst k f hk)
/-- When the first one comes. -/
theorem Es.nexts (h : Es w l e) {i : Nat} (hi : i < e.n) : Calls Tryz.prog 95 #[.pointer (some ⟨l.b i, 0, none⟩), .agg #[.int .i64 0, .int .i64 (e.z.v - e.z.m), .int .i64 (e.z.q - e.z.m)], .bool (!(e.cp i).ra)] w fun r w' => r = .returned (.int .i64 (e.ahead (e.cp i))) ∧ Below w.heap.size w w' := by
  obtain ⟨R, hR, hL⟩ := h.bs i hi
  refine (bnext hR 0 (e.z.v - e.z.m) (e.z.q - e.z.m) (!(e.cp i).ra)).mono ?_
  rintro r w2 ⟨rfl, hb⟩
  refine ⟨?_, hb⟩
  rw [next_mn hR.ok]
  unfold En.ahead KS.off maxT
  rw [hL]
theorem Ft.notin {F : Nat → Prop} {l : Loc} {k : Nat} (h : efoot l k → ¬ F k) (hk : efoot l k) : ¬ F k := h hk
set_option maxRecDepth 20000 in
set_option maxHeartbeats 1000000 in
theorem look_any (h : Es w l e) {i : Nat} (hi : i < e.n) (hon : (e.cp i).on = true) :
    Calls Tryz.prog 66 #[.pointer (some ⟨l.g, 0, none⟩), .int .i64 (i : Int)] w fun r w' => r = .returned (.tuple #[]) ∧ Es w' l (e.set i (e.look (e.cp i))) ∧ Ft (efoot l) w w' := by
  have hle := h.n16
  have hcap := h.cap
  obtain ⟨r0, r1, r2, -⟩ := h.row i hi
  have ng : l.g ≠ l.d i := fun q => by have := h.uq _ _ _ h.og (q ▸ h.od i hi); omega
  have nr : l.r ≠ l.d i := fun q => by have := h.uq _ _ _ h.orr (q ▸ h.od i hi); omega
  have g0 : w.cell? ⟨l.g, 0, none⟩ = some (.pointer (some ⟨l.c, 0, none⟩)) := blkAt h.box 0 _ rfl
  have g1 : w.cell? ⟨l.g, 1, none⟩ = some (.slice (some ⟨l.r, 0, none⟩) e.n l.cap) := blkAt h.box 1 _ rfl
  have c0 : ∀ w', Ft (fun k => k = l.d i) w w' → w'.cell? ⟨l.g, 0, none⟩ = some (.pointer (some ⟨l.c, 0, none⟩)) := fun w' f => f.cell g0 ng
  have c2 : ∀ w', Ft (fun k => k = l.d i) w w' → w'.cell? ⟨l.r, i * 4, none⟩ = some (.pointer (some ⟨l.b i, 0, none⟩)) := fun w' f => f.cell r0 nr
  have c3 : ∀ w', Ft (fun k => k = l.d i) w w' → w'.cell? ⟨l.r, i * 4 + 1, none⟩ = some (.pointer (some ⟨l.d i, 0, none⟩)) := fun w' f => f.cell r1 nr
  have c4 : ∀ w', Ft (fun k => k = l.d i) w w' → w'.cell? ⟨l.r, i * 4 + 2, none⟩ = some (.bool (e.cp i).ra) := fun w' f => f.cell r2 nr
  have CN := fun w' hb => hide ((h.below (w' := w') hb).now 0 e.z.m (.inl ⟨rfl, rfl⟩))
  have CO := fun w' hb => hide ((h.below (w' := w') hb).ofsts)
  have CX := fun w' hb => hide ((h.below (w' := w') hb).nexts hi)
  have CS := fun w' hb n s => hide (sooner_any n s w' (by have := (h.below (w' := w') hb).dv i hi; rw [hon] at this; exact this))
  have HE := hide (fun (w1 w2 : World) (hb : Below w.heap.size w w1) (a : Option Int) (ha : a = if neverB (e.ahead (e.cp i)) = true then (e.cp i).arm else armTo (e.cp i).arm (aimZ e.le e.gr e.z.m (e.ahead (e.cp i)))) (hD : Dev w2 (l.d i) e.le e.gr true a.isSome (a.getD 0) (e.cp i).la) (f : Ft (fun k => k = l.d i) w1 w2) =>
    show Es w2 l (e.set i (e.look (e.cp i))) ∧ Ft (efoot l) w w2 from ⟨(h.below (w' := w1) hb).devd (w' := w2) hi (c := e.look (e.cp i)) (by
      have e1 : e.look (e.cp i) = { e.cp i with arm := a } := by
        unfold En.look
        rw [ha]
        split <;> rfl
      rw [e1]
      show Dev w2 (l.d i) e.le e.gr (e.cp i).on a.isSome (a.getD 0) (e.cp i).la
      rw [hon]; exact hD) f (by unfold En.look; split <;> rfl) (by unfold En.look; split <;> rfl) (by unfold En.look; split <;> rfl),
      (Ft.of_below _ hb).trans (f.mono fun k hk => ⟨_, hk ▸ h.od i hi⟩)⟩)
  generalize e.set i (e.look (e.cp i)) = E2 at *
  generalize e.ahead (e.cp i) = s at *
  generalize (e.cp i).ra = ra at *
  generalize (e.cp i).la = la at *
  generalize (e.cp i).arm = arm at *
  generalize e.z.v - e.z.m = o1 at *
  generalize e.z.q - e.z.m = o2 at *
  generalize e.z.m = m at *
  obtain ⟨n, hn⟩ : ∃ n, e.n = n := ⟨_, rfl⟩
  rw [hn] at hle hi hcap g1
  obtain ⟨d, hd⟩ : ∃ d, l.d i = d := ⟨_, rfl⟩
  rw [hd] at c0 c2 c3 c4 CS HE r1
  have S0 : Ft (fun k => k = d) w w.drew := (Ft.refl _ w).drew
  have B0 : Below w.heap.size w w.drew := (Below.refl _ _).drew
  clear h ng nr hon hn hd r0 r1 r2 
  go_enter Tryz.func66, Tryz.ntmps66
  go_wp2_with (go_at_call 54; refine (unhide (CN _ (Below.refl _ _))).mono ?_; rintro r w1 ⟨rfl, rfl⟩)
  refine wp_region_held_drew (S := (fun w' => Ft (fun k => k = d) w1 w')) (by kernel_rfl) ?_ (fun hHeld => ?_)
  · (first | assumption)
  refine wpAnyH_take (i := 0) (oi := ?o1) (v := ?v1) ?hi1 (by kernel_rfl) (by kernel_rfl) (by kernel_rfl) ?hQ1 (Or.inl ⟨?hw1, ?hy1⟩) (by assumption) ?_
  case hi1 => (simp only [List.getElem?_toArray, List.getElem?_cons_zero]; rfl)
  case hQ1 => exact fun _ _ _ h => h
  case hw1 => rfl
  case hy1 => (intro w hSw; (try dsimp only at hSw); go_simp; (try with_reducible rfl))
  simp only [Act.put, List.setIfInBounds_toArray, List.set_cons_zero, List.set_cons_succ]
  refine wpAnyH_take (i := 1) (oi := ?o2) (v := ?v2) ?hi2 (by kernel_rfl) (by kernel_rfl) (by kernel_rfl) ?hQ2 (Or.inl ⟨?hw2, ?hy2⟩) (by assumption) ?_
  case hi2 => (simp only [List.getElem?_toArray, List.getElem?_cons_succ, List.getElem?_cons_zero]; rfl)
  case hQ2 => exact fun _ _ _ h => h
  case hw2 => rfl
  case hy2 => (intro w hSw; (try dsimp only at hSw); go_simp; (try with_reducible rfl))
  simp only [Act.put, List.setIfInBounds_toArray, List.set_cons_zero, List.set_cons_succ]
  refine wpAnyH_take (i := 2) (oi := ?o3) (v := ?v3) ?hi3 (by kernel_rfl) (by kernel_rfl) (by kernel_rfl) ?hQ3 (Or.inl ⟨?hw3, ?hy3⟩) (by assumption) ?_
  case hi3 => (simp only [List.getElem?_toArray, List.getElem?_cons_succ, List.getElem?_cons_zero]; rfl)
  case hQ3 => exact fun _ _ _ h => h
  case hw3 => rfl
  case hy3 => (intro w hSw; (try dsimp only at hSw); go_simp; (try with_reducible rfl))
  simp only [Act.put, List.setIfInBounds_toArray, List.set_cons_zero, List.set_cons_succ]
  refine wpAnyH_take (i := 3) (oi := ?o4) (v := ?v4) ?hi4 (by kernel_rfl) (by kernel_rfl) (by kernel_rfl) ?hQ4 (Or.inl ⟨?hw4, ?hy4⟩) (by assumption) ?_
  case hi4 => (simp only [List.getElem?_toArray, List.getElem?_cons_succ, List.getElem?_cons_zero]; rfl)
  case hQ4 => exact fun _ _ _ h => h
  case hw4 => rfl
  case hy4 => (intro w hSw; (try dsimp only at hSw); go_simp; (try with_reducible rfl))
  simp only [Act.put, List.setIfInBounds_toArray, List.set_cons_zero, List.set_cons_succ]
  refine wpAnyH_take (i := 4) (oi := ?o5) (v := ?v5) ?hi5 (by kernel_rfl) (by kernel_rfl) (by kernel_rfl) ?hQ5 (Or.inl ⟨?hw5, ?hy5⟩) (by assumption) ?_
  case hi5 => (simp only [List.getElem?_toArray, List.getElem?_cons_succ, List.getElem?_cons_zero]; rfl)
  case hQ5 => exact fun _ _ _ h => h
  case hw5 => rfl
  case hy5 => (intro w hSw; (try dsimp only at hSw); go_simp; (try with_reducible rfl))
  simp only [Act.put, List.setIfInBounds_toArray, List.set_cons_zero, List.set_cons_succ]
  refine wpAnyH_take (i := 5) (oi := ?o6) (v := ?v6) ?hi6 (by kernel_rfl) (by kernel_rfl) (by kernel_rfl) ?hQ6 (Or.inl ⟨?hw6, ?hy6⟩) (by assumption) ?_
  case hi6 => (simp only [List.getElem?_toArray, List.getElem?_cons_succ, List.getElem?_cons_zero]; rfl)
  case hQ6 => exact fun _ _ _ h => h
  case hw6 => rfl
  case hy6 => (intro w hSw; (try dsimp only at hSw); go_simp; (try with_reducible rfl))
  simp only [Act.put, List.setIfInBounds_toArray, List.set_cons_zero, List.set_cons_succ]
  refine wpAnyH_take (i := 6) (oi := ?o7) (v := ?v7) ?hi7 (by kernel_rfl) (by kernel_rfl) (by kernel_rfl) ?hQ7 (Or.inl ⟨?hw7, ?hy7⟩) (by assumption) ?_
  case hi7 => (simp only [List.getElem?_toArray, List.getElem?_cons_succ, List.getElem?_cons_zero]; rfl)
  case hQ7 => exact fun _ _ _ h => h
  case hw7 => rfl
  case hy7 => (intro w hSw; (try dsimp only at hSw); go_simp; (try with_reducible rfl))
  simp only [Act.put, List.setIfInBounds_toArray, List.set_cons_zero, List.set_cons_succ]
  refine wpAnyH_take (i := 7) (oi := ?o8) (v := ?v8) ?hi8 (by kernel_rfl) (by kernel_rfl) (by kernel_rfl) ?hQ8 (Or.inl ⟨?hw8, ?hy8⟩) (by assumption) ?_
  case hi8 => (simp only [List.getElem?_toArray, List.getElem?_cons_succ, List.getElem?_cons_zero]; rfl)
  case hQ8 => exact fun _ _ _ h => h
  case hw8 => rfl
  case hy8 => (intro w hSw; (try dsimp only at hSw); go_simp; (try with_reducible rfl))
  simp only [Act.put, List.setIfInBounds_toArray, List.set_cons_zero, List.set_cons_succ]
  refine wpAnyH_take (i := 8) (oi := ?o9) (v := ?v9) ?hi9 (by kernel_rfl) (by kernel_rfl) (by kernel_rfl) ?hQ9 (Or.inl ⟨?hw9, ?hy9⟩) (by assumption) ?_
  case hi9 => (simp only [List.getElem?_toArray, List.getElem?_cons_succ, List.getElem?_cons_zero]; rfl)
  case hQ9 => exact fun _ _ _ h => h
  case hw9 => rfl
  case hy9 => (intro w hSw; (try dsimp only at hSw); go_simp; (try with_reducible rfl))
  simp only [Act.put, List.setIfInBounds_toArray, List.set_cons_zero, List.set_cons_succ]
  refine wpAnyH_take (i := 9) (oi := ?o10) (v := ?v10) ?hi10 (by kernel_rfl) (by kernel_rfl) (by kernel_rfl) ?hQ10 (Or.inl ⟨?hw10, ?hy10⟩) (by assumption) ?_
  case hi10 => (simp only [List.getElem?_toArray, List.getElem?_cons_succ, List.getElem?_cons_zero]; rfl)
  case hQ10 => exact fun _ _ _ h => h
  case hw10 => rfl
  case hy10 => (intro w hSw; (try dsimp only at hSw); go_simp; (try with_reducible rfl))
  simp only [Act.put, List.setIfInBounds_toArray, List.set_cons_zero, List.set_cons_succ]
  refine wpAnyH_take (i := 10) (oi := ?o11) (v := ?v11) ?hi11 (by kernel_rfl) (by kernel_rfl) (by kernel_rfl) ?hQ11 (Or.inl ⟨?hw11, ?hy11⟩) (by assumption) ?_
  case hi11 => (simp only [List.getElem?_toArray, List.getElem?_cons_succ, List.getElem?_cons_zero]; rfl)
  case hQ11 => exact fun _ _ _ h => h
  case hw11 => rfl
  case hy11 => (intro w hSw; (try dsimp only at hSw); go_simp; (try with_reducible rfl))
  simp only [Act.put, List.setIfInBounds_toArray, List.set_cons_zero, List.set_cons_succ]
  refine wpAnyH_take (i := 11) (oi := ?o12) (v := ?v12) ?hi12 (by kernel_rfl) (by kernel_rfl) (by kernel_rfl) ?hQ12 (Or.inl ⟨?hw12, ?hy12⟩) (by assumption) ?_
  case hi12 => (simp only [List.getElem?_toArray, List.getElem?_cons_succ, List.getElem?_cons_zero]; rfl)
  case hQ12 => exact fun _ _ _ h => h
  case hw12 => rfl
  case hy12 => (intro w hSw; (try dsimp only at hSw); go_simp; (try with_reducible rfl))
  simp only [Act.put, List.setIfInBounds_toArray, List.set_cons_zero, List.set_cons_succ]
  refine wpAnyH_take (i := 12) (oi := ?o13) (v := ?v13) ?hi13 (by kernel_rfl) (by kernel_rfl) (by kernel_rfl) ?hQ13 (Or.inl ⟨?hw13, ?hy13⟩) (by assumption) ?_
  case hi13 => (simp only [List.getElem?_toArray, List.getElem?_cons_succ, List.getElem?_cons_zero]; rfl)
  case hQ13 => exact fun _ _ _ h => h
  case hw13 => rfl
  case hy13 => (intro w hSw; (try dsimp only at hSw); go_simp; (try with_reducible rfl))
  simp only [Act.put, List.setIfInBounds_toArray, List.set_cons_zero, List.set_cons_succ]
  refine wpAnyH_take (i := 13) (oi := ?o14) (v := ?v14) ?hi14 (by kernel_rfl) (by kernel_rfl) (by kernel_rfl) ?hQ14 (Or.inl ⟨?hw14, ?hy14⟩) (by assumption) ?_
  case hi14 => (simp only [List.getElem?_toArray, List.getElem?_cons_succ, List.getElem?_cons_zero]; rfl)
  case hQ14 => exact fun _ _ _ h => h
  case hw14 => rfl
  case hy14 => (intro w hSw; (try dsimp only at hSw); go_simp; (try with_reducible rfl))
  simp only [Act.put, List.setIfInBounds_toArray, List.set_cons_zero, List.set_cons_succ]
  refine wpAnyH_take (i := 15) (oi := ?o15) (v := ?v15) ?hi15 (by kernel_rfl) (by kernel_rfl) (by kernel_rfl) ?hQ15 (Or.inl ⟨?hw15, ?hy15⟩) (by assumption) ?_
  case hi15 => (simp only [List.getElem?_toArray, List.getElem?_cons_succ, List.getElem?_cons_zero]; rfl)
  case hQ15 => exact fun _ _ _ h => h
  case hw15 => rfl
  case hy15 => (intro w hSw; (try dsimp only at hSw); go_simp; (try with_reducible rfl))
  simp only [Act.put, List.setIfInBounds_toArray, List.set_cons_zero, List.set_cons_succ]
  refine wpAnyH_take (i := 16) (oi := ?o16) (v := ?v16) ?hi16 (by kernel_rfl) (by kernel_rfl) (by kernel_rfl) ?hQ16 (Or.inl ⟨?hw16, ?hy16⟩) (by assumption) ?_
  case hi16 => (simp only [List.getElem?_toArray, List.getElem?_cons_succ, List.getElem?_cons_zero]; rfl)
  case hQ16 => exact fun _ _ _ h => h
  case hw16 => rfl
  case hy16 => (intro w hSw; (try dsimp only at hSw); go_simp; (try with_reducible rfl))
  simp only [Act.put, List.setIfInBounds_toArray, List.set_cons_zero, List.set_cons_succ]
  refine wpAnyH_take (i := 17) (oi := ?o17) (v := ?v17) ?hi17 (by kernel_rfl) (by kernel_rfl) (by kernel_rfl) ?hQ17 (Or.inl ⟨?hw17, ?hy17⟩) (by assumption) ?_
  case hi17 => (simp only [List.getElem?_toArray, List.getElem?_cons_succ, List.getElem?_cons_zero]; rfl)
  case hQ17 => exact fun _ _ _ h => h
  case hw17 => rfl
  case hy17 => (intro w hSw; (try dsimp only at hSw); go_simp; (try with_reducible rfl))
  simp only [Act.put, List.setIfInBounds_toArray, List.set_cons_zero, List.set_cons_succ]
  refine wpAnyH_take (i := 18) (oi := ?o18) (v := ?v18) ?hi18 (by kernel_rfl) (by kernel_rfl) (by kernel_rfl) ?hQ18 (Or.inl ⟨?hw18, ?hy18⟩) (by assumption) ?_
  case hi18 => (simp only [List.getElem?_toArray, List.getElem?_cons_succ, List.getElem?_cons_zero]; rfl)
  case hQ18 => exact fun _ _ _ h => h
  case hw18 => rfl
  case hy18 => (intro w hSw; (try dsimp only at hSw); go_simp; (try with_reducible rfl))
  simp only [Act.put, List.setIfInBounds_toArray, List.set_cons_zero, List.set_cons_succ]
  refine wpAnyH_take (i := 19) (oi := ?o19) (v := ?v19) ?hi19 (by kernel_rfl) (by kernel_rfl) (by kernel_rfl) ?hQ19 (Or.inl ⟨?hw19, ?hy19⟩) (by assumption) ?_
  case hi19 => (simp only [List.getElem?_toArray, List.getElem?_cons_succ, List.getElem?_cons_zero]; rfl)
  case hQ19 => exact fun _ _ _ h => h
  case hw19 => rfl
  case hy19 => (intro w hSw; (try dsimp only at hSw); go_simp; (try with_reducible rfl))
  simp only [Act.put, List.setIfInBounds_toArray, List.set_cons_zero, List.set_cons_succ]
  refine wpAnyH_ready (rs := [14]) (by kernel_rfl) (by simp) ?_
  refine AllReadyH.cons (o := ?o20) ?hi20 (fun K hK => ?_) AllReadyH.nil
  case hi20 => (simp only [List.getElem?_toArray, List.getElem?_cons_succ, List.getElem?_cons_zero]; rfl)
  go_simp
  (first | (go_at_call 73; refine (unhide (CO _ B0)).mono ?_; rintro r w5 ⟨rfl, hb5⟩; have B5 := B0.trans hb5; have S5 : Ft (fun k => k = d) w1 w5 := Ft.of_below _ B5) | (go_at_call 95; refine (unhide (CX _ B5)).mono ?_; rintro r w6 ⟨rfl, hb6⟩; have B6 := B5.trans (hb6.mono B5.size); have S6 : Ft (fun k => k = d) w1 w6 := Ft.of_below _ B6) | (go_at_call 94; refine (unhide (CS _ B6 _ _)).mono ?_; rintro r w7 ⟨⟨x, rfl⟩, a, ha, hD, f7⟩; have S7 : Ft (fun k => k = d) w1 w7 := (Ft.of_below _ B6).trans f7; have H7 := hide (unhide HE _ _ B6 _ ha hD f7); clear ha hD f7)); go_wp2_with fail
  refine hK.out _ _ ?_ (fun hHeld => ?_)
  · (first | assumption)
  clear hK K
  refine wpAnyH_ready (rs := [20]) (by kernel_rfl) (by simp) ?_
  refine AllReadyH.cons (o := ?o21) ?hi21 (fun K hK => ?_) AllReadyH.nil
  case hi21 => (simp only [List.getElem?_toArray, List.getElem?_cons_succ, List.getElem?_cons_zero]; rfl)
  go_simp
  (first | (go_at_call 73; refine (unhide (CO _ B0)).mono ?_; rintro r w5 ⟨rfl, hb5⟩; have B5 := B0.trans hb5; have S5 : Ft (fun k => k = d) w1 w5 := Ft.of_below _ B5) | (go_at_call 95; refine (unhide (CX _ B5)).mono ?_; rintro r w6 ⟨rfl, hb6⟩; have B6 := B5.trans (hb6.mono B5.size); have S6 : Ft (fun k => k = d) w1 w6 := Ft.of_below _ B6) | (go_at_call 94; refine (unhide (CS _ B6 _ _)).mono ?_; rintro r w7 ⟨⟨x, rfl⟩, a, ha, hD, f7⟩; have S7 : Ft (fun k => k = d) w1 w7 := (Ft.of_below _ B6).trans f7; have H7 := hide (unhide HE _ _ B6 _ ha hD f7); clear ha hD f7)); go_wp2_with fail
  refine hK.out _ _ ?_ (fun hHeld => ?_)
  · (first | assumption)
  clear hK K
  refine wpAnyH_ready (rs := [21]) (by kernel_rfl) (by simp) ?_
  refine AllReadyH.cons (o := ?o22) ?hi22 (fun K hK => ?_) AllReadyH.nil
  case hi22 => (simp only [List.getElem?_toArray, List.getElem?_cons_succ, List.getElem?_cons_zero]; rfl)
  go_simp
  (first | (go_at_call 73; refine (unhide (CO _ B0)).mono ?_; rintro r w5 ⟨rfl, hb5⟩; have B5 := B0.trans hb5; have S5 : Ft (fun k => k = d) w1 w5 := Ft.of_below _ B5) | (go_at_call 95; refine (unhide (CX _ B5)).mono ?_; rintro r w6 ⟨rfl, hb6⟩; have B6 := B5.trans (hb6.mono B5.size); have S6 : Ft (fun k => k = d) w1 w6 := Ft.of_below _ B6) | (go_at_call 94; refine (unhide (CS _ B6 _ _)).mono ?_; rintro r w7 ⟨⟨x, rfl⟩, a, ha, hD, f7⟩; have S7 : Ft (fun k => k = d) w1 w7 := (Ft.of_below _ B6).trans f7; have H7 := hide (unhide HE _ _ B6 _ ha hD f7); clear ha hD f7)); go_wp2_with fail
  refine hK.out _ _ ?_ (fun hHeld => ?_)
  · (first | assumption)
  clear hK K
  refine wpAnyH_done (by kernel_rfl) ?_ _
  go_wp2_with fail
  go_end0
  exact ⟨rfl, (unhide H7).1, (unhide H7).2⟩
end
end Go.Proofs.YtjjdkkdnlnbedaaGreat
