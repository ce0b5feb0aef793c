/- A step. -/
import Derived.Test.YtjjdkkdnlnbedaaGreatEn11
namespace Go.Proofs.YtjjdkkdnlnbedaaGreat
open Go.RowKit Kt Qu
set_option linter.unusedVariables false

/-- A step, as a value. -/
def stc (s : Stp) : Array Value := #[.int .i64 s.kind, .int .i64 s.cpu, .int .i64 s.n, .int .i64 s.t.id, .int .i64 s.t.clock, .int .i64 s.t.soft, .int .i64 s.t.hard, .bool s.t.lazy]
def stv (s : Stp) : Value := .agg (stc s)
section
variable {w w' : World} {l : Loc} {e : En}
theorem Es.cb (h : Es w l e) : CBs 0 w w l.c e.z := ⟨h.clk, h.nums, Below.refl _ _, Nat.zero_le _, Nat.zero_le _⟩
theorem Es.cset (h : Es w l e) (hn : e.z.n ≤ 900) (t : Int) : Calls Tryz.prog 38 #[.pointer (some ⟨l.c, 0, none⟩), .int .i64 t] w fun r w' => r = .returned (.int .i64 (actTo t e.z).1) ∧ Es w' l { e with z := (actTo t e.z).2 } ∧ Ft (efoot l) w w' := by
  refine (bset h.cb hn t).mono ?_
  rintro r w2 ⟨rfl, hc2, ht⟩
  exact ⟨rfl, h.clkd hc2.clk hc2.nums (Ft.of_tch ht), (Ft.of_tch ht).mono fun x hx => ⟨_, hx ▸ h.oc⟩⟩
theorem Es.csusp (h : Es w l e) : Calls Tryz.prog 39 #[.pointer (some ⟨l.c, 0, none⟩)] w fun r w' => r = .returned (.int .i64 (act3 e.z).1) ∧ Es w' l { e with z := (act3 e.z).2 } ∧ Ft (efoot l) w w' := by
  refine (bsusp h.cb).mono ?_
  rintro r w2 ⟨rfl, hc2, ht⟩
  exact ⟨rfl, h.clkd hc2.clk hc2.nums (Ft.of_tch ht), (Ft.of_tch ht).mono fun x hx => ⟨_, hx ▸ h.oc⟩⟩
theorem Es.cres (h : Es w l e) (hn : e.z.n ≤ 900) : Calls Tryz.prog 40 #[.pointer (some ⟨l.c, 0, none⟩)] w fun r w' => r = .returned (.int .i64 (act4 e.z).1) ∧ Es w' l { e with z := (act4 e.z).2 } ∧ Ft (efoot l) w w' := by
  refine (bresume h.cb hn).mono ?_
  rintro r w2 ⟨rfl, hc2, ht⟩
  exact ⟨rfl, h.clkd hc2.clk hc2.nums (Ft.of_tch ht), (Ft.of_tch ht).mono fun x hx => ⟨_, hx ▸ h.oc⟩⟩
set_option maxRecDepth 20000 in
theorem do1_any (h : Es w l e) (hn : e.z.n ≤ 900) (b0 b1 : Nat) (k0 : w.cell? ⟨b0, 0, none⟩ = some (.pointer (some ⟨l.g, 0, none⟩))) (t : Int) (k1 : w.cell? ⟨b1, 2, none⟩ = some (.int .i64 t)) (h0 : ¬ efoot l b0) (h1 : ¬ efoot l b1) :
    Calls Tryz.prog 37 #[.pointer (some ⟨b0, 0, none⟩), .pointer (some ⟨b1, 0, none⟩)] w fun r w' => r = .returned (.int .i64 (actTo t e.z).1) ∧ Es w' l { e with z := (actTo t e.z).2 } ∧ Ft (efoot l) w w' := by
  have g0 : w.cell? ⟨l.g, 0, none⟩ = some (.pointer (some ⟨l.c, 0, none⟩)) := blkAt h.box 0 _ rfl
  have ng : l.g ≠ l.c := fun q => by have := h.uq _ _ _ h.og (q ▸ h.oc); omega
  have n0 : b0 ≠ l.c := fun q => h0 ⟨2, q ▸ h.oc⟩
  have n1 : b1 ≠ l.c := fun q => h1 ⟨2, q ▸ h.oc⟩
  have c0 : ∀ w', Ft (fun k => k = l.c) w w' → w'.cell? ⟨b0, 0, none⟩ = some (.pointer (some ⟨l.g, 0, none⟩)) := fun w' f => f.cell k0 n0
  have c1 : ∀ w', Ft (fun k => k = l.c) w w' → w'.cell? ⟨b1, 2, none⟩ = some (.int .i64 t) := fun w' f => f.cell k1 n1
  have c2 : ∀ w', Ft (fun k => k = l.c) w w' → w'.cell? ⟨l.g, 0, none⟩ = some (.pointer (some ⟨l.c, 0, none⟩)) := fun w' f => f.cell g0 ng
  have b0' : Below w.heap.size w w.drew := (Below.refl _ _).drew
  have hcb := (h.below b0').cb
  have CS := hide ((bset hcb hn t).mono fun r w2 (q : _ ∧ _ ∧ _) => show r = .returned (.int .i64 (actTo t e.z).1) ∧ Es w2 l { e with z := (actTo t e.z).2 } ∧ Ft (fun k => k = l.c) w.drew w2 from ⟨q.1, (h.below b0').clkd q.2.1.clk q.2.1.nums (Ft.of_tch q.2.2), Ft.of_tch q.2.2⟩)
  have S0 : Ft (fun k => k = l.c) w w.drew := (Ft.refl _ _).drew
  have HO := hide h.oc
  obtain ⟨x, hx⟩ : ∃ x, (actTo t e.z).1 = x := ⟨_, rfl⟩
  obtain ⟨E2, hE2⟩ : ∃ E2 : En, { e with z := (actTo t e.z).2 } = E2 := ⟨_, rfl⟩
  rw [hx, hE2] at CS
  rw [hx, hE2]
  clear h g0 ng n0 n1 k0 k1 h0 h1 b0' hcb hx hE2
  go_enter Tryz.func37, Tryz.ntmps37
  go_wp2_with fail
  refine wp_region_held_drew (S := (fun w' => Ft (fun k => k = l.c) w w')) (by kernel_rfl) ?_ (fun hHeld => ?_)
  · (first | assumption)
  refine wpAnyH_take (i := 0) (oi := ?o1) (v := ?v1) ?hi1 (by kernel_rfl) (by kernel_rfl) (by kernel_rfl) ?hQ1 (Or.inl ⟨?hw1, ?hy1⟩) (by assumption) ?_
  case hi1 => (simp only [List.getElem?_toArray, List.getElem?_cons_zero]; rfl)
  case hQ1 => exact fun _ _ _ h => h
  case hw1 => rfl
  case hy1 => (intro w hSw; (try dsimp only at hSw); go_simp; (try with_reducible rfl))
  simp only [Act.put, List.setIfInBounds_toArray, List.set_cons_zero, List.set_cons_succ]
  refine wpAnyH_take (i := 1) (oi := ?o2) (v := ?v2) ?hi2 (by kernel_rfl) (by kernel_rfl) (by kernel_rfl) ?hQ2 (Or.inl ⟨?hw2, ?hy2⟩) (by assumption) ?_
  case hi2 => (simp only [List.getElem?_toArray, List.getElem?_cons_succ, List.getElem?_cons_zero]; rfl)
  case hQ2 => exact fun _ _ _ h => h
  case hw2 => rfl
  case hy2 => (intro w hSw; (try dsimp only at hSw); go_simp; (try with_reducible rfl))
  simp only [Act.put, List.setIfInBounds_toArray, List.set_cons_zero, List.set_cons_succ]
  refine wpAnyH_take (i := 2) (oi := ?o3) (v := ?v3) ?hi3 (by kernel_rfl) (by kernel_rfl) (by kernel_rfl) ?hQ3 (Or.inl ⟨?hw3, ?hy3⟩) (by assumption) ?_
  case hi3 => (simp only [List.getElem?_toArray, List.getElem?_cons_succ, List.getElem?_cons_zero]; rfl)
  case hQ3 => exact fun _ _ _ h => h
  case hw3 => rfl
  case hy3 => (intro w hSw; (try dsimp only at hSw); go_simp; (try with_reducible rfl))
  simp only [Act.put, List.setIfInBounds_toArray, List.set_cons_zero, List.set_cons_succ]
  refine wpAnyH_take (i := 3) (oi := ?o4) (v := ?v4) ?hi4 (by kernel_rfl) (by kernel_rfl) (by kernel_rfl) ?hQ4 (Or.inl ⟨?hw4, ?hy4⟩) (by assumption) ?_
  case hi4 => (simp only [List.getElem?_toArray, List.getElem?_cons_succ, List.getElem?_cons_zero]; rfl)
  case hQ4 => exact fun _ _ _ h => h
  case hw4 => rfl
  case hy4 => (intro w hSw; (try dsimp only at hSw); go_simp; (try with_reducible rfl))
  simp only [Act.put, List.setIfInBounds_toArray, List.set_cons_zero, List.set_cons_succ]
  refine wpAnyH_take (i := 4) (oi := ?o5) (v := ?v5) ?hi5 (by kernel_rfl) (by kernel_rfl) (by kernel_rfl) ?hQ5 (Or.inl ⟨?hw5, ?hy5⟩) (by assumption) ?_
  case hi5 => (simp only [List.getElem?_toArray, List.getElem?_cons_succ, List.getElem?_cons_zero]; rfl)
  case hQ5 => exact fun _ _ _ h => h
  case hw5 => rfl
  case hy5 => (intro w hSw; (try dsimp only at hSw); go_simp; (try with_reducible rfl))
  simp only [Act.put, List.setIfInBounds_toArray, List.set_cons_zero, List.set_cons_succ]
  refine wpAnyH_take (i := 5) (oi := ?o6) (v := ?v6) ?hi6 (by kernel_rfl) (by kernel_rfl) (by kernel_rfl) ?hQ6 (Or.inl ⟨?hw6, ?hy6⟩) (by assumption) ?_
  case hi6 => (simp only [List.getElem?_toArray, List.getElem?_cons_succ, List.getElem?_cons_zero]; rfl)
  case hQ6 => exact fun _ _ _ h => h
  case hw6 => rfl
  case hy6 => (intro w hSw; (try dsimp only at hSw); go_simp; (try with_reducible rfl))
  simp only [Act.put, List.setIfInBounds_toArray, List.set_cons_zero, List.set_cons_succ]
  refine wpAnyH_ready (rs := [6]) (by kernel_rfl) (by simp) ?_
  refine AllReadyH.cons (o := ?o7) ?hi7 (fun K hK => ?_) AllReadyH.nil
  case hi7 => (simp only [List.getElem?_toArray, List.getElem?_cons_succ, List.getElem?_cons_zero]; rfl)
  go_simp
  (go_at_call 38; refine (unhide CS).mono ?_; rintro r w5 ⟨rfl, h5, f5⟩; have S5 : Ft (fun k => k = l.c) w w5 := S0.trans f5; have H5 := hide (And.intro h5 S5); clear h5 f5); go_wp2_with fail
  refine hK.out _ _ ?_ (fun hHeld => ?_)
  · (first | assumption)
  clear hK K
  refine wpAnyH_take (i := 7) (oi := ?o8) (v := ?v8) ?hi8 (by kernel_rfl) (by kernel_rfl) (by kernel_rfl) ?hQ8 (Or.inl ⟨?hw8, ?hy8⟩) (by assumption) ?_
  case hi8 => (simp only [List.getElem?_toArray, List.getElem?_cons_succ, List.getElem?_cons_zero]; rfl)
  case hQ8 => exact fun _ _ _ h => h
  case hw8 => rfl
  case hy8 => (intro w hSw; (try dsimp only at hSw); go_simp; (try with_reducible rfl))
  simp only [Act.put, List.setIfInBounds_toArray, List.set_cons_zero, List.set_cons_succ]
  refine wpAnyH_done (by kernel_rfl) ?_ _
  go_wp2_with fail
  go_ret
  exact ⟨rfl, (unhide H5).1, (unhide H5).2.mono fun x hx => ⟨_, hx ▸ unhide HO⟩⟩
/-- What a step answers, and what is behind it. -/
def DoP (w : World) (l : Loc) (o : List Frd × Int × En) (r : Ending) (w' : World) : Prop := ∃ v, r = .returned (.tuple #[v, .int .i64 o.2.1]) ∧ Rg rfd w' w.heap.size v o.1 ∧ ∃ l', Es w' l' o.2.2 ∧ Lx w l l' 64 ∧ Ft (efoot l) w w' ∧ ∀ x, v.ownBlock = some x → ¬ efoot l' x
theorem DoP.up {w w2 w' : World} {l : Loc} {o : List Frd × Int × En} {r : Ending} (hb : Below w.heap.size w w2) (h : DoP w2 l o r w') : DoP w l o r w' := by
  obtain ⟨v, h1, h2, l', h3, h4, h5, h6⟩ := h
  exact ⟨v, h1, h2.mono hb.size, l', h3, ⟨h4.g, h4.r, h4.cap, h4.c, h4.b, h4.d, h4.m, fun k hk => (h4.foot k hk).imp id (fun z => Nat.le_trans hb.size z), h4.more⟩, (Ft.of_below _ hb).trans h5, h6⟩
set_option maxRecDepth 20000 in
set_option maxHeartbeats 2000000 in
theorem do_start (h : Es w l e) (hok : EnOk e) (cpu N : Int) (t : Tmr) (hN : isI N) (ht : okT t) (hm : l.m + 400 < 1000000) (hz : e.z.n ≤ 900) : Calls Tryz.prog 14 #[.pointer (some ⟨l.g, 0, none⟩), stv ⟨1, cpu, N, t⟩] w (DoP w l ([], e.start cpu t)) := by
  obtain ⟨b0, hb0⟩ : ∃ b, w.heap.size = b := ⟨_, rfl⟩
  obtain ⟨W1, hW1⟩ : ∃ W1, W1 = w.alloc (.cells #[.pointer (some ⟨l.g, 0, none⟩)] 24) := ⟨_, rfl⟩
  obtain ⟨W2, hW2⟩ : ∃ W2, W2 = W1.alloc (.cells (stc ⟨1, cpu, N, t⟩) 37) := ⟨_, rfl⟩
  have s1 : W1.heap.size = b0 + 1 := by rw [hW1, ← hb0]; simp
  have b1 : Below w.heap.size w W1 := by rw [hW1]; exact one_below _ _
  have b2 : Below W1.heap.size W1 W2 := by rw [hW2]; exact one_below _ _
  have k1 : Blk W1 b0 24 #[.pointer (some ⟨l.g, 0, none⟩)] := by rw [hW1]; exact Blk.new_at _ _ _ hb0.symm
  have k1b := k1.below b2 k1.lt
  have k2 : Blk W2 (b0 + 1) 37 (stc ⟨1, cpu, N, t⟩) := by rw [hW2]; exact Blk.new_at _ _ _ s1.symm
  have B2 : Below w.heap.size w W2 := b1.trans (b2.mono b1.size)
  have h2 := h.below B2
  have z0 : W2.cell? ⟨b0, 0, none⟩ = some (.pointer (some ⟨l.g, 0, none⟩)) := blkAt k1b 0 _ rfl
  have y0 : W2.cell? ⟨b0 + 1, 0, none⟩ = some (.int .i64 1) := blkAt k2 0 _ rfl
  have y1 : W2.cell? ⟨b0 + 1, 1, none⟩ = some (.int .i64 cpu) := blkAt k2 1 _ rfl
  have y2 : W2.cell? ⟨b0 + 1, 2, none⟩ = some (.int .i64 N) := blkAt k2 2 _ rfl
  have y3 : W2.cell? ⟨b0 + 1, 3, none⟩ = some (.int .i64 t.id) := blkAt k2 3 _ rfl
  have y4 : W2.cell? ⟨b0 + 1, 4, none⟩ = some (.int .i64 t.clock) := blkAt k2 4 _ rfl
  have y5 : W2.cell? ⟨b0 + 1, 5, none⟩ = some (.int .i64 t.soft) := blkAt k2 5 _ rfl
  have y6 : W2.cell? ⟨b0 + 1, 6, none⟩ = some (.int .i64 t.hard) := blkAt k2 6 _ rfl
  have y7 : W2.cell? ⟨b0 + 1, 7, none⟩ = some (.bool t.lazy) := blkAt k2 7 _ rfl
  have nf : ¬ efoot l b0 ∧ ¬ efoot l (b0 + 1) := ⟨fun q => by have := h.lt _ q; omega, fun q => by have := h.lt _ q; omega⟩
  rw [hW1] at hW2
  have HW2 := hide hW2
  have HUP := hide (fun r w' (q : DoP W2 l ([], e.start cpu t) r w') => q.up B2)
  have ho := hok.onl
  have HLT := hide (fun k (hk : efoot l k) => h2.lt k hk)
  have HC : Hid (Calls Tryz.prog 30 #[.pointer (some ⟨l.g, 0, none⟩), .int .i64 cpu, tv t] W2 (fun r w' => r = .returned (.int .i64 (e.start cpu t).1) ∧ ∃ l', Es w' l' (e.start cpu t).2 ∧ Lx W2 l l' 64 ∧ Ft (efoot l) W2 w')) := hide ((start_any15 h2 ho cpu (by omega) t ht).mono fun r w' q => ⟨q.1, by obtain ⟨l', a, b, c⟩ := q.2; exact ⟨l', a, b.mono (by omega), c⟩⟩)
  clear h hok ho hN ht hm hz hW1 hW2 b1 b2 k1 k1b k2 B2 h2 nf s1 
  obtain ⟨i1, i2, i3, i4, i5⟩ := t
  unfold stv
  unfold stc at HW2 ⊢
  simp only at HW2 y3 y4 y5 y6 y7 HC ⊢
  unfold tv at HC
  refine Calls.mono ?_ (unhide HUP)
  clear HUP
  obtain ⟨O, hO⟩ : ∃ O, e.start cpu ⟨i1, i2, i3, i4, i5⟩ = O := ⟨_, rfl⟩
  rw [hO] at HC
  rw [hO]
  clear hO
  go_enter Tryz.func14, Tryz.ntmps14
  go_upto_region 1 with fail
  rw [← unhide HW2]
  clear HW2
  go_wp2_with (go_at_call 30; refine Hid.out ?_)
  refine hide ?_
  refine (unhide HC).mono ?_
  rintro r w3 ⟨rfl, l3, h3, x3, f3⟩
  have H3 := hide (And.intro h3 (And.intro x3 f3))
  clear h3 x3 f3 HC
  go_wp2_with fail
  go_ret2
  exact ⟨_, rfl, Rg.nil _ _, l3, (unhide H3).1, (unhide H3).2.1, (unhide H3).2.2, fun x hx => by cases hx⟩
set_option maxRecDepth 20000 in
set_option maxHeartbeats 2000000 in
theorem do_cancel (h : Es w l e) (hok : EnOk e) (cpu N : Int) (t : Tmr) (hN : isI N) (ht : okT t) (hm : l.m + 400 < 1000000) (hz : e.z.n ≤ 900) : Calls Tryz.prog 14 #[.pointer (some ⟨l.g, 0, none⟩), stv ⟨2, cpu, N, t⟩] w (DoP w l ([], e.cancel N)) := by
  obtain ⟨b0, hb0⟩ : ∃ b, w.heap.size = b := ⟨_, rfl⟩
  obtain ⟨W1, hW1⟩ : ∃ W1, W1 = w.alloc (.cells #[.pointer (some ⟨l.g, 0, none⟩)] 24) := ⟨_, rfl⟩
  obtain ⟨W2, hW2⟩ : ∃ W2, W2 = W1.alloc (.cells (stc ⟨2, cpu, N, t⟩) 37) := ⟨_, rfl⟩
  have s1 : W1.heap.size = b0 + 1 := by rw [hW1, ← hb0]; simp
  have b1 : Below w.heap.size w W1 := by rw [hW1]; exact one_below _ _
  have b2 : Below W1.heap.size W1 W2 := by rw [hW2]; exact one_below _ _
  have k1 : Blk W1 b0 24 #[.pointer (some ⟨l.g, 0, none⟩)] := by rw [hW1]; exact Blk.new_at _ _ _ hb0.symm
  have k1b := k1.below b2 k1.lt
  have k2 : Blk W2 (b0 + 1) 37 (stc ⟨2, cpu, N, t⟩) := by rw [hW2]; exact Blk.new_at _ _ _ s1.symm
  have B2 : Below w.heap.size w W2 := b1.trans (b2.mono b1.size)
  have h2 := h.below B2
  have z0 : W2.cell? ⟨b0, 0, none⟩ = some (.pointer (some ⟨l.g, 0, none⟩)) := blkAt k1b 0 _ rfl
  have y0 : W2.cell? ⟨b0 + 1, 0, none⟩ = some (.int .i64 2) := blkAt k2 0 _ rfl
  have y1 : W2.cell? ⟨b0 + 1, 1, none⟩ = some (.int .i64 cpu) := blkAt k2 1 _ rfl
  have y2 : W2.cell? ⟨b0 + 1, 2, none⟩ = some (.int .i64 N) := blkAt k2 2 _ rfl
  have y3 : W2.cell? ⟨b0 + 1, 3, none⟩ = some (.int .i64 t.id) := blkAt k2 3 _ rfl
  have y4 : W2.cell? ⟨b0 + 1, 4, none⟩ = some (.int .i64 t.clock) := blkAt k2 4 _ rfl
  have y5 : W2.cell? ⟨b0 + 1, 5, none⟩ = some (.int .i64 t.soft) := blkAt k2 5 _ rfl
  have y6 : W2.cell? ⟨b0 + 1, 6, none⟩ = some (.int .i64 t.hard) := blkAt k2 6 _ rfl
  have y7 : W2.cell? ⟨b0 + 1, 7, none⟩ = some (.bool t.lazy) := blkAt k2 7 _ rfl
  have nf : ¬ efoot l b0 ∧ ¬ efoot l (b0 + 1) := ⟨fun q => by have := h.lt _ q; omega, fun q => by have := h.lt _ q; omega⟩
  rw [hW1] at hW2
  have HW2 := hide hW2
  have HUP := hide (fun r w' (q : DoP W2 l ([], e.cancel N) r w') => q.up B2)
  have ho := hok.onl
  have HLT := hide (fun k (hk : efoot l k) => h2.lt k hk)
  have HC : Hid (Calls Tryz.prog 31 #[.pointer (some ⟨l.g, 0, none⟩), .int .i64 N] W2 (fun r w' => r = .returned (.int .i64 (e.cancel N).1) ∧ ∃ l', Es w' l' (e.cancel N).2 ∧ Lx W2 l l' 64 ∧ Ft (efoot l) W2 w')) := hide ((cancel_any15 h2 N hN).mono fun r w' q => ⟨q.1, l, q.2.1, Lx.refl _ _ _, q.2.2⟩)
  clear h hok ho hN ht hm hz hW1 hW2 b1 b2 k1 k1b k2 B2 h2 nf s1 
  obtain ⟨i1, i2, i3, i4, i5⟩ := t
  unfold stv
  unfold stc at HW2 ⊢
  simp only at HW2 y3 y4 y5 y6 y7 HC ⊢
  refine Calls.mono ?_ (unhide HUP)
  clear HUP
  obtain ⟨O, hO⟩ : ∃ O, e.cancel N = O := ⟨_, rfl⟩
  rw [hO] at HC
  rw [hO]
  clear hO
  go_enter Tryz.func14, Tryz.ntmps14
  go_upto_region 1 with fail
  rw [← unhide HW2]
  clear HW2
  go_wp2_with (go_at_call 31; refine Hid.out ?_)
  refine hide ?_
  refine (unhide HC).mono ?_
  rintro r w3 ⟨rfl, l3, h3, x3, f3⟩
  have H3 := hide (And.intro h3 (And.intro x3 f3))
  clear h3 x3 f3 HC
  go_wp2_with fail
  go_ret2
  exact ⟨_, rfl, Rg.nil _ _, l3, (unhide H3).1, (unhide H3).2.1, (unhide H3).2.2, fun x hx => by cases hx⟩
set_option maxRecDepth 20000 in
set_option maxHeartbeats 2000000 in
theorem do_adv (h : Es w l e) (hok : EnOk e) (cpu N : Int) (t : Tmr) (hN : isI N) (ht : okT t) (hm : l.m + 400 < 1000000) (hz : e.z.n ≤ 900) : Calls Tryz.prog 14 #[.pointer (some ⟨l.g, 0, none⟩), stv ⟨3, cpu, N, t⟩] w (DoP w l ([], e.adv N)) := by
  obtain ⟨b0, hb0⟩ : ∃ b, w.heap.size = b := ⟨_, rfl⟩
  obtain ⟨W1, hW1⟩ : ∃ W1, W1 = w.alloc (.cells #[.pointer (some ⟨l.g, 0, none⟩)] 24) := ⟨_, rfl⟩
  obtain ⟨W2, hW2⟩ : ∃ W2, W2 = W1.alloc (.cells (stc ⟨3, cpu, N, t⟩) 37) := ⟨_, rfl⟩
  have s1 : W1.heap.size = b0 + 1 := by rw [hW1, ← hb0]; simp
  have b1 : Below w.heap.size w W1 := by rw [hW1]; exact one_below _ _
  have b2 : Below W1.heap.size W1 W2 := by rw [hW2]; exact one_below _ _
  have k1 : Blk W1 b0 24 #[.pointer (some ⟨l.g, 0, none⟩)] := by rw [hW1]; exact Blk.new_at _ _ _ hb0.symm
  have k1b := k1.below b2 k1.lt
  have k2 : Blk W2 (b0 + 1) 37 (stc ⟨3, cpu, N, t⟩) := by rw [hW2]; exact Blk.new_at _ _ _ s1.symm
  have B2 : Below w.heap.size w W2 := b1.trans (b2.mono b1.size)
  have h2 := h.below B2
  have z0 : W2.cell? ⟨b0, 0, none⟩ = some (.pointer (some ⟨l.g, 0, none⟩)) := blkAt k1b 0 _ rfl
  have y0 : W2.cell? ⟨b0 + 1, 0, none⟩ = some (.int .i64 3) := blkAt k2 0 _ rfl
  have y1 : W2.cell? ⟨b0 + 1, 1, none⟩ = some (.int .i64 cpu) := blkAt k2 1 _ rfl
  have y2 : W2.cell? ⟨b0 + 1, 2, none⟩ = some (.int .i64 N) := blkAt k2 2 _ rfl
  have y3 : W2.cell? ⟨b0 + 1, 3, none⟩ = some (.int .i64 t.id) := blkAt k2 3 _ rfl
  have y4 : W2.cell? ⟨b0 + 1, 4, none⟩ = some (.int .i64 t.clock) := blkAt k2 4 _ rfl
  have y5 : W2.cell? ⟨b0 + 1, 5, none⟩ = some (.int .i64 t.soft) := blkAt k2 5 _ rfl
  have y6 : W2.cell? ⟨b0 + 1, 6, none⟩ = some (.int .i64 t.hard) := blkAt k2 6 _ rfl
  have y7 : W2.cell? ⟨b0 + 1, 7, none⟩ = some (.bool t.lazy) := blkAt k2 7 _ rfl
  have nf : ¬ efoot l b0 ∧ ¬ efoot l (b0 + 1) := ⟨fun q => by have := h.lt _ q; omega, fun q => by have := h.lt _ q; omega⟩
  rw [hW1] at hW2
  have HW2 := hide hW2
  have HUP := hide (fun r w' (q : DoP W2 l ([], e.adv N) r w') => q.up B2)
  have ho := hok.onl
  have HLT := hide (fun k (hk : efoot l k) => h2.lt k hk)
  have HC : Hid (Calls Tryz.prog 32 #[.pointer (some ⟨l.g, 0, none⟩), .int .i64 N] W2 (fun r w' => r = .returned (.int .i64 (e.adv N).1) ∧ ∃ l', Es w' l' (e.adv N).2 ∧ Lx W2 l l' 64 ∧ Ft (efoot l) W2 w')) := hide ((advance_any h2 ho N).mono fun r w' q => ⟨q.1, l, q.2.1, Lx.refl _ _ _, q.2.2⟩)
  clear h hok ho hN ht hm hz hW1 hW2 b1 b2 k1 k1b k2 B2 h2 nf s1 
  obtain ⟨i1, i2, i3, i4, i5⟩ := t
  unfold stv
  unfold stc at HW2 ⊢
  simp only at HW2 y3 y4 y5 y6 y7 HC ⊢
  refine Calls.mono ?_ (unhide HUP)
  clear HUP
  obtain ⟨O, hO⟩ : ∃ O, e.adv N = O := ⟨_, rfl⟩
  rw [hO] at HC
  rw [hO]
  clear hO
  go_enter Tryz.func14, Tryz.ntmps14
  go_upto_region 1 with fail
  rw [← unhide HW2]
  clear HW2
  go_wp2_with (go_at_call 32; refine Hid.out ?_)
  refine hide ?_
  refine (unhide HC).mono ?_
  rintro r w3 ⟨rfl, l3, h3, x3, f3⟩
  have H3 := hide (And.intro h3 (And.intro x3 f3))
  clear h3 x3 f3 HC
  go_wp2_with fail
  go_ret2
  exact ⟨_, rfl, Rg.nil _ _, l3, (unhide H3).1, (unhide H3).2.1, (unhide H3).2.2, fun x hx => by cases hx⟩
set_option maxRecDepth 20000 in
set_option maxHeartbeats 2000000 in
theorem do_irq (h : Es w l e) (hok : EnOk e) (cpu N : Int) (t : Tmr) (hN : isI N) (ht : okT t) (hm : l.m + 400 < 1000000) (hz : e.z.n ≤ 900) : Calls Tryz.prog 14 #[.pointer (some ⟨l.g, 0, none⟩), stv ⟨4, cpu, N, t⟩] w (DoP w l (e.doIrq cpu)) := by
  obtain ⟨b0, hb0⟩ : ∃ b, w.heap.size = b := ⟨_, rfl⟩
  obtain ⟨W1, hW1⟩ : ∃ W1, W1 = w.alloc (.cells #[.pointer (some ⟨l.g, 0, none⟩)] 24) := ⟨_, rfl⟩
  obtain ⟨W2, hW2⟩ : ∃ W2, W2 = W1.alloc (.cells (stc ⟨4, cpu, N, t⟩) 37) := ⟨_, rfl⟩
  have s1 : W1.heap.size = b0 + 1 := by rw [hW1, ← hb0]; simp
  have b1 : Below w.heap.size w W1 := by rw [hW1]; exact one_below _ _
  have b2 : Below W1.heap.size W1 W2 := by rw [hW2]; exact one_below _ _
  have k1 : Blk W1 b0 24 #[.pointer (some ⟨l.g, 0, none⟩)] := by rw [hW1]; exact Blk.new_at _ _ _ hb0.symm
  have k1b := k1.below b2 k1.lt
  have k2 : Blk W2 (b0 + 1) 37 (stc ⟨4, cpu, N, t⟩) := by rw [hW2]; exact Blk.new_at _ _ _ s1.symm
  have B2 : Below w.heap.size w W2 := b1.trans (b2.mono b1.size)
  have h2 := h.below B2
  have z0 : W2.cell? ⟨b0, 0, none⟩ = some (.pointer (some ⟨l.g, 0, none⟩)) := blkAt k1b 0 _ rfl
  have y0 : W2.cell? ⟨b0 + 1, 0, none⟩ = some (.int .i64 4) := blkAt k2 0 _ rfl
  have y1 : W2.cell? ⟨b0 + 1, 1, none⟩ = some (.int .i64 cpu) := blkAt k2 1 _ rfl
  have y2 : W2.cell? ⟨b0 + 1, 2, none⟩ = some (.int .i64 N) := blkAt k2 2 _ rfl
  have y3 : W2.cell? ⟨b0 + 1, 3, none⟩ = some (.int .i64 t.id) := blkAt k2 3 _ rfl
  have y4 : W2.cell? ⟨b0 + 1, 4, none⟩ = some (.int .i64 t.clock) := blkAt k2 4 _ rfl
  have y5 : W2.cell? ⟨b0 + 1, 5, none⟩ = some (.int .i64 t.soft) := blkAt k2 5 _ rfl
  have y6 : W2.cell? ⟨b0 + 1, 6, none⟩ = some (.int .i64 t.hard) := blkAt k2 6 _ rfl
  have y7 : W2.cell? ⟨b0 + 1, 7, none⟩ = some (.bool t.lazy) := blkAt k2 7 _ rfl
  have nf : ¬ efoot l b0 ∧ ¬ efoot l (b0 + 1) := ⟨fun q => by have := h.lt _ q; omega, fun q => by have := h.lt _ q; omega⟩
  rw [hW1] at hW2
  have HW2 := hide hW2
  have HUP := hide (fun r w' (q : DoP W2 l (e.doIrq cpu) r w') => q.up B2)
  have ho := hok.onl
  have HLT := hide (fun k (hk : efoot l k) => h2.lt k hk)
  have HC := hide (irq_any h2 ho cpu)
  clear h hok ho hN ht hm hz hW1 hW2 b1 b2 k1 k1b k2 B2 h2 nf s1 
  obtain ⟨i1, i2, i3, i4, i5⟩ := t
  unfold stv
  unfold stc at HW2 ⊢
  simp only at HW2 y3 y4 y5 y6 y7 HC ⊢
  refine Calls.mono ?_ (unhide HUP)
  clear HUP
  obtain ⟨O, hO⟩ : ∃ O, e.doIrq cpu = O := ⟨_, rfl⟩
  rw [hO] at HC
  rw [hO]
  clear hO
  go_enter Tryz.func14, Tryz.ntmps14
  go_upto_region 1 with fail
  rw [← unhide HW2]
  clear HW2
  go_wp2_with (go_at_call 33; refine Hid.out ?_)
  refine hide ?_
  refine (unhide HC).mono ?_
  rintro r w3 ⟨v3, rfl, row3, h3, f3⟩
  obtain ⟨ra, rcap, hf, -⟩ := row3.form
  obtain ⟨n3, hn3⟩ : ∃ n, O.1.length = n := ⟨_, rfl⟩
  rw [hn3] at hf
  subst hf
  have H3 := hide (And.intro row3 (And.intro h3 f3))
  clear row3 h3 f3 HC
  go_wp2_with fail
  go_ret2
  exact ⟨_, rfl, (unhide H3).1, l, (unhide H3).2.1, Lx.refl _ _ _, (unhide H3).2.2, fun x hx hk => by have h1 := (unhide H3).1.lt x hx; have h2 := unhide HLT x hk; omega⟩
set_option maxRecDepth 20000 in
set_option maxHeartbeats 2000000 in
theorem do_soft (h : Es w l e) (hok : EnOk e) (cpu N : Int) (t : Tmr) (hN : isI N) (ht : okT t) (hm : l.m + 400 < 1000000) (hz : e.z.n ≤ 900) : Calls Tryz.prog 14 #[.pointer (some ⟨l.g, 0, none⟩), stv ⟨5, cpu, N, t⟩] w (DoP w l (e.doSoft cpu)) := by
  obtain ⟨b0, hb0⟩ : ∃ b, w.heap.size = b := ⟨_, rfl⟩
  obtain ⟨W1, hW1⟩ : ∃ W1, W1 = w.alloc (.cells #[.pointer (some ⟨l.g, 0, none⟩)] 24) := ⟨_, rfl⟩
  obtain ⟨W2, hW2⟩ : ∃ W2, W2 = W1.alloc (.cells (stc ⟨5, cpu, N, t⟩) 37) := ⟨_, rfl⟩
  have s1 : W1.heap.size = b0 + 1 := by rw [hW1, ← hb0]; simp
  have b1 : Below w.heap.size w W1 := by rw [hW1]; exact one_below _ _
  have b2 : Below W1.heap.size W1 W2 := by rw [hW2]; exact one_below _ _
  have k1 : Blk W1 b0 24 #[.pointer (some ⟨l.g, 0, none⟩)] := by rw [hW1]; exact Blk.new_at _ _ _ hb0.symm
  have k1b := k1.below b2 k1.lt
  have k2 : Blk W2 (b0 + 1) 37 (stc ⟨5, cpu, N, t⟩) := by rw [hW2]; exact Blk.new_at _ _ _ s1.symm
  have B2 : Below w.heap.size w W2 := b1.trans (b2.mono b1.size)
  have h2 := h.below B2
  have z0 : W2.cell? ⟨b0, 0, none⟩ = some (.pointer (some ⟨l.g, 0, none⟩)) := blkAt k1b 0 _ rfl
  have y0 : W2.cell? ⟨b0 + 1, 0, none⟩ = some (.int .i64 5) := blkAt k2 0 _ rfl
  have y1 : W2.cell? ⟨b0 + 1, 1, none⟩ = some (.int .i64 cpu) := blkAt k2 1 _ rfl
  have y2 : W2.cell? ⟨b0 + 1, 2, none⟩ = some (.int .i64 N) := blkAt k2 2 _ rfl
  have y3 : W2.cell? ⟨b0 + 1, 3, none⟩ = some (.int .i64 t.id) := blkAt k2 3 _ rfl
  have y4 : W2.cell? ⟨b0 + 1, 4, none⟩ = some (.int .i64 t.clock) := blkAt k2 4 _ rfl
  have y5 : W2.cell? ⟨b0 + 1, 5, none⟩ = some (.int .i64 t.soft) := blkAt k2 5 _ rfl
  have y6 : W2.cell? ⟨b0 + 1, 6, none⟩ = some (.int .i64 t.hard) := blkAt k2 6 _ rfl
  have y7 : W2.cell? ⟨b0 + 1, 7, none⟩ = some (.bool t.lazy) := blkAt k2 7 _ rfl
  have nf : ¬ efoot l b0 ∧ ¬ efoot l (b0 + 1) := ⟨fun q => by have := h.lt _ q; omega, fun q => by have := h.lt _ q; omega⟩
  rw [hW1] at hW2
  have HW2 := hide hW2
  have HUP := hide (fun r w' (q : DoP W2 l (e.doSoft cpu) r w') => q.up B2)
  have ho := hok.onl
  have HLT := hide (fun k (hk : efoot l k) => h2.lt k hk)
  have HC := hide (soft_any h2 ho cpu)
  clear h hok ho hN ht hm hz hW1 hW2 b1 b2 k1 k1b k2 B2 h2 nf s1 
  obtain ⟨i1, i2, i3, i4, i5⟩ := t
  unfold stv
  unfold stc at HW2 ⊢
  simp only at HW2 y3 y4 y5 y6 y7 HC ⊢
  refine Calls.mono ?_ (unhide HUP)
  clear HUP
  obtain ⟨O, hO⟩ : ∃ O, e.doSoft cpu = O := ⟨_, rfl⟩
  rw [hO] at HC
  rw [hO]
  clear hO
  go_enter Tryz.func14, Tryz.ntmps14
  go_upto_region 1 with fail
  rw [← unhide HW2]
  clear HW2
  go_wp2_with (go_at_call 34; refine Hid.out ?_)
  refine hide ?_
  refine (unhide HC).mono ?_
  rintro r w3 ⟨v3, rfl, row3, h3, f3⟩
  obtain ⟨ra, rcap, hf, -⟩ := row3.form
  obtain ⟨n3, hn3⟩ : ∃ n, O.1.length = n := ⟨_, rfl⟩
  rw [hn3] at hf
  subst hf
  have H3 := hide (And.intro row3 (And.intro h3 f3))
  clear row3 h3 f3 HC
  go_wp2_with fail
  go_ret2
  exact ⟨_, rfl, (unhide H3).1, l, (unhide H3).2.1, Lx.refl _ _ _, (unhide H3).2.2, fun x hx hk => by have h1 := (unhide H3).1.lt x hx; have h2 := unhide HLT x hk; omega⟩
set_option maxRecDepth 20000 in
set_option maxHeartbeats 2000000 in
theorem do_kick (h : Es w l e) (hok : EnOk e) (cpu N : Int) (t : Tmr) (hN : isI N) (ht : okT t) (hm : l.m + 400 < 1000000) (hz : e.z.n ≤ 900) : Calls Tryz.prog 14 #[.pointer (some ⟨l.g, 0, none⟩), stv ⟨6, cpu, N, t⟩] w (DoP w l (e.doKick cpu)) := by
  obtain ⟨b0, hb0⟩ : ∃ b, w.heap.size = b := ⟨_, rfl⟩
  obtain ⟨W1, hW1⟩ : ∃ W1, W1 = w.alloc (.cells #[.pointer (some ⟨l.g, 0, none⟩)] 24) := ⟨_, rfl⟩
  obtain ⟨W2, hW2⟩ : ∃ W2, W2 = W1.alloc (.cells (stc ⟨6, cpu, N, t⟩) 37) := ⟨_, rfl⟩
  have s1 : W1.heap.size = b0 + 1 := by rw [hW1, ← hb0]; simp
  have b1 : Below w.heap.size w W1 := by rw [hW1]; exact one_below _ _
  have b2 : Below W1.heap.size W1 W2 := by rw [hW2]; exact one_below _ _
  have k1 : Blk W1 b0 24 #[.pointer (some ⟨l.g, 0, none⟩)] := by rw [hW1]; exact Blk.new_at _ _ _ hb0.symm
  have k1b := k1.below b2 k1.lt
  have k2 : Blk W2 (b0 + 1) 37 (stc ⟨6, cpu, N, t⟩) := by rw [hW2]; exact Blk.new_at _ _ _ s1.symm
  have B2 : Below w.heap.size w W2 := b1.trans (b2.mono b1.size)
  have h2 := h.below B2
  have z0 : W2.cell? ⟨b0, 0, none⟩ = some (.pointer (some ⟨l.g, 0, none⟩)) := blkAt k1b 0 _ rfl
  have y0 : W2.cell? ⟨b0 + 1, 0, none⟩ = some (.int .i64 6) := blkAt k2 0 _ rfl
  have y1 : W2.cell? ⟨b0 + 1, 1, none⟩ = some (.int .i64 cpu) := blkAt k2 1 _ rfl
  have y2 : W2.cell? ⟨b0 + 1, 2, none⟩ = some (.int .i64 N) := blkAt k2 2 _ rfl
  have y3 : W2.cell? ⟨b0 + 1, 3, none⟩ = some (.int .i64 t.id) := blkAt k2 3 _ rfl
  have y4 : W2.cell? ⟨b0 + 1, 4, none⟩ = some (.int .i64 t.clock) := blkAt k2 4 _ rfl
  have y5 : W2.cell? ⟨b0 + 1, 5, none⟩ = some (.int .i64 t.soft) := blkAt k2 5 _ rfl
  have y6 : W2.cell? ⟨b0 + 1, 6, none⟩ = some (.int .i64 t.hard) := blkAt k2 6 _ rfl
  have y7 : W2.cell? ⟨b0 + 1, 7, none⟩ = some (.bool t.lazy) := blkAt k2 7 _ rfl
  have nf : ¬ efoot l b0 ∧ ¬ efoot l (b0 + 1) := ⟨fun q => by have := h.lt _ q; omega, fun q => by have := h.lt _ q; omega⟩
  rw [hW1] at hW2
  have HW2 := hide hW2
  have HUP := hide (fun r w' (q : DoP W2 l (e.doKick cpu) r w') => q.up B2)
  have ho := hok.onl
  have HLT := hide (fun k (hk : efoot l k) => h2.lt k hk)
  have HC := hide (kick_any h2 ho cpu)
  clear h hok ho hN ht hm hz hW1 hW2 b1 b2 k1 k1b k2 B2 h2 nf s1 
  obtain ⟨i1, i2, i3, i4, i5⟩ := t
  unfold stv
  unfold stc at HW2 ⊢
  simp only at HW2 y3 y4 y5 y6 y7 HC ⊢
  refine Calls.mono ?_ (unhide HUP)
  clear HUP
  obtain ⟨O, hO⟩ : ∃ O, e.doKick cpu = O := ⟨_, rfl⟩
  rw [hO] at HC
  rw [hO]
  clear hO
  go_enter Tryz.func14, Tryz.ntmps14
  go_upto_region 1 with fail
  rw [← unhide HW2]
  clear HW2
  go_wp2_with (go_at_call 35; refine Hid.out ?_)
  refine hide ?_
  refine (unhide HC).mono ?_
  rintro r w3 ⟨v3, rfl, row3, h3, f3⟩
  obtain ⟨ra, rcap, hf, -⟩ := row3.form
  obtain ⟨n3, hn3⟩ : ∃ n, O.1.length = n := ⟨_, rfl⟩
  rw [hn3] at hf
  subst hf
  have H3 := hide (And.intro row3 (And.intro h3 f3))
  clear row3 h3 f3 HC
  go_wp2_with fail
  go_ret2
  exact ⟨_, rfl, (unhide H3).1, l, (unhide H3).2.1, Lx.refl _ _ _, (unhide H3).2.2, fun x hx hk => by have h1 := (unhide H3).1.lt x hx; have h2 := unhide HLT x hk; omega⟩
set_option maxRecDepth 20000 in
set_option maxHeartbeats 2000000 in
theorem do_leave (h : Es w l e) (hok : EnOk e) (cpu N : Int) (t : Tmr) (hN : isI N) (ht : okT t) (hm : l.m + 400 < 1000000) (hz : e.z.n ≤ 900) : Calls Tryz.prog 14 #[.pointer (some ⟨l.g, 0, none⟩), stv ⟨10, cpu, N, t⟩] w (DoP w l ([], e.leave cpu)) := by
  obtain ⟨b0, hb0⟩ : ∃ b, w.heap.size = b := ⟨_, rfl⟩
  obtain ⟨W1, hW1⟩ : ∃ W1, W1 = w.alloc (.cells #[.pointer (some ⟨l.g, 0, none⟩)] 24) := ⟨_, rfl⟩
  obtain ⟨W2, hW2⟩ : ∃ W2, W2 = W1.alloc (.cells (stc ⟨10, cpu, N, t⟩) 37) := ⟨_, rfl⟩
  have s1 : W1.heap.size = b0 + 1 := by rw [hW1, ← hb0]; simp
  have b1 : Below w.heap.size w W1 := by rw [hW1]; exact one_below _ _
  have b2 : Below W1.heap.size W1 W2 := by rw [hW2]; exact one_below _ _
  have k1 : Blk W1 b0 24 #[.pointer (some ⟨l.g, 0, none⟩)] := by rw [hW1]; exact Blk.new_at _ _ _ hb0.symm
  have k1b := k1.below b2 k1.lt
  have k2 : Blk W2 (b0 + 1) 37 (stc ⟨10, cpu, N, t⟩) := by rw [hW2]; exact Blk.new_at _ _ _ s1.symm
  have B2 : Below w.heap.size w W2 := b1.trans (b2.mono b1.size)
  have h2 := h.below B2
  have z0 : W2.cell? ⟨b0, 0, none⟩ = some (.pointer (some ⟨l.g, 0, none⟩)) := blkAt k1b 0 _ rfl
  have y0 : W2.cell? ⟨b0 + 1, 0, none⟩ = some (.int .i64 10) := blkAt k2 0 _ rfl
  have y1 : W2.cell? ⟨b0 + 1, 1, none⟩ = some (.int .i64 cpu) := blkAt k2 1 _ rfl
  have y2 : W2.cell? ⟨b0 + 1, 2, none⟩ = some (.int .i64 N) := blkAt k2 2 _ rfl
  have y3 : W2.cell? ⟨b0 + 1, 3, none⟩ = some (.int .i64 t.id) := blkAt k2 3 _ rfl
  have y4 : W2.cell? ⟨b0 + 1, 4, none⟩ = some (.int .i64 t.clock) := blkAt k2 4 _ rfl
  have y5 : W2.cell? ⟨b0 + 1, 5, none⟩ = some (.int .i64 t.soft) := blkAt k2 5 _ rfl
  have y6 : W2.cell? ⟨b0 + 1, 6, none⟩ = some (.int .i64 t.hard) := blkAt k2 6 _ rfl
  have y7 : W2.cell? ⟨b0 + 1, 7, none⟩ = some (.bool t.lazy) := blkAt k2 7 _ rfl
  have nf : ¬ efoot l b0 ∧ ¬ efoot l (b0 + 1) := ⟨fun q => by have := h.lt _ q; omega, fun q => by have := h.lt _ q; omega⟩
  rw [hW1] at hW2
  have HW2 := hide hW2
  have HUP := hide (fun r w' (q : DoP W2 l ([], e.leave cpu) r w') => q.up B2)
  have ho := hok.onl
  have HLT := hide (fun k (hk : efoot l k) => h2.lt k hk)
  have HC := hide (leave_any h2 hok cpu hm)
  clear h hok ho hN ht hm hz hW1 hW2 b1 b2 k1 k1b k2 B2 h2 nf s1 
  obtain ⟨i1, i2, i3, i4, i5⟩ := t
  unfold stv
  unfold stc at HW2 ⊢
  simp only at HW2 y3 y4 y5 y6 y7 HC ⊢
  refine Calls.mono ?_ (unhide HUP)
  clear HUP
  obtain ⟨O, hO⟩ : ∃ O, e.leave cpu = O := ⟨_, rfl⟩
  rw [hO] at HC
  rw [hO]
  clear hO
  go_enter Tryz.func14, Tryz.ntmps14
  go_upto_region 1 with fail
  rw [← unhide HW2]
  clear HW2
  go_wp2_with (go_at_call 41; refine Hid.out ?_)
  refine hide ?_
  refine (unhide HC).mono ?_
  rintro r w3 ⟨rfl, l3, h3, x3, f3⟩
  have H3 := hide (And.intro h3 (And.intro x3 f3))
  clear h3 x3 f3 HC
  go_wp2_with fail
  go_ret2
  exact ⟨_, rfl, Rg.nil _ _, l3, (unhide H3).1, (unhide H3).2.1, (unhide H3).2.2, fun x hx => by cases hx⟩
set_option maxRecDepth 20000 in
set_option maxHeartbeats 2000000 in
theorem do_enter (h : Es w l e) (hok : EnOk e) (cpu N : Int) (t : Tmr) (hN : isI N) (ht : okT t) (hm : l.m + 400 < 1000000) (hz : e.z.n ≤ 900) : Calls Tryz.prog 14 #[.pointer (some ⟨l.g, 0, none⟩), stv ⟨11, cpu, N, t⟩] w (DoP w l ([], e.enter cpu)) := by
  obtain ⟨b0, hb0⟩ : ∃ b, w.heap.size = b := ⟨_, rfl⟩
  obtain ⟨W1, hW1⟩ : ∃ W1, W1 = w.alloc (.cells #[.pointer (some ⟨l.g, 0, none⟩)] 24) := ⟨_, rfl⟩
  obtain ⟨W2, hW2⟩ : ∃ W2, W2 = W1.alloc (.cells (stc ⟨11, cpu, N, t⟩) 37) := ⟨_, rfl⟩
  have s1 : W1.heap.size = b0 + 1 := by rw [hW1, ← hb0]; simp
  have b1 : Below w.heap.size w W1 := by rw [hW1]; exact one_below _ _
  have b2 : Below W1.heap.size W1 W2 := by rw [hW2]; exact one_below _ _
  have k1 : Blk W1 b0 24 #[.pointer (some ⟨l.g, 0, none⟩)] := by rw [hW1]; exact Blk.new_at _ _ _ hb0.symm
  have k1b := k1.below b2 k1.lt
  have k2 : Blk W2 (b0 + 1) 37 (stc ⟨11, cpu, N, t⟩) := by rw [hW2]; exact Blk.new_at _ _ _ s1.symm
  have B2 : Below w.heap.size w W2 := b1.trans (b2.mono b1.size)
  have h2 := h.below B2
  have z0 : W2.cell? ⟨b0, 0, none⟩ = some (.pointer (some ⟨l.g, 0, none⟩)) := blkAt k1b 0 _ rfl
  have y0 : W2.cell? ⟨b0 + 1, 0, none⟩ = some (.int .i64 11) := blkAt k2 0 _ rfl
  have y1 : W2.cell? ⟨b0 + 1, 1, none⟩ = some (.int .i64 cpu) := blkAt k2 1 _ rfl
  have y2 : W2.cell? ⟨b0 + 1, 2, none⟩ = some (.int .i64 N) := blkAt k2 2 _ rfl
  have y3 : W2.cell? ⟨b0 + 1, 3, none⟩ = some (.int .i64 t.id) := blkAt k2 3 _ rfl
  have y4 : W2.cell? ⟨b0 + 1, 4, none⟩ = some (.int .i64 t.clock) := blkAt k2 4 _ rfl
  have y5 : W2.cell? ⟨b0 + 1, 5, none⟩ = some (.int .i64 t.soft) := blkAt k2 5 _ rfl
  have y6 : W2.cell? ⟨b0 + 1, 6, none⟩ = some (.int .i64 t.hard) := blkAt k2 6 _ rfl
  have y7 : W2.cell? ⟨b0 + 1, 7, none⟩ = some (.bool t.lazy) := blkAt k2 7 _ rfl
  have nf : ¬ efoot l b0 ∧ ¬ efoot l (b0 + 1) := ⟨fun q => by have := h.lt _ q; omega, fun q => by have := h.lt _ q; omega⟩
  rw [hW1] at hW2
  have HW2 := hide hW2
  have HUP := hide (fun r w' (q : DoP W2 l ([], e.enter cpu) r w') => q.up B2)
  have ho := hok.onl
  have HLT := hide (fun k (hk : efoot l k) => h2.lt k hk)
  have HC : Hid (Calls Tryz.prog 42 #[.pointer (some ⟨l.g, 0, none⟩), .int .i64 cpu] W2 (fun r w' => r = .returned (.int .i64 (e.enter cpu).1) ∧ ∃ l', Es w' l' (e.enter cpu).2 ∧ Lx W2 l l' 64 ∧ Ft (efoot l) W2 w')) := hide ((enter_any h2 cpu).mono fun r w' q => ⟨q.1, l, q.2.1, Lx.refl _ _ _, q.2.2⟩)
  clear h hok ho hN ht hm hz hW1 hW2 b1 b2 k1 k1b k2 B2 h2 nf s1 
  obtain ⟨i1, i2, i3, i4, i5⟩ := t
  unfold stv
  unfold stc at HW2 ⊢
  simp only at HW2 y3 y4 y5 y6 y7 HC ⊢
  refine Calls.mono ?_ (unhide HUP)
  clear HUP
  obtain ⟨O, hO⟩ : ∃ O, e.enter cpu = O := ⟨_, rfl⟩
  rw [hO] at HC
  rw [hO]
  clear hO
  go_enter Tryz.func14, Tryz.ntmps14
  go_upto_region 1 with fail
  rw [← unhide HW2]
  clear HW2
  go_wp2_with (go_at_call 42; refine Hid.out ?_)
  refine hide ?_
  refine (unhide HC).mono ?_
  rintro r w3 ⟨rfl, l3, h3, x3, f3⟩
  have H3 := hide (And.intro h3 (And.intro x3 f3))
  clear h3 x3 f3 HC
  go_wp2_with fail
  go_ret2
  exact ⟨_, rfl, Rg.nil _ _, l3, (unhide H3).1, (unhide H3).2.1, (unhide H3).2.2, fun x hx => by cases hx⟩
set_option maxRecDepth 20000 in
set_option maxHeartbeats 2000000 in
theorem do_set (h : Es w l e) (hok : EnOk e) (cpu N : Int) (t : Tmr) (hN : isI N) (ht : okT t) (hm : l.m + 400 < 1000000) (hz : e.z.n ≤ 900) : Calls Tryz.prog 14 #[.pointer (some ⟨l.g, 0, none⟩), stv ⟨7, cpu, N, t⟩] w (DoP w l ([], e.change (actTo N e.z))) := by
  obtain ⟨b0, hb0⟩ : ∃ b, w.heap.size = b := ⟨_, rfl⟩
  obtain ⟨W1, hW1⟩ : ∃ W1, W1 = w.alloc (.cells #[.pointer (some ⟨l.g, 0, none⟩)] 24) := ⟨_, rfl⟩
  obtain ⟨W2, hW2⟩ : ∃ W2, W2 = W1.alloc (.cells (stc ⟨7, cpu, N, t⟩) 37) := ⟨_, rfl⟩
  have s1 : W1.heap.size = b0 + 1 := by rw [hW1, ← hb0]; simp
  have b1 : Below w.heap.size w W1 := by rw [hW1]; exact one_below _ _
  have b2 : Below W1.heap.size W1 W2 := by rw [hW2]; exact one_below _ _
  have k1 : Blk W1 b0 24 #[.pointer (some ⟨l.g, 0, none⟩)] := by rw [hW1]; exact Blk.new_at _ _ _ hb0.symm
  have k1b := k1.below b2 k1.lt
  have k2 : Blk W2 (b0 + 1) 37 (stc ⟨7, cpu, N, t⟩) := by rw [hW2]; exact Blk.new_at _ _ _ s1.symm
  have B2 : Below w.heap.size w W2 := b1.trans (b2.mono b1.size)
  have h2 := h.below B2
  have z0 : W2.cell? ⟨b0, 0, none⟩ = some (.pointer (some ⟨l.g, 0, none⟩)) := blkAt k1b 0 _ rfl
  have y0 : W2.cell? ⟨b0 + 1, 0, none⟩ = some (.int .i64 7) := blkAt k2 0 _ rfl
  have y1 : W2.cell? ⟨b0 + 1, 1, none⟩ = some (.int .i64 cpu) := blkAt k2 1 _ rfl
  have y2 : W2.cell? ⟨b0 + 1, 2, none⟩ = some (.int .i64 N) := blkAt k2 2 _ rfl
  have y3 : W2.cell? ⟨b0 + 1, 3, none⟩ = some (.int .i64 t.id) := blkAt k2 3 _ rfl
  have y4 : W2.cell? ⟨b0 + 1, 4, none⟩ = some (.int .i64 t.clock) := blkAt k2 4 _ rfl
  have y5 : W2.cell? ⟨b0 + 1, 5, none⟩ = some (.int .i64 t.soft) := blkAt k2 5 _ rfl
  have y6 : W2.cell? ⟨b0 + 1, 6, none⟩ = some (.int .i64 t.hard) := blkAt k2 6 _ rfl
  have y7 : W2.cell? ⟨b0 + 1, 7, none⟩ = some (.bool t.lazy) := blkAt k2 7 _ rfl
  have nf : ¬ efoot l b0 ∧ ¬ efoot l (b0 + 1) := ⟨fun q => by have := h.lt _ q; omega, fun q => by have := h.lt _ q; omega⟩
  rw [hW1] at hW2
  have HW2 := hide hW2
  have HUP := hide (fun r w' (q : DoP W2 l ([], e.change (actTo N e.z)) r w') => q.up B2)
  have ho := hok.onl
  have HLT := hide (fun k (hk : efoot l k) => h2.lt k hk)
  have HC : Hid (Calls Tryz.prog 36 #[.pointer (some ⟨l.g, 0, none⟩), .func (.func 37) #[] #[.pointer (some ⟨b0, 0, none⟩), .pointer (some ⟨b0 + 1, 0, none⟩)]] W2 (fun r w' => r = .returned (.int .i64 (e.change (actTo N e.z)).1) ∧ ∃ l', Es w' l' (e.change (actTo N e.z)).2 ∧ Lx W2 l l' 64 ∧ Ft (efoot l) W2 w')) := hide ((change_clo h2 ho 37 _ _ (actTo N e.z) (fun _ _ => by kernel_rfl) (do1_any h2 hz b0 (b0 + 1) z0 N y2 nf.1 nf.2)).mono fun r w' q => ⟨q.1, l, q.2.1, Lx.refl _ _ _, q.2.2⟩)
  clear h hok ho hN ht hm hz hW1 hW2 b1 b2 k1 k1b k2 B2 h2 nf s1 
  obtain ⟨i1, i2, i3, i4, i5⟩ := t
  unfold stv
  unfold stc at HW2 ⊢
  simp only at HW2 y3 y4 y5 y6 y7 HC ⊢
  refine Calls.mono ?_ (unhide HUP)
  clear HUP
  obtain ⟨O, hO⟩ : ∃ O, e.change (actTo N e.z) = O := ⟨_, rfl⟩
  rw [hO] at HC
  rw [hO]
  clear hO
  go_enter Tryz.func14, Tryz.ntmps14
  go_upto_region 1 with fail
  rw [← unhide HW2]
  clear HW2
  go_wp2_with (go_at_call 36; refine Hid.out ?_)
  refine hide ?_
  refine (unhide HC).mono ?_
  rintro r w3 ⟨rfl, l3, h3, x3, f3⟩
  have H3 := hide (And.intro h3 (And.intro x3 f3))
  clear h3 x3 f3 HC
  go_wp2_with fail
  go_ret2
  exact ⟨_, rfl, Rg.nil _ _, l3, (unhide H3).1, (unhide H3).2.1, (unhide H3).2.2, fun x hx => by cases hx⟩
set_option maxRecDepth 20000 in
set_option maxHeartbeats 2000000 in
theorem do_settle (h : Es w l e) (hok : EnOk e) (cpu N : Int) (t : Tmr) (hN : isI N) (ht : okT t) (hm : l.m + 400 < 1000000) (hz : e.z.n ≤ 900) : Calls Tryz.prog 14 #[.pointer (some ⟨l.g, 0, none⟩), stv ⟨12, cpu, N, t⟩] w (DoP w l (e.settle.1, 0, e.settle.2)) := by
  obtain ⟨b0, hb0⟩ : ∃ b, w.heap.size = b := ⟨_, rfl⟩
  obtain ⟨W1, hW1⟩ : ∃ W1, W1 = w.alloc (.cells #[.pointer (some ⟨l.g, 0, none⟩)] 24) := ⟨_, rfl⟩
  obtain ⟨W2, hW2⟩ : ∃ W2, W2 = W1.alloc (.cells (stc ⟨12, cpu, N, t⟩) 37) := ⟨_, rfl⟩
  have s1 : W1.heap.size = b0 + 1 := by rw [hW1, ← hb0]; simp
  have b1 : Below w.heap.size w W1 := by rw [hW1]; exact one_below _ _
  have b2 : Below W1.heap.size W1 W2 := by rw [hW2]; exact one_below _ _
  have k1 : Blk W1 b0 24 #[.pointer (some ⟨l.g, 0, none⟩)] := by rw [hW1]; exact Blk.new_at _ _ _ hb0.symm
  have k1b := k1.below b2 k1.lt
  have k2 : Blk W2 (b0 + 1) 37 (stc ⟨12, cpu, N, t⟩) := by rw [hW2]; exact Blk.new_at _ _ _ s1.symm
  have B2 : Below w.heap.size w W2 := b1.trans (b2.mono b1.size)
  have h2 := h.below B2
  have z0 : W2.cell? ⟨b0, 0, none⟩ = some (.pointer (some ⟨l.g, 0, none⟩)) := blkAt k1b 0 _ rfl
  have y0 : W2.cell? ⟨b0 + 1, 0, none⟩ = some (.int .i64 12) := blkAt k2 0 _ rfl
  have y1 : W2.cell? ⟨b0 + 1, 1, none⟩ = some (.int .i64 cpu) := blkAt k2 1 _ rfl
  have y2 : W2.cell? ⟨b0 + 1, 2, none⟩ = some (.int .i64 N) := blkAt k2 2 _ rfl
  have y3 : W2.cell? ⟨b0 + 1, 3, none⟩ = some (.int .i64 t.id) := blkAt k2 3 _ rfl
  have y4 : W2.cell? ⟨b0 + 1, 4, none⟩ = some (.int .i64 t.clock) := blkAt k2 4 _ rfl
  have y5 : W2.cell? ⟨b0 + 1, 5, none⟩ = some (.int .i64 t.soft) := blkAt k2 5 _ rfl
  have y6 : W2.cell? ⟨b0 + 1, 6, none⟩ = some (.int .i64 t.hard) := blkAt k2 6 _ rfl
  have y7 : W2.cell? ⟨b0 + 1, 7, none⟩ = some (.bool t.lazy) := blkAt k2 7 _ rfl
  have nf : ¬ efoot l b0 ∧ ¬ efoot l (b0 + 1) := ⟨fun q => by have := h.lt _ q; omega, fun q => by have := h.lt _ q; omega⟩
  rw [hW1] at hW2
  have HW2 := hide hW2
  have HUP := hide (fun r w' (q : DoP W2 l (e.settle.1, 0, e.settle.2) r w') => q.up B2)
  have ho := hok.onl
  have HLT := hide (fun k (hk : efoot l k) => h2.lt k hk)
  have HC := hide (settle_any h2 ho)
  clear h hok ho hN ht hm hz hW1 hW2 b1 b2 k1 k1b k2 B2 h2 nf s1 
  obtain ⟨i1, i2, i3, i4, i5⟩ := t
  unfold stv
  unfold stc at HW2 ⊢
  simp only at HW2 y3 y4 y5 y6 y7 HC ⊢
  refine Calls.mono ?_ (unhide HUP)
  clear HUP
  obtain ⟨O, hO⟩ : ∃ O, e.settle = O := ⟨_, rfl⟩
  rw [hO] at HC
  rw [hO]
  clear hO
  go_enter Tryz.func14, Tryz.ntmps14
  go_upto_region 1 with fail
  rw [← unhide HW2]
  clear HW2
  go_wp2_with (go_at_call 43; refine Hid.out ?_)
  refine hide ?_
  refine (unhide HC).mono ?_
  rintro r w3 ⟨v3, rfl, row3, h3, f3⟩
  obtain ⟨ra, rcap, hf, -⟩ := row3.form
  obtain ⟨n3, hn3⟩ : ∃ n, O.1.length = n := ⟨_, rfl⟩
  rw [hn3] at hf
  subst hf
  have H3 := hide (And.intro row3 (And.intro h3 f3))
  clear row3 h3 f3 HC
  go_wp2_with fail
  go_ret2
  exact ⟨_, rfl, (unhide H3).1, l, (unhide H3).2.1, Lx.refl _ _ _, (unhide H3).2.2, fun x hx hk => by have h1 := (unhide H3).1.lt x hx; have h2 := unhide HLT x hk; omega⟩
set_option maxRecDepth 20000 in
set_option maxHeartbeats 2000000 in
theorem do_susp (h : Es w l e) (hok : EnOk e) (cpu N : Int) (t : Tmr) (hN : isI N) (ht : okT t) (hm : l.m + 400 < 1000000) (hz : e.z.n ≤ 900) : Calls Tryz.prog 14 #[.pointer (some ⟨l.g, 0, none⟩), stv ⟨8, cpu, N, t⟩] w (DoP w l ([], e.change (act3 e.z))) := by
  obtain ⟨b0, hb0⟩ : ∃ b, w.heap.size = b := ⟨_, rfl⟩
  obtain ⟨W1, hW1⟩ : ∃ W1, W1 = w.alloc (.cells #[.pointer (some ⟨l.g, 0, none⟩)] 24) := ⟨_, rfl⟩
  obtain ⟨W2, hW2⟩ : ∃ W2, W2 = W1.alloc (.cells (stc ⟨8, cpu, N, t⟩) 37) := ⟨_, rfl⟩
  have s1 : W1.heap.size = b0 + 1 := by rw [hW1, ← hb0]; simp
  have b1 : Below w.heap.size w W1 := by rw [hW1]; exact one_below _ _
  have b2 : Below W1.heap.size W1 W2 := by rw [hW2]; exact one_below _ _
  have k1 : Blk W1 b0 24 #[.pointer (some ⟨l.g, 0, none⟩)] := by rw [hW1]; exact Blk.new_at _ _ _ hb0.symm
  have k1b := k1.below b2 k1.lt
  have k2 : Blk W2 (b0 + 1) 37 (stc ⟨8, cpu, N, t⟩) := by rw [hW2]; exact Blk.new_at _ _ _ s1.symm
  have B2 : Below w.heap.size w W2 := b1.trans (b2.mono b1.size)
  have h2 := h.below B2
  have z0 : W2.cell? ⟨b0, 0, none⟩ = some (.pointer (some ⟨l.g, 0, none⟩)) := blkAt k1b 0 _ rfl
  have y0 : W2.cell? ⟨b0 + 1, 0, none⟩ = some (.int .i64 8) := blkAt k2 0 _ rfl
  have y1 : W2.cell? ⟨b0 + 1, 1, none⟩ = some (.int .i64 cpu) := blkAt k2 1 _ rfl
  have y2 : W2.cell? ⟨b0 + 1, 2, none⟩ = some (.int .i64 N) := blkAt k2 2 _ rfl
  have y3 : W2.cell? ⟨b0 + 1, 3, none⟩ = some (.int .i64 t.id) := blkAt k2 3 _ rfl
  have y4 : W2.cell? ⟨b0 + 1, 4, none⟩ = some (.int .i64 t.clock) := blkAt k2 4 _ rfl
  have y5 : W2.cell? ⟨b0 + 1, 5, none⟩ = some (.int .i64 t.soft) := blkAt k2 5 _ rfl
  have y6 : W2.cell? ⟨b0 + 1, 6, none⟩ = some (.int .i64 t.hard) := blkAt k2 6 _ rfl
  have y7 : W2.cell? ⟨b0 + 1, 7, none⟩ = some (.bool t.lazy) := blkAt k2 7 _ rfl
  have nf : ¬ efoot l b0 ∧ ¬ efoot l (b0 + 1) := ⟨fun q => by have := h.lt _ q; omega, fun q => by have := h.lt _ q; omega⟩
  rw [hW1] at hW2
  have HW2 := hide hW2
  have HUP := hide (fun r w' (q : DoP W2 l ([], e.change (act3 e.z)) r w') => q.up B2)
  have ho := hok.onl
  have HLT := hide (fun k (hk : efoot l k) => h2.lt k hk)
  have bd : Below W2.heap.size W2 W2.drew := (Below.refl _ _).drew
  have HC := hide ((change_bound (h2.below bd) ho 39 l.c (act3 e.z) (fun _ _ => by kernel_rfl) ((h2.below bd).csusp)))
  have g0 : W2.cell? ⟨l.g, 0, none⟩ = some (.pointer (some ⟨l.c, 0, none⟩)) := blkAt h2.box 0 _ rfl
  have d0 : W2.drew.cell? ⟨l.g, 0, none⟩ = some (.pointer (some ⟨l.c, 0, none⟩)) := g0
  have d1 : W2.drew.cell? ⟨b0, 0, none⟩ = some (.pointer (some ⟨l.g, 0, none⟩)) := z0
  have HBD := hide bd
  have nG : Hid (Es W2 l e) := hide h2
  clear h hok ho hN ht hm hz hW1 hW2 b1 b2 k1 k1b k2 B2 h2 nf s1 bd
  obtain ⟨i1, i2, i3, i4, i5⟩ := t
  unfold stv
  unfold stc at HW2 ⊢
  simp only at HW2 y3 y4 y5 y6 y7 HC ⊢
  refine Calls.mono ?_ (unhide HUP)
  clear HUP
  obtain ⟨O, hO⟩ : ∃ O, e.change (act3 e.z) = O := ⟨_, rfl⟩
  rw [hO] at HC
  rw [hO]
  clear hO
  go_enter Tryz.func14, Tryz.ntmps14
  go_upto_region 1 with fail
  rw [← unhide HW2]
  clear HW2
  go_wp2_with fail
  go_region_with (go_at_call 36; refine (unhide HC).mono ?_; rintro r w3 ⟨rfl, h3, f3⟩; have H3 := hide (And.intro h3 f3); clear h3 f3)
  all_goals go_wp2_with fail
  all_goals
    go_ret2
    exact ⟨_, rfl, Rg.nil _ _, l, (unhide H3).1, Lx.refl _ _ _, (Ft.of_below _ (unhide HBD)).trans (unhide H3).2, fun x hx => by cases hx⟩
set_option maxRecDepth 20000 in
set_option maxHeartbeats 2000000 in
theorem do_res (h : Es w l e) (hok : EnOk e) (cpu N : Int) (t : Tmr) (hN : isI N) (ht : okT t) (hm : l.m + 400 < 1000000) (hz : e.z.n ≤ 900) : Calls Tryz.prog 14 #[.pointer (some ⟨l.g, 0, none⟩), stv ⟨9, cpu, N, t⟩] w (DoP w l ([], e.change (act4 e.z))) := by
  obtain ⟨b0, hb0⟩ : ∃ b, w.heap.size = b := ⟨_, rfl⟩
  obtain ⟨W1, hW1⟩ : ∃ W1, W1 = w.alloc (.cells #[.pointer (some ⟨l.g, 0, none⟩)] 24) := ⟨_, rfl⟩
  obtain ⟨W2, hW2⟩ : ∃ W2, W2 = W1.alloc (.cells (stc ⟨9, cpu, N, t⟩) 37) := ⟨_, rfl⟩
  have s1 : W1.heap.size = b0 + 1 := by rw [hW1, ← hb0]; simp
  have b1 : Below w.heap.size w W1 := by rw [hW1]; exact one_below _ _
  have b2 : Below W1.heap.size W1 W2 := by rw [hW2]; exact one_below _ _
  have k1 : Blk W1 b0 24 #[.pointer (some ⟨l.g, 0, none⟩)] := by rw [hW1]; exact Blk.new_at _ _ _ hb0.symm
  have k1b := k1.below b2 k1.lt
  have k2 : Blk W2 (b0 + 1) 37 (stc ⟨9, cpu, N, t⟩) := by rw [hW2]; exact Blk.new_at _ _ _ s1.symm
  have B2 : Below w.heap.size w W2 := b1.trans (b2.mono b1.size)
  have h2 := h.below B2
  have z0 : W2.cell? ⟨b0, 0, none⟩ = some (.pointer (some ⟨l.g, 0, none⟩)) := blkAt k1b 0 _ rfl
  have y0 : W2.cell? ⟨b0 + 1, 0, none⟩ = some (.int .i64 9) := blkAt k2 0 _ rfl
  have y1 : W2.cell? ⟨b0 + 1, 1, none⟩ = some (.int .i64 cpu) := blkAt k2 1 _ rfl
  have y2 : W2.cell? ⟨b0 + 1, 2, none⟩ = some (.int .i64 N) := blkAt k2 2 _ rfl
  have y3 : W2.cell? ⟨b0 + 1, 3, none⟩ = some (.int .i64 t.id) := blkAt k2 3 _ rfl
  have y4 : W2.cell? ⟨b0 + 1, 4, none⟩ = some (.int .i64 t.clock) := blkAt k2 4 _ rfl
  have y5 : W2.cell? ⟨b0 + 1, 5, none⟩ = some (.int .i64 t.soft) := blkAt k2 5 _ rfl
  have y6 : W2.cell? ⟨b0 + 1, 6, none⟩ = some (.int .i64 t.hard) := blkAt k2 6 _ rfl
  have y7 : W2.cell? ⟨b0 + 1, 7, none⟩ = some (.bool t.lazy) := blkAt k2 7 _ rfl
  have nf : ¬ efoot l b0 ∧ ¬ efoot l (b0 + 1) := ⟨fun q => by have := h.lt _ q; omega, fun q => by have := h.lt _ q; omega⟩
  rw [hW1] at hW2
  have HW2 := hide hW2
  have HUP := hide (fun r w' (q : DoP W2 l ([], e.change (act4 e.z)) r w') => q.up B2)
  have ho := hok.onl
  have HLT := hide (fun k (hk : efoot l k) => h2.lt k hk)
  have bd : Below W2.heap.size W2 W2.drew := (Below.refl _ _).drew
  have HC := hide ((change_bound (h2.below bd) ho 40 l.c (act4 e.z) (fun _ _ => by kernel_rfl) ((h2.below bd).cres hz)))
  have g0 : W2.cell? ⟨l.g, 0, none⟩ = some (.pointer (some ⟨l.c, 0, none⟩)) := blkAt h2.box 0 _ rfl
  have d0 : W2.drew.cell? ⟨l.g, 0, none⟩ = some (.pointer (some ⟨l.c, 0, none⟩)) := g0
  have d1 : W2.drew.cell? ⟨b0, 0, none⟩ = some (.pointer (some ⟨l.g, 0, none⟩)) := z0
  have HBD := hide bd
  have nG : Hid (Es W2 l e) := hide h2
  clear h hok ho hN ht hm hz hW1 hW2 b1 b2 k1 k1b k2 B2 h2 nf s1 bd
  obtain ⟨i1, i2, i3, i4, i5⟩ := t
  unfold stv
  unfold stc at HW2 ⊢
  simp only at HW2 y3 y4 y5 y6 y7 HC ⊢
  refine Calls.mono ?_ (unhide HUP)
  clear HUP
  obtain ⟨O, hO⟩ : ∃ O, e.change (act4 e.z) = O := ⟨_, rfl⟩
  rw [hO] at HC
  rw [hO]
  clear hO
  go_enter Tryz.func14, Tryz.ntmps14
  go_upto_region 1 with fail
  rw [← unhide HW2]
  clear HW2
  go_wp2_with fail
  go_region_with (go_at_call 36; refine (unhide HC).mono ?_; rintro r w3 ⟨rfl, h3, f3⟩; have H3 := hide (And.intro h3 f3); clear h3 f3)
  all_goals go_wp2_with fail
  all_goals
    go_ret2
    exact ⟨_, rfl, Rg.nil _ _, l, (unhide H3).1, Lx.refl _ _ _, (Ft.of_below _ (unhide HBD)).trans (unhide H3).2, fun x hx => by cases hx⟩
set_option maxRecDepth 20000 in
set_option maxHeartbeats 2000000 in
theorem do_bad (h : Es w l e) (hok : EnOk e) (cpu N : Int) (t : Tmr) (hN : isI N) (ht : okT t) (hm : l.m + 400 < 1000000) (hz : e.z.n ≤ 900) (kind : Int) (hk : ¬ (1 ≤ kind ∧ kind ≤ 12)) : Calls Tryz.prog 14 #[.pointer (some ⟨l.g, 0, none⟩), stv ⟨kind, cpu, N, t⟩] w (DoP w l ([], 1, e)) := by
  obtain ⟨b0, hb0⟩ : ∃ b, w.heap.size = b := ⟨_, rfl⟩
  obtain ⟨W1, hW1⟩ : ∃ W1, W1 = w.alloc (.cells #[.pointer (some ⟨l.g, 0, none⟩)] 24) := ⟨_, rfl⟩
  obtain ⟨W2, hW2⟩ : ∃ W2, W2 = W1.alloc (.cells (stc ⟨kind, cpu, N, t⟩) 37) := ⟨_, rfl⟩
  have s1 : W1.heap.size = b0 + 1 := by rw [hW1, ← hb0]; simp
  have b1 : Below w.heap.size w W1 := by rw [hW1]; exact one_below _ _
  have b2 : Below W1.heap.size W1 W2 := by rw [hW2]; exact one_below _ _
  have k1 : Blk W1 b0 24 #[.pointer (some ⟨l.g, 0, none⟩)] := by rw [hW1]; exact Blk.new_at _ _ _ hb0.symm
  have k1b := k1.below b2 k1.lt
  have k2 : Blk W2 (b0 + 1) 37 (stc ⟨kind, cpu, N, t⟩) := by rw [hW2]; exact Blk.new_at _ _ _ s1.symm
  have B2 : Below w.heap.size w W2 := b1.trans (b2.mono b1.size)
  have h2 := h.below B2
  have z0 : W2.cell? ⟨b0, 0, none⟩ = some (.pointer (some ⟨l.g, 0, none⟩)) := blkAt k1b 0 _ rfl
  have y0 : W2.cell? ⟨b0 + 1, 0, none⟩ = some (.int .i64 kind) := blkAt k2 0 _ rfl
  have y1 : W2.cell? ⟨b0 + 1, 1, none⟩ = some (.int .i64 cpu) := blkAt k2 1 _ rfl
  have y2 : W2.cell? ⟨b0 + 1, 2, none⟩ = some (.int .i64 N) := blkAt k2 2 _ rfl
  have y3 : W2.cell? ⟨b0 + 1, 3, none⟩ = some (.int .i64 t.id) := blkAt k2 3 _ rfl
  have y4 : W2.cell? ⟨b0 + 1, 4, none⟩ = some (.int .i64 t.clock) := blkAt k2 4 _ rfl
  have y5 : W2.cell? ⟨b0 + 1, 5, none⟩ = some (.int .i64 t.soft) := blkAt k2 5 _ rfl
  have y6 : W2.cell? ⟨b0 + 1, 6, none⟩ = some (.int .i64 t.hard) := blkAt k2 6 _ rfl
  have y7 : W2.cell? ⟨b0 + 1, 7, none⟩ = some (.bool t.lazy) := blkAt k2 7 _ rfl
  have nf : ¬ efoot l b0 ∧ ¬ efoot l (b0 + 1) := ⟨fun q => by have := h.lt _ q; omega, fun q => by have := h.lt _ q; omega⟩
  rw [hW1] at hW2
  have HW2 := hide hW2
  have HUP := hide (fun r w' (q : DoP W2 l ([], 1, e) r w') => q.up B2)
  have ho := hok.onl
  have HLT := hide (fun k (hk : efoot l k) => h2.lt k hk)
  have HC := hide (True.intro)
  have HE := hide h2
  have e1 : (kind == 1) = false := by rw [beq_eq_false_iff_ne]; omega
  have e2 : (kind == 2) = false := by rw [beq_eq_false_iff_ne]; omega
  have e3 : (kind == 3) = false := by rw [beq_eq_false_iff_ne]; omega
  have e4 : (kind == 4) = false := by rw [beq_eq_false_iff_ne]; omega
  have e5 : (kind == 5) = false := by rw [beq_eq_false_iff_ne]; omega
  have e6 : (kind == 6) = false := by rw [beq_eq_false_iff_ne]; omega
  have e7 : (kind == 7) = false := by rw [beq_eq_false_iff_ne]; omega
  have e8 : (kind == 8) = false := by rw [beq_eq_false_iff_ne]; omega
  have e9 : (kind == 9) = false := by rw [beq_eq_false_iff_ne]; omega
  have e10 : (kind == 10) = false := by rw [beq_eq_false_iff_ne]; omega
  have e11 : (kind == 11) = false := by rw [beq_eq_false_iff_ne]; omega
  have e12 : (kind == 12) = false := by rw [beq_eq_false_iff_ne]; omega
  clear h hok ho hN ht hm hz hW1 hW2 b1 b2 k1 k1b k2 B2 h2 nf s1 hk
  obtain ⟨i1, i2, i3, i4, i5⟩ := t
  unfold stv
  unfold stc at HW2 ⊢
  simp only at HW2 y3 y4 y5 y6 y7 ⊢
  refine Calls.mono ?_ (unhide HUP)
  clear HUP
  go_enter Tryz.func14, Tryz.ntmps14
  go_upto_region 1 with fail
  rw [← unhide HW2]
  clear HW2
  go_wp2_with fail
  go_ret2
  exact ⟨_, rfl, Rg.nil _ _, l, unhide HE, Lx.refl _ _ _, Ft.refl _ _, fun x hx => by cases hx⟩
end
end Go.Proofs.YtjjdkkdnlnbedaaGreat
