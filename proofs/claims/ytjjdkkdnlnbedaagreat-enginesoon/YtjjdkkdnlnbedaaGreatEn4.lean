/- What fires on a processor. -/
import Derived.Test.YtjjdkkdnlnbedaaGreatEn3
import Derived.Test.YtjjdkkdnlnbedaaGreatRgStep
namespace Go.Proofs.YtjjdkkdnlnbedaaGreat
open Go.RowKit Kt Qu
set_option linter.unusedVariables false

def fdc (t : Frd) : List Value := [.int .i64 t.id, .int .i64 t.clock, .int .i64 t.cpu, .int .i64 t.mono, .int .i64 t.rd]
theorem fdInfo : (Tryz.prog.info? 42).map (fun i => (i.zero, i.size, i.bytes)) = some (some (.agg #[.int .i64 0, .int .i64 0, .int .i64 0, .int .i64 0, .int .i64 0]), 5, 40) := by kernel_rfl
/-- Rows of what fired. -/
def rfd : Rec Tryz.prog Frd where
  e := 42
  ty := 30
  K := 5
  bytes := 40
  z := .agg #[.int .i64 0, .int .i64 0, .int .i64 0, .int .i64 0, .int .i64 0]
  c := fdc
  pos := by decide
  len := fun _ => rfl
  one := by
    intro x u hu
    simp only [fdc, List.mem_cons, List.not_mem_nil, or_false] at hu
    rcases hu with rfl | rfl | rfl | rfl | rfl <;> rfl
  und := Tryz.underlying30
  info := rparts fdInfo
  hz := rfl
  hb := by decide
theorem tcells' {w : World} {C n cap : Nat} {a : Option Addr} {L : List Tmr} (h : Rd rtm w C a n cap L) {j : Nat} {t : Tmr} (hj : L[j]? = some t) : ∃ g o, a = some ⟨g, o, none⟩ ∧ g < w.heap.size ∧
    w.cell? ⟨g, o + j * 5, none⟩ = some (.int .i64 t.id) ∧ w.cell? ⟨g, o + j * 5 + 1, none⟩ = some (.int .i64 t.clock) ∧ w.cell? ⟨g, o + j * 5 + 2, none⟩ = some (.int .i64 t.soft) ∧ w.cell? ⟨g, o + j * 5 + 3, none⟩ = some (.int .i64 t.hard) ∧ w.cell? ⟨g, o + j * 5 + 4, none⟩ = some (.bool t.lazy) := by
  obtain ⟨g, o, e, hc⟩ := h.cell j t hj
  exact ⟨g, o, e, (h.blk _ e).2.1, hc 0 _ rfl, hc 1 _ rfl, hc 2 _ rfl, hc 3 _ rfl, hc 4 _ rfl⟩
section
variable {w w' : World} {l : Loc} {e : En}
/-- Expire, by the engine's processor. -/
theorem Es.expire (h : Es w l e) {i : Nat} (hi : i < e.n) (lz : Bool) : Calls Tryz.prog 100 #[.pointer (some ⟨l.b i, 0, none⟩), .agg #[.int .i64 e.z.m, .int .i64 e.z.v, .int .i64 e.z.q], .bool lz] w fun r w' => ∃ v, r = .returned v ∧ Rg rtm w' w.heap.size v (e.firL i lz) ∧ Es w' l (e.set i { e.cp i with L := e.rest i lz }) ∧ Ft (bfoot (l.b i) (l.P i)) w w' := by
  obtain ⟨R, hR, hL⟩ := h.bs i hi
  refine (bexp hR e.z.m e.z.v e.z.q lz).mono ?_
  rintro r w2 ⟨v, rfl, row, hB, f⟩
  rw [exp_fir hR.ok] at row
  have e1 := expR_fir hR.ok e.z.rd lz
  rw [hL] at row e1
  exact ⟨v, rfl, row, h.based0 hi hB f e1.symm rfl rfl rfl rfl rfl, f⟩
theorem Es.clock_in (h : Es w l e) {i : Nat} (hi : i < e.n) {t : Tmr} (ht : t ∈ (e.cp i).L) : 0 ≤ t.clock ∧ t.clock ≤ 2 := by
  obtain ⟨R, hR, hL⟩ := h.bs i hi
  rw [← hL] at ht
  obtain ⟨j, hj, hm⟩ := mem_allT.1 ht
  exact (hR.ok.ix j t hj hm).2
theorem Es.len_le (h : Es w l e) {i : Nat} (hi : i < e.n) : (e.cp i).L.length ≤ 384 := by
  obtain ⟨R, hR, hL⟩ := h.bs i hi
  rw [← hL]; exact hR.len
theorem Es.bfoot_lt (h : Es w l e) {i : Nat} (hi : i < e.n) : ∀ k, bfoot (l.b i) (l.P i) k → k < w.heap.size := fun k hk => h.lt k ⟨_, h.ob i k hi hk⟩
set_option maxRecDepth 20000 in
set_option maxHeartbeats 1000000 in
theorem fire_any (h : Es w l e) {i : Nat} (hi : i < e.n) (lz : Bool) :
    Calls Tryz.prog 71 #[.pointer (some ⟨l.g, 0, none⟩), .int .i64 (i : Int), .bool lz] w fun r w' => ∃ v, r = .returned v ∧ Rg rfd w' w.heap.size v (e.fired i lz) ∧ Es w' l (e.set i { e.cp i with L := e.rest i lz }) ∧ Ft (efoot l) w w' := by
  have hle := h.n16
  have hcap := h.cap
  have ng : ¬ bfoot (l.b i) (l.P i) l.g := fun q => by have := h.uq _ _ _ h.og (h.ob i _ hi q); omega
  have nr : ¬ bfoot (l.b i) (l.P i) l.r := fun q => by have := h.uq _ _ _ h.orr (h.ob i _ hi q); omega
  have g0 : w.cell? ⟨l.g, 0, none⟩ = some (.pointer (some ⟨l.c, 0, none⟩)) := blkAt h.box 0 _ rfl
  have CN := hide h.nows
  -- the engine behind the first call, with the times' box
  obtain ⟨z, hz⟩ : ∃ z, e.z = z := ⟨_, rfl⟩
  have HH := hide h
  have hck : ∀ t ∈ e.firL i lz, 0 ≤ t.clock ∧ t.clock ≤ 2 := fun t ht => h.clock_in hi (List.mem_filter.1 ht).1
  have hll : (e.firL i lz).length ≤ 384 := Nat.le_trans (List.length_filter_le _ _) (h.len_le hi)
  have hfd : e.fired i lz = (e.firL i lz).map (frdOf z i) := by unfold En.fired; rw [hz]
  rw [hz] at CN
  rw [hfd]
  obtain ⟨F, hF⟩ : ∃ F, e.firL i lz = F := ⟨_, rfl⟩
  rw [hF] at hck hll
  rw [hF]
  clear hfd
  have hFE : ∀ k, bfoot (l.b i) (l.P i) k → efoot l k := fun k hk => ⟨_, h.ob i k hi hk⟩
  have HFE := hide hFE
  have HZ := hide (And.intro hz (And.intro hF (And.intro ng nr)))
  have HCK := hide hck
  obtain ⟨S, hS⟩ : ∃ S, w.heap.size = S := ⟨_, rfl⟩
  clear hz hF ng nr hck h hFE
  have hn := hi
  go_enter Tryz.func71, Tryz.ntmps71
  go_wp2_with (go_at_call 73; refine Hid.out ?_)
  refine hide ?_
  refine (unhide CN).mono ?_
  rintro r w1 ⟨rfl, hb1⟩
  obtain ⟨A, hA⟩ : ∃ A, w1.heap.size = A := ⟨_, rfl⟩
  obtain ⟨W2, hW2⟩ : ∃ W2, W2 = w1.alloc (.cells #[.int .i64 z.m, .int .i64 z.v, .int .i64 z.q] 75) := ⟨_, rfl⟩
  have b2 : Below w1.heap.size w1 W2 := by rw [hW2]; exact one_below _ _
  have k2 : Blk W2 A 75 #[.int .i64 z.m, .int .i64 z.v, .int .i64 z.q] := by rw [hW2]; exact Blk.new_at _ _ _ hA.symm
  have h2 : Es W2 l e := ((unhide HH).below hb1).below b2
  have B2 : Below w.heap.size w W2 := hb1.trans (b2.mono hb1.size)
  have hnA : ¬ bfoot (l.b i) (l.P i) A := fun q => by have := (unhide HH).bfoot_lt hi A q; have := hb1.size; omega
  have c0 : ∀ w', Ft (bfoot (l.b i) (l.P i)) W2 w' → w'.cell? ⟨l.g, 1, none⟩ = some (.slice (some ⟨l.r, 0, none⟩) e.n l.cap) := fun w' f => f.cell (blkAt h2.box 1 _ rfl) (unhide HZ).2.2.1
  have c1 : ∀ w', Ft (bfoot (l.b i) (l.P i)) W2 w' → w'.cell? ⟨l.r, i * 4, none⟩ = some (.pointer (some ⟨l.b i, 0, none⟩)) := fun w' f => f.cell (h2.row i hi).1 (unhide HZ).2.2.2
  have c2 : ∀ w', Ft (bfoot (l.b i) (l.P i)) W2 w' → w'.cell? ⟨A, 0, none⟩ = some (.int .i64 z.m) := fun w' f => blkAt (k2.ft f hnA) 0 _ rfl
  have c3 : ∀ w', Ft (bfoot (l.b i) (l.P i)) W2 w' → w'.cell? ⟨A, 1, none⟩ = some (.int .i64 z.v) := fun w' f => blkAt (k2.ft f hnA) 1 _ rfl
  have c4 : ∀ w', Ft (bfoot (l.b i) (l.P i)) W2 w' → w'.cell? ⟨A, 2, none⟩ = some (.int .i64 z.q) := fun w' f => blkAt (k2.ft f hnA) 2 _ rfl
  have S0 : Ft (bfoot (l.b i) (l.P i)) W2 W2.drew := (Ft.refl _ _).drew
  have b0 : Below W2.heap.size W2 W2.drew := (Below.refl _ _).drew
  have CX := hide ((h2.below b0).expire hi lz)
  rw [(unhide HZ).1, (unhide HZ).2.1] at CX
  have H2 := hide (And.intro B2 (And.intro k2 hnA))
  have HW2 := hide hW2
  clear hb1 b2 k2 h2 B2 hnA hW2 CN g0
  generalize bfoot (l.b i) (l.P i) = FT at *
  generalize l.b i = bi at *
  go_wp2_with fail
  rw [← unhide HW2]
  refine wp_region_held_drew (S := (fun w' => Ft FT W2 w')) (by kernel_rfl) ?_ (fun hHeld => ?_)
  · (first | assumption)
  refine wpAnyH_take (i := 0) (oi := ?o23) (v := ?v23) ?hi23 (by kernel_rfl) (by kernel_rfl) (by kernel_rfl) ?hQ23 (Or.inl ⟨?hw23, ?hy23⟩) (by assumption) ?_
  case hi23 => (simp only [List.getElem?_toArray, List.getElem?_cons_zero]; rfl)
  case hQ23 => exact fun _ _ _ h => h
  case hw23 => rfl
  case hy23 => (intro w hSw; (try dsimp only at hSw); go_simp; (try with_reducible rfl))
  simp only [Act.put, List.setIfInBounds_toArray, List.set_cons_zero, List.set_cons_succ]
  refine wpAnyH_take (i := 1) (oi := ?o24) (v := ?v24) ?hi24 (by kernel_rfl) (by kernel_rfl) (by kernel_rfl) ?hQ24 (Or.inl ⟨?hw24, ?hy24⟩) (by assumption) ?_
  case hi24 => (simp only [List.getElem?_toArray, List.getElem?_cons_succ, List.getElem?_cons_zero]; rfl)
  case hQ24 => exact fun _ _ _ h => h
  case hw24 => rfl
  case hy24 => (intro w hSw; (try dsimp only at hSw); go_simp; (try with_reducible rfl))
  simp only [Act.put, List.setIfInBounds_toArray, List.set_cons_zero, List.set_cons_succ]
  refine wpAnyH_take (i := 2) (oi := ?o25) (v := ?v25) ?hi25 (by kernel_rfl) (by kernel_rfl) (by kernel_rfl) ?hQ25 (Or.inl ⟨?hw25, ?hy25⟩) (by assumption) ?_
  case hi25 => (simp only [List.getElem?_toArray, List.getElem?_cons_succ, List.getElem?_cons_zero]; rfl)
  case hQ25 => exact fun _ _ _ h => h
  case hw25 => rfl
  case hy25 => (intro w hSw; (try dsimp only at hSw); go_simp; (try with_reducible rfl))
  simp only [Act.put, List.setIfInBounds_toArray, List.set_cons_zero, List.set_cons_succ]
  refine wpAnyH_take (i := 3) (oi := ?o26) (v := ?v26) ?hi26 (by kernel_rfl) (by kernel_rfl) (by kernel_rfl) ?hQ26 (Or.inl ⟨?hw26, ?hy26⟩) (by assumption) ?_
  case hi26 => (simp only [List.getElem?_toArray, List.getElem?_cons_succ, List.getElem?_cons_zero]; rfl)
  case hQ26 => exact fun _ _ _ h => h
  case hw26 => rfl
  case hy26 => (intro w hSw; (try dsimp only at hSw); go_simp; (try with_reducible rfl))
  simp only [Act.put, List.setIfInBounds_toArray, List.set_cons_zero, List.set_cons_succ]
  refine wpAnyH_take (i := 4) (oi := ?o27) (v := ?v27) ?hi27 (by kernel_rfl) (by kernel_rfl) (by kernel_rfl) ?hQ27 (Or.inl ⟨?hw27, ?hy27⟩) (by assumption) ?_
  case hi27 => (simp only [List.getElem?_toArray, List.getElem?_cons_succ, List.getElem?_cons_zero]; rfl)
  case hQ27 => exact fun _ _ _ h => h
  case hw27 => rfl
  case hy27 => (intro w hSw; (try dsimp only at hSw); go_simp; (try with_reducible rfl))
  simp only [Act.put, List.setIfInBounds_toArray, List.set_cons_zero, List.set_cons_succ]
  refine wpAnyH_take (i := 5) (oi := ?o28) (v := ?v28) ?hi28 (by kernel_rfl) (by kernel_rfl) (by kernel_rfl) ?hQ28 (Or.inl ⟨?hw28, ?hy28⟩) (by assumption) ?_
  case hi28 => (simp only [List.getElem?_toArray, List.getElem?_cons_succ, List.getElem?_cons_zero]; rfl)
  case hQ28 => exact fun _ _ _ h => h
  case hw28 => rfl
  case hy28 => (intro w hSw; (try dsimp only at hSw); go_simp; (try with_reducible rfl))
  simp only [Act.put, List.setIfInBounds_toArray, List.set_cons_zero, List.set_cons_succ]
  refine wpAnyH_take (i := 6) (oi := ?o29) (v := ?v29) ?hi29 (by kernel_rfl) (by kernel_rfl) (by kernel_rfl) ?hQ29 (Or.inl ⟨?hw29, ?hy29⟩) (by assumption) ?_
  case hi29 => (simp only [List.getElem?_toArray, List.getElem?_cons_succ, List.getElem?_cons_zero]; rfl)
  case hQ29 => exact fun _ _ _ h => h
  case hw29 => rfl
  case hy29 => (intro w hSw; (try dsimp only at hSw); go_simp; (try with_reducible rfl))
  simp only [Act.put, List.setIfInBounds_toArray, List.set_cons_zero, List.set_cons_succ]
  refine wpAnyH_take (i := 7) (oi := ?o30) (v := ?v30) ?hi30 (by kernel_rfl) (by kernel_rfl) (by kernel_rfl) ?hQ30 (Or.inl ⟨?hw30, ?hy30⟩) (by assumption) ?_
  case hi30 => (simp only [List.getElem?_toArray, List.getElem?_cons_succ, List.getElem?_cons_zero]; rfl)
  case hQ30 => exact fun _ _ _ h => h
  case hw30 => rfl
  case hy30 => (intro w hSw; (try dsimp only at hSw); go_simp; (try with_reducible rfl))
  simp only [Act.put, List.setIfInBounds_toArray, List.set_cons_zero, List.set_cons_succ]
  refine wpAnyH_take (i := 8) (oi := ?o31) (v := ?v31) ?hi31 (by kernel_rfl) (by kernel_rfl) (by kernel_rfl) ?hQ31 (Or.inl ⟨?hw31, ?hy31⟩) (by assumption) ?_
  case hi31 => (simp only [List.getElem?_toArray, List.getElem?_cons_succ, List.getElem?_cons_zero]; rfl)
  case hQ31 => exact fun _ _ _ h => h
  case hw31 => rfl
  case hy31 => (intro w hSw; (try dsimp only at hSw); go_simp; (try with_reducible rfl))
  simp only [Act.put, List.setIfInBounds_toArray, List.set_cons_zero, List.set_cons_succ]
  refine wpAnyH_take (i := 9) (oi := ?o32) (v := ?v32) ?hi32 (by kernel_rfl) (by kernel_rfl) (by kernel_rfl) ?hQ32 (Or.inl ⟨?hw32, ?hy32⟩) (by assumption) ?_
  case hi32 => (simp only [List.getElem?_toArray, List.getElem?_cons_succ, List.getElem?_cons_zero]; rfl)
  case hQ32 => exact fun _ _ _ h => h
  case hw32 => rfl
  case hy32 => (intro w hSw; (try dsimp only at hSw); go_simp; (try with_reducible rfl))
  simp only [Act.put, List.setIfInBounds_toArray, List.set_cons_zero, List.set_cons_succ]
  refine wpAnyH_take (i := 12) (oi := ?o33) (v := ?v33) ?hi33 (by kernel_rfl) (by kernel_rfl) (by kernel_rfl) ?hQ33 (Or.inl ⟨?hw33, ?hy33⟩) (by assumption) ?_
  case hi33 => (simp only [List.getElem?_toArray, List.getElem?_cons_succ, List.getElem?_cons_zero]; rfl)
  case hQ33 => exact fun _ _ _ h => h
  case hw33 => rfl
  case hy33 => (intro w hSw; (try dsimp only at hSw); go_simp; (try with_reducible rfl))
  simp only [Act.put, List.setIfInBounds_toArray, List.set_cons_zero, List.set_cons_succ]
  refine wpAnyH_ready (rs := [10]) (by kernel_rfl) (by simp) ?_
  refine AllReadyH.cons (o := ?o34) ?hi34 (fun K hK => ?_) AllReadyH.nil
  case hi34 => (simp only [List.getElem?_toArray, List.getElem?_cons_succ, List.getElem?_cons_zero]; rfl)
  go_simp
  (go_at_call 100; refine (unhide CX).mono ?_; rintro r w3 ⟨v3, rfl, row3, h3, f3⟩; have S3 : Ft FT W2 w3 := S0.trans f3; obtain ⟨ra, rcap, rfl, rd3⟩ := Rd.of row3; have H3 := hide (And.intro rd3 (And.intro h3 f3)); clear row3 rd3 h3 f3); go_wp2_with fail
  refine hK.out _ _ ?_ (fun hHeld => ?_)
  · (first | assumption)
  clear hK K
  refine wpAnyH_take (i := 11) (oi := ?o35) (v := ?v35) ?hi35 (by kernel_rfl) (by kernel_rfl) (by kernel_rfl) ?hQ35 (Or.inl ⟨?hw35, ?hy35⟩) (by assumption) ?_
  case hi35 => (simp only [List.getElem?_toArray, List.getElem?_cons_succ, List.getElem?_cons_zero]; rfl)
  case hQ35 => exact fun _ _ _ h => h
  case hw35 => rfl
  case hy35 => (intro w hSw; (try dsimp only at hSw); go_simp; (try with_reducible rfl))
  simp only [Act.put, List.setIfInBounds_toArray, List.set_cons_zero, List.set_cons_succ]
  refine wpAnyH_done (by kernel_rfl) ?_ _
  obtain ⟨rd3, h3, f3⟩ := unhide H3
  obtain ⟨D3, hD3⟩ : ∃ b, w3.heap.size = b := ⟨_, rfl⟩
  have kA : Blk w3 A 75 #[.int .i64 z.m, .int .i64 z.v, .int .i64 z.q] := (unhide H2).2.1.ft S3 (unhide H2).2.2
  have hA3 := kA.lt
  have HB3 := hide (And.intro kA (And.intro (unhide H2).1 S3))
  have HR := hide rd3
  have HE3 := hide h3
  have hFl : F.length = F.length := rfl
  generalize hNF : F.length = NF at *
  have HNF := hide hNF
  clear c0 c1 c2 c3 c4 S0 b0 CX H2 H3 rd3 h3 f3 kA hHeld S3 HW2 hNF hFl
  go_wp2_with fail
  go_loopw [8, 29] (fun s8 s29 w' => ∃ (j : Nat) (a : Option Addr) (cap : Nat), s29 = .int .i64 (j : Int) ∧ j ≤ NF ∧ s8 = .slice a j cap ∧ Hid (Below D3 w3 w' ∧ Rg rfd w' D3 (.slice a j cap) ((F.take j).map (frdOf z i)))) (fun _ d _ => NF - (intOf d).toNat)
  case atStart => exact ⟨0, none, 0, rfl, by omega, rfl, hide ⟨Below.refl _ _, Rg.nil _ _⟩⟩
  case round =>
    obtain ⟨j, a, cap, rfl, hj, rfl, HJ⟩ := hrel
    by_cases hlt : j < NF
    · obtain ⟨y, hy⟩ : ∃ y, F[j]? = some y := ⟨_, List.getElem?_eq_getElem (by rw [unhide HNF]; exact hlt)⟩
      have hyc := (unhide HCK) y (List.mem_of_getElem? hy)
      obtain ⟨g', o', rfl, hgl', y0, y1, y2, y3, y4⟩ := tcells' ((unhide HR).below (hD3 ▸ (unhide HJ).1)) hy
      have HY := hide hy
      obtain ⟨i1, i2, i3, i4, i5⟩ := y
      simp only at y0 y1 y2 y3 y4 hyc
      obtain ⟨k, rfl⟩ : ∃ k : Nat, i2 = (k : Int) := ⟨i2.toNat, by omega⟩
      have hk2 : k ≤ 2 := by omega
      have hk3 : (k : Int) < 3 := by omega
      obtain ⟨B4, hB4⟩ : ∃ b, wr.heap.size = b := ⟨_, rfl⟩
      obtain ⟨W4, hW4⟩ : ∃ W4, W4 = wr.alloc (.cells #[.int .i64 i1, .int .i64 (k : Int), .int .i64 i3, .int .i64 i4, .bool i5] 35) := ⟨_, rfl⟩
      have b4 : Below wr.heap.size wr W4 := by rw [hW4]; exact one_below _ _
      have k4 : Blk W4 B4 35 #[.int .i64 i1, .int .i64 (k : Int), .int .i64 i3, .int .i64 i4, .bool i5] := by rw [hW4]; exact Blk.new_at _ _ _ hB4.symm
      have hs4 := (unhide HJ).1.size
      have bl : Below D3 w3 W4 := (unhide HJ).1.trans (b4.mono (by omega))
      have kA4 := (unhide HB3).1.below bl (by omega)
      obtain ⟨D5, hD5⟩ : ∃ b, W4.heap.size = b := ⟨_, rfl⟩
      have hfo : ∀ g, (Value.slice a j cap).ownBlock = some g → D3 ≤ g ∧ g < B4 := fun g hg => by have := (unhide HJ).2.lt g hg; omega
      obtain ⟨FO, hFO⟩ : ∃ FO : Nat → Prop, FO = fun g => (Value.slice a j cap).ownBlock = some g := ⟨_, rfl⟩
      have rowD : ∀ o, Rg rfd (W4.alloc o).drew D3 (.slice a j cap) ((F.take j).map (frdOf z i)) := fun o => ((unhide HJ).2.below b4).below (below_drew (one_below W4 o))
      have S0 : Ft FO W4 W4.drew := (Ft.refl _ _).drew
      have nB : ¬ FO B4 := fun h => by rw [hFO] at h; have := hfo _ h; omega
      have nA : ¬ FO A := fun h => by rw [hFO] at h; have := hfo _ h; omega
      have HK := hide (And.intro bl (And.intro rowD (And.intro (show D3 ≤ W4.heap.size by have := bl.size; omega) (And.intro (show ∀ g, FO g → D3 ≤ g from fun g hg => by rw [hFO] at hg; exact (hfo g hg).1) (show ∀ g, (Value.slice a j cap).ownBlock = some g → FO g from fun g hg => by rw [hFO]; exact hg)))))
      clear hfo hFO
      have HBX := hide (fun cs => show Blk (W4.alloc (.cells cs 42)).drew D5 42 cs from Blk.new_at W4 _ _ hD5.symm)
      have d0 : ∀ w', Ft FO W4 w' → w'.cell? ⟨B4, 0, none⟩ = some (.int .i64 i1) := fun w' f => blkAt (k4.ft f nB) 0 _ rfl
      have d1 : ∀ w', Ft FO W4 w' → w'.cell? ⟨B4, 1, none⟩ = some (.int .i64 (k : Int)) := fun w' f => blkAt (k4.ft f nB) 1 _ rfl
      have t0 : ∀ w', Ft FO W4 w' → w'.cell? ⟨A, 0, none⟩ = some (.int .i64 z.m) := fun w' f => blkAt (kA4.ft f nA) 0 _ rfl
      have tk : ∀ w', Ft FO W4 w' → w'.cell? ⟨A, k, none⟩ = some (.int .i64 (z.rd k)) := fun w' f => by
        rcases (show k = 0 ∨ k = 1 ∨ k = 2 by omega) with rfl | rfl | rfl
        · exact blkAt (kA4.ft f nA) 0 _ rfl
        · exact blkAt (kA4.ft f nA) 1 _ rfl
        · exact blkAt (kA4.ft f nA) 2 _ rfl
      have HW4 := hide hW4
      have hlen : ((F.take j).map (frdOf z i)).length = j := by rw [List.length_map, List.length_take, unhide HNF]; omega
      have HLEN := hide hlen
      have hj384 : j ≤ 384 := by omega
      clear hy hyc b4 k4 bl kA4 rowD hW4 hlen nB nA
      have HFR := hide (show frdOf z i ⟨i1, (k : Int), i3, i4, i5⟩ = ⟨i1, (k : Int), (i : Int), z.m, z.rd k⟩ from rfl)
      generalize z.rd k = rk at *
      generalize hzm : z.m = m at *
      have HZM := hide hzm
      clear hzm
      go_upto_region 6 with fail
      rw [← unhide HW4]
      clear y0 y1 y2 y3 y4 HW4
      refine wp_region_held_drew (S := (fun w' => Ft FO W4 w')) (by kernel_rfl) ?_ (fun hHeld => ?_)
      · (first | (with_reducible assumption) | (with_reducible exact ((Ft.refl FO W4).alloc _).drew))
      refine wpAnyH_take (i := 0) (oi := ?o36) (v := ?v36) ?hi36 (by kernel_rfl) (by kernel_rfl) (by kernel_rfl) ?hQ36 (Or.inl ⟨?hw36, ?hy36⟩) (by assumption) ?_
      case hi36 => (simp only [List.getElem?_toArray, List.getElem?_cons_zero]; rfl)
      case hQ36 => exact fun _ _ _ h => h
      case hw36 => rfl
      case hy36 => (intro w hSw; (try dsimp only at hSw); go_simp; (try with_reducible rfl))
      simp only [Act.put, List.setIfInBounds_toArray, List.set_cons_zero, List.set_cons_succ]
      refine wpAnyH_take (i := 1) (oi := ?o37) (v := ?v37) ?hi37 (by kernel_rfl) (by kernel_rfl) (by kernel_rfl) ?hQ37 (Or.inl ⟨?hw37, ?hy37⟩) (by assumption) ?_
      case hi37 => (simp only [List.getElem?_toArray, List.getElem?_cons_succ, List.getElem?_cons_zero]; rfl)
      case hQ37 => exact fun _ _ _ h => h
      case hw37 => rfl
      case hy37 => (intro w hSw; (try dsimp only at hSw); go_simp; (try with_reducible rfl))
      simp only [Act.put, List.setIfInBounds_toArray, List.set_cons_zero, List.set_cons_succ]
      refine wpAnyH_take (i := 2) (oi := ?o38) (v := ?v38) ?hi38 (by kernel_rfl) (by kernel_rfl) (by kernel_rfl) ?hQ38 (Or.inl ⟨?hw38, ?hy38⟩) (by assumption) ?_
      case hi38 => (simp only [List.getElem?_toArray, List.getElem?_cons_succ, List.getElem?_cons_zero]; rfl)
      case hQ38 => exact fun _ _ _ h => h
      case hw38 => rfl
      case hy38 => (intro w hSw; (try dsimp only at hSw); go_simp; (try with_reducible rfl))
      simp only [Act.put, List.setIfInBounds_toArray, List.set_cons_zero, List.set_cons_succ]
      refine wpAnyH_take (i := 3) (oi := ?o39) (v := ?v39) ?hi39 (by kernel_rfl) (by kernel_rfl) (by kernel_rfl) ?hQ39 (Or.inl ⟨?hw39, ?hy39⟩) (by assumption) ?_
      case hi39 => (simp only [List.getElem?_toArray, List.getElem?_cons_succ, List.getElem?_cons_zero]; rfl)
      case hQ39 => exact fun _ _ _ h => h
      case hw39 => rfl
      case hy39 => (intro w hSw; (try dsimp only at hSw); go_simp; (try with_reducible rfl))
      simp only [Act.put, List.setIfInBounds_toArray, List.set_cons_zero, List.set_cons_succ]
      refine wpAnyH_take (i := 4) (oi := ?o40) (v := ?v40) ?hi40 (by kernel_rfl) (by kernel_rfl) (by kernel_rfl) ?hQ40 (Or.inl ⟨?hw40, ?hy40⟩) (by assumption) ?_
      case hi40 => (simp only [List.getElem?_toArray, List.getElem?_cons_succ, List.getElem?_cons_zero]; rfl)
      case hQ40 => exact fun _ _ _ h => h
      case hw40 => rfl
      case hy40 => (intro w hSw; (try dsimp only at hSw); go_simp; (try with_reducible rfl))
      simp only [Act.put, List.setIfInBounds_toArray, List.set_cons_zero, List.set_cons_succ]
      refine wpAnyH_take (i := 5) (oi := ?o41) (v := ?v41) ?hi41 (by kernel_rfl) (by kernel_rfl) (by kernel_rfl) ?hQ41 (Or.inl ⟨?hw41, ?hy41⟩) (by assumption) ?_
      case hi41 => (simp only [List.getElem?_toArray, List.getElem?_cons_succ, List.getElem?_cons_zero]; rfl)
      case hQ41 => exact fun _ _ _ h => h
      case hw41 => rfl
      case hy41 => (intro w hSw; (try dsimp only at hSw); go_simp; (try with_reducible rfl))
      simp only [Act.put, List.setIfInBounds_toArray, List.set_cons_zero, List.set_cons_succ]
      refine wpAnyH_take (i := 6) (oi := ?o42) (v := ?v42) ?hi42 (by kernel_rfl) (by kernel_rfl) (by kernel_rfl) ?hQ42 (Or.inl ⟨?hw42, ?hy42⟩) (by assumption) ?_
      case hi42 => (simp only [List.getElem?_toArray, List.getElem?_cons_succ, List.getElem?_cons_zero]; rfl)
      case hQ42 => exact fun _ _ _ h => h
      case hw42 => rfl
      case hy42 => (intro w hSw; (try dsimp only at hSw); go_simp; (try with_reducible rfl))
      simp only [Act.put, List.setIfInBounds_toArray, List.set_cons_zero, List.set_cons_succ]
      refine wpAnyH_take (i := 7) (oi := ?o43) (v := ?v43) ?hi43 (by kernel_rfl) (by kernel_rfl) (by kernel_rfl) ?hQ43 (Or.inl ⟨?hw43, ?hy43⟩) (by assumption) ?_
      case hi43 => (simp only [List.getElem?_toArray, List.getElem?_cons_succ, List.getElem?_cons_zero]; rfl)
      case hQ43 => exact fun _ _ _ h => h
      case hw43 => rfl
      case hy43 => (intro w hSw; (try dsimp only at hSw); go_simp; (try with_reducible rfl))
      simp only [Act.put, List.setIfInBounds_toArray, List.set_cons_zero, List.set_cons_succ]
      refine wpAnyH_take (i := 8) (oi := ?o44) (v := ?v44) ?hi44 (by kernel_rfl) (by kernel_rfl) (by kernel_rfl) ?hQ44 (Or.inl ⟨?hw44, ?hy44⟩) (by assumption) ?_
      case hi44 => (simp only [List.getElem?_toArray, List.getElem?_cons_succ, List.getElem?_cons_zero]; rfl)
      case hQ44 => exact fun _ _ _ h => h
      case hw44 => rfl
      case hy44 => (intro w hSw; (try dsimp only at hSw); go_simp; (try with_reducible rfl))
      simp only [Act.put, List.setIfInBounds_toArray, List.set_cons_zero, List.set_cons_succ]
      refine wpAnyH_take (i := 9) (oi := ?o45) (v := ?v45) ?hi45 (by kernel_rfl) (by kernel_rfl) (by kernel_rfl) ?hQ45 (Or.inl ⟨?hw45, ?hy45⟩) (by assumption) ?_
      case hi45 => (simp only [List.getElem?_toArray, List.getElem?_cons_succ, List.getElem?_cons_zero]; rfl)
      case hQ45 => exact fun _ _ _ h => h
      case hw45 => rfl
      case hy45 => (intro w hSw; (try dsimp only at hSw); go_simp; (try with_reducible rfl))
      simp only [Act.put, List.setIfInBounds_toArray, List.set_cons_zero, List.set_cons_succ]
      refine wpAnyH_take (i := 10) (oi := ?o46) (v := ?v46) ?hi46 (by kernel_rfl) (by kernel_rfl) (by kernel_rfl) ?hQ46 (Or.inl ⟨?hw46, ?hy46⟩) (by assumption) ?_
      case hi46 => (simp only [List.getElem?_toArray, List.getElem?_cons_succ, List.getElem?_cons_zero]; rfl)
      case hQ46 => exact fun _ _ _ h => h
      case hw46 => rfl
      case hy46 => (intro w hSw; (try dsimp only at hSw); go_simp; (try with_reducible rfl))
      simp only [Act.put, List.setIfInBounds_toArray, List.set_cons_zero, List.set_cons_succ]
      refine wpAnyH_take (i := 11) (oi := ?o47) (v := ?v47) ?hi47 (by kernel_rfl) (by kernel_rfl) (by kernel_rfl) ?hQ47 (Or.inl ⟨?hw47, ?hy47⟩) (by assumption) ?_
      case hi47 => (simp only [List.getElem?_toArray, List.getElem?_cons_succ, List.getElem?_cons_zero]; rfl)
      case hQ47 => exact fun _ _ _ h => h
      case hw47 => rfl
      case hy47 => (intro w hSw; (try dsimp only at hSw); go_simp; (try with_reducible rfl))
      simp only [Act.put, List.setIfInBounds_toArray, List.set_cons_zero, List.set_cons_succ]
      refine wpAnyH_take (i := 12) (oi := ?o48) (v := ?v48) ?hi48 (by kernel_rfl) (by kernel_rfl) (by kernel_rfl) ?hQ48 (Or.inl ⟨?hw48, ?hy48⟩) (by assumption) ?_
      case hi48 => (simp only [List.getElem?_toArray, List.getElem?_cons_succ, List.getElem?_cons_zero]; rfl)
      case hQ48 => exact fun _ _ _ h => h
      case hw48 => rfl
      case hy48 => (intro w hSw; (try dsimp only at hSw); go_simp; (try with_reducible rfl))
      simp only [Act.put, List.setIfInBounds_toArray, List.set_cons_zero, List.set_cons_succ]
      refine wpAnyH_ready (rs := [13]) (by kernel_rfl) (by simp) ?_
      refine AllReadyH.cons (o := ?o49) ?hi49 (fun K hK => ?_) AllReadyH.nil
      case hi49 => (simp only [List.getElem?_toArray, List.getElem?_cons_succ, List.getElem?_cons_zero]; rfl)
      go_simp
      skip
      refine hK.out _ _ ?_ (fun hHeld => ?_)
      · (first | (with_reducible assumption) | (with_reducible exact ((Ft.refl FO W4).alloc _).drew))
      clear hK K
      refine wpAnyH_ready (rs := [14]) (by kernel_rfl) (by simp) ?_
      refine AllReadyH.cons (o := ?o50) ?hi50 (fun K hK => ?_) AllReadyH.nil
      case hi50 => (simp only [List.getElem?_toArray, List.getElem?_cons_succ, List.getElem?_cons_zero]; rfl)
      refine rstep_g rfd rfl _ _ rfl (D := D3) (.slice a j cap) ((F.take j).map (frdOf z i)) rfl ((unhide HK).2.1 _) [⟨i1, (k : Int), (i : Int), m, rk⟩] (rnews_box rfd (unhide HBX _) rfl) (by rw [unhide HLEN]; simp; omega) (by have := (unhide HK).2.2.1; simp; omega) ?_; intro v1 w5 o1 G1; have S6 : Ft FO W4 w5 := Ft.grown (by assumption) G1 (fun g hg => .inl ((unhide HK).2.2.2.2 g hg))
      refine hK.out _ _ ?_ (fun hHeld => ?_)
      · (first | (with_reducible assumption) | (with_reducible exact ((Ft.refl FO W4).alloc _).drew))
      clear hK K
      refine wpAnyH_take (i := 15) (oi := ?o51) (v := ?v51) ?hi51 (by kernel_rfl) (by kernel_rfl) (by kernel_rfl) ?hQ51 (Or.inl ⟨?hw51, ?hy51⟩) (by assumption) ?_
      case hi51 => (simp only [List.getElem?_toArray, List.getElem?_cons_succ, List.getElem?_cons_zero]; rfl)
      case hQ51 => exact fun _ _ _ h => h
      case hw51 => rfl
      case hy51 => (intro w hSw; (try dsimp only at hSw); go_simp; (try with_reducible rfl))
      simp only [Act.put, List.setIfInBounds_toArray, List.set_cons_zero, List.set_cons_succ]
      refine wpAnyH_done (by kernel_rfl) ?_ _
      all_goals
        obtain ⟨ra2, rcap2, hf2, -⟩ := o1.form
        have hlen1 : ((F.take j).map (frdOf z i) ++ [(⟨i1, (k : Int), (i : Int), m, rk⟩ : Frd)]).length = j + 1 := by rw [List.length_append, unhide HLEN]; rfl
        rw [hlen1] at hf2
        subst hf2
        have H5 := hide (And.intro (Ft.low (unhide HK).1 S6 (unhide HK).2.2.2.1 (unhide HK).2.2.1) o1)
        clear S6 o1 G1 hlen1 HK HBX d0 d1 t0 tk S0 hHeld
        go_wp2_with fail
        go_roundw
        case rel =>
          refine ⟨j + 1, ra2, rcap2, by first | rfl | go_num, by omega, rfl, hide ⟨(unhide H5).1, ?_⟩⟩
          have o1 := (unhide H5).2
          rw [← unhide HFR] at o1
          rw [List.take_add_one, unhide HY, Option.toList_some, List.map_append, List.map_cons, List.map_nil]
          exact o1
        case measure => simp [intOf]; omega
    · obtain rfl : j = NF := by omega
      go_wp2_with fail
      go_ret
      have hb := (unhide HJ).1
      have hs3 : w.heap.size ≤ D3 := by have := (unhide HB3).2.1.size; have := (unhide HB3).2.2.size; omega
      refine ⟨_, rfl, ?_, (unhide HE3).below (hD3 ▸ hb), ((Ft.of_below _ (unhide HB3).2.1).trans ((unhide HB3).2.2.mono (unhide HFE))).trans (Ft.of_below _ (hD3 ▸ hb))⟩
      have o := (unhide HJ).2
      rw [List.take_of_length_le (Nat.le_of_eq (unhide HNF))] at o
      exact o.mono hs3
end
end Go.Proofs.YtjjdkkdnlnbedaaGreat
