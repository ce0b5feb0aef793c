/- A processor goes. -/
import Derived.Test.YtjjdkkdnlnbedaaGreatEnOk
import Derived.Test.YtjjdkkdnlnbedaaGreatEn9
namespace Go.Proofs.YtjjdkkdnlnbedaaGreat
open Go.RowKit Kt Qu
set_option linter.unusedVariables false
section
variable {w w' : World} {l : Loc} {e : En}
theorem Es.doff (h : Es w l e) {i : Nat} (hi : i < e.n) : Calls Tryz.prog 78 #[.pointer (some ⟨l.d i, 0, none⟩)] w fun r w' => r = .returned (.tuple #[]) ∧ Es w' l (e.set i { e.cp i with on := false, arm := none, la := false }) ∧ Ft (efoot l) w w' := by
  refine (off_any w (h.dv i hi)).mono ?_
  rintro r w2 ⟨rfl, hD, ht⟩
  exact ⟨rfl, h.devd hi hD (Ft.of_tch ht) rfl rfl rfl, (Ft.of_tch ht).mono fun k hk => ⟨_, hk ▸ h.od i hi⟩⟩
theorem Es.okt (h : Es w l e) {i : Nat} (hi : i < e.n) : ∀ t ∈ (e.cp i).L, okT t := fun t ht => by
  obtain ⟨R, hR, hL⟩ := h.bs i hi
  exact hR.okt t (hL ▸ ht)
/-- The moves of a processor's timers. -/
structure MJ (w3 : World) (l : Loc) (e : En) (c t j : Nat) (w' : World) (l' : Loc) : Prop where
  es : Es w' l' (e.mid c t j)
  lx : Lx w3 l l' j
  ft : Ft (efoot l) w3 w'
set_option maxRecDepth 20000 in
set_option maxHeartbeats 4000000 in
theorem leave_any (h : Es w l e) (hok : EnOk e) (cpu : Int) (hm : l.m + 400 < 1000000) : Calls Tryz.prog 41 #[.pointer (some ⟨l.g, 0, none⟩), .int .i64 cpu] w fun r w' => r = .returned (.int .i64 (e.leave cpu).1) ∧ ∃ l', Es w' l' (e.leave cpu).2 ∧ Lx w l l' 64 ∧ Ft (efoot l) w w' := by
  have ho := hok.onl
  have g1 : w.cell? ⟨l.g, 1, none⟩ = some (.slice (some ⟨l.r, 0, none⟩) e.n l.cap) := blkAt h.box 1 _ rfl
  have g2 : w.cell? ⟨l.g, 2, none⟩ = some (.int .u32 (e.M : Int)) := blkAt h.box 2 _ rfl
  have CH := fun w' => hide (h.has cpu w')
  have HH := hide h
  have hle := h.n16
  have hcap := h.cap
  by_cases hon : e.on cpu = true
  case neg =>
    have hon2 : e.on cpu = false := by simpa using hon
    have E : e.leave cpu = (2, e) := if_pos hon2
    rw [E]
    rw [hon2] at CH
    clear h ho hon hon2 E g1 hok
    generalize (e.M : Int) = M at *
    go_enter Tryz.func41, Tryz.ntmps41
    go_wp2_with (go_at_call 61; refine (unhide (CH _)).mono ?_; rintro r w1 ⟨rfl, rfl⟩)
    go_ret
    exact ⟨rfl, l, unhide HH, Lx.refl _ _ _, Ft.refl _ _⟩
  obtain ⟨c, rfl, hc, honc⟩ := Onl.at ho hon
  rw [hon] at CH
  have CWo := fun w' => hide (Mk.without_any e.M (c : Int) (by have := h.M16; omega) w')
  have hwo := Mk.woN_lt e.M (c : Int)
  have CNx := fun w' => hide (Mk.next_any (Mk.woN e.M (c : Int)) (c : Int) hwo w')
  by_cases hnx : (Mk.nextL (Mk.listOf (Mk.woN e.M (c : Int))) (c : Int)).2 = true
  case neg =>
    have hnx2 : (Mk.nextL (Mk.listOf (Mk.woN e.M (c : Int))) (c : Int)).2 = false := by simpa using hnx
    have E : e.leave (c : Int) = (8, e) := by unfold En.leave; rw [if_neg (by rw [hon]; decide), if_pos hnx2]
    rw [E]
    rw [hnx2] at CNx
    clear h ho hon E hok hnx hnx2 hwo
    generalize (Mk.nextL (Mk.listOf (Mk.woN e.M (c : Int))) (c : Int)).1 = x at *
    generalize ((Mk.woN e.M (c : Int) : Nat) : Int) = MW at *
    generalize (e.M : Int) = M at *
    go_enter Tryz.func41, Tryz.ntmps41
    go_wp2_with (first | (go_at_call 61; refine (unhide (CH _)).mono ?_; rintro r w1 ⟨rfl, rfl⟩) | (go_at_call 76; refine (unhide (CWo _)).mono ?_; rintro r w2 ⟨rfl, rfl⟩) | (go_at_call 77; refine (unhide (CNx _)).mono ?_; rintro r w3 ⟨rfl, hb3⟩; have HB := hide hb3; clear hb3))
    go_ret
    exact ⟨rfl, l, (unhide HH).below (unhide HB), Lx.refl _ _ _, Ft.of_below _ (unhide HB)⟩
  obtain ⟨t, htm, ht1⟩ := nextL_mem hnx
  have htb := (Mk.mem_list _ _).1 htm
  have htb2 := htb.2
  rw [Mk.woN_bit e.M (c : Int) t htb.1] at htb2
  simp only [Bool.and_eq_true, Bool.not_eq_true', decide_eq_false_iff_not] at htb2
  have htc : t ≠ c := fun q => htb2.2 (by rw [q])
  obtain ⟨htn, hont⟩ := ho t htb.1 htb2.1
  have hwo16 : Mk.woN e.M (c : Int) < 65536 := Nat.lt_of_le_of_lt (show Mk.woN e.M (c : Int) ≤ e.M % 65536 from Nat.and_le_left) (Nat.mod_lt _ (by decide))
  rw [hnx, ht1] at CNx
  have E : e.leave (c : Int) = (0, (e.gone c t (Mk.woN e.M (c : Int))).set t ((e.gone c t (Mk.woN e.M (c : Int))).look ((e.gone c t (Mk.woN e.M (c : Int))).cp t))) := by
    unfold En.leave
    rw [if_neg (by rw [hon]; decide), if_neg (by rw [hnx]; decide), ht1]
    rfl
  rw [E]
  -- numbers of the move
  obtain ⟨NL, hNL⟩ : ∃ N, (e.cp c).L.length = N := ⟨_, rfl⟩
  have htot := lenTo_two e hc htn (fun q => htc q.symm)
  have hlen64 := hok.len
  have hNL64 : NL ≤ 64 := by have := lenTo_le e hc; unfold En.len at hlen64; omega
  have MOVE : ∀ (j : Nat) (y : Tmr), (e.cp c).L[j]? = some y → okT y ∧ 0 ≤ y.clock ∧ y.clock ≤ 2 ∧ y.soft ≤ y.hard ∧ y.id ∈ idsT ((e.mid c t j).cp c).L ∧ y.id ∉ idsT ((e.mid c t j).cp t).L ∧ ((e.mid c t j).cp t).L.length < 64 := by
    intro j y hy
    have hmem := List.mem_of_getElem? hy
    obtain ⟨k0, k2, k3, k4⟩ := hok.tm c y hc hmem
    obtain ⟨d1, -, -, d4⟩ := drop_head (hok.nd c hc) hy
    have hj := (List.getElem?_eq_some_iff.1 hy).1
    refine ⟨k4, k0, k2, k3, ?_, ?_, ?_⟩
    · rw [mid_c]
      show y.id ∈ idsT ((e.cp c).L.drop j)
      rw [d1]; unfold idsT; simp
    · rw [mid_t e j htc]
      intro q
      rcases foldA_ids.1 q with q | q
      · exact d4 q
      · exact hok.dj c t y.id hc htn (fun z => htc z.symm) (List.mem_map.2 ⟨y, hmem, rfl⟩) q
    · rw [mid_t e j htc]
      show (foldA _ _).length < 64
      rw [foldA_len, List.length_take]
      unfold En.len at hlen64
      omega
  have HMV := hide MOVE
  have HST := hide (fun (j : Nat) (y : Tmr) (hy : (e.cp c).L[j]? = some y) => mid_step e htc (hok.nd c hc) hy)
  have HOK := hide (And.intro hc (And.intro htn (And.intro htc (And.intro honc (And.intro hont hwo16)))))
  have HNL := hide hNL
  have CBa := hide (fun w2 (hb : Below w.heap.size w w2) => (h.below hb).ball hc)
  have HR1 := hide (h.row c hc).1
  have HG := hide (fun w2 (l' : Loc) (e' : En) (h2 : Es w2 l' e') (hn : e'.n = e.n) (hg : l'.g = l.g) (hr : l'.r = l.r) (hcp : l'.cap = l.cap) => show w2.cell? ⟨l.g, 1, none⟩ = some (.slice (some ⟨l.r, 0, none⟩) e.n l.cap) from by
    have := blkAt h2.box 1 (.slice (some ⟨l'.r, 0, none⟩) e'.n l'.cap) rfl
    rw [hn, hg, hr, hcp] at this
    exact this)
  clear ho hon hok htm htb htb2 hnx ht1 E htot hlen64 MOVE hwo hont honc hNL
  obtain ⟨n, hn⟩ : ∃ n, e.n = n := ⟨_, rfl⟩
  rw [hn] at hle hcap g1 hc htn
  have HN := hide hn
  clear hn
  obtain ⟨L0, hL0⟩ : ∃ L0, (e.cp c).L = L0 := ⟨_, rfl⟩
  rw [hL0] at CBa HNL HMV HST
  have HL0 := hide hL0
  clear hL0 h
  generalize hMW : ((Mk.woN e.M (c : Int) : Nat) : Int) = MW at *
  have HMW := hide hMW
  clear hMW
  generalize hMM : (e.M : Int) = M at *
  clear hMM
  go_enter Tryz.func41, Tryz.ntmps41
  go_wp2_with (first | (go_at_call 61; refine (unhide (CH _)).mono ?_; rintro r w1 ⟨rfl, rfl⟩) | (go_at_call 76; refine (unhide (CWo _)).mono ?_; rintro r w0 ⟨rfl, rfl⟩) | (go_at_call 77; refine Hid.out ?_))
  refine hide ?_
  refine (unhide (CNx _)).mono ?_
  rintro r w2 ⟨rfl, hb2⟩
  have h2 := (unhide HH).below hb2
  have z1 := unhide HG w2 l e h2 rfl rfl rfl rfl
  rw [unhide HN] at z1
  have z2 := (h2.row c (by rw [unhide HN]; exact hc)).1
  have CB2 := hide (unhide CBa w2 hb2)
  have HB2 := hide hb2
  clear h2 hb2 CBa CH CWo CNx g1 g2
  go_wp2_with (go_at_call 29; refine Hid.out ?_)
  refine hide ?_
  refine (unhide CB2).mono ?_
  rintro r w3 ⟨v3, rfl, row3, hb3⟩
  obtain ⟨ra, rcap, rfl, rd3⟩ := Rd.of row3
  have hNL := unhide HNL
  rw [hNL] at rd3
  rw [hNL]
  have HB3 := hide ((unhide HB2).trans (hb3.mono (unhide HB2).size))
  have HR := hide (And.intro rd3 (unhide HB2).size)
  clear row3 rd3 hb3 CB2 z1 z2 hNL
  go_wp2_with fail
  go_loopw [44] (fun s44 w' => ∃ j : Nat, s44 = .int .i64 (j : Int) ∧ j ≤ NL ∧ Hid (∃ l', MJ w3 l e c t j w' l')) (fun d _ => NL - (intOf d).toNat)
  case atStart => exact ⟨0, rfl, by omega, hide ⟨l, by rw [mid_zero]; exact (unhide HH).below (unhide HB3), Lx.refl _ _ _, Ft.refl _ _⟩⟩
  case round =>
    obtain ⟨j, rfl, hj, HJ⟩ := hrel
    by_cases hlt : j < NL
    · obtain ⟨lj, hJ⟩ := unhide HJ
      obtain ⟨y, hy⟩ : ∃ y, L0[j]? = some y := ⟨_, List.getElem?_eq_getElem (by rw [unhide HNL]; exact hlt)⟩
      obtain ⟨hyo, hyc0, hyc2, hyh, hyi, hyn, hyl⟩ := unhide HMV j y hy
      have hE3 := unhide HST j y hy
      have rdj := (unhide HR).1.ft hJ.ft (fun x hx q => by
        have h1 := (unhide HH).lt x.block q
        have h2 := (unhide HR).1.blk x hx
        have h3 := (unhide HR).2
        omega)
      obtain ⟨g', o', rfl, hgl', y0, y1, y2, y3, y4⟩ := tcells' rdj hy
      obtain ⟨B4, hB4⟩ : ∃ b, wr.heap.size = b := ⟨_, rfl⟩
      obtain ⟨i1, i2, i3, i4, i5⟩ := y
      simp only at y0 y1 y2 y3 y4 hyc0 hyc2 hyh hyi hyn hE3
      obtain ⟨W4, hW4⟩ : ∃ W4, W4 = wr.alloc (.cells #[.int .i64 i1, .int .i64 i2, .int .i64 i3, .int .i64 i4, .bool i5] 35) := ⟨_, rfl⟩
      have b4 : Below wr.heap.size wr W4 := by rw [hW4]; exact one_below _ _
      have k4 : Blk W4 B4 35 #[.int .i64 i1, .int .i64 i2, .int .i64 i3, .int .i64 i4, .bool i5] := by rw [hW4]; exact Blk.new_at _ _ _ hB4.symm
      have h4 := hJ.es.below b4
      have hx := hJ.lx
      have hcn : c < (e.mid c t j).n := (unhide HOK).1
      have htnm : t < (e.mid c t j).n := (unhide HOK).2.1
      have nB : ¬ efoot lj B4 := fun q => by have := hJ.es.lt B4 q; omega
      -- the first call
      have hFc : ∀ k, bfoot (lj.b c) (lj.P c) k → efoot lj k := h4.bf hcn
      have ngc : ¬ bfoot (lj.b c) (lj.P c) lj.r := fun q => by have := h4.uq _ _ _ h4.orr (h4.ob c _ hcn q); omega
      have eb : lj.b c = l.b c := by rw [hx.b]
      have er : lj.r = l.r := hx.r
      have rc := (h4.row c hcn).1
      have d0 : ∀ w', Ft (bfoot (lj.b c) (lj.P c)) W4 w' → w'.cell? ⟨l.r, c * 4, none⟩ = some (.pointer (some ⟨l.b c, 0, none⟩)) := fun w' f => by
        have := f.cell rc ngc
        rw [eb, er] at this
        exact this
      have d1 : ∀ w', Ft (bfoot (lj.b c) (lj.P c)) W4 w' → w'.cell? ⟨B4, 0, none⟩ = some (.int .i64 i1) := fun w' f => blkAt (k4.ft f (fun q => nB (hFc _ q))) 0 _ rfl
      have S0 : Ft (bfoot (lj.b c) (lj.P c)) W4 W4.drew := (Ft.refl _ _).drew
      have CC := hide ((h4.below (show Below W4.heap.size W4 W4.drew from (Below.refl _ _).drew)).bcancel hcn hyi)
      rw [eb] at CC
      have H4 := hide (And.intro h4 (And.intro k4 (And.intro nB (And.intro hFc (And.intro hx (And.intro hJ.ft b4))))))
      have HY := hide (And.intro hyo (And.intro hyc0 (And.intro hyc2 (And.intro hyn (And.intro hyl (And.intro hyh (And.intro hE3 hy)))))))
      have HW4 := hide hW4
      clear hJ HJ rdj b4 k4 h4 hx nB hFc ngc rc hyo hyc0 hyc2 hyh hyi hyn hyl hE3 hy hW4
      have HCN := hide (And.intro hcn htnm)
      clear hcn htnm
      rw [← eb] at CC
      generalize hFT : bfoot (lj.b c) (lj.P c) = FT at *
      rw [eb] at CC
      clear hFT
      generalize l.b c = bc at *
      go_upto_region 11 with fail
      rw [← unhide HW4]
      clear y0 y1 y2 y3 y4 HW4
      refine wp_region_held_drew (S := (fun w' => Ft FT W4 w')) (by kernel_rfl) ?_ (fun hHeld => ?_)
      · (first | assumption)
      refine wpAnyH_take (i := 0) (oi := ?o1) (v := ?v1) ?hi1 (by kernel_rfl) (by kernel_rfl) (by kernel_rfl) ?hQ1 (Or.inl ⟨?hw1, ?hy1⟩) (by assumption) ?_
      case hi1 => (simp only [List.getElem?_toArray, List.getElem?_cons_zero]; rfl)
      case hQ1 => exact fun _ _ _ h => h
      case hw1 => rfl
      case hy1 => (intro w hSw; (try dsimp only at hSw); go_simp; (try with_reducible rfl))
      simp only [Act.put, List.setIfInBounds_toArray, List.set_cons_zero, List.set_cons_succ]
      refine wpAnyH_take (i := 1) (oi := ?o2) (v := ?v2) ?hi2 (by kernel_rfl) (by kernel_rfl) (by kernel_rfl) ?hQ2 (Or.inl ⟨?hw2, ?hy2⟩) (by assumption) ?_
      case hi2 => (simp only [List.getElem?_toArray, List.getElem?_cons_succ, List.getElem?_cons_zero]; rfl)
      case hQ2 => exact fun _ _ _ h => h
      case hw2 => rfl
      case hy2 => (intro w hSw; (try dsimp only at hSw); go_simp; (try with_reducible rfl))
      simp only [Act.put, List.setIfInBounds_toArray, List.set_cons_zero, List.set_cons_succ]
      refine wpAnyH_take (i := 2) (oi := ?o3) (v := ?v3) ?hi3 (by kernel_rfl) (by kernel_rfl) (by kernel_rfl) ?hQ3 (Or.inl ⟨?hw3, ?hy3⟩) (by assumption) ?_
      case hi3 => (simp only [List.getElem?_toArray, List.getElem?_cons_succ, List.getElem?_cons_zero]; rfl)
      case hQ3 => exact fun _ _ _ h => h
      case hw3 => rfl
      case hy3 => (intro w hSw; (try dsimp only at hSw); go_simp; (try with_reducible rfl))
      simp only [Act.put, List.setIfInBounds_toArray, List.set_cons_zero, List.set_cons_succ]
      refine wpAnyH_take (i := 3) (oi := ?o4) (v := ?v4) ?hi4 (by kernel_rfl) (by kernel_rfl) (by kernel_rfl) ?hQ4 (Or.inl ⟨?hw4, ?hy4⟩) (by assumption) ?_
      case hi4 => (simp only [List.getElem?_toArray, List.getElem?_cons_succ, List.getElem?_cons_zero]; rfl)
      case hQ4 => exact fun _ _ _ h => h
      case hw4 => rfl
      case hy4 => (intro w hSw; (try dsimp only at hSw); go_simp; (try with_reducible rfl))
      simp only [Act.put, List.setIfInBounds_toArray, List.set_cons_zero, List.set_cons_succ]
      refine wpAnyH_take (i := 4) (oi := ?o5) (v := ?v5) ?hi5 (by kernel_rfl) (by kernel_rfl) (by kernel_rfl) ?hQ5 (Or.inl ⟨?hw5, ?hy5⟩) (by assumption) ?_
      case hi5 => (simp only [List.getElem?_toArray, List.getElem?_cons_succ, List.getElem?_cons_zero]; rfl)
      case hQ5 => exact fun _ _ _ h => h
      case hw5 => rfl
      case hy5 => (intro w hSw; (try dsimp only at hSw); go_simp; (try with_reducible rfl))
      simp only [Act.put, List.setIfInBounds_toArray, List.set_cons_zero, List.set_cons_succ]
      refine wpAnyH_take (i := 5) (oi := ?o6) (v := ?v6) ?hi6 (by kernel_rfl) (by kernel_rfl) (by kernel_rfl) ?hQ6 (Or.inl ⟨?hw6, ?hy6⟩) (by assumption) ?_
      case hi6 => (simp only [List.getElem?_toArray, List.getElem?_cons_succ, List.getElem?_cons_zero]; rfl)
      case hQ6 => exact fun _ _ _ h => h
      case hw6 => rfl
      case hy6 => (intro w hSw; (try dsimp only at hSw); go_simp; (try with_reducible rfl))
      simp only [Act.put, List.setIfInBounds_toArray, List.set_cons_zero, List.set_cons_succ]
      refine wpAnyH_ready (rs := [6]) (by kernel_rfl) (by simp) ?_
      refine AllReadyH.cons (o := ?o7) ?hi7 (fun K hK => ?_) AllReadyH.nil
      case hi7 => (simp only [List.getElem?_toArray, List.getElem?_cons_succ, List.getElem?_cons_zero]; rfl)
      go_simp
      (go_at_call 67; refine (unhide CC).mono ?_; rintro r w5 ⟨⟨t5, rfl⟩, h5, f5⟩; have S5 : Ft FT W4 w5 := S0.trans f5; have H5 := hide (And.intro h5 S5); clear h5 f5); go_wp2_with fail
      refine hK.out _ _ ?_ (fun hHeld => ?_)
      · (first | assumption)
      clear hK K
      refine wpAnyH_done (by kernel_rfl) ?_ _
      obtain ⟨hcn, htnm⟩ := unhide HCN
      obtain ⟨h5, f5⟩ := unhide H5
      obtain ⟨h4, k4, nB, hFc, hx, hjf, b4⟩ := unhide H4
      obtain ⟨hyo, hyc0, hyc2, hyn, hyl, hyh, hE3, hy⟩ := unhide HY
      have htc2 := (unhide HOK).2.2.1
      have k5 := k4.ft f5 (fun q => nB (hFc _ q))
      have s5 : wr.heap.size ≤ w5.heap.size := by have := b4.size; have := f5.size; omega
      have e5t : ((e.mid c t j).set c { (e.mid c t j).cp c with L := ((e.mid c t j).cp c).L.filter fun t => decide (t.id ≠ i1) }).cp t = (e.mid c t j).cp t := En.set_ne _ _ htc2
      have b5 : Below w5.heap.size w5 w5.drew := (Below.refl _ _).drew
      have CS := hide ((h5.below b5).bstart (i := t) htnm (by have := hx.m; omega) hyo hyc0 hyc2 (by rw [e5t]; exact hyn) (by rw [e5t]; exact hyl) hyh)
      rw [e5t, hE3] at CS
      have hFt : ∀ k, bfoot (lj.b t) (lj.P t) k → efoot lj k := h5.bf htnm
      have ngt : ¬ bfoot (lj.b t) (lj.P t) lj.r := fun q => by have := h5.uq _ _ _ h5.orr (h5.ob t _ htnm q); omega
      have nggt : ¬ bfoot (lj.b t) (lj.P t) l.g := fun q => by
        rw [← hx.g] at q
        have := h5.uq _ _ _ h5.og (h5.ob t _ htnm q); omega
      have g5 := unhide HG w5 lj _ h5 rfl hx.g hx.r hx.cap
      rw [unhide HN] at g5
      have rt := (h5.row t htnm).1
      have eb2 : lj.b t = l.b t := by rw [hx.b]
      have er2 : lj.r = l.r := hx.r
      have q0 : ∀ w', Ft (bfoot (lj.b t) (lj.P t)) w5 w' → w'.cell? ⟨l.r, t * 4, none⟩ = some (.pointer (some ⟨l.b t, 0, none⟩)) := fun w' f => by
        have := f.cell rt ngt
        rw [eb2, er2] at this
        exact this
      have q1 : ∀ w', Ft (bfoot (lj.b t) (lj.P t)) w5 w' → w'.cell? ⟨l.g, 1, none⟩ = some (.slice (some ⟨l.r, 0, none⟩) n l.cap) := fun w' f => f.cell g5 nggt
      have z0 : ∀ w', Ft (bfoot (lj.b t) (lj.P t)) w5 w' → w'.cell? ⟨B4, 0, none⟩ = some (.int .i64 i1) := fun w' f => blkAt (k5.ft f (fun q => nB (hFt _ q))) 0 _ rfl
      have z1 : ∀ w', Ft (bfoot (lj.b t) (lj.P t)) w5 w' → w'.cell? ⟨B4, 1, none⟩ = some (.int .i64 i2) := fun w' f => blkAt (k5.ft f (fun q => nB (hFt _ q))) 1 _ rfl
      have z2 : ∀ w', Ft (bfoot (lj.b t) (lj.P t)) w5 w' → w'.cell? ⟨B4, 2, none⟩ = some (.int .i64 i3) := fun w' f => blkAt (k5.ft f (fun q => nB (hFt _ q))) 2 _ rfl
      have z3 : ∀ w', Ft (bfoot (lj.b t) (lj.P t)) w5 w' → w'.cell? ⟨B4, 3, none⟩ = some (.int .i64 i4) := fun w' f => blkAt (k5.ft f (fun q => nB (hFt _ q))) 3 _ rfl
      have z4 : ∀ w', Ft (bfoot (lj.b t) (lj.P t)) w5 w' → w'.cell? ⟨B4, 4, none⟩ = some (.bool i5) := fun w' f => blkAt (k5.ft f (fun q => nB (hFt _ q))) 4 _ rfl
      have T0 : Ft (bfoot (lj.b t) (lj.P t)) w5 w5.drew := (Ft.refl _ _).drew
      have f35 : Ft (efoot l) w3 w5 := ((hjf.trans (Ft.of_below _ b4)).next f5 (fun x hq => hx.foot x (hFc x hq)))
      have HX := hide (And.intro hx (And.intro f35 hFt))
      have hsz35 : w3.heap.size ≤ w5.heap.size := f35.size
      unfold tv at CS
      clear h5 f5 h4 k4 nB hFc hx hjf b4 hyo hyc0 hyc2 hyn hyl hyh hE3 hy k5 e5t b5 hFt ngt nggt g5 rt H4 H5 HY HCN hHeld S0 S5 d0 d1 hcn htnm
      rw [eb2] at CS
      rw [← eb2] at CS
      generalize hFT2 : bfoot (lj.b t) (lj.P t) = FT2 at *
      rw [eb2] at CS
      have HFT2 := hide hFT2
      clear hFT2
      generalize l.b t = bt at *
      have htn2 := htn
      go_wp2_with fail
      refine wp_region_held_drew (S := (fun w' => Ft FT2 w5 w')) (by kernel_rfl) ?_ (fun hHeld => ?_)
      · (first | assumption)
      refine wpAnyH_take (i := 0) (oi := ?o8) (v := ?v8) ?hi8 (by kernel_rfl) (by kernel_rfl) (by kernel_rfl) ?hQ8 (Or.inl ⟨?hw8, ?hy8⟩) (by assumption) ?_
      case hi8 => (simp only [List.getElem?_toArray, List.getElem?_cons_zero]; rfl)
      case hQ8 => exact fun _ _ _ h => h
      case hw8 => rfl
      case hy8 => (intro w hSw; (try dsimp only at hSw); go_simp; (try with_reducible rfl))
      simp only [Act.put, List.setIfInBounds_toArray, List.set_cons_zero, List.set_cons_succ]
      refine wpAnyH_take (i := 1) (oi := ?o9) (v := ?v9) ?hi9 (by kernel_rfl) (by kernel_rfl) (by kernel_rfl) ?hQ9 (Or.inl ⟨?hw9, ?hy9⟩) (by assumption) ?_
      case hi9 => (simp only [List.getElem?_toArray, List.getElem?_cons_succ, List.getElem?_cons_zero]; rfl)
      case hQ9 => exact fun _ _ _ h => h
      case hw9 => rfl
      case hy9 => (intro w hSw; (try dsimp only at hSw); go_simp; (try with_reducible rfl))
      simp only [Act.put, List.setIfInBounds_toArray, List.set_cons_zero, List.set_cons_succ]
      refine wpAnyH_take (i := 2) (oi := ?o10) (v := ?v10) ?hi10 (by kernel_rfl) (by kernel_rfl) (by kernel_rfl) ?hQ10 (Or.inl ⟨?hw10, ?hy10⟩) (by assumption) ?_
      case hi10 => (simp only [List.getElem?_toArray, List.getElem?_cons_succ, List.getElem?_cons_zero]; rfl)
      case hQ10 => exact fun _ _ _ h => h
      case hw10 => rfl
      case hy10 => (intro w hSw; (try dsimp only at hSw); go_simp; (try with_reducible rfl))
      simp only [Act.put, List.setIfInBounds_toArray, List.set_cons_zero, List.set_cons_succ]
      refine wpAnyH_take (i := 3) (oi := ?o11) (v := ?v11) ?hi11 (by kernel_rfl) (by kernel_rfl) (by kernel_rfl) ?hQ11 (Or.inl ⟨?hw11, ?hy11⟩) (by assumption) ?_
      case hi11 => (simp only [List.getElem?_toArray, List.getElem?_cons_succ, List.getElem?_cons_zero]; rfl)
      case hQ11 => exact fun _ _ _ h => h
      case hw11 => rfl
      case hy11 => (intro w hSw; (try dsimp only at hSw); go_simp; (try with_reducible rfl))
      simp only [Act.put, List.setIfInBounds_toArray, List.set_cons_zero, List.set_cons_succ]
      refine wpAnyH_take (i := 4) (oi := ?o12) (v := ?v12) ?hi12 (by kernel_rfl) (by kernel_rfl) (by kernel_rfl) ?hQ12 (Or.inl ⟨?hw12, ?hy12⟩) (by assumption) ?_
      case hi12 => (simp only [List.getElem?_toArray, List.getElem?_cons_succ, List.getElem?_cons_zero]; rfl)
      case hQ12 => exact fun _ _ _ h => h
      case hw12 => rfl
      case hy12 => (intro w hSw; (try dsimp only at hSw); go_simp; (try with_reducible rfl))
      simp only [Act.put, List.setIfInBounds_toArray, List.set_cons_zero, List.set_cons_succ]
      refine wpAnyH_take (i := 5) (oi := ?o13) (v := ?v13) ?hi13 (by kernel_rfl) (by kernel_rfl) (by kernel_rfl) ?hQ13 (Or.inl ⟨?hw13, ?hy13⟩) (by assumption) ?_
      case hi13 => (simp only [List.getElem?_toArray, List.getElem?_cons_succ, List.getElem?_cons_zero]; rfl)
      case hQ13 => exact fun _ _ _ h => h
      case hw13 => rfl
      case hy13 => (intro w hSw; (try dsimp only at hSw); go_simp; (try with_reducible rfl))
      simp only [Act.put, List.setIfInBounds_toArray, List.set_cons_zero, List.set_cons_succ]
      refine wpAnyH_take (i := 6) (oi := ?o14) (v := ?v14) ?hi14 (by kernel_rfl) (by kernel_rfl) (by kernel_rfl) ?hQ14 (Or.inl ⟨?hw14, ?hy14⟩) (by assumption) ?_
      case hi14 => (simp only [List.getElem?_toArray, List.getElem?_cons_succ, List.getElem?_cons_zero]; rfl)
      case hQ14 => exact fun _ _ _ h => h
      case hw14 => rfl
      case hy14 => (intro w hSw; (try dsimp only at hSw); go_simp; (try with_reducible rfl))
      simp only [Act.put, List.setIfInBounds_toArray, List.set_cons_zero, List.set_cons_succ]
      refine wpAnyH_take (i := 7) (oi := ?o15) (v := ?v15) ?hi15 (by kernel_rfl) (by kernel_rfl) (by kernel_rfl) ?hQ15 (Or.inl ⟨?hw15, ?hy15⟩) (by assumption) ?_
      case hi15 => (simp only [List.getElem?_toArray, List.getElem?_cons_succ, List.getElem?_cons_zero]; rfl)
      case hQ15 => exact fun _ _ _ h => h
      case hw15 => rfl
      case hy15 => (intro w hSw; (try dsimp only at hSw); go_simp; (try with_reducible rfl))
      simp only [Act.put, List.setIfInBounds_toArray, List.set_cons_zero, List.set_cons_succ]
      refine wpAnyH_take (i := 8) (oi := ?o16) (v := ?v16) ?hi16 (by kernel_rfl) (by kernel_rfl) (by kernel_rfl) ?hQ16 (Or.inl ⟨?hw16, ?hy16⟩) (by assumption) ?_
      case hi16 => (simp only [List.getElem?_toArray, List.getElem?_cons_succ, List.getElem?_cons_zero]; rfl)
      case hQ16 => exact fun _ _ _ h => h
      case hw16 => rfl
      case hy16 => (intro w hSw; (try dsimp only at hSw); go_simp; (try with_reducible rfl))
      simp only [Act.put, List.setIfInBounds_toArray, List.set_cons_zero, List.set_cons_succ]
      refine wpAnyH_ready (rs := [9]) (by kernel_rfl) (by simp) ?_
      refine AllReadyH.cons (o := ?o17) ?hi17 (fun K hK => ?_) AllReadyH.nil
      case hi17 => (simp only [List.getElem?_toArray, List.getElem?_cons_succ, List.getElem?_cons_zero]; rfl)
      go_simp
      (go_at_call 65; refine (unhide CS).mono ?_; rintro r w6 ⟨rfl, l6, h6, x6, f6⟩; have S6 : Ft FT2 w5 w6 := T0.trans f6; have H6 := hide (And.intro h6 (And.intro x6 S6)); clear h6 x6 f6); go_wp2_with fail
      refine hK.out _ _ ?_ (fun hHeld => ?_)
      · (first | assumption)
      clear hK K
      refine wpAnyH_done (by kernel_rfl) ?_ _
      have H7 : Hid (∃ l', MJ w3 l e c t (j + 1) w6 l') := by
        obtain ⟨h6, x6, s6⟩ := unhide H6
        obtain ⟨hx, f35, hFt⟩ := unhide HX
        exact hide ⟨l6, h6, hx.trans x6 hsz35, f35.next s6 (fun x hq => hx.foot x (hFt x hq))⟩
      clear H6 HX HFT2 hHeld T0 S6 q0 q1 z0 z1 z2 z3 z4 CS HMV HST
      go_wp2_with fail
      go_roundw
      case rel => exact ⟨j + 1, by first | rfl | go_num, by omega, H7⟩
      case measure => simp [intOf]; omega
    · obtain rfl : j = NL := by omega
      obtain ⟨lj, hJ⟩ := unhide HJ
      have hx := hJ.lx
      have hcn : c < (e.mid c t j).n := (unhide HOK).1
      have htc2 := (unhide HOK).2.2.1
      have h3 := hJ.es
      have rc := (h3.row c hcn).2.1
      have ed2 : lj.d c = l.d c := by rw [hx.d]
      have er2 : lj.r = l.r := hx.r
      rw [er2, ed2] at rc
      have CO := hide (h3.doff hcn)
      rw [ed2] at CO
      obtain ⟨E7, hE7⟩ : ∃ E7, E7 = (e.mid c t j).set c { (e.mid c t j).cp c with on := false, arm := none, la := false } := ⟨_, rfl⟩
      rw [← hE7] at CO
      obtain ⟨E8, hE8⟩ : ∃ E8, E8 = E7.set c { E7.cp c with ra := false } := ⟨_, rfl⟩
      obtain ⟨E9, hE9⟩ : ∃ E9, E9 = E8.set c { E8.cp c with ki := false } := ⟨_, rfl⟩
      have hEnd := mid_end e htc2 (show (e.cp c).L.length = j by rw [unhide HL0]; exact unhide HNL) (Mk.woN e.M (c : Int)) E7 hE7 E8 hE8 E9 hE9
      have hn7 : E7.n = e.n := by rw [hE7]; rfl
      have hn8 : E8.n = e.n := by rw [hE8]; exact hn7
      have hn9 : E9.n = e.n := by rw [hE9]; exact hn8
      have H3 := hide (And.intro hx hJ.ft)
      have HC := hide (fun w7 (h7 : Es w7 lj E7) => And.intro (h7.mark (i := c) (by rw [hn7]; exact (unhide HOK).1) 2 false (.inl rfl) rfl) (And.intro (h7.row c (by rw [hn7]; exact (unhide HOK).1)).2.2 (And.intro h7.rfr (And.intro (blkAt h7.box 2 (.int .u32 (E7.M : Int)) rfl) h7.box.free))))
      have HE8 := hide (fun w8 (h8 : Es w8 lj E8) => show Es (w8.setCell ⟨lj.r, c * 4 + 3, none⟩ (.bool false)) lj E9 from by
        rw [hE9]
        exact h8.mark (i := c) (by rw [hn8]; exact (unhide HOK).1) 3 false (.inr rfl) rfl)
      have HE9 := hide (fun w9 (h9 : Es w9 lj E9) => show Es (w9.setCell ⟨lj.g, 2, none⟩ (.int .u32 ((Mk.woN e.M (c : Int) : Nat) : Int))) lj (e.gone c t (Mk.woN e.M (c : Int))) by
        have := h9.setM _ hwo16
        rw [hEnd] at this
        exact this)
      have HEL := hide (fun w10 (h10 : Es w10 lj (e.gone c t (Mk.woN e.M (c : Int)))) => look_any h10 (i := t) (unhide HOK).2.1 (show ((if t = c then cp0 else if t = t then { e.cp t with L := foldA (e.cp t).L (e.cp c).L } else e.cp t : Cp)).on = true by rw [if_neg htc2, if_pos rfl]; exact (unhide HOK).2.2.2.2.1))
      rw [show (if (2 : Nat) = 2 then { E7.cp c with ra := false } else { E7.cp c with ki := false } : Cp) = { E7.cp c with ra := false } from rfl, ← hE8] at HC
      rw [er2] at HC HE8
      rw [hx.g] at HC HE9 HEL
      rw [unhide HMW] at HE9
      have HFO := hide (And.intro (show ∀ k, k = l.r → efoot lj k from fun k hk => ⟨1, by have := h3.orr; rw [er2] at this; rw [hk]; exact this⟩) (show ∀ k, k = l.g → efoot lj k from fun k hk => ⟨0, by have := h3.og; rw [hx.g] at this; rw [hk]; exact this⟩))
      obtain ⟨EF, hEF⟩ : ∃ EF, EF = (e.gone c t (Mk.woN e.M (c : Int))).set t ((e.gone c t (Mk.woN e.M (c : Int))).look ((e.gone c t (Mk.woN e.M (c : Int))).cp t)) := ⟨_, rfl⟩
      rw [← hEF] at HEL
      have HEF := hide hEF
      clear hEF
      generalize e.gone c t (Mk.woN e.M (c : Int)) = EG at HE9 HEL
      have HQ := hide (fun w8 (h8 : Es w8 lj E8) => show w8.cell? ⟨l.r, c * 4 + 3, none⟩ = some (.bool (E8.cp c).ki) from by have := (h8.row c (by rw [hn8]; exact (unhide HOK).1)).2.2.2; rw [er2] at this; exact this)
      have HQ9 := hide (fun w9 (h9 : Es w9 lj E9) => show w9.cell? ⟨l.g, 2, none⟩ = some (.int .u32 (E9.M : Int)) from by have := blkAt h9.box 2 (.int .u32 (E9.M : Int)) rfl; rw [hx.g] at this; exact this)
      generalize (E8.cp c).ki = ki8 at *
      generalize (E9.M : Int) = M9 at *
      generalize l.d c = dc at *
      generalize (E7.cp c).ra = ra7 at *
      generalize (E7.cp c).ki = ki7 at *
      generalize (E7.M : Int) = M7 at *
      clear HJ hJ hx hcn h3 ed2 er2 hE7 hE8 hE9 hEnd hn7 hn8 hn9 HMV HST HG
      go_wp2_with (go_at_call 78; refine Hid.out ?_)
      refine hide ?_
      refine (unhide CO).mono ?_
      rintro r w7 ⟨rfl, h7, f7⟩
      obtain ⟨h8, ⟨q2, q3⟩, q4, q5, q6⟩ := unhide HC w7 h7
      have h9 := unhide HE8 _ h8
      have h10 := unhide HE9 _ h9
      have q7 := unhide HQ _ h8
      have q8 := unhide HQ9 _ h9
      have CL := hide (unhide HEL _ h10)
      have H7 := hide f7
      clear h7 f7 h8 h9 h10 CO HC HE8 HE9 HEL rc
      go_wp2_with (go_at_call 66; refine Hid.out ?_)
      refine hide ?_
      refine (unhide CL).mono ?_
      rintro r w11 ⟨rfl, h11, f11⟩
      have H11 := hide (And.intro h11 f11)
      clear h11 f11 CL
      go_wp2_with fail
      go_ret
      obtain ⟨hx, hjf⟩ := unhide H3
      have ff : Ft (efoot lj) wr w11 := (((((unhide H7).trans ((ft_set1 _ l.r _ _).mono (unhide HFO).1)).trans ((ft_set1 _ l.r _ _).mono (unhide HFO).1)).trans ((ft_set1 _ l.g 2 _).mono (unhide HFO).2))).trans (unhide H11).2
      have hs3 := (unhide HB3).size
      have xx : Lx w0 l lj 64 := by
        have := hx.mono (q := 64) (by omega)
        exact ⟨this.g, this.r, this.cap, this.c, this.b, this.d, this.m, fun k hk => (this.foot k hk).imp id (fun z => Nat.le_trans hs3 z), this.more⟩
      exact ⟨rfl, lj, by have := (unhide H11).1; rw [unhide HEF] at this; exact this, xx, ((Ft.of_below _ (unhide HB3)).trans hjf).lx ff xx⟩
end
end Go.Proofs.YtjjdkkdnlnbedaaGreat
