import Derived.Test.YtjjdkkdnlnbedaaGreatTreeB
import Derived.Test.YtjjdkkdnlnbedaaGreatTreeM
import Derived.Deep.RegionHeld3
namespace Go.Proofs.YtjjdkkdnlnbedaaGreat
open Go.RowKit

theorem mk_eq (s : Bool) (p : Nat) (a b : Tr) : ∃ l r, mk s p a b = .node p l r := by cases s <;> exact ⟨_, _, rfl⟩

set_option maxHeartbeats 1000000 in
theorem rotate_any (T G P : Nat) (st : St) (w : World) (h : Own w T G P st) (cx : Cx) (s : Bool) (n c : Nat) (A B C : Tr) (hz : Z P st cx (mk s n A (mk s c B C))) :
    Calls Tryz.prog 134 #[.pointer (some ⟨T, 0, none⟩), .int .i64 n, .int .i64 (sd s)] w fun e w' => e = .returned (.tuple #[]) ∧ Own w' T G P (st.rot n s) ∧ Touch T G w w' := by
  have hP := h.hP
  have c0 := h.slice
  have hn : n ≤ P := hz.nd.bt n (mem_mk.2 (Or.inl rfl))
  have hc : c ≤ P := hz.nd.bt c (mem_mk.2 (Or.inr (Or.inr (mem_mk.2 (Or.inl rfl)))))
  have hb : B.root ≤ P := by
    by_cases e : B.root = 0
    · omega
    · exact hz.nd.bt _ (mem_mk.2 (Or.inr (Or.inr (mem_mk.2 (Or.inr (Or.inl (root_mem e)))))))
  obtain ⟨n0, hu, a1, a2, sA, sM⟩ := sh_mk.1 hz.sh
  obtain ⟨c00, hcu, b1, b2, sB, sC⟩ := sh_mk.1 sM
  rw [mk_root] at a2
  have hup : (st.nd n).up ≤ P := by rw [hu]; exact hz.par_bd
  have hrot : st.rot n s = ((st.join n (!s) B.root).join c s n).join (st.nd n).up (sideOf st n) c := by unfold St.rot; rw [a2, b1]
  have CS := hide (fun m => side_any T G P st (w.drewN m) (h.drew m) n hn hup)
  have CJ := hide (fun (st' : St) (w' : World) (h' : Own w' T G P st') up s n hu hn => join_any T G P st' w' h' up s n hu hn)
  rw [hrot]
  obtain ⟨u, hu'⟩ : ∃ u, (st.nd n).up = u := ⟨_, rfl⟩
  obtain ⟨wh, hwh⟩ : ∃ x, sideOf st n = x := ⟨_, rfl⟩
  obtain ⟨b, hb'⟩ : ∃ x, B.root = x := ⟨_, rfl⟩
  have cn5 := (h.at n hn).2.2.2.2.2.1
  rw [hu', hwh, hb']
  rw [hu'] at cn5 hup
  rw [hwh] at CS
  rw [hb'] at hb b1
  have hO := hide h
  clear h hu hcu a1 b2 sA sM sB sC hu' hwh hb' hrot
  cases s
  · have d1 := ((unhide hO).at n hn).2.2.2.2.2.2.2
    have d2 := ((unhide hO).at c hc).2.2.2.2.2.2.1
    rw [show (true : Bool) = !false from rfl, a2] at d1
    rw [b1] at d2
    rw [show sd false = 0 from rfl]
    clear hz
    go_enter Tryz.func134, Tryz.ntmps134
    go_wp2
    go_quiet (first | (go_at_call 124; exact Calls.quiet_of ((unhide CS) _)))
    go_wp2_with (go_at_call 133; refine Hid.out ?_)
    refine hide ?_
    refine ((unhide CJ) st _ ((unhide hO).drew _) n true b hn hb).mono ?_
    rintro e w1 ⟨rfl, o1, t1⟩
    have o1 := hide o1
    go_wp2_with (go_at_call 133; refine Hid.out ?_)
    refine hide ?_
    refine ((unhide CJ) _ _ (unhide o1) c false n hc hn).mono ?_
    rintro e w2 ⟨rfl, o2, t2⟩
    have o2 := hide o2
    go_wp2_with (go_at_call 133; refine Hid.out ?_)
    refine hide ?_
    refine ((unhide CJ) _ _ (unhide o2) u wh c hup hc).mono ?_
    rintro e w3 ⟨rfl, o3, t3⟩
    have o3 := hide o3
    go_wp2
    go_end0
    exact ⟨rfl, unhide o3, (((Touch.refl _ _ _).drew.trans t1).trans t2).trans t3⟩
  · have d1 := ((unhide hO).at n hn).2.2.2.2.2.2.1
    have d2 := ((unhide hO).at c hc).2.2.2.2.2.2.2
    rw [show (false : Bool) = !true from rfl, a2] at d1
    rw [b1] at d2
    rw [show sd true = 1 from rfl]
    clear hz
    go_enter Tryz.func134, Tryz.ntmps134
    go_wp2
    go_quiet (first | (go_at_call 124; exact Calls.quiet_of ((unhide CS) _)))
    go_wp2_with (go_at_call 133; refine Hid.out ?_)
    refine hide ?_
    refine ((unhide CJ) st _ ((unhide hO).drew _) n false b hn hb).mono ?_
    rintro e w1 ⟨rfl, o1, t1⟩
    have o1 := hide o1
    go_wp2_with (go_at_call 133; refine Hid.out ?_)
    refine hide ?_
    refine ((unhide CJ) _ _ (unhide o1) c true n hc hn).mono ?_
    rintro e w2 ⟨rfl, o2, t2⟩
    have o2 := hide o2
    go_wp2_with (go_at_call 133; refine Hid.out ?_)
    refine hide ?_
    refine ((unhide CJ) _ _ (unhide o2) u wh c hup hc).mono ?_
    rintro e w3 ⟨rfl, o3, t3⟩
    have o3 := hide o3
    go_wp2
    go_end0
    exact ⟨rfl, unhide o3, (((Touch.refl _ _ _).drew.trans t1).trans t2).trans t3⟩
end Go.Proofs.YtjjdkkdnlnbedaaGreat


namespace Go.Proofs.YtjjdkkdnlnbedaaGreat
open Go.RowKit

set_option maxRecDepth 100000 in
set_option maxHeartbeats 4000000 in
theorem mendRed_any (T G P : Nat) (st : St) (w : World) (h : Own w T G P st) (cx : Cx) (n k : Nat) (l r : Tr) (hi : RedInv P st cx n l r k) :
    Calls Tryz.prog 127 #[.pointer (some ⟨T, 0, none⟩), .int .i64 n] w fun e w' => e = .returned (.tuple #[]) ∧ ∃ st' t', Own w' T G P st' ∧ Touch T G w w' ∧ Good P st' t' ∧ t'.list = (cx.plug (.node n l r)).list ∧ Kept (cx.plug (.node n l r)).list st st' := by
  have hP := h.hP
  have c0 := h.slice
  obtain ⟨L, hL⟩ : ∃ L, (cx.plug (.node n l r)).list = L := ⟨_, rfl⟩
  rw [hL]
  obtain ⟨J, hJ⟩ : ∃ J : Nat → Act → World → Prop, J = (fun k a' w' => ∃ (st' : St) (cx' : Cx) (l' r' : Tr) (n' bh : Nat), k = cx'.depth ∧ Own w' T G P st' ∧ Touch T G w w' ∧ Kept L st st' ∧ RedInv P st' cx' n' l' r' bh ∧ (cx'.plug (.node n' l' r')).list = L ∧ ∃ us : Nat → Value, a' = { tmps := #[.pointer (some ⟨T, 0, none⟩), .int .i64 n', us 2, us 3, .slice (some ⟨G, 0, none⟩) (P + 1) (P + 1), us 5, us 6, us 7, us 8, us 9, us 10, us 11, us 12, us 13, us 14, us 15, us 16, us 17, us 18, us 19, us 20, us 21, us 22, us 23, us 24, us 25, us 26, us 27, us 28, us 29, us 30, us 31, us 32, us 33, us 34, us 35, us 36, us 37, us 38, us 39, us 40, us 41, us 42, us 43, us 44, us 45, us 46, us 47, us 48, us 49, us 50, us 51, us 52, us 53, us 54, us 55, us 56, us 57, us 58, us 59, us 60, us 61, us 62, us 63, us 64, us 65, us 66, us 67, us 68, us 69, us 70, us 71, us 72, us 73, us 74, us 75, us 76, us 77, us 78, us 79, us 80, us 81, us 82, us 83, us 84, us 85, us 86, us 87], defers := [] }) := ⟨_, rfl⟩
  replace hJ := hide hJ
  go_enter Tryz.func127, Tryz.ntmps127
  go_wp2
  refine wp_scope_ghost 0 J rfl ?_ ?_
  · go_wp2
    exact ⟨_, by rw [unhide hJ]; exact ⟨st, cx, l, r, n, k, rfl, h, Touch.refl _ _ _, Kept.refl _ _, hi, hL, frame_ex _ rfl⟩⟩
  · clear hi hL h c0
    intro k a' w' hj
    rw [unhide hJ] at hj
    obtain ⟨st', cx', l', r', n', bh, rfl, o, tc, kp, hi, hL, us, rfl⟩ := hj
    have c0 := o.slice
    have hn' : n' ≤ P := hi.z.bd
    have c1 := (o.at n' hn').2.2.2.2.2.1
    rw [hi.z.sh.2.1] at c1
    have hz0 := (o.at 0 (Nat.zero_le _)).2.2.2.2.1
    rw [hi.z.zero.red] at hz0
    have cr := o.root
    have fr := o.nod.free
    have hO := hide o
    have HI := hide hi
    have HT := hide (And.intro tc (And.intro kp hL))
    clear o hi tc kp hL
    cases cx' with
    | top =>
      have hr : st'.root = n' := (unhide HI).z.root
      have cr4 := ((unhide hO).at n' hn').2.2.2.2.1
      rw [hr] at cr
      rw [show ((Cx.top.par : Nat) : Int) = 0 from rfl] at c1
      have HG := hide (red_top (unhide HI))
      clear hr
      go_wp2
      simp only [Exit.jump]
      refine bodyPost_ret (v := .tuple #[]) (by simp [results, Tryz.results127, go_sem]) rfl ⟨rfl, st'.paint n' false, .node n' l' r', (unhide hO).putRed n' false hn', (unhide HT).1.setG _ _, unhide HG, (unhide HT).2.2, (unhide HT).2.1.trans ?_⟩
      exact kept_red st' n' false (by rw [← (unhide HT).2.2]; simp [Cx.plug, Tr.list])
    | fr s p sib up =>
      have hpP : p ≤ P := (unhide HI).z.par_bd
      have p0 : p ≠ 0 := (unhide HI).z.shc.1
      have cp4 := ((unhide hO).at p hpP).2.2.2.2.1
      have cp5 := ((unhide hO).at p hpP).2.2.2.2.2.1
      rw [show (Cx.fr s p sib up).par = p from rfl] at c1
      cases hp : col st' p with
      | false =>
        rw [show (st'.nd p).red = false from hp] at cp4
        have HG := hide (red_done (unhide HI) (by intro e; cases e) hp)
        have hrP : st'.root ≤ P := by
          have := (unhide HG).1.z.nd.bt _ (unhide HG).2
          exact this
        have cr4 := ((unhide hO).at st'.root hrP).2.2.2.2.1
        obtain ⟨rt, hrt⟩ : ∃ x, st'.root = x := ⟨_, rfl⟩
        rw [hrt] at cr cr4 HG hrP
        clear hrt
        go_wp2
        simp only [Exit.jump]
        refine bodyPost_ret (v := .tuple #[]) (by simp [results, Tryz.results127, go_sem]) rfl ⟨rfl, st'.paint rt false, _, (unhide hO).putRed rt false hrP, (unhide HT).1.setG _ _, (unhide HG).1, (unhide HT).2.2, (unhide HT).2.1.trans ?_⟩
        exact kept_red st' rt false (by rw [← (unhide HT).2.2]; exact (unhide HG).2)
      | true =>
        rw [show (st'.nd p).red = true from hp] at cp4
        obtain ⟨s2, g, unc, cx2, e, hgc, q1, q2, q3, q4, q5⟩ := red_up (unhide HI) hp
        subst e
        have HQ := hide (And.intro q1 (And.intro q2 (And.intro q3 (And.intro q4 q5))))
        clear q1 q2 q3 q4 q5
        obtain ⟨_, pu, _, _, _, g0, gu, gs, gd, su, _⟩ := (unhide HI).z.shc
        rw [show (Cx.fr s2 g unc cx2).par = g from rfl] at pu
        rw [pu] at cp5
        have hzp := z_move.2 (unhide HI).z
        have hg : g ≤ P := hzp.par_bd
        have hup : (st'.nd p).up ≤ P := by rw [pu]; exact hg
        have hsd : sideOf st' p = s2 := by
          obtain ⟨x, y, e⟩ := mk_eq s p (.node n' l' r') sib
          rw [e] at hzp
          exact sideOf_z hzp
        have CS := hide (fun m => side_any T G P st' (w'.drewN m) ((unhide hO).drew m) p hpP hup)
        rw [hsd] at CS
        have hu : unc.root ≤ P := by
          have hzg := (unhide HI).z.nd.bc
          by_cases e : unc.root = 0
          · omega
          · exact hzg _ (by simp [Cx.places, root_mem e])
        have cu := ((unhide hO).at unc.root hu).2.2.2.2.1
        have hcu' : (st'.nd unc.root).red = redR (col st') unc := by
          cases unc with
          | nil => exact (unhide HI).z.zero.red
          | node q a b => rfl
        rw [hcu'] at cu
        have cg4 := ((unhide hO).at g hg).2.2.2.2.1
        rw [show (st'.nd g).red = false from hgc] at cg4
        obtain ⟨hpg, hpt, hgt, _, _, a6, a7, _⟩ := apart (unhide HI).z
        have hpn : p ≠ n' := fun e => hpt (by simp [Tr.list, e])
        have hgn : g ≠ n' := fun e => hgt (by simp [Tr.list, e])
        have hpu : p ≠ unc.root := fun e => by
          by_cases q : unc.root = 0
          · exact p0 (e.trans q)
          · exact a6 (e ▸ root_mem q)
        have hgu : g ≠ unc.root := fun e => by
          by_cases q : unc.root = 0
          · exact g0 (e.trans q)
          · exact a7 (e ▸ root_mem q)
        have mp : p ∈ L := by rw [← (unhide HT).2.2, mem_plug]; simp [Cx.places]
        have mg : g ∈ L := by rw [← (unhide HT).2.2, mem_plug]; simp [Cx.places]
        have mn : n' ∈ L := by rw [← (unhide HT).2.2, mem_plug]; simp [Tr.list]
        have mU : unc.root ≠ 0 → unc.root ∈ L := by
          intro q
          rw [← (unhide HT).2.2, mem_plug]
          simp [Cx.places, root_mem q]
        obtain ⟨U, hU⟩ : ∃ x, unc.root = x := ⟨_, rfl⟩
        rw [hU] at hpu hgu cu hu gd mU
        have HU := hide hU
        clear hcu' hup hsd gu su gs hU a6 a7 hpt hgt
        cases s2
        · rw [show (!false) = true from rfl] at gd
          have cg := ((unhide hO).at g hg).2.2.2.2.2.2.2
          rw [gd] at cg
          rw [show sd false = 0 from rfl] at CS
          cases hcu : redR (col st') unc with
          | true =>
            obtain ⟨l2, r2, hi2, hpl⟩ := red_climb (unhide HI) hp hcu
            have HN := hide (And.intro hi2 hpl)
            clear hi2 hpl
            rw [unhide HU] at HN
            rw [hcu] at cu
            have mU := mU (by rw [← unhide HU]; intro q; have := sh_root_ne (unhide HI).z.shc.2.2.2.2.2.2.2.2.2.1 q; rw [this] at hcu; cases hcu)
            go_wp2
            go_quiet (first | (go_at_call 124; exact Calls.quiet_of ((unhide CS) _)))
            go_wp2
            go_step3
            refine ⟨rfl, _, ?_, by rw [unhide hJ]; exact ⟨_, cx2, l2, r2, g, bh + 1, rfl, ((((unhide hO).drew nq).putRed p false hpP).putRed U false hu).putRed g true hg, (((unhide HT).1.drew.setG _ _).setG _ _).setG _ _, (((unhide HT).2.1.trans (kept_red _ _ _ mp)).trans (kept_red _ _ _ mU)).trans (kept_red _ _ _ mg), (unhide HN).1, by rw [(unhide HN).2]; exact (unhide HT).2.2, frame_ex _ rfl⟩⟩
            simp only [Cx.depth]; omega
          | false =>
            rw [hcu] at cu
            have hun : (st'.nd n').up ≤ P := by rw [(unhide HI).z.sh.2.1]; exact (unhide HI).z.par_bd
            have CS2 := hide (fun m => side_any T G P st' (w'.drewN m) ((unhide hO).drew m) n' hn' hun)
            rw [sideOf_z (unhide HI).z, show (Cx.fr s p sib (.fr false g unc cx2)).side = s from rfl] at CS2
            obtain ⟨q1, q2, q3, q4, q5⟩ := unhide HQ
            have hrb := (unhide HI).rb
            have cn4 := ((unhide hO).at n' hn').2.2.2.2.1
            cases s
            case false =>
              have hzg := z_move.2 hzp
              obtain ⟨kz, kg⟩ := red_turn hzg hrb q1 q2 q3 hcu q4 q5
              have KG := hide (And.intro kz kg)
              have hlist : (cx2.plug (mk true p (mk true g unc sib) (.node n' l' r'))).list = L := by
                rw [← (unhide HT).2.2, Cx.plug, Cx.plug]
                refine plug_list ?_ cx2
                rw [show mk true p (mk true g unc sib) (.node n' l' r') = mk (!false) p (mk (!false) g unc sib) (.node n' l' r') from rfl, rot_list, ← mk_flip false p, ← mk_flip false g]
              have HL := hide hlist
              clear q1 q2 q3 q4 q5 hrb hzg kz kg hun hlist
              rw [show sd false = 0 from rfl] at CS2
              go_wp2
              go_quiet (first | (go_at_call 124; exact Calls.quiet_of ((unhide CS) _)))
              go_wp2_with (go_at_call 124; refine ((unhide CS2) _).mono ?_; rintro e w1 ⟨rfl, m1, rfl⟩)
              refine (rotate_any T G P _ _ ((((unhide hO).drew _).putRed p false hpP).putRed g true hg) cx2 true g p unc sib (.node n' l' r') (unhide KG).1).mono ?_
              rintro e w2 ⟨rfl, o2, t2⟩
              have O2 := hide (And.intro o2 t2)
              clear o2 t2
              go_wp2
              simp only [Exit.jump]
              go_end0
              refine ⟨rfl, _, _, (unhide O2).1, (((unhide HT).1.drew.setG _ _).setG _ _).trans (unhide O2).2, (unhide KG).2, unhide HL, ?_⟩
              refine (((unhide HT).2.1.trans (kept_red _ p false mp)).trans (kept_red _ g true mg)).trans ?_
              have kk := kept_rot (unhide KG).1
              rw [show (cx2.plug (mk (!false) g unc (mk (!false) p sib (.node n' l' r')))).list = L from by rw [← unhide HL]; exact plug_list (rot_list true g p unc sib (.node n' l' r')).symm cx2] at kk
              exact kk
            case true =>
              have hN : (Tr.node n' l' r') = mk false n' l' r' := rfl
              obtain ⟨x1, x2, x3, x4⟩ := (rb_red (s := false) (unhide HI).red).1 hrb
              have hzq : Z P st' (.fr false g unc cx2) (mk false p sib (mk false n' l' r')) := by
                have := hzp
                rw [mk_flip true p] at this
                exact this
              have hz1 := rot_z hzq
              have hzg := z_move.2 hz1
              have hc1 : col (st'.rot p false) = col st' := col_rot _ _ _
              obtain ⟨kz, kg⟩ := red_turn (st := st'.rot p false) hzg (k := bh) (by rw [hc1]; exact (rb_red hp).2 ⟨q2, x1, q1, x3⟩) (by rw [hc1]; exact x4) (by rw [hc1]; exact x2) (by rw [hc1]; exact q3) (by rw [hc1]; exact hcu) (by rw [hc1]; exact q4) (by rw [hc1]; exact q5)
              have KG := hide (And.intro kz kg)
              have hlist : (cx2.plug (mk true n' (mk true g unc r') (mk false p sib l'))).list = L := by
                rw [← (unhide HT).2.2, Cx.plug, Cx.plug]
                refine plug_list ?_ cx2
                rw [show mk true n' (mk true g unc r') (mk false p sib l') = mk (!false) n' (mk (!false) g unc r') (mk false p sib l') from rfl, rot_list, ← mk_flip false n', ← mk_flip false g]
                simp [mk, Tr.list]
              have HL := hide hlist
              have CR := hide (fun m => rotate_any T G P st' (w'.drewN m) ((unhide hO).drew m) (.fr false g unc cx2) false p n' sib l' r' hzq)
              have KR := hide (kept_rot hzq)
              clear q1 q2 q3 q4 q5 hrb hzg kz kg hun hlist x1 x2 x3 x4 hz1 hzq hc1 hN
              rw [show sd true = 1 from rfl] at CS2
              go_wp2
              go_quiet (first | (go_at_call 124; exact Calls.quiet_of ((unhide CS) _)))
              go_wp2_with (first | (go_at_call 124; refine ((unhide CS2) _).mono ?_; rintro e w1 ⟨rfl, m1, rfl⟩) | (go_at_call 134; refine Hid.out ?_))
              refine hide ?_
              refine ((unhide CR) _).mono ?_
              rintro e w1 ⟨rfl, o1, t1⟩
              have d0 := o1.slice
              have d1 := (o1.at n' hn').2.2.2.2.1
              have d2 := (o1.at g hg).2.2.2.2.1
              have d3 := o1.nod.free
              have O1 := hide (And.intro o1 t1)
              clear o1 t1
              go_wp2_with (go_at_call 134; refine Hid.out ?_)
              refine hide ?_
              refine (rotate_any T G P _ _ (((unhide O1).1.putRed n' false hn').putRed g true hg) cx2 true g n' unc r' (mk false p sib l') (unhide KG).1).mono ?_
              rintro e w2 ⟨rfl, o2, t2⟩
              have O2 := hide (And.intro o2 t2)
              clear o2 t2
              go_wp2
              simp only [Exit.jump]
              go_end0
              refine ⟨rfl, _, _, (unhide O2).1, ((((unhide HT).1.drew.trans (unhide O1).2).setG _ _).setG _ _).trans (unhide O2).2, (unhide KG).2, unhide HL, ?_⟩
              have kr := unhide KR
              rw [show ((Cx.fr false g unc cx2).plug (mk false p sib (mk false n' l' r'))).list = L from by
                rw [← (unhide HT).2.2]
                show _ = ((Cx.fr false g unc cx2).plug (mk true p (.node n' l' r') sib)).list
                exact plug_list (by rw [mk_flip true p]; rfl) _] at kr
              refine ((((unhide HT).2.1.trans kr).trans (kept_red _ n' false mn)).trans (kept_red _ g true mg)).trans ?_
              have kk := kept_rot (unhide KG).1
              rw [show (cx2.plug (mk (!false) g unc (mk (!false) n' r' (mk false p sib l')))).list = L from by rw [← unhide HL]; exact plug_list (rot_list true g n' unc r' (mk false p sib l')).symm cx2] at kk
              exact kk
        · rw [show (!true) = false from rfl] at gd
          have cg := ((unhide hO).at g hg).2.2.2.2.2.2.1
          rw [gd] at cg
          rw [show sd true = 1 from rfl] at CS
          cases hcu : redR (col st') unc with
          | true =>
            obtain ⟨l2, r2, hi2, hpl⟩ := red_climb (unhide HI) hp hcu
            have HN := hide (And.intro hi2 hpl)
            clear hi2 hpl
            rw [unhide HU] at HN
            rw [hcu] at cu
            have mU := mU (by rw [← unhide HU]; intro q; have := sh_root_ne (unhide HI).z.shc.2.2.2.2.2.2.2.2.2.1 q; rw [this] at hcu; cases hcu)
            go_wp2
            go_quiet (first | (go_at_call 124; exact Calls.quiet_of ((unhide CS) _)))
            go_wp2
            go_step3
            refine ⟨rfl, _, ?_, by rw [unhide hJ]; exact ⟨_, cx2, l2, r2, g, bh + 1, rfl, ((((unhide hO).drew nq).putRed p false hpP).putRed U false hu).putRed g true hg, (((unhide HT).1.drew.setG _ _).setG _ _).setG _ _, (((unhide HT).2.1.trans (kept_red _ _ _ mp)).trans (kept_red _ _ _ mU)).trans (kept_red _ _ _ mg), (unhide HN).1, by rw [(unhide HN).2]; exact (unhide HT).2.2, frame_ex _ rfl⟩⟩
            simp only [Cx.depth]; omega
          | false =>
            rw [hcu] at cu
            have hun : (st'.nd n').up ≤ P := by rw [(unhide HI).z.sh.2.1]; exact (unhide HI).z.par_bd
            have CS2 := hide (fun m => side_any T G P st' (w'.drewN m) ((unhide hO).drew m) n' hn' hun)
            rw [sideOf_z (unhide HI).z, show (Cx.fr s p sib (.fr true g unc cx2)).side = s from rfl] at CS2
            obtain ⟨q1, q2, q3, q4, q5⟩ := unhide HQ
            have hrb := (unhide HI).rb
            have cn4 := ((unhide hO).at n' hn').2.2.2.2.1
            cases s
            case true =>
              have hzg := z_move.2 hzp
              obtain ⟨kz, kg⟩ := red_turn hzg hrb q1 q2 q3 hcu q4 q5
              have KG := hide (And.intro kz kg)
              have hlist : (cx2.plug (mk false p (mk false g unc sib) (.node n' l' r'))).list = L := by
                rw [← (unhide HT).2.2, Cx.plug, Cx.plug]
                refine plug_list ?_ cx2
                rw [show mk false p (mk false g unc sib) (.node n' l' r') = mk (!true) p (mk (!true) g unc sib) (.node n' l' r') from rfl, rot_list, ← mk_flip true p, ← mk_flip true g]
              have HL := hide hlist
              clear q1 q2 q3 q4 q5 hrb hzg kz kg hun hlist
              rw [show sd true = 1 from rfl] at CS2
              go_wp2
              go_quiet (first | (go_at_call 124; exact Calls.quiet_of ((unhide CS) _)))
              go_wp2_with (go_at_call 124; refine ((unhide CS2) _).mono ?_; rintro e w1 ⟨rfl, m1, rfl⟩)
              refine (rotate_any T G P _ _ ((((unhide hO).drew _).putRed p false hpP).putRed g true hg) cx2 false g p unc sib (.node n' l' r') (unhide KG).1).mono ?_
              rintro e w2 ⟨rfl, o2, t2⟩
              have O2 := hide (And.intro o2 t2)
              clear o2 t2
              go_wp2
              simp only [Exit.jump]
              go_end0
              refine ⟨rfl, _, _, (unhide O2).1, (((unhide HT).1.drew.setG _ _).setG _ _).trans (unhide O2).2, (unhide KG).2, unhide HL, ?_⟩
              refine (((unhide HT).2.1.trans (kept_red _ p false mp)).trans (kept_red _ g true mg)).trans ?_
              have kk := kept_rot (unhide KG).1
              rw [show (cx2.plug (mk (!true) g unc (mk (!true) p sib (.node n' l' r')))).list = L from by rw [← unhide HL]; exact plug_list (rot_list false g p unc sib (.node n' l' r')).symm cx2] at kk
              exact kk
            case false =>
              have hN : (Tr.node n' l' r') = mk true n' r' l' := rfl
              obtain ⟨x1, x2, x3, x4⟩ := (rb_red (s := true) (unhide HI).red).1 hrb
              have hzq : Z P st' (.fr true g unc cx2) (mk true p sib (mk true n' r' l')) := by
                have := hzp
                rw [mk_flip false p] at this
                exact this
              have hz1 := rot_z hzq
              have hzg := z_move.2 hz1
              have hc1 : col (st'.rot p true) = col st' := col_rot _ _ _
              obtain ⟨kz, kg⟩ := red_turn (st := st'.rot p true) hzg (k := bh) (by rw [hc1]; exact (rb_red hp).2 ⟨q2, x1, q1, x3⟩) (by rw [hc1]; exact x4) (by rw [hc1]; exact x2) (by rw [hc1]; exact q3) (by rw [hc1]; exact hcu) (by rw [hc1]; exact q4) (by rw [hc1]; exact q5)
              have KG := hide (And.intro kz kg)
              have hlist : (cx2.plug (mk false n' (mk false g unc l') (mk true p sib r'))).list = L := by
                rw [← (unhide HT).2.2, Cx.plug, Cx.plug]
                refine plug_list ?_ cx2
                rw [show mk false n' (mk false g unc l') (mk true p sib r') = mk (!true) n' (mk (!true) g unc l') (mk true p sib r') from rfl, rot_list, ← mk_flip true n', ← mk_flip true g]
                simp [mk, Tr.list]
              have HL := hide hlist
              have CR := hide (fun m => rotate_any T G P st' (w'.drewN m) ((unhide hO).drew m) (.fr true g unc cx2) true p n' sib r' l' hzq)
              have KR := hide (kept_rot hzq)
              clear q1 q2 q3 q4 q5 hrb hzg kz kg hun hlist x1 x2 x3 x4 hz1 hzq hc1 hN
              rw [show sd false = 0 from rfl] at CS2
              go_wp2
              go_quiet (first | (go_at_call 124; exact Calls.quiet_of ((unhide CS) _)))
              go_wp2_with (first | (go_at_call 124; refine ((unhide CS2) _).mono ?_; rintro e w1 ⟨rfl, m1, rfl⟩) | (go_at_call 134; refine Hid.out ?_))
              refine hide ?_
              refine ((unhide CR) _).mono ?_
              rintro e w1 ⟨rfl, o1, t1⟩
              have d0 := o1.slice
              have d1 := (o1.at n' hn').2.2.2.2.1
              have d2 := (o1.at g hg).2.2.2.2.1
              have d3 := o1.nod.free
              have O1 := hide (And.intro o1 t1)
              clear o1 t1
              go_wp2_with (go_at_call 134; refine Hid.out ?_)
              refine hide ?_
              refine (rotate_any T G P _ _ (((unhide O1).1.putRed n' false hn').putRed g true hg) cx2 false g n' unc l' (mk true p sib r') (unhide KG).1).mono ?_
              rintro e w2 ⟨rfl, o2, t2⟩
              have O2 := hide (And.intro o2 t2)
              clear o2 t2
              go_wp2
              simp only [Exit.jump]
              go_end0
              refine ⟨rfl, _, _, (unhide O2).1, ((((unhide HT).1.drew.trans (unhide O1).2).setG _ _).setG _ _).trans (unhide O2).2, (unhide KG).2, unhide HL, ?_⟩
              have kr := unhide KR
              rw [show ((Cx.fr true g unc cx2).plug (mk true p sib (mk true n' r' l'))).list = L from by
                rw [← (unhide HT).2.2]
                show _ = ((Cx.fr true g unc cx2).plug (mk false p (.node n' l' r') sib)).list
                exact plug_list (by rw [mk_flip false p]; rfl) _] at kr
              refine ((((unhide HT).2.1.trans kr).trans (kept_red _ n' false mn)).trans (kept_red _ g true mg)).trans ?_
              have kk := kept_rot (unhide KG).1
              rw [show (cx2.plug (mk (!true) g unc (mk (!true) n' l' (mk true p sib r')))).list = L from by rw [← unhide HL]; exact plug_list (rot_list false g n' unc l' (mk true p sib r')).symm cx2] at kk
              exact kk
end Go.Proofs.YtjjdkkdnlnbedaaGreat


namespace Go.Proofs.YtjjdkkdnlnbedaaGreat
open Go.RowKit

theorem held4 {W : World} {a : Addr} {v : Value} (h : W.cell? a = some v) : ∀ w', Below W.heap.size W w' → w'.cell? a = some v := fun w' hb => by
  rw [hb.cell (World.block_lt_of_cell? W a h)]; exact h
set_option maxRecDepth 100000 in
set_option maxHeartbeats 4000000 in
theorem hang_any (T G P : Nat) (st : St) (w : World) (h : Own w T G P st) (t : Tr) (n : Nat) (hz : Z P st .top t) (hn : n ≤ P) :
    Calls Tryz.prog 126 #[.pointer (some ⟨T, 0, none⟩), .int .i64 n] w fun e w' => e = .returned (.tuple #[]) ∧ ∃ cx, cx.plug .nil = t ∧ Path st n cx ∧ Own w' T G P (st.join cx.par cx.side n) ∧ Touch T G w w' := by
  have hP := h.hP
  have c0 := h.slice
  have cr := h.root
  rw [show st.root = t.root from hz.root] at cr
  obtain ⟨J, hJ⟩ : ∃ J : Nat → Act → World → Prop, J = (fun k a' w' => ∃ (cx' : Cx) (t' : Tr), k = t'.size ∧ Below w.heap.size w w' ∧ cx'.plug t' = t ∧ Path st n cx' ∧ ∃ us : Nat → Value, a' = { tmps := #[.pointer (some ⟨T, 0, none⟩), .int .i64 n, us 2, us 3, .int .i64 cx'.par, .int .i64 (sd cx'.side), .int .i64 t'.root, us 7, us 8, us 9, us 10, us 11, us 12, us 13, us 14, us 15, us 16, us 17, us 18, us 19, us 20, us 21, us 22, us 23, us 24, us 25, us 26, us 27, us 28, us 29, us 30, us 31, us 32, us 33, us 34, us 35, us 36, us 37, us 38, us 39, us 40, us 41, us 42, us 43, us 44, us 45], defers := [] }) := ⟨_, rfl⟩
  replace hJ := hide hJ
  go_enter Tryz.func126, Tryz.ntmps126
  go_wp2
  refine wp_scope_ghost 0 J rfl ?_ ?_
  · go_quiet (fail)
    go_wp2
    exact ⟨_, by rw [unhide hJ]; exact ⟨.top, t, rfl, below_drewN (Below.refl _ _) _, rfl, trivial, frame_ex _ rfl⟩⟩
  · clear c0 cr
    intro k a' w' hj
    rw [unhide hJ] at hj
    obtain ⟨cx', t', rfl, hb, hpl, hpath, us, rfl⟩ := hj
    have o := h.below hb
    have hz' : Z P st cx' t' := by rw [z_top, hpl]; exact hz
    cases t' with
    | nil =>
      have HO := hide o
      clear o
      rw [show ((Tr.root .nil : Nat) : Int) = 0 from rfl]
      obtain ⟨u, hu⟩ : ∃ x, cx'.par = x := ⟨_, rfl⟩
      obtain ⟨s, hs⟩ : ∃ x, cx'.side = x := ⟨_, rfl⟩
      have huP : u ≤ P := by rw [← hu]; exact hz'.par_bd
      rw [hu, hs]
      have HU := hide (And.intro hu hs)
      clear hu hs
      go_wp2_with (go_at_call 133; refine (join_any T G P st _ (unhide HO) u s n huP hn).mono ?_; rintro e w1 ⟨rfl, o1, t1⟩)
      simp only [Exit.jump]
      go_end0
      refine ⟨rfl, cx', hpl, hpath, ?_, (Touch.of_below hb).trans t1⟩
      rw [(unhide HU).1, (unhide HU).2]
      exact o1
    | node p l2 r2 =>
      have hp : p ≤ P := hz'.bd
      have p0 : p ≠ 0 := hz'.sh.1
      rw [show (Tr.node p l2 r2).root = p from rfl]
      have rT := held4 o.slice
      have rn0 := held4 (o.at n hn).1
      have rn1 := held4 (o.at n hn).2.1
      have rp0 := held4 (o.at p hp).1
      have rp1 := held4 (o.at p hp).2.1
      have HA := hide (fun w => ahead_any (st.nd n).time (st.nd n).seq (st.nd p).time (st.nd p).seq w)
      obtain ⟨a1, h1⟩ : ∃ x, (st.nd n).time = x := ⟨_, rfl⟩
      obtain ⟨a2, h2⟩ : ∃ x, (st.nd n).seq = x := ⟨_, rfl⟩
      obtain ⟨a3, h3⟩ : ∃ x, (st.nd p).time = x := ⟨_, rfl⟩
      obtain ⟨a4, h4⟩ : ∃ x, (st.nd p).seq = x := ⟨_, rfl⟩
      have hkk : kle st n p = klt a1 a2 a3 a4 := by unfold kle; rw [h1, h2, h3, h4]
      rw [h1, h2, h3, h4] at HA
      rw [h1] at rn0
      rw [h2] at rn1
      rw [h3] at rp0
      rw [h4] at rp1
      have HK := hide hkk
      have S0 := Below.refl w'.heap.size w'
      have i1 : (n : Int) < (P : Int) + 1 := by omega
      have i2 : (p : Int) < (P : Int) + 1 := by omega
      have i3 : (0 : Int) ≤ n := by omega
      have i4 : (0 : Int) ≤ p := by omega
      clear h1 h2 h3 h4 hkk
      cases hk : klt a1 a2 a3 a4
      · have hd := held4 ((o.at p hp).2.2.2.2.2.2.2)
        rw [show (st.nd p).dn true = r2.root from hz'.right.shc.2.2.1] at hd
        rw [hk] at HA
        clear o
        go_wp2
        go_region_held3 (fun w'' => Below w'.heap.size w' w'') (first | exact Below.drew (by assumption) | assumption) (first | (go_at_call 132; refine ((unhide HA) _).mono ?_; rintro e w4 ⟨rfl, hb4⟩; have hk4 := Below.trans (by assumption) (hb4.mono (Below.size (by assumption)))))
        go_wp2
        go_step3
        refine ⟨rfl, _, ?_, by rw [unhide hJ]; exact ⟨.fr true p l2 cx', r2, rfl, hb.trans (Below.mono (B := w'.heap.size) (by assumption) hb.size), hpl, ⟨(unhide HK).trans hk, hpath⟩, frame_ex _ rfl⟩⟩
        simp only [Tr.size]; omega
      · have hd := held4 ((o.at p hp).2.2.2.2.2.2.1)
        rw [show (st.nd p).dn false = l2.root from hz'.left.shc.2.2.1] at hd
        rw [hk] at HA
        clear o
        go_wp2
        go_region_held3 (fun w'' => Below w'.heap.size w' w'') (first | exact Below.drew (by assumption) | assumption) (first | (go_at_call 132; refine ((unhide HA) _).mono ?_; rintro e w4 ⟨rfl, hb4⟩; have hk4 := Below.trans (by assumption) (hb4.mono (Below.size (by assumption)))))
        go_wp2
        go_step3
        refine ⟨rfl, _, ?_, by rw [unhide hJ]; exact ⟨.fr false p r2 cx', l2, rfl, hb.trans (Below.mono (B := w'.heap.size) (by assumption) hb.size), hpl, ⟨(unhide HK).trans hk, hpath⟩, frame_ex _ rfl⟩⟩
        simp only [Tr.size]; omega
end Go.Proofs.YtjjdkkdnlnbedaaGreat


namespace Go.Proofs.YtjjdkkdnlnbedaaGreat
open Go.RowKit

theorem setAt_setAt (f : Nat → Nd) (i : Nat) (x y : Nd) : setAt (setAt f i x) i y = setAt f i y := by
  funext j; unfold setAt; by_cases e : j = i <;> simp [e]
theorem setAt_at (f : Nat → Nd) (i : Nat) (x : Nd) : setAt f i x i = x := by unfold setAt; rw [if_pos rfl]


/-- All cells of a place are written. -/
theorem Holds.putAll {w : World} {G P : Nat} {nd : Nat → Nd} (h : Holds w G P nd) (i : Nat) (hi : i ≤ P) (x : Nd) :
    Holds ((((((((w.setCell ⟨G, i * 8, none⟩ (.int .i64 x.time)).setCell ⟨G, i * 8 + 1, none⟩ (.int .i64 x.seq)).setCell ⟨G, i * 8 + 2, none⟩ (.int .i64 x.turn)).setCell ⟨G, i * 8 + 3, none⟩ (.bool x.filled)).setCell ⟨G, i * 8 + 4, none⟩ (.bool x.red)).setCell ⟨G, i * 8 + 5, none⟩ (.int .i64 x.up)).setCell ⟨G, i * 8 + 6, none⟩ (.int .i64 (x.dn false))).setCell ⟨G, i * 8 + 7, none⟩ (.int .i64 (x.dn true))) G P (setAt nd i x) := by
  refine ⟨fun p hp k hk => ?_, fun j => by simp only [World.frozen?_setCell]; exact h.free j⟩
  have hc := h.cell p hp k hk
  by_cases e : p = i
  · subst e
    rw [setAt_at]
    have c : ∀ j, j < 8 → w.cell? ⟨G, p * 8 + j, none⟩ = some (fld (nd p) j) := fun j hj => h.cell p hp j hj
    have ne : ∀ a b : Nat, a ≠ b → (⟨G, p * 8 + a, none⟩ : Addr) ≠ ⟨G, p * 8 + b, none⟩ := by
      intro a b hab q
      simp only [Addr.mk.injEq, true_and, and_true] at q
      omega
    have ne0 : ∀ b : Nat, 0 ≠ b → (⟨G, p * 8, none⟩ : Addr) ≠ ⟨G, p * 8 + b, none⟩ := ne 0
    have s0 := c 0 (by omega); have s1 := c 1 (by omega); have s2 := c 2 (by omega); have s3 := c 3 (by omega)
    have s4 := c 4 (by omega); have s5 := c 5 (by omega); have s6 := c 6 (by omega); have s7 := c 7 (by omega)
    rcases (show k = 0 ∨ k = 1 ∨ k = 2 ∨ k = 3 ∨ k = 4 ∨ k = 5 ∨ k = 6 ∨ k = 7 by omega) with rfl | rfl | rfl | rfl | rfl | rfl | rfl | rfl
    · rw [World.cell?_setCell_other _ _ _ _ (ne 7 0 (by omega)), World.cell?_setCell_other _ _ _ _ (ne 6 0 (by omega)), World.cell?_setCell_other _ _ _ _ (ne 5 0 (by omega)), World.cell?_setCell_other _ _ _ _ (ne 4 0 (by omega)), World.cell?_setCell_other _ _ _ _ (ne 3 0 (by omega)), World.cell?_setCell_other _ _ _ _ (ne 2 0 (by omega)), World.cell?_setCell_other _ _ _ _ (ne 1 0 (by omega))]
      exact World.cell?_setCell_same _ _ _ s0
    · rw [World.cell?_setCell_other _ _ _ _ (ne 7 1 (by omega)), World.cell?_setCell_other _ _ _ _ (ne 6 1 (by omega)), World.cell?_setCell_other _ _ _ _ (ne 5 1 (by omega)), World.cell?_setCell_other _ _ _ _ (ne 4 1 (by omega)), World.cell?_setCell_other _ _ _ _ (ne 3 1 (by omega)), World.cell?_setCell_other _ _ _ _ (ne 2 1 (by omega))]
      exact World.cell?_setCell_same _ _ _ (u := fld (nd p) 1) (by rw [World.cell?_setCell_other _ _ _ _ (ne0 1 (by omega))]; exact s1)
    · rw [World.cell?_setCell_other _ _ _ _ (ne 7 2 (by omega)), World.cell?_setCell_other _ _ _ _ (ne 6 2 (by omega)), World.cell?_setCell_other _ _ _ _ (ne 5 2 (by omega)), World.cell?_setCell_other _ _ _ _ (ne 4 2 (by omega)), World.cell?_setCell_other _ _ _ _ (ne 3 2 (by omega))]
      exact World.cell?_setCell_same _ _ _ (u := fld (nd p) 2) (by rw [World.cell?_setCell_other _ _ _ _ (ne 1 2 (by omega)), World.cell?_setCell_other _ _ _ _ (ne0 2 (by omega))]; exact s2)
    · rw [World.cell?_setCell_other _ _ _ _ (ne 7 3 (by omega)), World.cell?_setCell_other _ _ _ _ (ne 6 3 (by omega)), World.cell?_setCell_other _ _ _ _ (ne 5 3 (by omega)), World.cell?_setCell_other _ _ _ _ (ne 4 3 (by omega))]
      exact World.cell?_setCell_same _ _ _ (u := fld (nd p) 3) (by rw [World.cell?_setCell_other _ _ _ _ (ne 2 3 (by omega)), World.cell?_setCell_other _ _ _ _ (ne 1 3 (by omega)), World.cell?_setCell_other _ _ _ _ (ne0 3 (by omega))]; exact s3)
    · rw [World.cell?_setCell_other _ _ _ _ (ne 7 4 (by omega)), World.cell?_setCell_other _ _ _ _ (ne 6 4 (by omega)), World.cell?_setCell_other _ _ _ _ (ne 5 4 (by omega))]
      exact World.cell?_setCell_same _ _ _ (u := fld (nd p) 4) (by rw [World.cell?_setCell_other _ _ _ _ (ne 3 4 (by omega)), World.cell?_setCell_other _ _ _ _ (ne 2 4 (by omega)), World.cell?_setCell_other _ _ _ _ (ne 1 4 (by omega)), World.cell?_setCell_other _ _ _ _ (ne0 4 (by omega))]; exact s4)
    · rw [World.cell?_setCell_other _ _ _ _ (ne 7 5 (by omega)), World.cell?_setCell_other _ _ _ _ (ne 6 5 (by omega))]
      exact World.cell?_setCell_same _ _ _ (u := fld (nd p) 5) (by rw [World.cell?_setCell_other _ _ _ _ (ne 4 5 (by omega)), World.cell?_setCell_other _ _ _ _ (ne 3 5 (by omega)), World.cell?_setCell_other _ _ _ _ (ne 2 5 (by omega)), World.cell?_setCell_other _ _ _ _ (ne 1 5 (by omega)), World.cell?_setCell_other _ _ _ _ (ne0 5 (by omega))]; exact s5)
    · rw [World.cell?_setCell_other _ _ _ _ (ne 7 6 (by omega))]
      exact World.cell?_setCell_same _ _ _ (u := fld (nd p) 6) (by rw [World.cell?_setCell_other _ _ _ _ (ne 5 6 (by omega)), World.cell?_setCell_other _ _ _ _ (ne 4 6 (by omega)), World.cell?_setCell_other _ _ _ _ (ne 3 6 (by omega)), World.cell?_setCell_other _ _ _ _ (ne 2 6 (by omega)), World.cell?_setCell_other _ _ _ _ (ne 1 6 (by omega)), World.cell?_setCell_other _ _ _ _ (ne0 6 (by omega))]; exact s6)
    · exact World.cell?_setCell_same _ _ _ (u := fld (nd p) 7) (by rw [World.cell?_setCell_other _ _ _ _ (ne 6 7 (by omega)), World.cell?_setCell_other _ _ _ _ (ne 5 7 (by omega)), World.cell?_setCell_other _ _ _ _ (ne 4 7 (by omega)), World.cell?_setCell_other _ _ _ _ (ne 3 7 (by omega)), World.cell?_setCell_other _ _ _ _ (ne 2 7 (by omega)), World.cell?_setCell_other _ _ _ _ (ne 1 7 (by omega)), World.cell?_setCell_other _ _ _ _ (ne0 7 (by omega))]; exact s7)
  · have : setAt nd i x p = nd p := by unfold setAt; rw [if_neg e]
    rw [this]
    have ne : ∀ j, j < 8 → (⟨G, i * 8 + j, none⟩ : Addr) ≠ ⟨G, p * 8 + k, none⟩ := by
      intro j hj q
      simp only [Addr.mk.injEq, true_and, and_true] at q
      omega
    have ne0 : (⟨G, i * 8, none⟩ : Addr) ≠ ⟨G, p * 8 + k, none⟩ := ne 0 (by omega)
    rw [World.cell?_setCell_other _ _ _ _ (ne 7 (by omega)), World.cell?_setCell_other _ _ _ _ (ne 6 (by omega)), World.cell?_setCell_other _ _ _ _ (ne 5 (by omega)), World.cell?_setCell_other _ _ _ _ (ne 4 (by omega)), World.cell?_setCell_other _ _ _ _ (ne 3 (by omega)), World.cell?_setCell_other _ _ _ _ (ne 2 (by omega)), World.cell?_setCell_other _ _ _ _ (ne 1 (by omega)), World.cell?_setCell_other _ _ _ _ ne0]
    exact hc
theorem Own.putAll {w : World} {T G P : Nat} {st : St} (h : Own w T G P st) (i : Nat) (hi : i ≤ P) (x : Nd) :
    Own ((((((((w.setCell ⟨G, i * 8, none⟩ (.int .i64 x.time)).setCell ⟨G, i * 8 + 1, none⟩ (.int .i64 x.seq)).setCell ⟨G, i * 8 + 2, none⟩ (.int .i64 x.turn)).setCell ⟨G, i * 8 + 3, none⟩ (.bool x.filled)).setCell ⟨G, i * 8 + 4, none⟩ (.bool x.red)).setCell ⟨G, i * 8 + 5, none⟩ (.int .i64 x.up)).setCell ⟨G, i * 8 + 6, none⟩ (.int .i64 (x.dn false))).setCell ⟨G, i * 8 + 7, none⟩ (.int .i64 (x.dn true))) T G P { st with nd := setAt st.nd i x } :=
  ⟨h.hP, h.ne, (((((((h.box.other (fun e => h.ne e.symm) _ _).other (fun e => h.ne e.symm) _ _).other (fun e => h.ne e.symm) _ _).other (fun e => h.ne e.symm) _ _).other (fun e => h.ne e.symm) _ _).other (fun e => h.ne e.symm) _ _).other (fun e => h.ne e.symm) _ _).other (fun e => h.ne e.symm) _ _, h.nod.putAll i hi x, by simpa using h.lt⟩

theorem Own.drew1 {w : World} {T G P : Nat} {st : St} (h : Own w T G P st) : Own w.drew T G P st := ⟨h.hP, h.ne, h.box, ⟨h.nod.cell, h.nod.free⟩, h.lt⟩
theorem Touch.drew1 {T G : Nat} {a b : World} (h : Touch T G a b) : Touch T G a b.drew := ⟨h.os, h.tape, h.output, h.size, h.block⟩
theorem Blk.drew1 {w : World} {g : Nat} {t : TypeId} {cs : Array Value} (h : Blk w g t cs) : Blk w.drew g t cs := h
theorem Blk.touch {w w' : World} {T G g : Nat} {t : TypeId} {cs : Array Value} (h : Blk w g t cs) (ht : Touch T G w w') (h1 : g ≠ T) (h2 : g ≠ G) : Blk w' g t cs := by
  have hl := h.lt
  unfold Blk at h ⊢
  rw [ht.block g hl h1 h2]; exact h

theorem Touch.setNew {T G : Nat} {a b : World} (h : Touch T G a b) {p : Addr} (hp : a.heap.size ≤ p.block) (v : Value) : Touch T G a (b.setCell p v) :=
  ⟨h.os, h.tape, h.output, by simpa using h.size, fun i hi h1 h2 => (Below.heap_setCell b p v i (by omega)).trans (h.block i hi h1 h2)⟩
theorem Own.setOther {w : World} {T G P : Nat} {st : St} (h : Own w T G P st) {k : Nat} (h1 : k ≠ T) (h2 : k ≠ G) (j : Nat) (v : Value) : Own (w.setCell ⟨k, j, none⟩ v) T G P st :=
  ⟨h.hP, h.ne, h.box.other h1 _ _, ⟨fun i hi q hq => by rw [World.cell?_setCell_other _ _ _ _ (by intro e; simp only [Addr.mk.injEq] at e; exact h2 e.1)]; exact h.nod.cell i hi q hq, fun j => by rw [World.frozen?_setCell]; exact h.nod.free j⟩, by simpa using h.lt⟩

/-- The new node has its key. -/
theorem fill_facts {w W1 : World} {T G P B : Nat} {st : St} {f n : Nat} {a b tu : Int} (h : Own W1 T G P { st with free := f }) (ht : Touch T G w W1) (hb : Blk W1 (B + 1) 123 #[.int .i64 0, .int .i64 0])
    (hn : n ≤ P) (htu : (st.nd n).turn = tu) (hf : (st.nd n).dn false = f) (hg : G ≠ B + 1) (ht' : T ≠ B + 1) :
    Own (((((((((W1.setCell ⟨G, n * 8, none⟩ (.int .i64 a)).setCell ⟨G, n * 8 + 1, none⟩ (.int .i64 b)).setCell ⟨G, n * 8 + 2, none⟩ (.int .i64 (tu + 1))).setCell ⟨G, n * 8 + 3, none⟩ (.bool true)).setCell ⟨G, n * 8 + 4, none⟩ (.bool true)).setCell ⟨G, n * 8 + 5, none⟩ (.int .i64 0)).setCell ⟨G, n * 8 + 6, none⟩ (.int .i64 0)).setCell ⟨G, n * 8 + 7, none⟩ (.int .i64 0)).setCell ⟨T, 3, none⟩ (.int .i64 (st.count + 1))).drew T G P (st.fill n a b) ∧ Touch T G w ((((((((((W1.setCell ⟨G, n * 8, none⟩ (.int .i64 a)).setCell ⟨G, n * 8 + 1, none⟩ (.int .i64 b)).setCell ⟨G, n * 8 + 2, none⟩ (.int .i64 (tu + 1))).setCell ⟨G, n * 8 + 3, none⟩ (.bool true)).setCell ⟨G, n * 8 + 4, none⟩ (.bool true)).setCell ⟨G, n * 8 + 5, none⟩ (.int .i64 0)).setCell ⟨G, n * 8 + 6, none⟩ (.int .i64 0)).setCell ⟨G, n * 8 + 7, none⟩ (.int .i64 0)).setCell ⟨T, 3, none⟩ (.int .i64 (st.count + 1))).drew) ∧ Blk ((((((((((W1.setCell ⟨G, n * 8, none⟩ (.int .i64 a)).setCell ⟨G, n * 8 + 1, none⟩ (.int .i64 b)).setCell ⟨G, n * 8 + 2, none⟩ (.int .i64 (tu + 1))).setCell ⟨G, n * 8 + 3, none⟩ (.bool true)).setCell ⟨G, n * 8 + 4, none⟩ (.bool true)).setCell ⟨G, n * 8 + 5, none⟩ (.int .i64 0)).setCell ⟨G, n * 8 + 6, none⟩ (.int .i64 0)).setCell ⟨G, n * 8 + 7, none⟩ (.int .i64 0)).setCell ⟨T, 3, none⟩ (.int .i64 (st.count + 1))).drew) (B + 1) 123 #[.int .i64 0, .int .i64 0] := by
  refine ⟨?_, ?_, ?_⟩
  · have q := ((h.putAll n hn (fresh a b (tu + 1))).putCount (st.count + 1)).drew1
    have e : St.fill st n a b = ⟨setAt st.nd n (fresh a b (tu + 1)), st.root, f, st.count + 1⟩ := by unfold St.fill; rw [htu, hf]
    rw [e]
    exact q
  · exact (((((((((ht.setG _ _).setG _ _).setG _ _).setG _ _).setG _ _).setG _ _).setG _ _).setG _ _).setT _ _).drew1
  · exact (((((((((hb.other hg _ _).other hg _ _).other hg _ _).other hg _ _).other hg _ _).other hg _ _).other hg _ _).other hg _ _).other ht' _ _).drew1

set_option maxRecDepth 100000 in
set_option maxHeartbeats 4000000 in
theorem put_any (T G P : Nat) (st : St) (w : World) (h : Own w T G P st) (t : Tr) (fl : List Nat) (n : Nat) (hi : Inv P st t (n :: fl)) (a b : Int) (ht0 : 0 ≤ (st.nd n).turn) (ht : (st.nd n).turn < 1000000) :
    Calls Tryz.prog 114 #[.pointer (some ⟨T, 0, none⟩), .agg #[.int .i64 a, .int .i64 b]] w fun e w' => e = .returned (.tuple #[.agg #[.int .i64 n, .int .i64 ((st.nd n).turn + 1)], .int .i64 0]) ∧
      ∃ st' t' pre post, Own w' T G P st' ∧ Touch T G w w' ∧ Inv P st' t' fl ∧ t'.list = pre ++ n :: post ∧ t.list = pre ++ post ∧ (∀ x ∈ pre, kle st' n x = false) ∧ (∀ x ∈ post, kle st' n x = true) ∧
      SameK (st'.nd n) (fresh a b ((st.nd n).turn + 1)) ∧ (∀ x, x ≠ n → SameK (st'.nd x) (st.nd x)) := by
  have hP := h.hP
  have hTG := h.ne
  have hTl := h.box.lt
  have hGl := h.lt
  have c0 := h.slice
  have cf := h.free
  have fr2 := h.ofree
  have hfree : st.free = n := hi.chain.1
  obtain ⟨h0, hn, nt⟩ := hi.fbd n (by simp)
  have hc : st.count ≤ 5000 := by have h1 := hi.count; have h2 := hi.cover; omega
  rw [hfree] at cf
  obtain ⟨d0, d1, d2, d3, d4, d5, d6, d7⟩ := h.at n hn
  obtain ⟨tu, htu⟩ : ∃ x, (st.nd n).turn = x := ⟨_, rfl⟩
  obtain ⟨f, hf⟩ : ∃ x, (st.nd n).dn false = x := ⟨_, rfl⟩
  rw [htu]
  rw [htu] at ht ht0 d2
  rw [hf] at d6
  have HN := hide (And.intro htu hf)
  have HI := hide hi
  clear htu hf hi hfree nt
  obtain ⟨B, hB⟩ : ∃ B, w.heap.size = B := ⟨_, rfl⟩
  have hBG : G < B := by rw [← hB]; exact h.lt
  have hBT : T < B := by rw [← hB]; exact h.box.lt
  go_enter Tryz.func114, Tryz.ntmps114
  go_wp2
  obtain ⟨W1, hW1⟩ : ∃ W1, W1 = ((w.setCell ⟨T, 2, none⟩ (.int .i64 f)).alloc (.cells #[.int .i64 a, .int .i64 b] 148)).alloc (.cells #[.int .i64 0, .int .i64 0] 123) := ⟨_, rfl⟩
  rw [← hW1]
  have o1 : Own W1 T G P { st with free := f } := by rw [hW1]; exact (h.putFree f).below (two_below _ _ _ 0)
  have t1 : Touch T G w W1 := by rw [hW1]; exact ((Touch.refl _ _ _).setT _ _).trans (Touch.of_below (two_below _ _ _ 0))
  have k1 : Blk W1 B 148 #[.int .i64 a, .int .i64 b] := by rw [hW1]; exact (Blk.new_at (w.setCell _ _) _ _ (by simp [hB])).alloc _
  have k2 : Blk W1 (B + 1) 123 #[.int .i64 0, .int .i64 0] := by rw [hW1]; exact Blk.new_at ((w.setCell _ _).alloc _) _ _ (by simp [hB])
  clear hW1 c0 cf fr2 d0 d1 d2 d3 d4 d5 d6 d7 hTl hGl
  have c0 := o1.slice
  have cc := o1.count
  have fr := o1.nod.free
  have fr2 := o1.ofree
  obtain ⟨d0, d1, d2, d3, d4, d5, d6, d7⟩ := o1.at n hn
  have e0 := k1.cell 0
  have e1 := k1.cell 1
  simp only [List.getElem?_toArray, List.getElem?_cons_zero, List.getElem?_cons_succ] at e0 e1
  have O1 := hide (And.intro o1 (And.intro t1 k2))
  clear k1 k2 o1 t1
  go_region
  go_wp2_with (go_at_call 126; refine Hid.out ?_)
  refine hide ?_
  obtain ⟨W2, hW2⟩ : ∃ W2, W2 = (((((((((W1.setCell ⟨G, n * 8, none⟩ (.int .i64 a)).setCell ⟨G, n * 8 + 1, none⟩ (.int .i64 b)).setCell ⟨G, n * 8 + 2, none⟩ (.int .i64 (tu + 1))).setCell ⟨G, n * 8 + 3, none⟩ (.bool true)).setCell ⟨G, n * 8 + 4, none⟩ (.bool true)).setCell ⟨G, n * 8 + 5, none⟩ (.int .i64 0)).setCell ⟨G, n * 8 + 6, none⟩ (.int .i64 0)).setCell ⟨G, n * 8 + 7, none⟩ (.int .i64 0)).setCell ⟨T, 3, none⟩ (.int .i64 (st.count + 1))).drew := ⟨_, rfl⟩
  rw [← hW2]
  obtain ⟨o2, t2, k2⟩ : Own W2 T G P (st.fill n a b) ∧ Touch T G w W2 ∧ Blk W2 (B + 1) 123 #[.int .i64 0, .int .i64 0] := by
    rw [hW2]
    exact fill_facts (unhide O1).1 (unhide O1).2.1 (unhide O1).2.2 hn (unhide HN).1 (unhide HN).2 (by omega) (by omega)
  have O2 := hide (And.intro o2 (And.intro t2 k2))
  clear hW2 o2 t2 k2 c0 cc fr fr2 d0 d1 d2 d3 d4 d5 d6 d7 e0 e1
  have hz2 : Z P (st.fill n a b) .top t := fill_z (unhide HI).good.z (((unhide HI).fbd n (by simp)).2.2) h0
  refine (hang_any T G P _ W2 (unhide O2).1 t n hz2 hn).mono ?_
  rintro e w3 ⟨rfl, cx, hcx, hpath, o3, t3⟩
  have O3 := hide (And.intro o3 (And.intro t3 (And.intro hcx hpath)))
  have CM := hide (mendRed_any T G P _ w3 o3 cx n 0 .nil .nil (put_red (unhide HI) hcx))
  clear o3 t3 hcx hpath hz2
  go_wp2_with (go_at_call 127; refine Hid.out ?_)
  refine hide ?_
  refine (unhide CM).mono ?_
  rintro e w4 ⟨rfl, st4, t4, o4, tt4, g4, l4, kp4⟩
  have FIN := hide (put_inv (unhide HI) (unhide O3).2.2.1 (unhide O3).2.2.2 g4 l4 kp4)
  have tt : Touch T G W2 w4 := (unhide O3).2.1.trans tt4
  have k4 : Blk w4 (B + 1) 123 #[.int .i64 0, .int .i64 0] := (unhide O2).2.2.touch tt (by omega) (by omega)
  have f0 := k4.free 0
  have f1 := k4.free 1
  have g0 := k4.cell 0
  have g1 := k4.cell 1
  simp only [List.getElem?_toArray, List.getElem?_cons_zero, List.getElem?_cons_succ] at g0 g1
  have O4 := hide (And.intro o4 (And.intro ((unhide O2).2.1.trans tt) k4))
  clear o4 tt4 g4 l4 kp4 tt k4
  go_wp2
  obtain ⟨F1, F2, F3, F4, F5, F6, F7⟩ := unhide FIN
  rw [(unhide HN).1] at F6
  refine bodyPost_ret (v := .tuple #[.agg #[.int .i64 n, .int .i64 (tu + 1)], .int .i64 0]) (by simp [results, Tryz.results114, go_sem, g0, g1]) rfl ⟨rfl, st4, t4, cx.pre, cx.post, ?_, ?_, F1, F2, F3, F4, F5, F6, F7⟩
  · exact ((unhide O4).1.setOther (by omega) (by omega) _ _).setOther (by omega) (by omega) _ _
  · exact ((unhide O4).2.1.setNew (by dsimp only; omega) _).setNew (by dsimp only; omega) _

set_option maxRecDepth 100000 in
theorem put_full (T G P : Nat) (st : St) (w : World) (h : Own w T G P st) (hf : st.free = 0) (a b : Int) :
    Calls Tryz.prog 114 #[.pointer (some ⟨T, 0, none⟩), .agg #[.int .i64 a, .int .i64 b]] w fun e w' => e = .returned (.tuple #[.agg #[.int .i64 0, .int .i64 0], .int .i64 3]) ∧ Below w.heap.size w w' := by
  have hTl := h.box.lt
  have cf := h.free
  rw [hf] at cf
  rw [show ((0 : Nat) : Int) = 0 from rfl] at cf
  go_enter Tryz.func114, Tryz.ntmps114
  go_wp2
  exact bodyPost_ret (v := .tuple #[.agg #[.int .i64 0, .int .i64 0], .int .i64 3]) (by simp [results, Tryz.results114, go_sem]) rfl ⟨rfl, two_below _ _ _ 0⟩
theorem put_nil (w : World) (a b : Int) :
    Calls Tryz.prog 114 #[.pointer none, .agg #[.int .i64 a, .int .i64 b]] w fun e w' => e = .returned (.tuple #[.agg #[.int .i64 0, .int .i64 0], .int .i64 1]) ∧ Below w.heap.size w w' := by
  go_enter Tryz.func114, Tryz.ntmps114
  go_wp2
  exact bodyPost_ret (v := .tuple #[.agg #[.int .i64 0, .int .i64 0], .int .i64 1]) (by simp [results, Tryz.results114, go_sem]) rfl ⟨rfl, two_below _ _ _ 0⟩
end Go.Proofs.YtjjdkkdnlnbedaaGreat

