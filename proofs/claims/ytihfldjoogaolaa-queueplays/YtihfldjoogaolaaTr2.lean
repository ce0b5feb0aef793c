import Derived.Test.YtihfldjoogaolaaTr1
import Derived.Test.YtihfldjoogaolaaTpMath5
namespace Go.Proofs.Ytihfldjoogaolaa
open Go.RowKit

set_option maxRecDepth 100000 in
set_option maxHeartbeats 4000000 in
theorem mendRed_any (T G P : Nat) (st : St) (w : World) (h : Own w T G P st) (cx : Cx) (n k : Nat) (l r : Tr) (hi : RedInv P st cx n l r k) :
    Calls Try.prog 26 #[.pointer (some ⟨T, 0, none⟩), .int .i64 n] w fun e w' => e = .returned (.tuple #[]) ∧ ∃ st' t', Own w' T G P st' ∧ Touch T G w w' ∧ Good P st' t' ∧ t'.list = (cx.plug (.node n l r)).list ∧ Kept (cx.plug (.node n l r)).list st st' := by
  have hP := h.hP
  have c0 := h.slice
  obtain ⟨L, hL⟩ : ∃ L, (cx.plug (.node n l r)).list = L := ⟨_, rfl⟩
  rw [hL]
  obtain ⟨J, hJ⟩ : ∃ J : Nat → Act → World → Prop, J = (fun k a' w' => ∃ (st' : St) (cx' : Cx) (l' r' : Tr) (n' bh : Nat), k = cx'.depth ∧ Own w' T G P st' ∧ Touch T G w w' ∧ Kept L st st' ∧ RedInv P st' cx' n' l' r' bh ∧ (cx'.plug (.node n' l' r')).list = L ∧ ∃ us : Nat → Value, a' = { tmps := #[.pointer (some ⟨T, 0, none⟩), .int .i64 n', us 2, us 3, .slice (some ⟨G, 0, none⟩) (P + 1) (P + 1), us 5, us 6, us 7, us 8, us 9, us 10, us 11, us 12, us 13, us 14, us 15, us 16, us 17, us 18, us 19, us 20, us 21, us 22, us 23, us 24, us 25, us 26, us 27, us 28, us 29, us 30, us 31, us 32, us 33, us 34, us 35, us 36, us 37, us 38, us 39, us 40, us 41, us 42, us 43, us 44, us 45, us 46, us 47, us 48, us 49, us 50, us 51, us 52, us 53, us 54, us 55, us 56, us 57, us 58, us 59, us 60, us 61, us 62, us 63, us 64, us 65, us 66, us 67, us 68, us 69, us 70, us 71, us 72, us 73, us 74, us 75, us 76, us 77, us 78, us 79, us 80, us 81, us 82, us 83, us 84, us 85, us 86, us 87], defers := [] }) := ⟨_, rfl⟩
  replace hJ := hide hJ
  go_enter Try.func26, Try.ntmps26
  go_wp2
  refine wp_scope_ghost 0 J rfl ?_ ?_
  · go_wp2
    exact ⟨_, by rw [unhide hJ]; exact ⟨st, cx, l, r, n, k, rfl, h, Touch.refl _ _ _, Kept.refl _ _, hi, hL, frame_ex _ rfl⟩⟩
  · clear hi hL h c0
    intro k a' w' hj
    rw [unhide hJ] at hj
    obtain ⟨st', cx', l', r', n', bh, rfl, o, tc, kp, hi, hL, us, rfl⟩ := hj
    have c0 := o.slice
    have hn' : n' ≤ P := hi.z.bd
    have c1 := (o.at n' hn').2.2.2.2.2.1
    rw [hi.z.sh.2.1] at c1
    have hz0 := (o.at 0 (Nat.zero_le _)).2.2.2.2.1
    rw [hi.z.zero.red] at hz0
    have cr := o.root
    have fr := o.nod.free
    have hO := hide o
    have HI := hide hi
    have HT := hide (And.intro tc (And.intro kp hL))
    clear o hi tc kp hL
    cases cx' with
    | top =>
      have hr : st'.root = n' := (unhide HI).z.root
      have cr4 := ((unhide hO).at n' hn').2.2.2.2.1
      rw [hr] at cr
      rw [show ((Cx.top.par : Nat) : Int) = 0 from rfl] at c1
      have HG := hide (red_top (unhide HI))
      clear hr
      go_wp2
      simp only [Exit.jump]
      refine bodyPost_ret (v := .tuple #[]) (by simp [results, Try.results26, go_sem]) rfl ⟨rfl, st'.paint n' false, .node n' l' r', (unhide hO).putRed n' false hn', (unhide HT).1.setG _ _, unhide HG, (unhide HT).2.2, (unhide HT).2.1.trans ?_⟩
      exact kept_red st' n' false (by rw [← (unhide HT).2.2]; simp [Cx.plug, Tr.list])
    | fr s p sib up =>
      have hpP : p ≤ P := (unhide HI).z.par_bd
      have p0 : p ≠ 0 := (unhide HI).z.shc.1
      have cp4 := ((unhide hO).at p hpP).2.2.2.2.1
      have cp5 := ((unhide hO).at p hpP).2.2.2.2.2.1
      rw [show (Cx.fr s p sib up).par = p from rfl] at c1
      cases hp : col st' p with
      | false =>
        rw [show (st'.nd p).red = false from hp] at cp4
        have HG := hide (red_done (unhide HI) (by intro e; cases e) hp)
        have hrP : st'.root ≤ P := by
          have := (unhide HG).1.z.nd.bt _ (unhide HG).2
          exact this
        have cr4 := ((unhide hO).at st'.root hrP).2.2.2.2.1
        obtain ⟨rt, hrt⟩ : ∃ x, st'.root = x := ⟨_, rfl⟩
        rw [hrt] at cr cr4 HG hrP
        clear hrt
        go_wp2
        simp only [Exit.jump]
        refine bodyPost_ret (v := .tuple #[]) (by simp [results, Try.results26, go_sem]) rfl ⟨rfl, st'.paint rt false, _, (unhide hO).putRed rt false hrP, (unhide HT).1.setG _ _, (unhide HG).1, (unhide HT).2.2, (unhide HT).2.1.trans ?_⟩
        exact kept_red st' rt false (by rw [← (unhide HT).2.2]; exact (unhide HG).2)
      | true =>
        rw [show (st'.nd p).red = true from hp] at cp4
        obtain ⟨s2, g, unc, cx2, e, hgc, q1, q2, q3, q4, q5⟩ := red_up (unhide HI) hp
        subst e
        have HQ := hide (And.intro q1 (And.intro q2 (And.intro q3 (And.intro q4 q5))))
        clear q1 q2 q3 q4 q5
        obtain ⟨_, pu, _, _, _, g0, gu, gs, gd, su, _⟩ := (unhide HI).z.shc
        rw [show (Cx.fr s2 g unc cx2).par = g from rfl] at pu
        rw [pu] at cp5
        have hzp := z_move.2 (unhide HI).z
        have hg : g ≤ P := hzp.par_bd
        have hup : (st'.nd p).up ≤ P := by rw [pu]; exact hg
        have hsd : sideOf st' p = s2 := by
          obtain ⟨x, y, e⟩ := mk_eq s p (.node n' l' r') sib
          rw [e] at hzp
          exact sideOf_z hzp
        have CS := hide (fun m => side_any T G P st' (w'.drewN m) ((unhide hO).drew m) p hpP hup)
        rw [hsd] at CS
        have hu : unc.root ≤ P := by
          have hzg := (unhide HI).z.nd.bc
          by_cases e : unc.root = 0
          · omega
          · exact hzg _ (by simp [Cx.places, root_mem e])
        have cu := ((unhide hO).at unc.root hu).2.2.2.2.1
        have hcu' : (st'.nd unc.root).red = redR (col st') unc := by
          cases unc with
          | nil => exact (unhide HI).z.zero.red
          | node q a b => rfl
        rw [hcu'] at cu
        have cg4 := ((unhide hO).at g hg).2.2.2.2.1
        rw [show (st'.nd g).red = false from hgc] at cg4
        obtain ⟨hpg, hpt, hgt, _, _, a6, a7, _⟩ := apart (unhide HI).z
        have hpn : p ≠ n' := fun e => hpt (by simp [Tr.list, e])
        have hgn : g ≠ n' := fun e => hgt (by simp [Tr.list, e])
        have hpu : p ≠ unc.root := fun e => by
          by_cases q : unc.root = 0
          · exact p0 (e.trans q)
          · exact a6 (e ▸ root_mem q)
        have hgu : g ≠ unc.root := fun e => by
          by_cases q : unc.root = 0
          · exact g0 (e.trans q)
          · exact a7 (e ▸ root_mem q)
        have mp : p ∈ L := by rw [← (unhide HT).2.2, mem_plug]; simp [Cx.places]
        have mg : g ∈ L := by rw [← (unhide HT).2.2, mem_plug]; simp [Cx.places]
        have mn : n' ∈ L := by rw [← (unhide HT).2.2, mem_plug]; simp [Tr.list]
        have mU : unc.root ≠ 0 → unc.root ∈ L := by
          intro q
          rw [← (unhide HT).2.2, mem_plug]
          simp [Cx.places, root_mem q]
        obtain ⟨U, hU⟩ : ∃ x, unc.root = x := ⟨_, rfl⟩
        rw [hU] at hpu hgu cu hu gd mU
        have HU := hide hU
        clear hcu' hup hsd gu su gs hU a6 a7 hpt hgt
        cases s2
        · rw [show (!false) = true from rfl] at gd
          have cg := ((unhide hO).at g hg).2.2.2.2.2.2.2
          rw [gd] at cg
          rw [show sd false = 0 from rfl] at CS
          cases hcu : redR (col st') unc with
          | true =>
            obtain ⟨l2, r2, hi2, hpl⟩ := red_climb (unhide HI) hp hcu
            have HN := hide (And.intro hi2 hpl)
            clear hi2 hpl
            rw [unhide HU] at HN
            rw [hcu] at cu
            have mU := mU (by rw [← unhide HU]; intro q; have := sh_root_ne (unhide HI).z.shc.2.2.2.2.2.2.2.2.2.1 q; rw [this] at hcu; cases hcu)
            go_wp2
            go_quiet (first | (go_at_call 35; exact Calls.quiet_of ((unhide CS) _)))
            go_wp2
            go_step3
            refine ⟨rfl, _, ?_, by rw [unhide hJ]; exact ⟨_, cx2, l2, r2, g, bh + 1, rfl, ((((unhide hO).drew nq).putRed p false hpP).putRed U false hu).putRed g true hg, (((unhide HT).1.drew.setG _ _).setG _ _).setG _ _, (((unhide HT).2.1.trans (kept_red _ _ _ mp)).trans (kept_red _ _ _ mU)).trans (kept_red _ _ _ mg), (unhide HN).1, by rw [(unhide HN).2]; exact (unhide HT).2.2, frame_ex _ rfl⟩⟩
            simp only [Cx.depth]; omega
          | false =>
            rw [hcu] at cu
            have hun : (st'.nd n').up ≤ P := by rw [(unhide HI).z.sh.2.1]; exact (unhide HI).z.par_bd
            have CS2 := hide (fun m => side_any T G P st' (w'.drewN m) ((unhide hO).drew m) n' hn' hun)
            rw [sideOf_z (unhide HI).z, show (Cx.fr s p sib (.fr false g unc cx2)).side = s from rfl] at CS2
            obtain ⟨q1, q2, q3, q4, q5⟩ := unhide HQ
            have hrb := (unhide HI).rb
            have cn4 := ((unhide hO).at n' hn').2.2.2.2.1
            cases s
            case false =>
              have hzg := z_move.2 hzp
              obtain ⟨kz, kg⟩ := red_turn hzg hrb q1 q2 q3 hcu q4 q5
              have KG := hide (And.intro kz kg)
              have hlist : (cx2.plug (mk true p (mk true g unc sib) (.node n' l' r'))).list = L := by
                rw [← (unhide HT).2.2, Cx.plug, Cx.plug]
                refine plug_list ?_ cx2
                rw [show mk true p (mk true g unc sib) (.node n' l' r') = mk (!false) p (mk (!false) g unc sib) (.node n' l' r') from rfl, rot_list, ← mk_flip false p, ← mk_flip false g]
              have HL := hide hlist
              clear q1 q2 q3 q4 q5 hrb hzg kz kg hun hlist
              rw [show sd false = 0 from rfl] at CS2
              go_wp2
              go_quiet (first | (go_at_call 35; exact Calls.quiet_of ((unhide CS) _)))
              go_wp2_with (go_at_call 35; refine ((unhide CS2) _).mono ?_; rintro e w1 ⟨rfl, m1, rfl⟩)
              refine (rotate_any T G P _ _ ((((unhide hO).drew _).putRed p false hpP).putRed g true hg) cx2 true g p unc sib (.node n' l' r') (unhide KG).1).mono ?_
              rintro e w2 ⟨rfl, o2, t2⟩
              have O2 := hide (And.intro o2 t2)
              clear o2 t2
              go_wp2
              simp only [Exit.jump]
              go_end0
              refine ⟨rfl, _, _, (unhide O2).1, (((unhide HT).1.drew.setG _ _).setG _ _).trans (unhide O2).2, (unhide KG).2, unhide HL, ?_⟩
              refine (((unhide HT).2.1.trans (kept_red _ p false mp)).trans (kept_red _ g true mg)).trans ?_
              have kk := kept_rot (unhide KG).1
              rw [show (cx2.plug (mk (!false) g unc (mk (!false) p sib (.node n' l' r')))).list = L from by rw [← unhide HL]; exact plug_list (rot_list true g p unc sib (.node n' l' r')).symm cx2] at kk
              exact kk
            case true =>
              have hN : (Tr.node n' l' r') = mk false n' l' r' := rfl
              obtain ⟨x1, x2, x3, x4⟩ := (rb_red (s := false) (unhide HI).red).1 hrb
              have hzq : Z P st' (.fr false g unc cx2) (mk false p sib (mk false n' l' r')) := by
                have := hzp
                rw [mk_flip true p] at this
                exact this
              have hz1 := rot_z hzq
              have hzg := z_move.2 hz1
              have hc1 : col (st'.rot p false) = col st' := col_rot _ _ _
              obtain ⟨kz, kg⟩ := red_turn (st := st'.rot p false) hzg (k := bh) (by rw [hc1]; exact (rb_red hp).2 ⟨q2, x1, q1, x3⟩) (by rw [hc1]; exact x4) (by rw [hc1]; exact x2) (by rw [hc1]; exact q3) (by rw [hc1]; exact hcu) (by rw [hc1]; exact q4) (by rw [hc1]; exact q5)
              have KG := hide (And.intro kz kg)
              have hlist : (cx2.plug (mk true n' (mk true g unc r') (mk false p sib l'))).list = L := by
                rw [← (unhide HT).2.2, Cx.plug, Cx.plug]
                refine plug_list ?_ cx2
                rw [show mk true n' (mk true g unc r') (mk false p sib l') = mk (!false) n' (mk (!false) g unc r') (mk false p sib l') from rfl, rot_list, ← mk_flip false n', ← mk_flip false g]
                simp [mk, Tr.list]
              have HL := hide hlist
              have CR := hide (fun m => rotate_any T G P st' (w'.drewN m) ((unhide hO).drew m) (.fr false g unc cx2) false p n' sib l' r' hzq)
              have KR := hide (kept_rot hzq)
              clear q1 q2 q3 q4 q5 hrb hzg kz kg hun hlist x1 x2 x3 x4 hz1 hzq hc1 hN
              rw [show sd true = 1 from rfl] at CS2
              go_wp2
              go_quiet (first | (go_at_call 35; exact Calls.quiet_of ((unhide CS) _)))
              go_wp2_with (first | (go_at_call 35; refine ((unhide CS2) _).mono ?_; rintro e w1 ⟨rfl, m1, rfl⟩) | (go_at_call 36; refine Hid.out ?_))
              refine hide ?_
              refine ((unhide CR) _).mono ?_
              rintro e w1 ⟨rfl, o1, t1⟩
              have d0 := o1.slice
              have d1 := (o1.at n' hn').2.2.2.2.1
              have d2 := (o1.at g hg).2.2.2.2.1
              have d3 := o1.nod.free
              have O1 := hide (And.intro o1 t1)
              clear o1 t1
              go_wp2_with (go_at_call 36; refine Hid.out ?_)
              refine hide ?_
              refine (rotate_any T G P _ _ (((unhide O1).1.putRed n' false hn').putRed g true hg) cx2 true g n' unc r' (mk false p sib l') (unhide KG).1).mono ?_
              rintro e w2 ⟨rfl, o2, t2⟩
              have O2 := hide (And.intro o2 t2)
              clear o2 t2
              go_wp2
              simp only [Exit.jump]
              go_end0
              refine ⟨rfl, _, _, (unhide O2).1, ((((unhide HT).1.drew.trans (unhide O1).2).setG _ _).setG _ _).trans (unhide O2).2, (unhide KG).2, unhide HL, ?_⟩
              have kr := unhide KR
              rw [show ((Cx.fr false g unc cx2).plug (mk false p sib (mk false n' l' r'))).list = L from by
                rw [← (unhide HT).2.2]
                show _ = ((Cx.fr false g unc cx2).plug (mk true p (.node n' l' r') sib)).list
                exact plug_list (by rw [mk_flip true p]; rfl) _] at kr
              refine ((((unhide HT).2.1.trans kr).trans (kept_red _ n' false mn)).trans (kept_red _ g true mg)).trans ?_
              have kk := kept_rot (unhide KG).1
              rw [show (cx2.plug (mk (!false) g unc (mk (!false) n' r' (mk false p sib l')))).list = L from by rw [← unhide HL]; exact plug_list (rot_list true g n' unc r' (mk false p sib l')).symm cx2] at kk
              exact kk
        · rw [show (!true) = false from rfl] at gd
          have cg := ((unhide hO).at g hg).2.2.2.2.2.2.1
          rw [gd] at cg
          rw [show sd true = 1 from rfl] at CS
          cases hcu : redR (col st') unc with
          | true =>
            obtain ⟨l2, r2, hi2, hpl⟩ := red_climb (unhide HI) hp hcu
            have HN := hide (And.intro hi2 hpl)
            clear hi2 hpl
            rw [unhide HU] at HN
            rw [hcu] at cu
            have mU := mU (by rw [← unhide HU]; intro q; have := sh_root_ne (unhide HI).z.shc.2.2.2.2.2.2.2.2.2.1 q; rw [this] at hcu; cases hcu)
            go_wp2
            go_quiet (first | (go_at_call 35; exact Calls.quiet_of ((unhide CS) _)))
            go_wp2
            go_step3
            refine ⟨rfl, _, ?_, by rw [unhide hJ]; exact ⟨_, cx2, l2, r2, g, bh + 1, rfl, ((((unhide hO).drew nq).putRed p false hpP).putRed U false hu).putRed g true hg, (((unhide HT).1.drew.setG _ _).setG _ _).setG _ _, (((unhide HT).2.1.trans (kept_red _ _ _ mp)).trans (kept_red _ _ _ mU)).trans (kept_red _ _ _ mg), (unhide HN).1, by rw [(unhide HN).2]; exact (unhide HT).2.2, frame_ex _ rfl⟩⟩
            simp only [Cx.depth]; omega
          | false =>
            rw [hcu] at cu
            have hun : (st'.nd n').up ≤ P := by rw [(unhide HI).z.sh.2.1]; exact (unhide HI).z.par_bd
            have CS2 := hide (fun m => side_any T G P st' (w'.drewN m) ((unhide hO).drew m) n' hn' hun)
            rw [sideOf_z (unhide HI).z, show (Cx.fr s p sib (.fr true g unc cx2)).side = s from rfl] at CS2
            obtain ⟨q1, q2, q3, q4, q5⟩ := unhide HQ
            have hrb := (unhide HI).rb
            have cn4 := ((unhide hO).at n' hn').2.2.2.2.1
            cases s
            case true =>
              have hzg := z_move.2 hzp
              obtain ⟨kz, kg⟩ := red_turn hzg hrb q1 q2 q3 hcu q4 q5
              have KG := hide (And.intro kz kg)
              have hlist : (cx2.plug (mk false p (mk false g unc sib) (.node n' l' r'))).list = L := by
                rw [← (unhide HT).2.2, Cx.plug, Cx.plug]
                refine plug_list ?_ cx2
                rw [show mk false p (mk false g unc sib) (.node n' l' r') = mk (!true) p (mk (!true) g unc sib) (.node n' l' r') from rfl, rot_list, ← mk_flip true p, ← mk_flip true g]
              have HL := hide hlist
              clear q1 q2 q3 q4 q5 hrb hzg kz kg hun hlist
              rw [show sd true = 1 from rfl] at CS2
              go_wp2
              go_quiet (first | (go_at_call 35; exact Calls.quiet_of ((unhide CS) _)))
              go_wp2_with (go_at_call 35; refine ((unhide CS2) _).mono ?_; rintro e w1 ⟨rfl, m1, rfl⟩)
              refine (rotate_any T G P _ _ ((((unhide hO).drew _).putRed p false hpP).putRed g true hg) cx2 false g p unc sib (.node n' l' r') (unhide KG).1).mono ?_
              rintro e w2 ⟨rfl, o2, t2⟩
              have O2 := hide (And.intro o2 t2)
              clear o2 t2
              go_wp2
              simp only [Exit.jump]
              go_end0
              refine ⟨rfl, _, _, (unhide O2).1, (((unhide HT).1.drew.setG _ _).setG _ _).trans (unhide O2).2, (unhide KG).2, unhide HL, ?_⟩
              refine (((unhide HT).2.1.trans (kept_red _ p false mp)).trans (kept_red _ g true mg)).trans ?_
              have kk := kept_rot (unhide KG).1
              rw [show (cx2.plug (mk (!true) g unc (mk (!true) p sib (.node n' l' r')))).list = L from by rw [← unhide HL]; exact plug_list (rot_list false g p unc sib (.node n' l' r')).symm cx2] at kk
              exact kk
            case false =>
              have hN : (Tr.node n' l' r') = mk true n' r' l' := rfl
              obtain ⟨x1, x2, x3, x4⟩ := (rb_red (s := true) (unhide HI).red).1 hrb
              have hzq : Z P st' (.fr true g unc cx2) (mk true p sib (mk true n' r' l')) := by
                have := hzp
                rw [mk_flip false p] at this
                exact this
              have hz1 := rot_z hzq
              have hzg := z_move.2 hz1
              have hc1 : col (st'.rot p true) = col st' := col_rot _ _ _
              obtain ⟨kz, kg⟩ := red_turn (st := st'.rot p true) hzg (k := bh) (by rw [hc1]; exact (rb_red hp).2 ⟨q2, x1, q1, x3⟩) (by rw [hc1]; exact x4) (by rw [hc1]; exact x2) (by rw [hc1]; exact q3) (by rw [hc1]; exact hcu) (by rw [hc1]; exact q4) (by rw [hc1]; exact q5)
              have KG := hide (And.intro kz kg)
              have hlist : (cx2.plug (mk false n' (mk false g unc l') (mk true p sib r'))).list = L := by
                rw [← (unhide HT).2.2, Cx.plug, Cx.plug]
                refine plug_list ?_ cx2
                rw [show mk false n' (mk false g unc l') (mk true p sib r') = mk (!true) n' (mk (!true) g unc l') (mk true p sib r') from rfl, rot_list, ← mk_flip true n', ← mk_flip true g]
                simp [mk, Tr.list]
              have HL := hide hlist
              have CR := hide (fun m => rotate_any T G P st' (w'.drewN m) ((unhide hO).drew m) (.fr true g unc cx2) true p n' sib r' l' hzq)
              have KR := hide (kept_rot hzq)
              clear q1 q2 q3 q4 q5 hrb hzg kz kg hun hlist x1 x2 x3 x4 hz1 hzq hc1 hN
              rw [show sd false = 0 from rfl] at CS2
              go_wp2
              go_quiet (first | (go_at_call 35; exact Calls.quiet_of ((unhide CS) _)))
              go_wp2_with (first | (go_at_call 35; refine ((unhide CS2) _).mono ?_; rintro e w1 ⟨rfl, m1, rfl⟩) | (go_at_call 36; refine Hid.out ?_))
              refine hide ?_
              refine ((unhide CR) _).mono ?_
              rintro e w1 ⟨rfl, o1, t1⟩
              have d0 := o1.slice
              have d1 := (o1.at n' hn').2.2.2.2.1
              have d2 := (o1.at g hg).2.2.2.2.1
              have d3 := o1.nod.free
              have O1 := hide (And.intro o1 t1)
              clear o1 t1
              go_wp2_with (go_at_call 36; refine Hid.out ?_)
              refine hide ?_
              refine (rotate_any T G P _ _ (((unhide O1).1.putRed n' false hn').putRed g true hg) cx2 false g n' unc l' (mk true p sib r') (unhide KG).1).mono ?_
              rintro e w2 ⟨rfl, o2, t2⟩
              have O2 := hide (And.intro o2 t2)
              clear o2 t2
              go_wp2
              simp only [Exit.jump]
              go_end0
              refine ⟨rfl, _, _, (unhide O2).1, ((((unhide HT).1.drew.trans (unhide O1).2).setG _ _).setG _ _).trans (unhide O2).2, (unhide KG).2, unhide HL, ?_⟩
              have kr := unhide KR
              rw [show ((Cx.fr true g unc cx2).plug (mk true p sib (mk true n' r' l'))).list = L from by
                rw [← (unhide HT).2.2]
                show _ = ((Cx.fr true g unc cx2).plug (mk false p (.node n' l' r') sib)).list
                exact plug_list (by rw [mk_flip false p]; rfl) _] at kr
              refine ((((unhide HT).2.1.trans kr).trans (kept_red _ n' false mn)).trans (kept_red _ g true mg)).trans ?_
              have kk := kept_rot (unhide KG).1
              rw [show (cx2.plug (mk (!true) g unc (mk (!true) n' l' (mk true p sib r')))).list = L from by rw [← unhide HL]; exact plug_list (rot_list false g n' unc l' (mk true p sib r')).symm cx2] at kk
              exact kk
end Go.Proofs.Ytihfldjoogaolaa
