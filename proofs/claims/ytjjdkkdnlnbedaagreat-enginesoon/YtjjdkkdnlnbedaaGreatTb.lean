import Derived.Test.YtjjdkkdnlnbedaaGreatTreeC
import Derived.Test.YtjjdkkdnlnbedaaGreatTreeM
import Derived.Deep.DeepCutAuto
namespace Go.Proofs.YtjjdkkdnlnbedaaGreat
open Go.RowKit

theorem redR_root {st : St} (hz : Blank (st.nd 0)) (t : Tr) : (st.nd t.root).red = redR (col st) t := by
  cases t with
  | nil => exact hz.red
  | node q a b => rfl

set_option maxRecDepth 100000 in
set_option maxHeartbeats 4000000 in
theorem mendBlack_any (T G P : Nat) (st : St) (w : World) (h : Own w T G P st) (cx : Cx) (X : Tr) (j : Nat) (hi : BlackInv P st cx X j) :
    Calls Tryz.prog 136 #[.pointer (some ⟨T, 0, none⟩), .int .i64 cx.par, .int .i64 (sd cx.side)] w fun e w' => e = .returned (.tuple #[]) ∧ ∃ st' t', Own w' T G P st' ∧ Touch T G w w' ∧ Good P st' t' ∧ t'.list = (cx.plug X).list ∧ Kept (cx.plug X).list st st' := by
  have hP := h.hP
  have c0 := h.slice
  obtain ⟨L, hL⟩ : ∃ L, (cx.plug X).list = L := ⟨_, rfl⟩
  rw [hL]
  obtain ⟨J, hJ⟩ : ∃ J : Nat → Act → World → Prop, J = (fun k a' w' => ∃ (st' : St) (cx' : Cx) (X' : Tr) (j' : Nat), k = 2 * cx'.depth + (if redR (col st') X' = true then 0 else 1) ∧ Own w' T G P st' ∧ Touch T G w w' ∧ Kept L st st' ∧ BlackInv P st' cx' X' j' ∧ (cx'.plug X').list = L ∧ ∃ us : Nat → Value, a' = { tmps := #[.pointer (some ⟨T, 0, none⟩), .int .i64 cx'.par, .int .i64 (sd cx'.side), us 3, us 4, us 5, .slice (some ⟨G, 0, none⟩) (P + 1) (P + 1), us 7, us 8, us 9, us 10, us 11, us 12, us 13, us 14, us 15, us 16, us 17, us 18, us 19, us 20, us 21, us 22, us 23, us 24, us 25, us 26, us 27, us 28, us 29, us 30, us 31, us 32, us 33, us 34, us 35, us 36, us 37, us 38, us 39, us 40, us 41, us 42, us 43, us 44, us 45, us 46, us 47, us 48, us 49, us 50, us 51, us 52, us 53, us 54, us 55, us 56, us 57, us 58, us 59, us 60, us 61, us 62, us 63, us 64, us 65, us 66, us 67, us 68, us 69, us 70, us 71, us 72, us 73, us 74, us 75, us 76, us 77, us 78, us 79, us 80, us 81, us 82, us 83, us 84, us 85, us 86, us 87, us 88, us 89, us 90, us 91, us 92, us 93, us 94, us 95, us 96, us 97, us 98, us 99, us 100, us 101, us 102, us 103, us 104, us 105, us 106, us 107, us 108, us 109, us 110, us 111, us 112, us 113, us 114, us 115, us 116, us 117, us 118, us 119, us 120, us 121, us 122, us 123, us 124, us 125, us 126, us 127, us 128, us 129, us 130, us 131, us 132, us 133, us 134, us 135, us 136, us 137, us 138, us 139, us 140, us 141, us 142, us 143, us 144, us 145, us 146, us 147], defers := [] }) := ⟨_, rfl⟩
  replace hJ := hide hJ
  go_enter Tryz.func136, Tryz.ntmps136
  go_wp2
  refine wp_scope_ghost 0 J rfl ?_ ?_
  · go_wp2
    exact ⟨_, by rw [unhide hJ]; exact ⟨st, cx, X, j, rfl, h, Touch.refl _ _ _, Kept.refl _ _, hi, hL, frame_ex _ rfl⟩⟩
  · clear hi hL h c0
    intro k a' w' hj
    rw [unhide hJ] at hj
    obtain ⟨st', cx', X', j', hkk, o, tc, kp, hi, hL, us, rfl⟩ := hj
    replace hkk := hide hkk
    have c0 := o.slice
    have cr := o.root
    have fr := o.nod.free
    have hXP : X'.root ≤ P := hi.z.bd
    have cX4 := (o.at X'.root hXP).2.2.2.2.1
    have hXr : (st'.nd X'.root).red = redR (col st') X' := by
      cases X' with
      | nil => exact hi.z.zero.red
      | node q a b => rfl
    rw [hXr] at cX4
    have hO := hide o
    have HI := hide hi
    have HT := hide (And.intro tc (And.intro kp hL))
    clear o hi tc kp hL hXr
    cases cx' with
    | top =>
      have hr : st'.root = X'.root := (unhide HI).z.root
      rw [hr] at cr
      rw [show ((Cx.top.par : Nat) : Int) = 0 from rfl, show sd Cx.top.side = 0 from rfl]
      have HG := hide (black_top (unhide HI))
      obtain ⟨q, hq⟩ : ∃ q, X'.root = q := ⟨_, rfl⟩
      rw [hq] at cr cX4 hXP HG
      have HQ := hide hq
      clear hr hq
      go_wp2
      simp only [Exit.jump]
      refine bodyPost_ret (v := .tuple #[]) (by simp [results, Tryz.results136, go_sem]) rfl ⟨rfl, st'.paint q false, X', (unhide hO).putRed q false hXP, (unhide HT).1.setG _ _, (unhide HG).1, (unhide HT).2.2, (unhide HT).2.1.trans ?_⟩
      by_cases e : q = 0
      · rw [(unhide HG).2 e]; exact Kept.refl _ _
      · exact kept_red st' q false (by rw [← (unhide HT).2.2]; show q ∈ X'.list; rw [← unhide HQ]; exact root_mem (by rw [unhide HQ]; exact e))
    | fr s p sib up =>
      have hpP : p ≤ P := (unhide HI).z.par_bd
      have p0 : p ≠ 0 := (unhide HI).z.shc.1
      rw [show (Cx.fr s p sib up).par = p from rfl]
      have hs1 : (st'.nd p).dn s = X'.root := (unhide HI).z.shc.2.2.1
      have hs2 : (st'.nd p).dn (!s) = sib.root := (unhide HI).z.shc.2.2.2.1
      cases hX : redR (col st') X' with
      | true =>
        rw [hX] at cX4
        have HG := hide (black_paint (unhide HI) hX (by intro e; cases e))
        have q0 : X'.root ≠ 0 := by
          intro e
          have := sh_root_ne (unhide HI).z.sh e
          rw [this] at hX; cases hX
        obtain ⟨q, hq⟩ : ∃ q, X'.root = q := ⟨_, rfl⟩
        have mq : q ∈ L := by rw [← (unhide HT).2.2, mem_plug, ← hq]; exact Or.inl (root_mem q0)
        rw [hq] at cX4 hXP HG hs1
        clear hq q0
        cases s
        · have dS := ((unhide hO).at p hpP).2.2.2.2.2.2.1
          rw [hs1] at dS
          rw [show sd (Cx.fr false p sib up).side = 0 from rfl]
          go_wp2
          simp only [Exit.jump]
          exact bodyPost_ret (v := .tuple #[]) (by simp [results, Tryz.results136, go_sem]) rfl ⟨rfl, st'.paint q false, _, (unhide hO).putRed q false hXP, (unhide HT).1.setG _ _, (unhide HG), (unhide HT).2.2, (unhide HT).2.1.trans (kept_red st' q false mq)⟩
        · have dS := ((unhide hO).at p hpP).2.2.2.2.2.2.2
          rw [hs1] at dS
          rw [show sd (Cx.fr true p sib up).side = 1 from rfl]
          go_wp2
          simp only [Exit.jump]
          exact bodyPost_ret (v := .tuple #[]) (by simp [results, Tryz.results136, go_sem]) rfl ⟨rfl, st'.paint q false, _, (unhide hO).putRed q false hXP, (unhide HT).1.setG _ _, (unhide HG), (unhide HT).2.2, (unhide HT).2.1.trans (kept_red st' q false mq)⟩
      | false =>
        rw [hX] at cX4
        obtain ⟨b, N, F, e⟩ := sib_node (unhide HI).rbc.1 s
        subst e
        obtain ⟨pb, pX, pN, pF, bX, bN, bF, pc, bc, aX, aN, aF, _, b0⟩ := apart2 (z_move.2 (unhide HI).z)
        have HA := hide (And.intro pX (And.intro pN (And.intro pF (And.intro bX (And.intro bN bF)))))
        clear pX pN pF bX bN bF pc bc aX aN aF
        have hbP : b ≤ P := (unhide HI).z.nd.bc b (by simp [Cx.places, mem_mk])
        have cb4 := ((unhide hO).at b hbP).2.2.2.2.1
        have cp4 := ((unhide hO).at p hpP).2.2.2.2.1
        obtain ⟨q, hq⟩ : ∃ q, X'.root = q := ⟨_, rfl⟩
        rw [hq] at cX4 hXP hs1
        have HQ := hide hq
        clear hq
        have mp : p ∈ L := by rw [← (unhide HT).2.2, mem_plug]; simp [Cx.places]
        have mb : b ∈ L := by rw [← (unhide HT).2.2, mem_plug]; simp [Cx.places, mem_mk]
        cases s
        · have dS := ((unhide hO).at p hpP).2.2.2.2.2.2.1
          have dN := ((unhide hO).at p hpP).2.2.2.2.2.2.2
          rw [hs1] at dS
          rw [show true = !false from rfl, hs2, mk_root] at dN
          rw [show sd (Cx.fr false p (mk false b N F) up).side = 0 from rfl]
          obtain ⟨rb, hrb⟩ : ∃ x, (st'.nd b).red = x := ⟨_, rfl⟩
          rw [hrb] at cb4
          have HB := hide (show col st' b = rb from hrb)
          clear hrb
          go_upto_if 52 with fail
          go_cut [8] (fun s8 wx => ∃ (st2 : St) (b2 j2 : Nat) (N2 F2 : Tr) (cx2 : Cx), s8 = .int .i64 b2 ∧ Own wx T G P st2 ∧ Touch T G w wx ∧ Kept L st st2 ∧ BlackInv P st2 (.fr false p (mk false b2 N2 F2) cx2) X' j2 ∧ redR (col st2) X' = false ∧ col st2 b2 = false ∧ ((Cx.fr false p (mk false b2 N2 F2) cx2).plug X').list = L ∧ 2 * cx2.depth + (if col st2 p = true then 0 else 1) < 2 * (up.depth + 1) + 1)
          case first =>
            cases rb with
            | true =>
              obtain ⟨kz, kb⟩ := black_red (unhide HI) (unhide HB)
              have KB := hide (And.intro kz kb)
              clear kz kb
              go_wp2_with (go_at_call 134; refine Hid.out ?_)
              refine hide ?_
              refine (rotate_any T G P _ _ (((unhide hO).putRed p true hpP).putRed b false hbP) up false p b X' N F (unhide KB).1).mono ?_
              rintro e w1 ⟨rfl, o1, t1⟩
              replace o1 : Own w1 T G P (((st'.paint p true).paint b false).rot p false) := o1
              have g1 := (o1.at p hpP).2.2.2.2.2.2.2
              rw [show ((((st'.paint p true).paint b false).rot p false).nd p).dn true = N.root from (unhide KB).2.z.shc.2.2.2.1] at g1
              have O1 := hide (And.intro o1 t1)
              clear o1 t1
              go_wp2
              go_meet
              case rel =>
                obtain ⟨b2, N2, F2, e2⟩ := sib_node (unhide KB).2.rbc.1 false
                have cp : col (((st'.paint p true).paint b false).rot p false) p = true := by rw [col_rot, col_paint, paint_other _ _ _ _ pb, col_paint, paint_at]
                have cN : redR (col (((st'.paint p true).paint b false).rot p false)) N = false := by
                  have := (unhide KB).2.rbc.2
                  rw [if_pos cp] at this
                  exact this.1
                have cX : redR (col (((st'.paint p true).paint b false).rot p false)) X' = false := by
                  rw [redR_congr (c := col st')]
                  · exact hX
                  · intro x hx
                    rw [col_rot, col_paint, paint_other _ _ _ _ (show x ≠ b from fun e => (unhide HA).2.2.2.1 (e ▸ hx)), col_paint, paint_other _ _ _ _ (show x ≠ p from fun e => (unhide HA).1 (e ▸ hx))]
                have kr := kept_rot (unhide KB).1
                have hl0 : (up.plug (mk false p X' (mk false b N F))).list = L := (unhide HT).2.2
                rw [hl0] at kr
                have hl1 : ((Cx.fr false p N (.fr false b F up)).plug X').list = L := by
                  rw [← hl0]
                  exact plug_list (rot_list false p b X' N F) up
                have kk := (((unhide HT).2.1.trans (kept_red _ p true mp)).trans (kept_red _ b false mb)).trans kr
                subst e2
                refine ⟨_, b2, j', N2, F2, .fr false b F up, by rw [mk_root], (unhide O1).1, (((unhide HT).1.setG _ _).setG _ _).trans (unhide O1).2, kk, (unhide KB).2, cX, by rw [redR_mk] at cN; exact cN, hl1, ?_⟩
                rw [if_pos cp]
                simp only [Cx.depth]
                omega
            | false =>
              go_wp2
              go_meet
              case rel =>
                refine ⟨st', b, j', N, F, up, rfl, unhide hO, (unhide HT).1, (unhide HT).2.1, unhide HI, hX, unhide HB, (unhide HT).2.2, ?_⟩
                split <;> omega
          case rest =>
            obtain ⟨st2, b2, j2, N2, F2, cx2, rfl, o2, t2, kp2, hi2, cX2, cb2, hl2, hm2⟩ := hcut
            have HXX := hide hX
            clear cb4 cp4 dS dN c0 cr fr cX4 hO HI HT HB HA hs1 hs2 mp mb hbP pb b0 hX
            obtain ⟨pb, pX, pN, pF, bX, bN, bF, pc, bc, aX, aN, aF, _, b0⟩ := apart2 (z_move.2 hi2.z)
            have hbP : b2 ≤ P := hi2.z.nd.bc b2 (by simp [Cx.places, mem_mk])
            have sM := hi2.z.shc.2.2.2.2.1
            obtain ⟨_, _, sb1, sb2, sN, sF⟩ := sh_mk.1 sM
            have hnP : N2.root ≤ P := by
              by_cases e : N2.root = 0
              · omega
              · exact hi2.z.nd.bc _ (by simp [Cx.places, mem_mk, root_mem e])
            have hfP : F2.root ≤ P := by
              by_cases e : F2.root = 0
              · omega
              · exact hi2.z.nd.bc _ (by simp [Cx.places, mem_mk, root_mem e])
            have e1 := (o2.at b2 hbP).2.2.2.2.2.2.1
            have e2 := (o2.at b2 hbP).2.2.2.2.2.2.2
            rw [sb1] at e1
            rw [show true = !false from rfl, sb2] at e2
            have e3 := (o2.at b2 hbP).2.2.2.2.1
            have e4 := (o2.at p hpP).2.2.2.2.1
            have e5 := (o2.at N2.root hnP).2.2.2.2.1
            have e6 := (o2.at F2.root hfP).2.2.2.2.1
            rw [redR_root hi2.z.zero N2] at e5
            rw [redR_root hi2.z.zero F2] at e6
            rw [show (st2.nd b2).red = false from cb2] at e3
            have e7 := (o2.at p hpP).2.2.2.2.2.1
            have hu2 : (st2.nd p).up = cx2.par := hi2.z.shc.2.1
            rw [hu2] at e7
            have fr := o2.nod.free
            have mp : p ∈ L := by rw [← hl2, mem_plug]; simp [Cx.places]
            have mb : b2 ∈ L := by rw [← hl2, mem_plug]; simp [Cx.places, mem_mk]
            obtain ⟨h1, h2⟩ := hi2.rbc
            obtain ⟨i, ei, rN, rF⟩ := (rb_black cb2).1 h1
            have ei : i = j2 := by omega
            subst ei
            have rX := hi2.rb.strong cX2
            have ht2 := top_of_fr hi2.top
            have h2' : if col st2 p = true then redC (col st2) cx2 = false ∧ RBC (col st2) cx2 (i + 1) else RBC (col st2) cx2 (i + 1 + 1) := by
              split
              · rename_i q; rw [if_pos q] at h2; exact ⟨h2.2.1, h2.2.2⟩
              · rename_i q; rw [if_neg q] at h2; exact h2
            have hzz := z_move.2 hi2.z
            have ALL := hide (And.intro o2 (And.intro t2 (And.intro kp2 (And.intro hi2 (And.intro hl2 hm2)))))
            have RR := hide (And.intro rX (And.intro rN (And.intro rF (And.intro h2' (And.intro ht2 hzz)))))
            have AP := hide (And.intro pN (And.intro pF (And.intro bN bF)))
            have AX := hide (And.intro pX bX)
            clear o2 t2 kp2 hi2 hl2 hm2 rX rN rF h1 h2 h2' ht2 hzz sN sF sM sb1 sb2 hu2 pX pN pF bX bN bF pc bc aX aN aF
            obtain ⟨nr, hnr⟩ : ∃ x, N2.root = x := ⟨_, rfl⟩
            obtain ⟨fa, hfa⟩ : ∃ x, F2.root = x := ⟨_, rfl⟩
            have HR := hide (And.intro hnr hfa)
            rw [hnr] at e1 e5 hnP
            rw [hfa] at e2 e6 hfP
            clear hnr hfa
            cases cN : redR (col st2) N2 <;> cases cF : redR (col st2) F2 <;> rw [cN] at e5 <;> rw [cF] at e6
            case false.false =>
              obtain ⟨j3, hi3⟩ := black_climb (unhide ALL).2.2.2.1 cX2 cb2 cN cF
              have HC := hide hi3
              clear hi3
              go_wp2
              go_quiet (fail)
              go_wp2
              have o3 : Own ((wc.drewN nq).setCell ⟨G, b2 * 8 + 4, none⟩ (.bool true)) T G P (st2.paint b2 true) := ((unhide ALL).1.drew nq).putRed b2 true hbP
              have hsd : sideOf (st2.paint b2 true) p = cx2.side := by
                have hz3 := (unhide HC).z
                obtain ⟨x, y, e⟩ := mk_eq false p X' (mk false b2 N2 F2)
                rw [e] at hz3
                exact sideOf_z hz3
              have hup : ((st2.paint b2 true).nd p).up = cx2.par := (sh_mk.1 (unhide HC).z.sh).2.1
              have CS := hide (fun m => side_any T G P (st2.paint b2 true) (((wc.drewN nq).setCell ⟨G, b2 * 8 + 4, none⟩ (.bool true)).drewN m) (o3.drew m) p hpP (by rw [hup]; exact (unhide HC).z.par_bd))
              rw [hsd] at CS
              have O3 := hide o3
              clear hsd hup o3
              go_quiet (first | (go_at_call 124; exact Calls.quiet_of ((unhide CS) _)))
              go_wp2
              go_step3
              refine ⟨rfl, _, ?_, by rw [unhide hJ]; exact ⟨_, cx2, mk false p X' (mk false b2 N2 F2), j3, rfl, (unhide O3).drew _, ((unhide ALL).2.1.drew.setG _ _).drew, (unhide ALL).2.2.1.trans (kept_red _ _ _ mb), unhide HC, (unhide ALL).2.2.2.2.1, frame_ex _ rfl⟩⟩
              rw [redR_mk, col_paint, paint_other _ _ _ _ pb, unhide hkk, unhide HXX]
              have := (unhide ALL).2.2.2.2.2
              simp only [Cx.depth] at this ⊢
              simpa using this
            case true.false =>
              obtain ⟨m, N3, N4, eN⟩ : ∃ m N3 N4, N2 = mk false m N3 N4 := by
                cases N2 with
                | nil => cases cN
                | node m x y => exact ⟨m, x, y, rfl⟩
              subst eN
              rw [redR_mk] at cN
              obtain ⟨rX, rN, rF, h2', ht2, hzz⟩ := unhide RR
              obtain ⟨_, _, r3, r4⟩ := (rb_red cN).1 rN
              have hzq : Z P st2 (.fr true p X' cx2) (mk true b2 F2 (mk true m N4 N3)) := by
                have := hzz
                rw [mk_flip false p, mk_flip false b2, mk_flip false m] at this
                exact z_move.1 this
              have hz1 := rot_z hzq
              have hz2 : Z P (st2.rot b2 true) cx2 (mk false p X' (mk false m N3 (mk false b2 N4 F2))) := by
                have := z_move.2 hz1
                rw [mk_flip true p, mk_flip true m, mk_flip true b2] at this
                exact this
              have hc1 : col (st2.rot b2 true) = col st2 := col_rot _ _ _
              obtain ⟨kz, kg⟩ := black_far (st := st2.rot b2 true) (j := i) (col st2 p) hz2 (by rw [hc1]) (by rw [hc1]; exact rX) (by rw [hc1]; exact r3) (by rw [hc1]; exact r4) (by rw [hc1]; exact rF) (by rw [hc1]; exact h2') (by rw [hc1]; exact ht2)
              have KG := hide (And.intro kz kg)
              have CR := hide (fun m' => rotate_any T G P st2 (wc.drewN m') ((unhide ALL).1.drew m') (.fr true p X' cx2) true b2 m F2 N4 N3 hzq)
              have KR := hide (kept_rot hzq)
              have hma : m = nr := by have := (unhide HR).1; rw [mk_root] at this; exact this
              have hpm : p ≠ nr := fun e => (unhide AP).1 (mem_mk.2 (Or.inl (e.trans hma.symm)))
              have hbm : b2 ≠ nr := fun e => (unhide AP).2.2.1 (mem_mk.2 (Or.inl (e.trans hma.symm)))
              have mm : nr ∈ L := by rw [← hma, ← (unhide ALL).2.2.2.2.1, mem_plug]; simp [Cx.places, mem_mk]
              have hl0 : (cx2.plug (mk false p X' (mk false b2 (mk false m N3 N4) F2))).list = L := (unhide ALL).2.2.2.2.1
              have hl1 : ((Cx.fr true p X' cx2).plug (mk true b2 F2 (mk true m N4 N3))).list = L := by
                rw [← hl0, mk_flip false p, mk_flip false b2, mk_flip false m]; rfl
              have hl2 : (cx2.plug (mk false p X' (mk false m N3 (mk false b2 N4 F2)))).list = L := by
                rw [← hl0]
                refine plug_list ?_ cx2
                simp [mk, Tr.list]
              rw [hma] at KG KR hl1 hl2
              have HL := hide (And.intro hl1 hl2)
              clear kz kg rX rN rF h2' ht2 hzz r3 r4 hma hzq hz1 hz2 hc1 hl0 hl1 hl2
              rw [show (st2.nd p).red = col st2 p from rfl] at e4
              obtain ⟨rp, hrp⟩ : ∃ x, col st2 p = x := ⟨_, rfl⟩
              rw [hrp] at KG
              have HRP := hide hrp
              clear hrp
              go_wp2
              go_quiet (fail)
              go_wp2_with (go_at_call 134; refine Hid.out ?_)
              refine hide ?_
              refine ((unhide CR) _).mono ?_
              rintro e w4 ⟨rfl, o4, t4⟩
              have g1 := (o4.at nr hnP).2.2.2.2.1
              have g2 := (o4.at p hpP).2.2.2.2.1
              have g3 := (o4.at b2 hbP).2.2.2.2.1
              have g4 := o4.nod.free
              rw [show ((st2.rot b2 true).nd p).red = rp from by rw [← unhide HRP]; exact congrFun (col_rot st2 b2 true) p] at g2
              have O4 := hide (And.intro o4 t4)
              clear o4 t4 e1 e2 e3 e4 e5 e6 e7 fr
              go_wp2_with (go_at_call 134; refine Hid.out ?_)
              refine hide ?_
              refine (rotate_any T G P _ _ ((((unhide O4).1.putRed nr rp hnP).putRed p false hpP).putRed b2 false hbP) cx2 false p nr X' N3 (mk false b2 N4 F2) (unhide KG).1).mono ?_
              rintro e w5 ⟨rfl, o5, t5⟩
              have O5 := hide (And.intro o5 t5)
              clear o5 t5
              go_wp2
              simp only [Exit.jump]
              go_end0
              have kr := kept_rot (unhide KG).1
              have kq := unhide KR
              rw [(unhide HL).1] at kq
              rw [(unhide HL).2] at kr
              refine ⟨rfl, _, _, (unhide O5).1, (((((unhide ALL).2.1.drew.trans (unhide O4).2).setG _ _).setG _ _).setG _ _).trans (unhide O5).2, (unhide KG).2, ?_, (((((unhide ALL).2.2.1.trans kq).trans (kept_red _ nr rp mm)).trans (kept_red _ p false mp)).trans (kept_red _ b2 false mb)).trans kr⟩
              rw [← (unhide HL).2]
              exact plug_list (rot_list false p nr X' N3 (mk false b2 N4 F2)) cx2
            all_goals
              obtain ⟨f, F3, F4, eF⟩ : ∃ f F3 F4, F2 = mk false f F3 F4 := by
                cases F2 with
                | nil => cases cF
                | node f x y => exact ⟨f, x, y, rfl⟩
              subst eF
              rw [redR_mk] at cF
              obtain ⟨rX, rN, rF, h2', ht2, hzz⟩ := unhide RR
              obtain ⟨_, _, r3, r4⟩ := (rb_red cF).1 rF
              obtain ⟨kz, kg⟩ := black_far (col st2 p) hzz rfl rX rN r3 r4 h2' ht2
              have KG := hide (And.intro kz kg)
              have hfa : f = fa := by have := (unhide HR).2; rw [mk_root] at this; exact this
              have hpf : p ≠ fa := fun e => (unhide AP).2.1 (mem_mk.2 (Or.inl (e.trans hfa.symm)))
              have hbf : b2 ≠ fa := fun e => (unhide AP).2.2.2 (mem_mk.2 (Or.inl (e.trans hfa.symm)))
              have mf : fa ∈ L := by rw [← hfa, ← (unhide ALL).2.2.2.2.1, mem_plug]; simp [Cx.places, mem_mk]
              rw [hfa] at KG
              have HF := hide hfa
              clear kz kg rX rN rF h2' ht2 hzz r3 r4 hfa
              rw [show (st2.nd p).red = col st2 p from rfl] at e4
              obtain ⟨rp, hrp⟩ : ∃ x, col st2 p = x := ⟨_, rfl⟩
              rw [hrp] at e4 KG
              clear hrp
              go_wp2
              go_quiet (fail)
              go_wp2_with (go_at_call 134; refine Hid.out ?_)
              refine hide ?_
              refine (rotate_any T G P _ _ (((((unhide ALL).1.drew _).putRed b2 rp hbP).putRed p false hpP).putRed fa false hfP) cx2 false p b2 X' N2 (mk false fa F3 F4) (unhide KG).1).mono ?_
              rintro e w5 ⟨rfl, o5, t5⟩
              have O5 := hide (And.intro o5 t5)
              clear o5 t5
              go_wp2
              simp only [Exit.jump]
              go_end0
              have kr := kept_rot (unhide KG).1
              have hl0 : (cx2.plug (mk false p X' (mk false b2 N2 (mk false fa F3 F4)))).list = L := by rw [← unhide HF]; exact (unhide ALL).2.2.2.2.1
              rw [hl0] at kr
              refine ⟨rfl, _, _, (unhide O5).1, ((((unhide ALL).2.1.drew.setG _ _).setG _ _).setG _ _).trans (unhide O5).2, (unhide KG).2, ?_, ((((unhide ALL).2.2.1.trans (kept_red _ b2 rp mb)).trans (kept_red _ p false mp)).trans (kept_red _ fa false mf)).trans kr⟩
              rw [← hl0]
              exact plug_list (rot_list false p b2 X' N2 (mk false fa F3 F4)) cx2
        · have dS := ((unhide hO).at p hpP).2.2.2.2.2.2.2
          have dN := ((unhide hO).at p hpP).2.2.2.2.2.2.1
          rw [hs1] at dS
          rw [show false = !true from rfl, hs2, mk_root] at dN
          rw [show sd (Cx.fr true p (mk true b N F) up).side = 1 from rfl]
          obtain ⟨rb, hrb⟩ : ∃ x, (st'.nd b).red = x := ⟨_, rfl⟩
          rw [hrb] at cb4
          have HB := hide (show col st' b = rb from hrb)
          clear hrb
          go_upto_if 52 with fail
          go_cut [8] (fun s8 wx => ∃ (st2 : St) (b2 j2 : Nat) (N2 F2 : Tr) (cx2 : Cx), s8 = .int .i64 b2 ∧ Own wx T G P st2 ∧ Touch T G w wx ∧ Kept L st st2 ∧ BlackInv P st2 (.fr true p (mk true b2 N2 F2) cx2) X' j2 ∧ redR (col st2) X' = false ∧ col st2 b2 = false ∧ ((Cx.fr true p (mk true b2 N2 F2) cx2).plug X').list = L ∧ 2 * cx2.depth + (if col st2 p = true then 0 else 1) < 2 * (up.depth + 1) + 1)
          case first =>
            cases rb with
            | true =>
              obtain ⟨kz, kb⟩ := black_red (unhide HI) (unhide HB)
              have KB := hide (And.intro kz kb)
              clear kz kb
              go_wp2_with (go_at_call 134; refine Hid.out ?_)
              refine hide ?_
              refine (rotate_any T G P _ _ (((unhide hO).putRed p true hpP).putRed b false hbP) up true p b X' N F (unhide KB).1).mono ?_
              rintro e w1 ⟨rfl, o1, t1⟩
              replace o1 : Own w1 T G P (((st'.paint p true).paint b false).rot p true) := o1
              have g1 := (o1.at p hpP).2.2.2.2.2.2.1
              rw [show ((((st'.paint p true).paint b false).rot p true).nd p).dn false = N.root from (unhide KB).2.z.shc.2.2.2.1] at g1
              have O1 := hide (And.intro o1 t1)
              clear o1 t1
              go_wp2
              go_meet
              case rel =>
                obtain ⟨b2, N2, F2, e2⟩ := sib_node (unhide KB).2.rbc.1 true
                have cp : col (((st'.paint p true).paint b false).rot p true) p = true := by rw [col_rot, col_paint, paint_other _ _ _ _ pb, col_paint, paint_at]
                have cN : redR (col (((st'.paint p true).paint b false).rot p true)) N = false := by
                  have := (unhide KB).2.rbc.2
                  rw [if_pos cp] at this
                  exact this.1
                have cX : redR (col (((st'.paint p true).paint b false).rot p true)) X' = false := by
                  rw [redR_congr (c := col st')]
                  · exact hX
                  · intro x hx
                    rw [col_rot, col_paint, paint_other _ _ _ _ (show x ≠ b from fun e => (unhide HA).2.2.2.1 (e ▸ hx)), col_paint, paint_other _ _ _ _ (show x ≠ p from fun e => (unhide HA).1 (e ▸ hx))]
                have kr := kept_rot (unhide KB).1
                have hl0 : (up.plug (mk true p X' (mk true b N F))).list = L := (unhide HT).2.2
                rw [hl0] at kr
                have hl1 : ((Cx.fr true p N (.fr true b F up)).plug X').list = L := by
                  rw [← hl0]
                  exact plug_list (rot_list true p b X' N F) up
                have kk := (((unhide HT).2.1.trans (kept_red _ p true mp)).trans (kept_red _ b false mb)).trans kr
                subst e2
                refine ⟨_, b2, j', N2, F2, .fr true b F up, by rw [mk_root], (unhide O1).1, (((unhide HT).1.setG _ _).setG _ _).trans (unhide O1).2, kk, (unhide KB).2, cX, by rw [redR_mk] at cN; exact cN, hl1, ?_⟩
                rw [if_pos cp]
                simp only [Cx.depth]
                omega
            | false =>
              go_wp2
              go_meet
              case rel =>
                refine ⟨st', b, j', N, F, up, rfl, unhide hO, (unhide HT).1, (unhide HT).2.1, unhide HI, hX, unhide HB, (unhide HT).2.2, ?_⟩
                split <;> omega
          case rest =>
            obtain ⟨st2, b2, j2, N2, F2, cx2, rfl, o2, t2, kp2, hi2, cX2, cb2, hl2, hm2⟩ := hcut
            have HXX := hide hX
            clear cb4 cp4 dS dN c0 cr fr cX4 hO HI HT HB HA hs1 hs2 mp mb hbP pb b0 hX
            obtain ⟨pb, pX, pN, pF, bX, bN, bF, pc, bc, aX, aN, aF, _, b0⟩ := apart2 (z_move.2 hi2.z)
            have hbP : b2 ≤ P := hi2.z.nd.bc b2 (by simp [Cx.places, mem_mk])
            have sM := hi2.z.shc.2.2.2.2.1
            obtain ⟨_, _, sb1, sb2, sN, sF⟩ := sh_mk.1 sM
            have hnP : N2.root ≤ P := by
              by_cases e : N2.root = 0
              · omega
              · exact hi2.z.nd.bc _ (by simp [Cx.places, mem_mk, root_mem e])
            have hfP : F2.root ≤ P := by
              by_cases e : F2.root = 0
              · omega
              · exact hi2.z.nd.bc _ (by simp [Cx.places, mem_mk, root_mem e])
            have e1 := (o2.at b2 hbP).2.2.2.2.2.2.2
            have e2 := (o2.at b2 hbP).2.2.2.2.2.2.1
            rw [sb1] at e1
            rw [show false = !true from rfl, sb2] at e2
            have e3 := (o2.at b2 hbP).2.2.2.2.1
            have e4 := (o2.at p hpP).2.2.2.2.1
            have e5 := (o2.at N2.root hnP).2.2.2.2.1
            have e6 := (o2.at F2.root hfP).2.2.2.2.1
            rw [redR_root hi2.z.zero N2] at e5
            rw [redR_root hi2.z.zero F2] at e6
            rw [show (st2.nd b2).red = false from cb2] at e3
            have e7 := (o2.at p hpP).2.2.2.2.2.1
            have hu2 : (st2.nd p).up = cx2.par := hi2.z.shc.2.1
            rw [hu2] at e7
            have fr := o2.nod.free
            have mp : p ∈ L := by rw [← hl2, mem_plug]; simp [Cx.places]
            have mb : b2 ∈ L := by rw [← hl2, mem_plug]; simp [Cx.places, mem_mk]
            obtain ⟨h1, h2⟩ := hi2.rbc
            obtain ⟨i, ei, rN, rF⟩ := (rb_black cb2).1 h1
            have ei : i = j2 := by omega
            subst ei
            have rX := hi2.rb.strong cX2
            have ht2 := top_of_fr hi2.top
            have h2' : if col st2 p = true then redC (col st2) cx2 = false ∧ RBC (col st2) cx2 (i + 1) else RBC (col st2) cx2 (i + 1 + 1) := by
              split
              · rename_i q; rw [if_pos q] at h2; exact ⟨h2.2.1, h2.2.2⟩
              · rename_i q; rw [if_neg q] at h2; exact h2
            have hzz := z_move.2 hi2.z
            have ALL := hide (And.intro o2 (And.intro t2 (And.intro kp2 (And.intro hi2 (And.intro hl2 hm2)))))
            have RR := hide (And.intro rX (And.intro rN (And.intro rF (And.intro h2' (And.intro ht2 hzz)))))
            have AP := hide (And.intro pN (And.intro pF (And.intro bN bF)))
            have AX := hide (And.intro pX bX)
            clear o2 t2 kp2 hi2 hl2 hm2 rX rN rF h1 h2 h2' ht2 hzz sN sF sM sb1 sb2 hu2 pX pN pF bX bN bF pc bc aX aN aF
            obtain ⟨nr, hnr⟩ : ∃ x, N2.root = x := ⟨_, rfl⟩
            obtain ⟨fa, hfa⟩ : ∃ x, F2.root = x := ⟨_, rfl⟩
            have HR := hide (And.intro hnr hfa)
            rw [hnr] at e1 e5 hnP
            rw [hfa] at e2 e6 hfP
            clear hnr hfa
            cases cN : redR (col st2) N2 <;> cases cF : redR (col st2) F2 <;> rw [cN] at e5 <;> rw [cF] at e6
            case false.false =>
              obtain ⟨j3, hi3⟩ := black_climb (unhide ALL).2.2.2.1 cX2 cb2 cN cF
              have HC := hide hi3
              clear hi3
              go_wp2
              go_quiet (fail)
              go_wp2
              have o3 : Own ((wc.drewN nq).setCell ⟨G, b2 * 8 + 4, none⟩ (.bool true)) T G P (st2.paint b2 true) := ((unhide ALL).1.drew nq).putRed b2 true hbP
              have hsd : sideOf (st2.paint b2 true) p = cx2.side := by
                have hz3 := (unhide HC).z
                obtain ⟨x, y, e⟩ := mk_eq true p X' (mk true b2 N2 F2)
                rw [e] at hz3
                exact sideOf_z hz3
              have hup : ((st2.paint b2 true).nd p).up = cx2.par := (sh_mk.1 (unhide HC).z.sh).2.1
              have CS := hide (fun m => side_any T G P (st2.paint b2 true) (((wc.drewN nq).setCell ⟨G, b2 * 8 + 4, none⟩ (.bool true)).drewN m) (o3.drew m) p hpP (by rw [hup]; exact (unhide HC).z.par_bd))
              rw [hsd] at CS
              have O3 := hide o3
              clear hsd hup o3
              go_quiet (first | (go_at_call 124; exact Calls.quiet_of ((unhide CS) _)))
              go_wp2
              go_step3
              refine ⟨rfl, _, ?_, by rw [unhide hJ]; exact ⟨_, cx2, mk true p X' (mk true b2 N2 F2), j3, rfl, (unhide O3).drew _, ((unhide ALL).2.1.drew.setG _ _).drew, (unhide ALL).2.2.1.trans (kept_red _ _ _ mb), unhide HC, (unhide ALL).2.2.2.2.1, frame_ex _ rfl⟩⟩
              rw [redR_mk, col_paint, paint_other _ _ _ _ pb, unhide hkk, unhide HXX]
              have := (unhide ALL).2.2.2.2.2
              simp only [Cx.depth] at this ⊢
              simpa using this
            case true.false =>
              obtain ⟨m, N3, N4, eN⟩ : ∃ m N3 N4, N2 = mk true m N3 N4 := by
                cases N2 with
                | nil => cases cN
                | node m x y => exact ⟨m, y, x, rfl⟩
              subst eN
              rw [redR_mk] at cN
              obtain ⟨rX, rN, rF, h2', ht2, hzz⟩ := unhide RR
              obtain ⟨_, _, r3, r4⟩ := (rb_red cN).1 rN
              have hzq : Z P st2 (.fr false p X' cx2) (mk false b2 F2 (mk false m N4 N3)) := by
                have := hzz
                rw [mk_flip true p, mk_flip true b2, mk_flip true m] at this
                exact z_move.1 this
              have hz1 := rot_z hzq
              have hz2 : Z P (st2.rot b2 false) cx2 (mk true p X' (mk true m N3 (mk true b2 N4 F2))) := by
                have := z_move.2 hz1
                rw [mk_flip false p, mk_flip false m, mk_flip false b2] at this
                exact this
              have hc1 : col (st2.rot b2 false) = col st2 := col_rot _ _ _
              obtain ⟨kz, kg⟩ := black_far (st := st2.rot b2 false) (j := i) (col st2 p) hz2 (by rw [hc1]) (by rw [hc1]; exact rX) (by rw [hc1]; exact r3) (by rw [hc1]; exact r4) (by rw [hc1]; exact rF) (by rw [hc1]; exact h2') (by rw [hc1]; exact ht2)
              have KG := hide (And.intro kz kg)
              have CR := hide (fun m' => rotate_any T G P st2 (wc.drewN m') ((unhide ALL).1.drew m') (.fr false p X' cx2) false b2 m F2 N4 N3 hzq)
              have KR := hide (kept_rot hzq)
              have hma : m = nr := by have := (unhide HR).1; rw [mk_root] at this; exact this
              have hpm : p ≠ nr := fun e => (unhide AP).1 (mem_mk.2 (Or.inl (e.trans hma.symm)))
              have hbm : b2 ≠ nr := fun e => (unhide AP).2.2.1 (mem_mk.2 (Or.inl (e.trans hma.symm)))
              have mm : nr ∈ L := by rw [← hma, ← (unhide ALL).2.2.2.2.1, mem_plug]; simp [Cx.places, mem_mk]
              have hl0 : (cx2.plug (mk true p X' (mk true b2 (mk true m N3 N4) F2))).list = L := (unhide ALL).2.2.2.2.1
              have hl1 : ((Cx.fr false p X' cx2).plug (mk false b2 F2 (mk false m N4 N3))).list = L := by
                rw [← hl0, mk_flip true p, mk_flip true b2, mk_flip true m]; rfl
              have hl2 : (cx2.plug (mk true p X' (mk true m N3 (mk true b2 N4 F2)))).list = L := by
                rw [← hl0]
                refine plug_list ?_ cx2
                simp [mk, Tr.list]
              rw [hma] at KG KR hl1 hl2
              have HL := hide (And.intro hl1 hl2)
              clear kz kg rX rN rF h2' ht2 hzz r3 r4 hma hzq hz1 hz2 hc1 hl0 hl1 hl2
              rw [show (st2.nd p).red = col st2 p from rfl] at e4
              obtain ⟨rp, hrp⟩ : ∃ x, col st2 p = x := ⟨_, rfl⟩
              rw [hrp] at KG
              have HRP := hide hrp
              clear hrp
              go_wp2
              go_quiet (fail)
              go_wp2_with (go_at_call 134; refine Hid.out ?_)
              refine hide ?_
              refine ((unhide CR) _).mono ?_
              rintro e w4 ⟨rfl, o4, t4⟩
              have g1 := (o4.at nr hnP).2.2.2.2.1
              have g2 := (o4.at p hpP).2.2.2.2.1
              have g3 := (o4.at b2 hbP).2.2.2.2.1
              have g4 := o4.nod.free
              rw [show ((st2.rot b2 false).nd p).red = rp from by rw [← unhide HRP]; exact congrFun (col_rot st2 b2 false) p] at g2
              have O4 := hide (And.intro o4 t4)
              clear o4 t4 e1 e2 e3 e4 e5 e6 e7 fr
              go_wp2_with (go_at_call 134; refine Hid.out ?_)
              refine hide ?_
              refine (rotate_any T G P _ _ ((((unhide O4).1.putRed nr rp hnP).putRed p false hpP).putRed b2 false hbP) cx2 true p nr X' N3 (mk true b2 N4 F2) (unhide KG).1).mono ?_
              rintro e w5 ⟨rfl, o5, t5⟩
              have O5 := hide (And.intro o5 t5)
              clear o5 t5
              go_wp2
              simp only [Exit.jump]
              go_end0
              have kr := kept_rot (unhide KG).1
              have kq := unhide KR
              rw [(unhide HL).1] at kq
              rw [(unhide HL).2] at kr
              refine ⟨rfl, _, _, (unhide O5).1, (((((unhide ALL).2.1.drew.trans (unhide O4).2).setG _ _).setG _ _).setG _ _).trans (unhide O5).2, (unhide KG).2, ?_, (((((unhide ALL).2.2.1.trans kq).trans (kept_red _ nr rp mm)).trans (kept_red _ p false mp)).trans (kept_red _ b2 false mb)).trans kr⟩
              rw [← (unhide HL).2]
              exact plug_list (rot_list true p nr X' N3 (mk true b2 N4 F2)) cx2
            all_goals
              obtain ⟨f, F3, F4, eF⟩ : ∃ f F3 F4, F2 = mk true f F3 F4 := by
                cases F2 with
                | nil => cases cF
                | node f x y => exact ⟨f, y, x, rfl⟩
              subst eF
              rw [redR_mk] at cF
              obtain ⟨rX, rN, rF, h2', ht2, hzz⟩ := unhide RR
              obtain ⟨_, _, r3, r4⟩ := (rb_red cF).1 rF
              obtain ⟨kz, kg⟩ := black_far (col st2 p) hzz rfl rX rN r3 r4 h2' ht2
              have KG := hide (And.intro kz kg)
              have hfa : f = fa := by have := (unhide HR).2; rw [mk_root] at this; exact this
              have hpf : p ≠ fa := fun e => (unhide AP).2.1 (mem_mk.2 (Or.inl (e.trans hfa.symm)))
              have hbf : b2 ≠ fa := fun e => (unhide AP).2.2.2 (mem_mk.2 (Or.inl (e.trans hfa.symm)))
              have mf : fa ∈ L := by rw [← hfa, ← (unhide ALL).2.2.2.2.1, mem_plug]; simp [Cx.places, mem_mk]
              rw [hfa] at KG
              have HF := hide hfa
              clear kz kg rX rN rF h2' ht2 hzz r3 r4 hfa
              rw [show (st2.nd p).red = col st2 p from rfl] at e4
              obtain ⟨rp, hrp⟩ : ∃ x, col st2 p = x := ⟨_, rfl⟩
              rw [hrp] at e4 KG
              clear hrp
              go_wp2
              go_quiet (fail)
              go_wp2_with (go_at_call 134; refine Hid.out ?_)
              refine hide ?_
              refine (rotate_any T G P _ _ (((((unhide ALL).1.drew _).putRed b2 rp hbP).putRed p false hpP).putRed fa false hfP) cx2 true p b2 X' N2 (mk true fa F3 F4) (unhide KG).1).mono ?_
              rintro e w5 ⟨rfl, o5, t5⟩
              have O5 := hide (And.intro o5 t5)
              clear o5 t5
              go_wp2
              simp only [Exit.jump]
              go_end0
              have kr := kept_rot (unhide KG).1
              have hl0 : (cx2.plug (mk true p X' (mk true b2 N2 (mk true fa F3 F4)))).list = L := by rw [← unhide HF]; exact (unhide ALL).2.2.2.2.1
              rw [hl0] at kr
              refine ⟨rfl, _, _, (unhide O5).1, ((((unhide ALL).2.1.drew.setG _ _).setG _ _).setG _ _).trans (unhide O5).2, (unhide KG).2, ?_, ((((unhide ALL).2.2.1.trans (kept_red _ b2 rp mb)).trans (kept_red _ p false mp)).trans (kept_red _ fa false mf)).trans kr⟩
              rw [← hl0]
              exact plug_list (rot_list true p b2 X' N2 (mk true fa F3 F4)) cx2
end Go.Proofs.YtjjdkkdnlnbedaaGreat
