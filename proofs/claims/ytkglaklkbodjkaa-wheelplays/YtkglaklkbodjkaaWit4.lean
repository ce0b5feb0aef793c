import Derived.Test.YtkglaklkbodjkaaWit3
import Derived.Deep.DeepCutAuto
namespace Go.Proofs.Ytkglaklkbodjkaa
open Go.RowKit Wh
set_option linter.unusedVariables false

theorem tw_mem {p : Wh.Item → Bool} {A : List Wh.Item} {z : Wh.Item} (h : z ∈ A.takeWhile p) : p z = true := by
  induction A with
  | nil => simp at h
  | cons a A ih =>
    rw [List.takeWhile_cons] at h
    cases hp : p a
    · rw [hp] at h; simp at h
    · rw [hp, if_pos rfl] at h
      rcases List.mem_cons.1 h with rfl | h
      · exact hp
      · exact ih h
theorem cat_nil (now k : Nat) : cat now ([] : List Wh.Item) k = [] := by
  induction k with
  | zero => rfl
  | succ k ih => show cat now [] k ++ _ = _; rw [ih]; rfl
/-- What the law's fire keeps: what stays, what is due, apart. -/
structure FS (B : Nat) (w0 w : World) (vl vd : Value) (Lf D : List Wh.Item) : Prop where
  low : Below B w0 w
  bs : B ≤ w.heap.size
  left : Rr w B vl Lf
  due : Rr w B vd D
  ap : ∀ q, vl.ownBlock = some q → vd.ownBlock ≠ some q
theorem FS.below {B : Nat} {w0 w w' : World} {vl vd : Value} {Lf D : List Wh.Item} (h : FS B w0 w vl vd Lf D) (hb : Below w.heap.size w w') : FS B w0 w' vl vd Lf D :=
  ⟨h.low.trans (hb.mono h.bs), Nat.le_trans h.bs hb.size, h.left.below hb, h.due.below hb, h.ap⟩
set_option maxRecDepth 100000 in
set_option maxHeartbeats 8000000 in
theorem fire_row (w : World) (C : Nat) (v : Value) (L : List Wh.Item) (h : Rr w C v L) (hl : L.length ≤ 1000) (now k U : Nat) (hU : now + k = U) (hU2 : U ≤ 1000000000000) (hd : ∀ x ∈ L, now < x.2 ∧ x.2 ≤ 1000000000000) :
    Calls Try.prog 15 #[v, .int .i64 (U : Int)] w fun e w' => ∃ vo vl, e = .returned (.tuple #[vo, vl]) ∧ Ir w' w.heap.size vo ((cat now L k).map (·.1)) ∧ Rr w' w.heap.size vl (later U L) ∧ Below w.heap.size w w' := by
  obtain ⟨a, cap, rfl, -, -, hc⟩ := h.form
  obtain ⟨B, hB⟩ : ∃ B, w.heap.size = B := ⟨_, rfl⟩
  obtain ⟨N, hN⟩ : ∃ N, L.length = N := ⟨_, rfl⟩
  rw [hN] at hl ⊢
  rw [hB]
  have HN := hide hN
  have HC := hide hc
  have HD := hide hd
  have HU := hide hU
  have HCL := hide (fun i => cat_len now (L.take i) (fun x hx => (hd x (List.mem_of_mem_take hx)).1) k)
  have H0 : Hid (FS B w w (.slice none 0 0) (.slice none 0 0) (later U (L.take 0)) (cat now (L.take 0) k)) := hide (by
    rw [List.take_zero, cat_nil]
    exact ⟨hB ▸ Below.refl _ _, by omega, Rr.nil _ _, Rr.nil _ _, (fun q hq => by cases hq)⟩)
  clear hN hc hd hU h
  go_enter Try.func15, Try.ntmps15
  go_wp2
  go_loopw [7, 8, 16] (fun s7 s8 d w' => ∃ i : Nat, d = .int .i64 (i : Int) ∧ i ≤ N ∧ Hid (FS B w w' s7 s8 (later U (L.take i)) (cat now (L.take i) k))) (fun _ _ d _ => N - (intOf d).toNat)
  case atStart => exact ⟨0, rfl, by omega, H0⟩
  case round =>
    obtain ⟨i, rfl, hi, HI⟩ := hrel
    clear H0
    by_cases hlt : i < N
    · obtain ⟨x, hx⟩ : ∃ x, L[i]? = some x := ⟨L[i]'(by rw [unhide HN]; exact hlt), List.getElem?_eq_getElem _⟩
      obtain ⟨g, rfl, c0, c1⟩ := (unhide HC) i x hx
      have hgl := World.block_lt_of_cell? w _ c0
      rw [hB] at hgl
      have d0 : wr.cell? ⟨g, i * 2, none⟩ = some (.int .i64 x.1) := by rw [(unhide HI).low.cell (p := ⟨g, i * 2, none⟩) hgl]; exact c0
      have d1 : wr.cell? ⟨g, i * 2 + 1, none⟩ = some (.int .i64 (x.2 : Int)) := by rw [(unhide HI).low.cell (p := ⟨g, i * 2 + 1, none⟩) hgl]; exact c1
      have hxd := unhide HD x (List.mem_of_getElem? hx)
      have HTK := hide (take_snoc hx)
      clear c0 c1 hx
      obtain ⟨bx, hbx⟩ : ∃ b, wr.heap.size = b := ⟨_, rfl⟩
      obtain ⟨W3, hW3⟩ : ∃ W3, W3 = wr.alloc (.cells #[.int .i64 x.1, .int .i64 (x.2 : Int)] 32) := ⟨_, rfl⟩
      have b3 : Below wr.heap.size wr W3 := by rw [hW3]; exact below1 _ _
      have kb3 : Blk W3 bx 32 #[.int .i64 x.1, .int .i64 (x.2 : Int)] := by rw [hW3]; exact Blk.new_at _ _ _ hbx.symm
      have F3 := (unhide HI).below b3
      have hsz := (unhide HI).bs
      have q0 := kb3.cell 0
      have q1 := kb3.cell 1
      have HW3 := hide hW3
      have H3 := hide (And.intro F3 kb3)
      have hlf := later_len U (L.take i)
      have hcl := unhide HCL i
      rw [List.length_take] at hlf hcl
      by_cases hup : U < x.2
      · have hup2 : (U : Int) < (x.2 : Int) := by omega
        have HNX : Hid (later U (L.take (i + 1)) = later U (L.take i) ++ [x] ∧ cat now (L.take (i + 1)) k = cat now (L.take i) k) := hide (by
          rw [unhide HTK, later_snoc, if_pos hup, cat_skip now _ x k (by rw [unhide HU]; exact hup)]
          exact ⟨rfl, rfl⟩)
        obtain ⟨gz, hgz⟩ : ∃ b, W3.heap.size = b := ⟨_, rfl⟩
        clear hW3 b3 F3 HI HTK kb3
        go_upto_region 7 with fail
        rw [← unhide HW3]
        go_wp2_with (at_builtin; refine app_item rfl _ _ rfl B u7 _ x rfl (unhide H3).1.left gz hgz rfl (by have := (unhide H3).1.bs; omega) (by omega) ?_; intro v' w4 o1 o2 o3)
        have H4 : Hid (FS B w w4 v' u8 (later U (L.take (i + 1))) (cat now (L.take (i + 1)) k)) := hide (by
          have F3 := (unhide H3).1
          rw [(unhide HNX).1, (unhide HNX).2]
          refine ⟨F3.low.grown o2 F3.bs (fun j hj => (F3.left.lt j hj).1), Nat.le_trans F3.bs o2.size, o1, F3.due.keep fun q hq => o2.block q (F3.due.lt q hq).2 (fun e => F3.ap q e.symm hq), fun q hq hq2 => ?_⟩
          rcases o3 q hq with h1 | h1
          · exact F3.ap q h1 hq2
          · have := (F3.due.lt q hq2).2
            omega)
        clear o1 o2 o3 H3 HNX HW3
        go_roundw
        case rel => exact ⟨i + 1, by first | rfl | go_num, by omega, H4⟩
        case measure => simp [intOf]; omega
      · have hup2 : ¬ (U : Int) < (x.2 : Int) := by omega
        have hdec : decide ((U : Int) < (x.2 : Int)) = false := decide_eq_false hup2
        obtain ⟨Dl, hDl⟩ : ∃ Dl, cat now (L.take i) k = Dl := ⟨_, rfl⟩
        have HNX : Hid (later U (L.take (i + 1)) = later U (L.take i) ∧ cat now (L.take (i + 1)) k = Dl.takeWhile (fun y => decide (y.2 ≤ x.2)) ++ x :: Dl.dropWhile (fun y => decide (y.2 ≤ x.2))) := hide (by
          rw [unhide HTK, later_snoc, if_neg hup, List.append_nil, cat_snoc now _ x k hxd.1 (by rw [unhide HU]; omega), hDl]
          exact ⟨rfl, rfl⟩)
        rw [hDl] at F3 hcl
        have hsplit := List.takeWhile_append_dropWhile (p := fun y : Wh.Item => decide (y.2 ≤ x.2)) (l := Dl)
        have hpre : ∀ z ∈ Dl.takeWhile (fun y => decide (y.2 ≤ x.2)), z.2 ≤ x.2 := fun z hz => of_decide_eq_true (tw_mem hz)
        have hpost : ∀ z, (Dl.dropWhile (fun y => decide (y.2 ≤ x.2)))[0]? = some z → x.2 < z.2 := fun z hz => by
          have h1 := List.head?_dropWhile_not (fun y : Wh.Item => decide (y.2 ≤ x.2)) Dl
          rw [List.head?_eq_getElem?, hz] at h1
          simp at h1
          omega
        generalize Dl.takeWhile (fun y => decide (y.2 ≤ x.2)) = pre at *
        generalize Dl.dropWhile (fun y => decide (y.2 ≤ x.2)) = post at *
        subst hsplit
        have HF3 := hide F3
        have HKB := hide kb3
        have hbxl := kb3.lt
        clear hW3 b3 HI HTK kb3 hDl H3
        go_upto_region 7 with fail
        rw [← unhide HW3]
        go_wp2_with fail
        clear HW3
        rcases F3.due.2 with ⟨hv, h0⟩ | ⟨gd, capd, cur, hv, hgB, -, hcd, hcm, -⟩
        · have hp : pre = [] ∧ post = [] := by
            have := List.length_eq_zero_iff.1 h0
            simpa using this
          obtain ⟨rfl, rfl⟩ := hp
          subst hv
          clear F3 h0 hpre hpost d0 d1 hcl
          refine wp_loop_rounds 1 ?_
          rw [rounds_succ]
          go_wp2_with fail
          go_quiet (fail)
          go_wp2_with fail
          have kx := (unhide HKB).below (below_drewN W3 nq) (unhide HKB).lt
          have HF5 := hide ((unhide HF3).below (below_drewN W3 nq))
          generalize W3.drewN nq = w5 at *
          obtain ⟨Z, hZ⟩ : ∃ Z, w5.heap.size = Z := ⟨_, rfl⟩
          have c0 := held4 (kx.cell 0)
          have c1 := held4 (kx.cell 1)
          have e0 : ∀ o : Obj, (w5.alloc o).drew.cell? ⟨bx, 0, none⟩ = some (.int .i64 x.1) := fun o => (kx.alloc o).cell 0
          have e1 : ∀ o : Obj, (w5.alloc o).drew.cell? ⟨bx, 1, none⟩ = some (.int .i64 (x.2 : Int)) := fun o => (kx.alloc o).cell 1
          have f0 : w5.drew.cell? ⟨bx, 0, none⟩ = some (.int .i64 x.1) := kx.cell 0
          have f1 : w5.drew.cell? ⟨bx, 1, none⟩ = some (.int .i64 (x.2 : Int)) := kx.cell 1
          have BE : ∀ o : Obj, Below Z w5 (w5.alloc o).drew := fun o => by rw [← hZ]; exact (below1 w5 o).drew
          have BE2 : ∀ o p : Obj, Below Z w5 ((w5.alloc o).alloc p).drew := fun o p => by rw [← hZ]; exact (below2 w5 o p).drew
          have HBE := hide (And.intro BE BE2)
          have HKX := hide kx
          have HFIN : Hid (∀ v3 w3, w3.ownsRow Z 32 2 v3 (0 + 1 + 0) (irw [] ++ irw [x] ++ irw []) → Below Z w5 w3 → FS B w w3 u7 v3 (later U (L.take (i + 1))) (cat now (L.take (i + 1)) k)) := hide (fun v3 w3 o3 S3 => by
            have F5 := (unhide HF5)
            have hz := F5.bs
            have hw3 := S3.size
            refine ⟨F5.low.trans (S3.mono (by omega)), by omega, ?_, ?_, fun q hq hq2 => ?_⟩
            · rw [(unhide HNX).1]; exact F5.left.below (by rw [hZ]; exact S3)
            · rw [(unhide HNX).2]
              have e : irw [] ++ irw [x] ++ irw [] = irw ([] ++ x :: []) := by rw [irw_app, List.append_assoc]; rfl
              rw [e] at o3
              have hlen : 0 + 1 + 0 = ([] ++ x :: []).length := by first | (simp; done) | (simp; omega)
              rw [hlen] at o3
              exact World.ownsRow.mono o3 (by omega)
            · have h1 := (F5.left.lt q hq).2
              have h2 := (o3.lt q hq2).1
              omega)
          clear BE BE2 kx
          go_region_law (first
            | (refine wstep_own rfl _ _ rfl hZ _ 0 [] rfl (by first | exact wown_empty (Nat.le_refl _) hZ | exact World.ownsRow.alloc (wown_empty (Nat.le_refl _) hZ) _ | exact wown_empty (Nat.le_succ _) (by simp [hZ])) 0 (irw []) (wnews_nil _) (by omega) (by first | exact (unhide HBE).1 _ | exact (unhide HBE).2 _ _) ?_; intro v1 w1 o1 S1 K1; rw [Nat.zero_add, List.nil_append] at o1)
            | (refine wstep_own rfl _ _ rfl hZ _ 0 (irw []) rfl (by first | exact o1 | exact World.ownsRow.alloc o1 _) 1 (irw [x]) (by first | exact wnews_box (y := x) (Blk.new _ _ _) | exact wnews_box (y := x) (K1 _ _ _ (Blk.new_at _ _ _ (show Z + 1 = _ by simp [hZ])) (fun e => Nat.ne_of_gt (Nat.lt_succ_self Z) (Option.some.inj e))) | exact wnews_box (y := x) (K1 _ _ _ (Blk.alloc (Blk.new_at _ _ _ hZ.symm) _) (fun e => Nat.ne_of_lt (Nat.lt_succ_self Z) (Option.some.inj e)))) (by omega) (by first | exact S1 | exact S1.alloc (by have := S1.size; omega) _) ?_; intro v2 w2 o2 S2 K2)
            | (refine wstep_own rfl _ _ rfl hZ _ (0 + 1) (irw [] ++ irw [x]) rfl o2 0 (irw []) (wnews_nil _) (by omega) S2 ?_; intro v3 w3 o3 S3 K3))
          all_goals go_wp2_with fail
          all_goals
            go_roundw
            case rel => exact ⟨i + 1, by first | rfl | go_num, by omega, hide (unhide HFIN v3 w3 o3 S3)⟩
            case measure => simp [intOf]; omega
        · subst hv
          obtain ⟨Nd, hNd⟩ : ∃ n, (pre ++ post).length = n := ⟨_, rfl⟩
          have hrow : Rr W3 B (.slice (some ⟨gd, 0, none⟩) (pre ++ post).length capd) (pre ++ post) := F3.due
          have HAT := hide (fun t z (hz : (pre ++ post)[t]? = some z) => show W3.cell? ⟨gd, t * 2 + 1, none⟩ = some (.int .i64 ((z.2 : Nat) : Int)) from by
            obtain ⟨_, h1⟩ := irw_at (pre ++ post) t z hz
            have := World.ownsRow.cells hrow (g := gd) rfl _ _ h1
            rw [iadd0] at this
            exact this)
          have HRW := hide hrow
          have HPR := hide hpre
          have HPO := hide hpost
          have HNN := hide hNd
          unfold maxLen at hcm
          have hpl : pre.length + post.length = Nd := by rw [← hNd, List.length_append]
          have hNd9 : Nd ≤ 1000 := by omega
          rw [hNd] at hcd
          rw [hNd]
          clear F3 hrow hpre hpost hNd d0 d1
          go_loopw [11] (fun d w' => ∃ t : Nat, t ≤ pre.length ∧ d = .int .i64 (t : Int) ∧ Hid (∃ m, w' = W3.drewN m)) (fun d _ => 1001 - (intOf d).toNat)
          case atStart => exact ⟨0, by omega, rfl, hide ⟨0, rfl⟩⟩
          case round =>
            obtain ⟨t, ht, rfl, HM⟩ := hrel
            have q0 : wr.cell? ⟨bx, 0, none⟩ = some (.int .i64 x.1) := by
              obtain ⟨m, e⟩ := unhide HM
              rw [e]; exact (unhide HKB).cell 0
            have q1 : wr.cell? ⟨bx, 1, none⟩ = some (.int .i64 (x.2 : Int)) := by
              obtain ⟨m, e⟩ := unhide HM
              rw [e]; exact (unhide HKB).cell 1
            by_cases htp : t < pre.length
            · obtain ⟨z, hz⟩ : ∃ z, (pre ++ post)[t]? = some z := ⟨_, List.getElem?_eq_getElem (by rw [unhide HNN]; omega)⟩
              have x1 : wr.cell? ⟨gd, t * 2 + 1, none⟩ = some (.int .i64 (z.2 : Int)) := by
                obtain ⟨m, e⟩ := unhide HM
                rw [e]; exact (unhide HAT) t z hz
              have hzx : z.2 ≤ x.2 := unhide HPR z (by
                rw [List.getElem?_append_left htp] at hz
                exact List.mem_of_getElem? hz)
              clear hz
              have htN : t < Nd := by omega
              have hd1 : decide ((t : Int) < (Nd : Int)) = true := decide_eq_true (by omega)
              have hd2 : decide ((z.2 : Int) ≤ (x.2 : Int)) = true := decide_eq_true (by omega)
              go_wp2_with fail
              go_quiet (fail)
              go_wp2_with fail
              go_roundw
              case rel => exact ⟨t + 1, by omega, by first | rfl | go_num, hide (by
                obtain ⟨m, e⟩ := unhide HM
                exact ⟨m + nq, by rw [e, World.drewN_drewN]⟩)⟩
              case measure => simp [intOf]; omega
            by_cases htN : t < Nd
            · obtain rfl : t = pre.length := by omega
              obtain ⟨z, hz⟩ : ∃ z, (pre ++ post)[pre.length]? = some z := ⟨_, List.getElem?_eq_getElem (by rw [unhide HNN]; omega)⟩
              have x1 : wr.cell? ⟨gd, pre.length * 2 + 1, none⟩ = some (.int .i64 (z.2 : Int)) := by
                obtain ⟨m, e⟩ := unhide HM
                rw [e]; exact (unhide HAT) pre.length z hz
              have hzx : x.2 < z.2 := unhide HPO z (by
                rw [List.getElem?_append_right (Nat.le_refl _), Nat.sub_self] at hz
                exact hz)
              clear hz
              have hd1 : decide ((pre.length : Int) < (Nd : Int)) = true := decide_eq_true (by omega)
              have hd2 : decide ((z.2 : Int) ≤ (x.2 : Int)) = false := decide_eq_false (by omega)
              go_wp2_with fail
              go_quiet (fail)
              go_wp2_with fail
              have HM2 : Hid (Below W3.heap.size W3 (wr.drewN nq)) := hide (by
                obtain ⟨m, e⟩ := unhide HM
                rw [e, World.drewN_drewN]
                exact below_drewN _ _)
              have kx := (unhide HKB).below (unhide HM2) (unhide HKB).lt
              have HF5 := hide ((unhide HF3).below (unhide HM2))
              have rW : Rr (wr.drewN nq) B (.slice (some ⟨gd, 0, none⟩) (pre ++ post).length capd) (pre ++ post) := (unhide HRW).below (unhide HM2)
              generalize wr.drewN nq = w5 at *
              obtain ⟨Z, hZ⟩ : ∃ Z, w5.heap.size = Z := ⟨_, rfl⟩
              have c0 := held4 (kx.cell 0)
              have c1 := held4 (kx.cell 1)
              have e0 : ∀ o : Obj, (w5.alloc o).drew.cell? ⟨bx, 0, none⟩ = some (.int .i64 x.1) := fun o => (kx.alloc o).cell 0
              have e1 : ∀ o : Obj, (w5.alloc o).drew.cell? ⟨bx, 1, none⟩ = some (.int .i64 (x.2 : Int)) := fun o => (kx.alloc o).cell 1
              have f0 : w5.drew.cell? ⟨bx, 0, none⟩ = some (.int .i64 x.1) := kx.cell 0
              have f1 : w5.drew.cell? ⟨bx, 1, none⟩ = some (.int .i64 (x.2 : Int)) := kx.cell 1
              have BE : ∀ o : Obj, Below Z w5 (w5.alloc o).drew := fun o => by rw [← hZ]; exact (below1 w5 o).drew
              have BE2 : ∀ o p : Obj, Below Z w5 ((w5.alloc o).alloc p).drew := fun o p => by rw [← hZ]; exact (below2 w5 o p).drew
              have HBE := hide (And.intro BE BE2)
              have HKX := hide kx
              have n1 := fun w' (h : Below Z w5 w') => (wnews_pre rW capd).held w' (by rw [hZ]; exact h)
              have n3 := fun w' (h : Below Z w5 w') => (wnews_from rW (unhide HNN) hcd (capd - pre.length)).held w' (by rw [hZ]; exact h)
              have hp0 : (0 : Int) ≤ (pre.length : Int) := by omega
              have hp1 : (pre.length : Int) ≤ (capd : Int) := by omega
              have hp2 : (pre.length : Int) ≤ (Nd : Int) := by omega
              have hp3 : (Nd : Int) ≤ (capd : Int) := by omega
              have HL := hide (show pre.length ≤ 5000 ∧ post.length ≤ 5000 by omega)
              have HI2 := hide (And.intro n1 n3)
              have HFIN : Hid (∀ v3 w3, w3.ownsRow Z 32 2 v3 (pre.length + 1 + post.length) (irw pre ++ irw [x] ++ irw post) → Below Z w5 w3 → FS B w w3 u7 v3 (later U (L.take (i + 1))) (cat now (L.take (i + 1)) k)) := hide (fun v3 w3 o3 S3 => by
                have F5 := (unhide HF5)
                have hz := F5.bs
                have hw3 := S3.size
                refine ⟨F5.low.trans (S3.mono (by omega)), by omega, ?_, ?_, fun q hq hq2 => ?_⟩
                · rw [(unhide HNX).1]; exact F5.left.below (by rw [hZ]; exact S3)
                · rw [(unhide HNX).2]
                  have e : irw pre ++ irw [x] ++ irw post = irw (pre ++ x :: post) := by rw [irw_app, List.append_assoc]; rfl
                  rw [e] at o3
                  have hlen : pre.length + 1 + post.length = (pre ++ x :: post).length := by simp; omega
                  rw [hlen] at o3
                  exact World.ownsRow.mono o3 (by omega)
                · have h1 := (F5.left.lt q hq).2
                  have h2 := (o3.lt q hq2).1
                  omega)
              clear BE BE2 kx n1 n3 rW q0 q1
              go_region_law (first
                | (refine wstep_own rfl _ _ rfl hZ _ 0 [] rfl (by first | exact wown_empty (Nat.le_refl _) hZ | exact World.ownsRow.alloc (wown_empty (Nat.le_refl _) hZ) _ | exact wown_empty (Nat.le_succ _) (by simp [hZ])) pre.length (irw pre) (by first | exact (unhide HI2).1 _ ((unhide HBE).1 _) | exact (unhide HI2).1 _ ((unhide HBE).2 _ _)) (by have := (unhide HL).1; omega) (by first | exact (unhide HBE).1 _ | exact (unhide HBE).2 _ _) ?_; intro v1 w1 o1 S1 K1; rw [Nat.zero_add, List.nil_append] at o1)
                | (refine wstep_own rfl _ _ rfl hZ _ pre.length (irw pre) rfl (by first | exact o1 | exact World.ownsRow.alloc o1 _) 1 (irw [x]) (by first | exact wnews_box (y := x) (Blk.new _ _ _) | exact wnews_box (y := x) (K1 _ _ _ (Blk.new_at _ _ _ (show Z + 1 = _ by simp [hZ])) (fun e => Nat.ne_of_gt (Nat.lt_succ_self Z) (Option.some.inj e))) | exact wnews_box (y := x) (K1 _ _ _ (Blk.alloc (Blk.new_at _ _ _ hZ.symm) _) (fun e => Nat.ne_of_lt (Nat.lt_succ_self Z) (Option.some.inj e)))) (by have := (unhide HL).1; omega) (by first | exact S1 | exact S1.alloc (by have := S1.size; omega) _) ?_; intro v2 w2 o2 S2 K2)
                | (refine wstep_own rfl _ _ rfl hZ _ (pre.length + 1) (irw pre ++ irw [x]) rfl o2 post.length (irw post) ((unhide HI2).2 _ S2) (by have := (unhide HL).1; have := (unhide HL).2; omega) S2 ?_; intro v3 w3 o3 S3 K3))
              all_goals go_wp2_with fail
              all_goals
                go_roundw
                case rel => exact ⟨i + 1, by first | rfl | go_num, by omega, hide (unhide HFIN v3 w3 o3 S3)⟩
                case measure => simp [intOf]; omega
            · obtain rfl : t = pre.length := by omega
              have hd1 : decide ((pre.length : Int) < (Nd : Int)) = false := decide_eq_false (by omega)
              go_wp2_with fail
              go_quiet (fail)
              go_wp2_with fail
              have HM2 : Hid (Below W3.heap.size W3 (wr.drewN nq)) := hide (by
                obtain ⟨m, e⟩ := unhide HM
                rw [e, World.drewN_drewN]
                exact below_drewN _ _)
              have kx := (unhide HKB).below (unhide HM2) (unhide HKB).lt
              have HF5 := hide ((unhide HF3).below (unhide HM2))
              have rW : Rr (wr.drewN nq) B (.slice (some ⟨gd, 0, none⟩) (pre ++ post).length capd) (pre ++ post) := (unhide HRW).below (unhide HM2)
              generalize wr.drewN nq = w5 at *
              obtain ⟨Z, hZ⟩ : ∃ Z, w5.heap.size = Z := ⟨_, rfl⟩
              have c0 := held4 (kx.cell 0)
              have c1 := held4 (kx.cell 1)
              have e0 : ∀ o : Obj, (w5.alloc o).drew.cell? ⟨bx, 0, none⟩ = some (.int .i64 x.1) := fun o => (kx.alloc o).cell 0
              have e1 : ∀ o : Obj, (w5.alloc o).drew.cell? ⟨bx, 1, none⟩ = some (.int .i64 (x.2 : Int)) := fun o => (kx.alloc o).cell 1
              have f0 : w5.drew.cell? ⟨bx, 0, none⟩ = some (.int .i64 x.1) := kx.cell 0
              have f1 : w5.drew.cell? ⟨bx, 1, none⟩ = some (.int .i64 (x.2 : Int)) := kx.cell 1
              have BE : ∀ o : Obj, Below Z w5 (w5.alloc o).drew := fun o => by rw [← hZ]; exact (below1 w5 o).drew
              have BE2 : ∀ o p : Obj, Below Z w5 ((w5.alloc o).alloc p).drew := fun o p => by rw [← hZ]; exact (below2 w5 o p).drew
              have HBE := hide (And.intro BE BE2)
              have HKX := hide kx
              have n1 := fun w' (h : Below Z w5 w') => (wnews_pre rW capd).held w' (by rw [hZ]; exact h)
              have n3 := fun w' (h : Below Z w5 w') => (wnews_from rW (unhide HNN) hcd (capd - pre.length)).held w' (by rw [hZ]; exact h)
              have hp0 : (0 : Int) ≤ (pre.length : Int) := by omega
              have hp1 : (pre.length : Int) ≤ (capd : Int) := by omega
              have hp2 : (pre.length : Int) ≤ (Nd : Int) := by omega
              have hp3 : (Nd : Int) ≤ (capd : Int) := by omega
              have HL := hide (show pre.length ≤ 5000 ∧ post.length ≤ 5000 by omega)
              have HI2 := hide (And.intro n1 n3)
              have HFIN : Hid (∀ v3 w3, w3.ownsRow Z 32 2 v3 (pre.length + 1 + post.length) (irw pre ++ irw [x] ++ irw post) → Below Z w5 w3 → FS B w w3 u7 v3 (later U (L.take (i + 1))) (cat now (L.take (i + 1)) k)) := hide (fun v3 w3 o3 S3 => by
                have F5 := (unhide HF5)
                have hz := F5.bs
                have hw3 := S3.size
                refine ⟨F5.low.trans (S3.mono (by omega)), by omega, ?_, ?_, fun q hq hq2 => ?_⟩
                · rw [(unhide HNX).1]; exact F5.left.below (by rw [hZ]; exact S3)
                · rw [(unhide HNX).2]
                  have e : irw pre ++ irw [x] ++ irw post = irw (pre ++ x :: post) := by rw [irw_app, List.append_assoc]; rfl
                  rw [e] at o3
                  have hlen : pre.length + 1 + post.length = (pre ++ x :: post).length := by simp; omega
                  rw [hlen] at o3
                  exact World.ownsRow.mono o3 (by omega)
                · have h1 := (F5.left.lt q hq).2
                  have h2 := (o3.lt q hq2).1
                  omega)
              clear BE BE2 kx n1 n3 rW q0 q1
              go_region_law (first
                | (refine wstep_own rfl _ _ rfl hZ _ 0 [] rfl (by first | exact wown_empty (Nat.le_refl _) hZ | exact World.ownsRow.alloc (wown_empty (Nat.le_refl _) hZ) _ | exact wown_empty (Nat.le_succ _) (by simp [hZ])) pre.length (irw pre) (by first | exact (unhide HI2).1 _ ((unhide HBE).1 _) | exact (unhide HI2).1 _ ((unhide HBE).2 _ _)) (by have := (unhide HL).1; omega) (by first | exact (unhide HBE).1 _ | exact (unhide HBE).2 _ _) ?_; intro v1 w1 o1 S1 K1; rw [Nat.zero_add, List.nil_append] at o1)
                | (refine wstep_own rfl _ _ rfl hZ _ pre.length (irw pre) rfl (by first | exact o1 | exact World.ownsRow.alloc o1 _) 1 (irw [x]) (by first | exact wnews_box (y := x) (Blk.new _ _ _) | exact wnews_box (y := x) (K1 _ _ _ (Blk.new_at _ _ _ (show Z + 1 = _ by simp [hZ])) (fun e => Nat.ne_of_gt (Nat.lt_succ_self Z) (Option.some.inj e))) | exact wnews_box (y := x) (K1 _ _ _ (Blk.alloc (Blk.new_at _ _ _ hZ.symm) _) (fun e => Nat.ne_of_lt (Nat.lt_succ_self Z) (Option.some.inj e)))) (by have := (unhide HL).1; omega) (by first | exact S1 | exact S1.alloc (by have := S1.size; omega) _) ?_; intro v2 w2 o2 S2 K2)
                | (refine wstep_own rfl _ _ rfl hZ _ (pre.length + 1) (irw pre ++ irw [x]) rfl o2 post.length (irw post) ((unhide HI2).2 _ S2) (by have := (unhide HL).1; have := (unhide HL).2; omega) S2 ?_; intro v3 w3 o3 S3 K3))
              all_goals go_wp2_with fail
              all_goals
                go_roundw
                case rel => exact ⟨i + 1, by first | rfl | go_num, by omega, hide (unhide HFIN v3 w3 o3 S3)⟩
                case measure => simp [intOf]; omega
    · obtain rfl : i = N := by omega
      have HF : Hid (FS B w wr u7 u8 (later U L) (cat now L k)) := hide (by
        have h1 := unhide HI
        rw [List.take_of_length_le (by rw [unhide HN]; exact Nat.le_refl _)] at h1
        exact h1)
      have hcl := unhide HCL i
      rw [List.take_of_length_le (by rw [unhide HN]; exact Nat.le_refl _), unhide HN] at hcl
      clear HI HCL HN hlt hi HC
      obtain ⟨Dl, hDl⟩ : ∃ Dl, cat now L k = Dl := ⟨_, rfl⟩
      rw [hDl] at HF hcl
      have HDl := hide hDl
      clear hDl
      obtain ⟨a2, cap2, rfl, -, -, hc2⟩ := (unhide HF).due.form
      have HC2 := hide hc2
      obtain ⟨Nd, hNd⟩ : ∃ n, Dl.length = n := ⟨_, rfl⟩
      rw [hNd] at hcl ⊢
      have HNd := hide hNd
      obtain ⟨Z, hZ⟩ : ∃ Z, wr.heap.size = Z := ⟨_, rfl⟩
      have HZ := hide hZ
      clear hc2 hNd
      generalize hwr : wr = w9 at *
      clear hwr
      go_wp2
      go_loopw [6, 59] (fun s6 d w' => ∃ j : Nat, d = .int .i64 (j : Int) ∧ j ≤ Nd ∧ Hid (Ir w' Z s6 ((Dl.take j).map (·.1)) ∧ Below Z w9 w' ∧ Z ≤ w'.heap.size)) (fun _ d _ => Nd - (intOf d).toNat)
      case atStart => exact ⟨0, rfl, by omega, hide ⟨Ir.nil _ _, by rw [← hZ]; exact Below.refl _ _, by omega⟩⟩
      case round =>
        obtain ⟨j, rfl, hj, HI⟩ := hrel
        by_cases hlt : j < Nd
        · obtain ⟨y, hy⟩ : ∃ y, Dl[j]? = some y := ⟨Dl[j]'(by rw [unhide HNd]; exact hlt), List.getElem?_eq_getElem _⟩
          obtain ⟨g, rfl, c0, c1⟩ := (unhide HC2) j y hy
          have hgl := World.block_lt_of_cell? w9 _ c0
          rw [unhide HZ] at hgl
          have d0 : wr.cell? ⟨g, j * 2, none⟩ = some (.int .i64 y.1) := by rw [(unhide HI).2.1.cell (p := ⟨g, j * 2, none⟩) hgl]; exact c0
          have d1 : wr.cell? ⟨g, j * 2 + 1, none⟩ = some (.int .i64 (y.2 : Int)) := by rw [(unhide HI).2.1.cell (p := ⟨g, j * 2 + 1, none⟩) hgl]; exact c1
          have HTK := hide (take_snoc hy)
          obtain ⟨W4, hW4⟩ : ∃ W4, W4 = wr.alloc (.cells #[.int .i64 y.1, .int .i64 (y.2 : Int)] 32) := ⟨_, rfl⟩
          obtain ⟨bx, hbx⟩ : ∃ b, wr.heap.size = b := ⟨_, rfl⟩
          have b4 : Below wr.heap.size wr W4 := by rw [hW4]; exact below1 _ _
          have kb4 : Blk W4 bx 32 #[.int .i64 y.1, .int .i64 (y.2 : Int)] := by rw [hW4]; exact Blk.new_at _ _ _ hbx.symm
          have r0 := kb4.cell 0
          have r1 := kb4.cell 1
          obtain ⟨gz, hgz⟩ : ∃ b, W4.heap.size = b := ⟨_, rfl⟩
          have HR := hide (And.intro ((unhide HI).1.below b4) (And.intro ((unhide HI).2.1.trans (b4.mono (unhide HI).2.2)) (Nat.le_trans (unhide HI).2.2 b4.size)))
          have hjl : ((Dl.take j).map (·.1)).length ≤ 1000000 := by rw [List.length_map, List.length_take]; omega
          obtain ⟨P, hP⟩ : ∃ P, (Dl.take j).map (·.1) = P := ⟨_, rfl⟩
          rw [hP] at HR hjl
          have HP := hide hP
          clear hP
          have HW4 := hide hW4
          clear c0 c1 hy b4 kb4 hW4 HI hgl
          go_upto_region 17 with fail
          rw [← unhide HW4]
          go_wp2_with (at_builtin; refine app_lies rfl _ _ rfl Z u6 P y.1 rfl (unhide HR).1 gz hgz rfl (by have := (unhide HR).2.2; omega) hjl ?_; intro g' cap' w5 o1 o2 o3)
          have H5 : Hid (Ir w5 Z (.slice (some ⟨g', 0, none⟩) (P.length + 1) cap') ((Dl.take (j + 1)).map (·.1)) ∧ Below Z w9 w5 ∧ Z ≤ w5.heap.size) := hide (by
            rw [unhide HTK, List.map_append, unhide HP]
            exact ⟨o1, (unhide HR).2.1.grown o2 (unhide HR).2.2 (fun q hq => ((unhide HR).1.lt q hq).1), Nat.le_trans (unhide HR).2.2 o2.size⟩)
          clear o1 o2 o3 HR HW4 HTK
          go_roundw
          case rel => exact ⟨j + 1, by first | rfl | go_num, by omega, H5⟩
          case measure => simp [intOf]; omega
        · have hjn : j = Nd := by omega
          subst hjn
          have HE : Hid (Ir wr Z u6 (Dl.map (·.1)) ∧ Below Z w9 wr) := hide (by
            have h1 := unhide HI
            rw [List.take_of_length_le (by rw [unhide HNd]; exact Nat.le_refl _)] at h1
            exact ⟨h1.1, h1.2.1⟩)
          clear HI hlt hj
          go_wp2
          go_ret2
          have hbz : B ≤ Z := by rw [← unhide HZ]; exact (unhide HF).bs
          exact ⟨u6, u7, rfl, by rw [unhide HDl]; exact (unhide HE).1.mono hbz, (unhide HF).left.below (by rw [unhide HZ]; exact (unhide HE).2), (unhide HF).low.trans ((unhide HE).2.mono hbz)⟩
end Go.Proofs.Ytkglaklkbodjkaa
