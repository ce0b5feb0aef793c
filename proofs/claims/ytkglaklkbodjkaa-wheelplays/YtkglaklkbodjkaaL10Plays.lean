import Derived.Test.YtkglaklkbodjkaaL10Fixed
import Derived.Test.YtkglaklkbodjkaaWh18
import Derived.Test.YtkglaklkbodjkaaWh20
import Derived.Test.YtkglaklkbodjkaaWit4
import Derived.Test.YtkglaklkbodjkaaFlt
import Derived.Deep.DeepCutAuto
import Derived.Deep.CutBlock
namespace Go.Proofs.Ytkglaklkbodjkaa
open Go.RowKit Wh
set_option linter.unusedVariables false

/-- A wheel, and the law's row of the same items. -/
structure WP (C : Nat) (w0 w : World) (B H Mb now n : Nat) (L : List Wh.Item) (sv : Nat → Value) (rv : Value) : Prop where
  v : Wv C w0 w B H Mb now n L sv
  row : Rr w C rv L
  out : ∀ g, rv.ownBlock = some g → ¬ Foot H Mb sv g
/-- What the law's first is, behind so many items. -/
structure Fst (now : Nat) (L : List Wh.Item) (j f : Nat) : Prop where
  le : ∀ (p : Nat) (x : Wh.Item), p < j → L[p]? = some x → f ≤ x.2 - now
  ex : (f = 1048576 ∧ j = 0) ∨ ∃ x ∈ L, f = x.2 - now
section
variable {C : Nat} {w0 w w' : World} {B H Mb now n : Nat} {L L2 : List Wh.Item} {sv sv' : Nat → Value} {rv : Value}
theorem rr_out {F F' : Nat → Prop} (hi : Rr w C rv L) (ho : ∀ g, rv.ownBlock = some g → ¬ F g) (h : Fr w w' F F') : ∀ g, rv.ownBlock = some g → ¬ F' g := fun g hg hF => by
  rcases h.foot g hF with h1 | h1
  · exact ho g hg h1
  · have := (hi.lt g hg).2
    omega
theorem WP.below (h : WP C w0 w B H Mb now n L sv rv) (hb : Below w.heap.size w w') : WP C w0 w' B H Mb now n L sv rv := ⟨h.v.below hb, h.row.below hb, h.out⟩
theorem WP.step {now2 n2 : Nat} (h : WP C w0 w B H Mb now n L sv rv) (v2 : Wv C w0 w' B H Mb now2 n2 L sv') (k : Fr w w' (Foot H Mb sv) (Foot H Mb sv')) : WP C w0 w' B H Mb now2 n2 L sv' rv :=
  ⟨v2, h.row.fr k h.out, rr_out h.row h.out k⟩
theorem items_erase {k : Nat} {x : Wh.Item} (hf : Fresh L) (hk : L[k]? = some x) : L.take k ++ L.drop (k + 1) = but x.1 L := by
  rw [← List.eraseIdx_eq_take_drop_succ]
  induction L generalizing k with
  | nil => simp at hk
  | cons y l ih =>
    unfold Fresh at hf
    rw [List.map_cons, List.nodup_cons] at hf
    unfold but
    cases k with
    | zero =>
      simp only [List.getElem?_cons_zero, Option.some.injEq] at hk
      subst hk
      rw [List.eraseIdx_cons_zero, List.filter_cons, if_neg (by simp)]
      symm
      rw [List.filter_eq_self]
      intro z hz
      simp only [decide_eq_true_eq]
      exact fun e => hf.1 (List.mem_map.2 ⟨z, hz, e⟩)
    | succ k =>
      rw [List.getElem?_cons_succ] at hk
      have hne : y.1 ≠ x.1 := fun e => hf.1 (List.mem_map.2 ⟨x, List.mem_of_getElem? hk, e.symm⟩)
      rw [List.eraseIdx_cons_succ, List.filter_cons, if_pos (by simp [hne]), ih hf.2 hk]
      rfl
end
set_option maxRecDepth 100000 in
set_option maxHeartbeats 1000000 in
theorem lplays10_long (p : Option Addr) (len cap : Nat) (w : World) (hlen : 60 < len) :
    Calls Try.prog 3 #[.slice p len cap] w fun e w' => e = .returned (.bool true) ∧ Below w.heap.size w w' := by
  have CF := hide (fixed10 w)
  have hl2 : (60 : Int) < ((len : Nat) : Int) := by omega
  go_enter Try.func3, Try.ntmps3
  go_wp2_with (go_at_call 10; refine (unhide CF).mono ?_; rintro e w1 ⟨rfl, hb1⟩)
  go_ret
  exact ⟨rfl, hb1⟩
set_option maxRecDepth 100000 in
set_option maxHeartbeats 16000000 in
theorem lplays10_short (p : Option Addr) (len cap : Nat) (kd ki kt : Nat → Int) (w : World) (hlen : len ≤ 60)
    (hk : ∀ i, i < len → 0 ≤ kd i ∧ kd i ≤ 255) (hki : ∀ i, i < len → isI (ki i))
    (hc : ∀ i, i < len → ∃ x, p = some x ∧ x.block < w.heap.size ∧ w.cell? (x.add (i * 3)) = some (.int .u8 (kd i)) ∧ w.cell? (x.add (i * 3 + 1)) = some (.int .i64 (ki i)) ∧ w.cell? (x.add (i * 3 + 2)) = some (.int .i64 (kt i))) :
    Calls Try.prog 3 #[.slice p len cap] w fun e w' => e = .returned (.bool true) ∧ Below w.heap.size w w' := by
  have CF := hide (fixed10 w)
  obtain ⟨C, hC⟩ : ∃ C, w.heap.size = C := ⟨_, rfl⟩
  rw [hC] at hc
  have hc := hide hc
  have hk := hide hk
  have hki := hide hki
  have hl2 : ((len : Nat) : Int) ≤ 60 := by omega
  go_enter Try.func3, Try.ntmps3
  go_wp2_with (first | (go_at_call 10; refine (unhide CF).mono ?_; rintro e w1 ⟨rfl, hb1⟩) | (go_at_call 11; refine Hid.out ?_))
  refine hide ?_
  rw [hC] at hb1
  refine (new_has w1 hb1 (by have := hb1.size; omega)).mono ?_
  rintro e w2 ⟨B, H, Mb, rfl, v2, b2, -⟩
  have HH0 : Hid (WP C w w2 B H Mb 0 0 [] (fun _ => .slice none 0 0) (.slice none 0 0)) := hide ⟨v2, Rr.nil _ _, (fun g hg => by cases hg)⟩
  clear v2 b2 hb1 CF
  go_wp2_with fail
  go_loopw [4, 5, 6, 30] (fun s4 s5 s6 d w' => ∃ (i now n : Nat) (L : List Wh.Item) (sv : Nat → Value), d = .int .i64 (i : Int) ∧ i ≤ len ∧ s5 = .int .i64 (now : Int) ∧ s6 = .int .i64 (now : Int) ∧ Hid (WP C w w' B H Mb now n L sv s4 ∧ L.length ≤ i ∧ n ≤ i ∧ now ≤ 300000)) (fun _ _ _ d _ => len - (intOf d).toNat)
  case atStart => exact ⟨0, 0, 0, [], _, rfl, by omega, rfl, rfl, hide ⟨unhide HH0, by decide, by decide, by decide⟩⟩
  case round =>
    obtain ⟨i, now, n, L, sv, rfl, hi, rfl, rfl, HI⟩ := hrel
    clear HH0
    by_cases hlt : i < len
    · obtain ⟨x, rfl, hx, hc0, hc1, hc2⟩ := (unhide hc) i hlt
      have hol : ∀ k u, k ≠ 0 → w.cell? (x.add (i * 3 + k)) = some u → wr.cell? ⟨(x.add (i * 3)).block, (x.add (i * 3)).off + k, none⟩ = some u := fun k u hk0 h => by
        have e2 : wr.cell? (x.add (i * 3 + k)) = some u := by rw [(unhide HI).1.v.low.cell (p := x.add (i * 3 + k)) (by unfold Addr.add; split <;> exact hx)]; exact h
        rw [← Go.Deep.add_add] at e2
        unfold Addr.add at e2
        rw [if_neg hk0] at e2
        exact e2
      have e0 : wr.cell? (x.add (i * 3)) = some (.int .u8 (kd i)) := by rw [(unhide HI).1.v.low.cell (p := x.add (i * 3)) (by unfold Addr.add; split <;> exact hx)]; exact hc0
      have e1 := hol 1 _ (by omega) hc1
      have e2 := hol 2 _ (by omega) hc2
      have hkd := (unhide hk) i hlt
      have HID := hide ((unhide hki) i hlt)
      clear hc0 hc1 hc2 hol
      generalize kd i = K at *
      generalize ki i = I at *
      generalize kt i = T at *
      obtain ⟨bx, hbx⟩ : ∃ b, wr.heap.size = b := ⟨_, rfl⟩
      obtain ⟨W3, hW3⟩ : ∃ W3, W3 = wr.alloc (.cells #[.int .u8 K, .int .i64 I, .int .i64 T] 28) := ⟨_, rfl⟩
      have b3 : Below wr.heap.size wr W3 := by rw [hW3]; exact below1 _ _
      have kb3 : Blk W3 bx 28 #[.int .u8 K, .int .i64 I, .int .i64 T] := by rw [hW3]; exact Blk.new_at _ _ _ hbx.symm
      have hgx : ¬ Foot H Mb sv bx := fun hF => by have := (unhide HI).1.v.has.lt bx hF; omega
      have hrx : u4.ownBlock ≠ some bx := fun hF => by have := ((unhide HI).1.row.lt bx hF).2; omega
      have hq0 := kb3.cell 0
      have hq1 := kb3.cell 1
      have hq2 := kb3.cell 2
      have hLl := (unhide HI).2.1
      have hnn := (unhide HI).2.2.1
      have hnw := (unhide HI).2.2.2
      have H3 := hide (And.intro ((unhide HI).1.below b3) (And.intro kb3 (And.intro hgx hrx)))
      have HW3 := hide hW3
      have e6 : K.tmod 3 = K % 3 := Int.tmod_eq_emod_of_nonneg hkd.1
      have hmd : K % 3 = 0 ∨ K % 3 = 1 ∨ K % 3 = 2 := by omega
      clear HI b3 kb3 hgx hrx hW3
      go_upto_region 11 with fail
      rw [← unhide HW3]
      clear HW3 e0 e1 e2
      go_upto_block 2 with fail
      go_cut [4, 5, 6, 36] (fun s4 s5 s6 _ wx => ∃ (now' n' : Nat) (L' : List Wh.Item) (sv' : Nat → Value) (pa : Option Addr) (capa N : Nat), s4 = .slice pa N capa ∧ s5 = .int .i64 (now' : Int) ∧ s6 = .int .i64 (now' : Int) ∧ N ≤ i + 1 ∧ now' ≤ 300000 ∧ Hid (WP C w wx B H Mb now' n' L' sv' (.slice pa N capa) ∧ L'.length = N ∧ n' ≤ i + 1))
      case first =>
        rcases hmd with hmd | hmd | hmd
        · as_aux_lemma =>
            by_cases ht : T < 1 ∨ 65535 < T
            · have CP := hide (wput (unhide H3).1.v (by omega) (by omega) I T (unhide HID))
              rw [show putE now L I T = 6 from if_pos ht, show putL now L I T = L from if_pos ht] at CP
              by_cases ht1 : T < 1
              · clear ht
                go_wp2_with (go_at_call 13; refine Hid.out ?_)
                refine hide ?_
                refine (unhide CP).mono ?_
                rintro e w5 ⟨rfl, n5, sv5, hn5, v5, k5⟩
                have H5 := hide ((unhide H3).1.step v5 k5)
                clear v5 k5 H3 CP
                go_wp2_with fail
                go_meet
                obtain ⟨af, cf, hff, -, -, -⟩ := (unhide H5).row.form
                exact ⟨_, _, _, _, af, cf, _, hff, rfl, rfl, by omega, by omega, hide ⟨by rw [← hff]; exact unhide H5, rfl, by omega⟩⟩
              · have ht2 : decide (T < 1) = false := decide_eq_false ht1
                have ht3 : 65535 < T := by omega
                clear ht
                go_wp2_with (go_at_call 13; refine Hid.out ?_)
                refine hide ?_
                refine (unhide CP).mono ?_
                rintro e w5 ⟨rfl, n5, sv5, hn5, v5, k5⟩
                have H5 := hide ((unhide H3).1.step v5 k5)
                clear v5 k5 H3 CP
                go_wp2_with fail
                go_meet
                obtain ⟨af, cf, hff, -, -, -⟩ := (unhide H5).row.form
                exact ⟨_, _, _, _, af, cf, _, hff, rfl, rfl, by omega, by omega, hide ⟨by rw [← hff]; exact unhide H5, rfl, by omega⟩⟩
            · have ht1 : decide (T < 1) = false := decide_eq_false (by omega)
              have ht2 : decide (65535 < T) = false := decide_eq_false (by omega)
              have CPl := hide (place_any W3 C u4 L (unhide H3).1.row (by omega) I)
              go_wp2_with (go_at_call 12; refine Hid.out ?_)
              refine hide ?_
              refine (unhide CPl).mono ?_
              rintro e w4 ⟨pp, rfl, hpl, b4⟩
              have H4 := hide (And.intro ((unhide H3).1.below b4) (And.intro ((unhide H3).2.1.below b4 (unhide H3).2.1.lt) (And.intro (unhide H3).2.2.1 (unhide H3).2.2.2)))
              have r0 := (unhide H4).2.1.cell 0
              have r1 := (unhide H4).2.1.cell 1
              have r2 := (unhide H4).2.1.cell 2
              clear b4 H3 CPl hq0 hq1 hq2
              rcases hpl with ⟨hm, rfl⟩ | ⟨k, y, hy, hyi, rfl⟩
              · obtain ⟨t, rfl⟩ := Int.eq_ofNat_of_zero_le (show 0 ≤ T by omega)
                have hE : putE now L I (t : Int) = 0 := by unfold putE; rw [if_neg ht, if_neg hm, if_neg (by omega)]
                have hL2 : putL now L I (t : Int) = L ++ [(I, now + t)] := by unfold putL; rw [if_neg ht, if_neg hm, if_neg (by omega), Int.toNat_natCast]
                obtain ⟨U, hU⟩ : ∃ U, now + t = U := ⟨_, rfl⟩
                rw [hU] at hL2
                have et : (now : Int) + (t : Int) = (U : Int) := by omega
                obtain ⟨gz, hgz⟩ : ∃ b, w4.heap.size = b := ⟨_, rfl⟩
                clear hm hU
                go_wp2_with (at_builtin; refine app_item rfl _ _ rfl C u4 L (I, U) rfl (unhide H4).1.row gz hgz rfl (by have := (unhide H4).1.v.cs; omega) (by omega) ?_)
                intro v' w5 o1 o2 o3
                have v5 := (unhide H4).1.v.grown o2 (fun g hg => ⟨(unhide H4).1.out g hg, ((unhide H4).1.row.lt g hg).1⟩)
                have kb5 : Blk w5 bx 28 #[.int .u8 K, .int .i64 I, .int .i64 (t : Int)] := wblk_grown (unhide H4).2.1 o2 (fun e => (unhide H4).2.2.2 e.symm)
                have s0 := kb5.cell 0
                have s1 := kb5.cell 1
                have s2 := kb5.cell 2
                have out5 : ∀ g, v'.ownBlock = some g → ¬ Foot H Mb sv g := fun g hg hF => by
                  rcases o3 g hg with h1 | h1
                  · exact (unhide H4).1.out g h1 hF
                  · have := (unhide H4).1.v.has.lt g hF
                    omega
                have CP := hide (wput v5 (by omega) (by omega) I (t : Int) (unhide HID))
                rw [hE, hL2] at CP
                have R5 := hide (And.intro o1 out5)
                clear v5 kb5 out5 o1 o2 o3 H4 r0 r1 r2
                go_wp2_with (go_at_call 13; refine Hid.out ?_)
                refine hide ?_
                refine (unhide CP).mono ?_
                rintro e w6 ⟨rfl, n6, sv6, hn6, v6, k6⟩
                have H6 : Hid (WP C w w6 B H Mb now n6 (L ++ [(I, U)]) sv6 v') := hide ⟨v6, Rr.fr (unhide R5).1 k6 (unhide R5).2, rr_out (unhide R5).1 (unhide R5).2 k6⟩
                clear v6 k6 CP R5
                go_wp2_with fail
                go_meet
                obtain ⟨af, cf, hff, -, -, -⟩ := (unhide H6).row.form
                exact ⟨_, _, _, _, af, cf, _, hff, rfl, rfl, by (rw [List.length_append]; simp; omega), by omega, hide ⟨by rw [← hff]; exact unhide H6, rfl, by omega⟩⟩
              · have hm : I ∈ L.map (·.1) := List.mem_map.2 ⟨y, List.mem_of_getElem? hy, hyi⟩
                have CP := hide (wput (unhide H4).1.v (by omega) (by omega) I T (unhide HID))
                rw [show putE now L I T = 9 by unfold putE; rw [if_neg ht, if_pos hm], show putL now L I T = L by unfold putL; rw [if_neg ht, if_pos hm]] at CP
                have hk0 : (0 : Int) ≤ (k : Int) := by omega
                clear hm hy hyi ht
                go_wp2_with (go_at_call 13; refine Hid.out ?_)
                refine hide ?_
                refine (unhide CP).mono ?_
                rintro e w5 ⟨rfl, n5, sv5, hn5, v5, k5⟩
                have H5 := hide ((unhide H4).1.step v5 k5)
                clear v5 k5 H4 CP
                go_wp2_with fail
                go_meet
                obtain ⟨af, cf, hff, -, -, -⟩ := (unhide H5).row.form
                exact ⟨_, _, _, _, af, cf, _, hff, rfl, rfl, by omega, by omega, hide ⟨by rw [← hff]; exact unhide H5, rfl, by omega⟩⟩
        · as_aux_lemma =>
            have CPl := hide (place_any W3 C u4 L (unhide H3).1.row (by omega) I)
            go_wp2_with (go_at_call 12; refine Hid.out ?_)
            refine hide ?_
            refine (unhide CPl).mono ?_
            rintro e w4 ⟨pp, rfl, hpl, b4⟩
            have H4 := hide (And.intro ((unhide H3).1.below b4) ((unhide H3).2.1.below b4 (unhide H3).2.1.lt))
            have r0 := (unhide H4).2.cell 0
            have r1 := (unhide H4).2.cell 1
            have r2 := (unhide H4).2.cell 2
            clear b4 H3 CPl hq0 hq1 hq2
            rcases hpl with ⟨hm, rfl⟩ | ⟨k, y, hy, hyi, rfl⟩
            · have CD := hide (wdrop_none (unhide H4).1.v I (unhide HID) hm)
              clear hm
              go_wp2_with (go_at_call 14; refine Hid.out ?_)
              refine hide ?_
              refine (unhide CD).mono ?_
              rintro e w5 ⟨rfl, v5, b5⟩
              have H5 := hide ((unhide H4).1.below b5)
              clear v5 b5 H4 CD
              go_wp2_with fail
              go_meet
              obtain ⟨af, cf, hff, -, -, -⟩ := (unhide H5).row.form
              exact ⟨_, _, _, _, af, cf, _, hff, rfl, rfl, by omega, by omega, hide ⟨by rw [← hff]; exact unhide H5, rfl, by omega⟩⟩
            · subst hyi
              obtain ⟨yi, yd⟩ := y
              have hym := List.mem_of_getElem? hy
              have CD := hide (wdrop (unhide H4).1.v (by omega) yi (unhide HID) yd hym)
              have hfr := (unhide H4).1.v.rw.fresh
              have HER := hide (items_erase hfr hy)
              have hkN := (List.getElem?_eq_some_iff.1 hy).1
              have hblen := but_len hfr hym
              clear hym hfr hy
              go_wp2_with (go_at_call 14; refine Hid.out ?_)
              refine hide ?_
              refine (unhide CD).mono ?_
              rintro e w5 ⟨rfl, sv5, v5, k5⟩
              have R5 := hide (And.intro v5 (And.intro ((unhide H4).1.row.fr k5 (unhide H4).1.out) (rr_out (unhide H4).1.row (unhide H4).1.out k5)))
              clear v5 k5 CD r0 r1 r2 H4
              rcases (unhide R5).2.1.2 with ⟨hv, h0⟩ | ⟨gd, capd, cur, hv, hgB, -, hcd, hcm, -⟩
              · omega
              · subst hv
                obtain ⟨N, hN⟩ : ∃ n, L.length = n := ⟨_, rfl⟩
                have HNN := hide hN
                unfold maxLen at hcm
                have hrow : Rr w5 C (.slice (some ⟨gd, 0, none⟩) L.length capd) L := (unhide R5).2.1
                obtain ⟨pre, hpre⟩ : ∃ p, L.take k = p := ⟨_, rfl⟩
                obtain ⟨post, hpost⟩ : ∃ p, L.drop (k + 1) = p := ⟨_, rfl⟩
                obtain ⟨pre2, hpre2⟩ : ∃ p, L.take (k + 1) = p := ⟨_, rfl⟩
                have hs1 : pre ++ L.drop k = L := by rw [← hpre]; exact List.take_append_drop k L
                have hs2 : pre2 ++ post = L := by rw [← hpre2, ← hpost]; exact List.take_append_drop (k + 1) L
                have hpl : pre.length = k := by rw [← hpre, List.length_take]; omega
                have hpl2 : pre2.length = k + 1 := by rw [← hpre2, List.length_take]; omega
                have hql : post.length + (k + 1) = N := by rw [← hN, ← hs2, List.length_append]; omega
                obtain ⟨Z, hZ⟩ : ∃ Z, w5.heap.size = Z := ⟨_, rfl⟩
                have rA : Rr w5 C (.slice (some ⟨gd, 0, none⟩) (pre ++ L.drop k).length capd) (pre ++ L.drop k) := by rw [hs1]; exact hrow
                have rB : Rr w5 C (.slice (some ⟨gd, 0, none⟩) (pre2 ++ post).length capd) (pre2 ++ post) := by rw [hs2]; exact hrow
                have n1 := fun w' (h : Below Z w5 w') => (wnews_pre rA capd).held w' (by rw [hZ]; exact h)
                have n3 := fun w' (h : Below Z w5 w') => (wnews_from rB (by rw [hs2, hN]) (show N ≤ capd by omega) (capd - pre2.length)).held w' (by rw [hZ]; exact h)
                obtain ⟨k1, hk1⟩ : ∃ k1, k + 1 = k1 := ⟨_, rfl⟩
                rw [hpl] at n1
                rw [hpl2, hk1] at n3
                have hp0 : (0 : Int) ≤ (k : Int) := by omega
                have hp1 : (k1 : Int) ≤ (capd : Int) := by omega
                have hp2 : (k1 : Int) ≤ (N : Int) := by omega
                have hp3 : (N : Int) ≤ (capd : Int) := by omega
                have hp4 : (k : Int) ≤ (capd : Int) := by omega
                have hp5 : (k : Int) ≤ (N : Int) := by omega
                have hp6 : (0 : Int) ≤ (k1 : Int) := by omega
                have hp7 : (k : Int) + 1 = (k1 : Int) := by omega
                have hp8 : IntKind.i64.wrap (k1 : Int) = (k1 : Int) := by rw [IntKind.wrap_i64]; omega
                have BE : ∀ o : Obj, Below Z w5 (w5.alloc o).drew := fun o => by rw [← hZ]; exact (below1 w5 o).drew
                have HBE := hide BE
                have HI2 := hide (And.intro n1 n3)
                have HL := hide (show k ≤ 5000 ∧ post.length ≤ 5000 by omega)
                have HFIN : Hid (∀ v3 w3, w3.ownsRow Z 32 2 v3 (k + post.length) (irw pre ++ irw post) → Below Z w5 w3 → WP C w w3 B H Mb now n (but yi L) sv5 v3) := hide (fun v3 w3 o3 S3 => by
                  have hz := (unhide R5).1.cs
                  have e : irw pre ++ irw post = irw (but yi L) := by rw [← irw_app, ← unhide HER, hpre, hpost]
                  have hlen : k + post.length = (but yi L).length := by rw [← unhide HER, hpre, hpost, List.length_append, hpl]
                  rw [e, hlen] at o3
                  refine ⟨(unhide R5).1.below (by rw [hZ]; exact S3), World.ownsRow.mono o3 (by omega), fun g hg hF => ?_⟩
                  have h1 := (unhide R5).1.has.lt g hF
                  have h2 := (o3.lt g hg).1
                  omega)
                have hbl9 : (but yi L).length ≤ i + 1 := by omega
                rw [hN]
                clear hN BE n1 n3 rA rB hrow hpre hpost hpre2 hs1 hs2 hpl hpl2 hql hblen hk1
                go_wp2_with fail
                go_region_law (first
                  | (refine wstep_own rfl _ _ rfl hZ _ 0 [] rfl (wown_empty (Nat.le_refl _) hZ) k (irw pre) (by first | exact (unhide HI2).1 _ ((unhide HBE) _)) (by have := (unhide HL).1; omega) (by first | exact (unhide HBE) _) ?_; intro v1 w1 o1 S1 K1; rw [Nat.zero_add, List.nil_append] at o1)
                  | (refine wstep_own rfl _ _ rfl hZ _ k (irw pre) rfl o1 post.length (irw post) (by first | exact (unhide HI2).2 _ S1) (by have := (unhide HL).1; have := (unhide HL).2; omega) S1 ?_; intro v3 w3 o3 S3 K3))
                all_goals
                  have H9 := hide (unhide HFIN v3 w3 o3 S3)
                  go_wp2_with fail
                  all_goals
                    go_meet
                    obtain ⟨af, cf, hff, -, -, -⟩ := (unhide H9).row.form
                    exact ⟨_, _, _, _, af, cf, _, hff, rfl, rfl, by omega, by omega, hide ⟨by rw [← hff]; exact unhide H9, rfl, by omega⟩⟩
        · as_aux_lemma =>
            obtain ⟨k, hk⟩ : ∃ k : Nat, (k : Int) = max 0 (min T 65535) := ⟨(max 0 (min T 65535)).toNat, by omega⟩
            have hk9 : k ≤ 65535 := by omega
            obtain ⟨U, hU⟩ : ∃ U, now + k = U := ⟨_, rfl⟩
            have et : (now : Int) + (k : Int) = (U : Int) := by omega
            have HK := hide hk
            clear hk
            go_upto_region 28 with fail
            go_cut [11, 36] (fun s11 _ wx => s11 = .int .i64 (k : Int) ∧ wx = W3)
            case first =>
              clear et
              go_wp2_with fail
              all_goals
                go_meet
                exact ⟨congrArg (Value.int .i64) (by have := unhide HK; omega), rfl⟩
            case rest =>
            obtain ⟨rfl, hwc⟩ := hcut
            rw [hwc]
            clear hwc
            by_cases hbig : 300000 < U
            · have hbig2 : (300000 : Int) < (U : Int) := by omega
              have HE : Hid (Below C w W3) := hide (unhide H3).1.v.low
              clear hU
              go_wp2_with fail
              go_ret
              exact ⟨rfl, by first | exact unhide HE | (rw [hC]; exact unhide HE)⟩
            · have hbig2 : ¬ (300000 : Int) < (U : Int) := by omega
              have hbd : decide ((300000 : Int) < (U : Int)) = false := decide_eq_false hbig2
              have hdue := (unhide H3).1.v.rw.due
              have CFr := hide (fire_row W3 C u4 L (unhide H3).1.row (by omega) now k U hU (by omega) (fun x hx => ⟨(hdue x hx).1, by have := (hdue x hx).2; omega⟩))
              have HRI := hide (ran_is now L (fun x hx => (hdue x hx).1) k)
              have HU := hide hU
              have hcl := cat_len now L (fun x hx => (hdue x hx).1) k
              clear hU hdue
              go_wp2_with (go_at_call 15; refine Hid.out ?_)
              refine hide ?_
              refine (unhide CFr).mono ?_
              rintro e w4 ⟨vo, vl, rfl, q1, q2, b4⟩
              have H4 := hide (And.intro ((unhide H3).1.below b4) ((unhide H3).2.1.below b4 (unhide H3).2.1.lt))
              have hfo : ∀ (v : Value) (g : Nat), v.ownBlock = some g → W3.heap.size ≤ g → ¬ Foot H Mb sv g := fun v g hg hge hF => by
                have := (unhide H3).1.v.has.lt g hF
                omega
              have RO := hide (And.intro q1 (fun g hg => hfo vo g hg (q1.lt g hg).1))
              have RL := hide (And.intro (show Rr w4 C vl (later U L) from World.ownsRow.mono q2 (unhide H3).1.v.cs) (fun g hg => hfo vl g hg (q2.lt g hg).1))
              have r2 := (unhide H4).2.cell 2
              have CA := hide (wadvance (unhide H4).1.v (by omega) T k (by rw [unhide HK]))
              rw [unhide HRI, unhide HU] at CA
              clear hfo q1 q2 b4 H3 CFr hq0 hq1 hq2
              go_wp2_with (go_at_call 16; refine Hid.out ?_)
              refine hide ?_
              refine (unhide CA).mono ?_
              rintro e w5 ⟨va, rfl, ra, sv5, v5, k5, oa⟩
              have H5 : Hid (WP C w w5 B H Mb U n (later U L) sv5 vl) := hide ⟨v5, Rr.fr (unhide RL).1 k5 (unhide RL).2, rr_out (unhide RL).1 (unhide RL).2 k5⟩
              have RO5 := hide (k5.row (unhide RO).1 (unhide RO).2)
              have RA5 := hide ra
              have hll := later_len U L
              obtain ⟨R, hR⟩ : ∃ R, (cat now L k).map (·.1) = R := ⟨_, rfl⟩
              try simp only at RA5
              rw [hR] at RO5 RA5
              have hRl : R.length ≤ 60 := by rw [← hR, List.length_map]; omega
              clear v5 k5 ra oa CA RO RL H4 r2 hR hcl
              obtain ⟨pa, capa, hfa, hca⟩ := (unhide RO5).form
              obtain ⟨pb, capb, hfb, hcb⟩ := (unhide RA5).form
              subst hfa
              subst hfb
              have HCA := hide hca
              have HCB := hide hcb
              obtain ⟨N, hN⟩ : ∃ N, R.length = N := ⟨_, rfl⟩
              rw [hN] at hRl ⊢
              have HN := hide hN
              clear hca hcb hN
              go_wp2_with fail
              go_loopw [128] (fun d w' => ∃ j m : Nat, d = .int .i64 (j : Int) ∧ j ≤ N ∧ w' = w5.drewN m) (fun d _ => N - (intOf d).toNat)
              case atStart => exact ⟨0, 0, rfl, by omega, rfl⟩
              case round =>
                obtain ⟨j, m, rfl, hj, rfl⟩ := hrel
                by_cases hl : j < N
                · obtain ⟨x9, hx9⟩ : ∃ x, R[j]? = some x := ⟨R[j]'(by rw [unhide HN]; exact hl), List.getElem?_eq_getElem _⟩
                  obtain ⟨ga, rfl, ca⟩ := (unhide HCA) j x9 hx9
                  obtain ⟨gb, rfl, cb⟩ := (unhide HCB) j x9 hx9
                  clear hx9
                  go_wp2_with fail
                  go_quiet (fail)
                  go_wp2_with fail
                  go_roundw
                  case rel => exact ⟨j + 1, m + nq, by first | rfl | go_num, by omega, by first | rfl | rw [World.drewN_drewN]⟩
                  case measure => simp [intOf]; omega
                · have hjl : j = N := by omega
                  subst hjl
                  have H9 := hide ((unhide H5).below (below_drewN _ m))
                  clear hl hj H5
                  go_wp2_with fail
                  go_meet
                  obtain ⟨af, cf, hff, -, -, -⟩ := (unhide H9).row.form
                  exact ⟨_, _, _, _, af, cf, _, hff, rfl, rfl, by omega, by omega, hide ⟨by rw [← hff]; exact unhide H9, rfl, by omega⟩⟩
      case rest => as_aux_lemma =>
        clear H3 hq0 hq1 hq2 hmd e6 hkd hLl hnn hnw HID
        obtain ⟨now', n', L', sv', pa, capa, N, rfl, rfl, rfl, hN61, hn3, H4⟩ := hcut
        obtain ⟨a3, cap3, hf3, -, -, hc3⟩ := (unhide H4).1.row.form
        have HC3 := hide hc3
        have hpa : pa = a3 := by cases hf3; rfl
        subst hpa
        have HNN := hide (unhide H4).2.1
        have HDU := hide (unhide H4).1.v.rw.due
        clear hf3 hc3
        go_wp2_with fail
        go_loopw [15, 143] (fun s15 d w' => ∃ j f : Nat, s15 = .int .i64 (f : Int) ∧ d = .int .i64 (j : Int) ∧ j ≤ N ∧ f ≤ 1048576 ∧ Hid (Below wc.heap.size wc w' ∧ Fst now' L' j f)) (fun _ d _ => N - (intOf d).toNat)
        case atStart => exact ⟨0, 1048576, rfl, rfl, by omega, by omega, hide ⟨Below.refl _ _, ⟨fun p x hp => by omega, .inl ⟨rfl, rfl⟩⟩⟩⟩
        case round =>
          obtain ⟨j, f, rfl, rfl, hj, hf, HJ⟩ := hrel
          by_cases hlt2 : j < N
          · obtain ⟨y, hy⟩ : ∃ y, L'[j]? = some y := ⟨L'[j]'(by rw [unhide HNN]; exact hlt2), List.getElem?_eq_getElem _⟩
            obtain ⟨g3, rfl, c0, c1⟩ := (unhide HC3) j y hy
            have d0 := held4 c0 wr (unhide HJ).1
            have d1 := held4 c1 wr (unhide HJ).1
            have hym := List.mem_of_getElem? hy
            obtain ⟨hy1, hy2⟩ := unhide HDU y hym
            obtain ⟨dd, hdd⟩ : ∃ d, y.2 - now' = d := ⟨_, rfl⟩
            have hsub : (y.2 : Int) - (now' : Int) = (dd : Int) := by omega
            have hyd : y.2 ≤ 1000000000000 := by omega
            have hdd2 : dd ≤ 65535 := by omega
            obtain ⟨yi, yd⟩ := y
            simp only at d0 d1 hsub hy1 hy2 hyd hdd
            obtain ⟨W5, hW5⟩ : ∃ W5, W5 = wr.alloc (.cells #[.int .i64 yi, .int .i64 (yd : Int)] 32) := ⟨_, rfl⟩
            obtain ⟨by5, hby⟩ : ∃ b, wr.heap.size = b := ⟨_, rfl⟩
            have b5 : Below wr.heap.size wr W5 := by rw [hW5]; exact below1 _ _
            have kb5 : Blk W5 by5 32 #[.int .i64 yi, .int .i64 (yd : Int)] := by rw [hW5]; exact Blk.new_at _ _ _ hby.symm
            have HB5 := hide ((unhide HJ).1.trans (b5.mono (unhide HJ).1.size))
            have s0 := kb5.cell 0
            have s1 := kb5.cell 1
            have CLf := hide (wleft ((unhide H4).1.below (unhide HB5)).v yi ((unhide H4).1.v.rw.isI _ hym) yd hym)
            rw [hdd] at CLf
            have HY := hide (And.intro hy (And.intro hym hdd))
            have HW5 := hide hW5
            clear c0 c1 hy hym hW5 b5 kb5 hdd
            by_cases hle : f ≤ dd
            · have hmn : min (f : Int) (dd : Int) = (f : Int) := by omega
              have HNX : Hid (Below wc.heap.size wc W5 ∧ Fst now' L' (j + 1) f) := hide ⟨unhide HB5, ⟨fun p z hp hz => by
                by_cases e : p = j
                · subst e
                  have h1 := (unhide HY).1
                  rw [hz] at h1
                  cases h1
                  have := (unhide HY).2.2
                  show f ≤ yd - now'
                  omega
                · exact (unhide HJ).2.le p z (by omega) hz, by
                rcases (unhide HJ).2.ex with ⟨h1, h2⟩ | h1
                · exact absurd hle (by omega)
                · exact .inr h1⟩⟩
              clear HJ
              go_upto_region 48 with fail
              rw [← unhide HW5]
              go_wp2_with (go_at_call 17; refine (unhide CLf).mono ?_; rintro e w6 ⟨rfl, rfl⟩)
              go_roundw
              case rel => exact ⟨j + 1, f, rfl, by first | rfl | go_num, by omega, by omega, HNX⟩
              case measure => simp [intOf]; omega
            · have hmn : min (f : Int) (dd : Int) = (dd : Int) := by omega
              have HNX : Hid (Below wc.heap.size wc W5 ∧ Fst now' L' (j + 1) dd) := hide ⟨unhide HB5, ⟨fun p z hp hz => by
                by_cases e : p = j
                · subst e
                  have h1 := (unhide HY).1
                  rw [hz] at h1
                  cases h1
                  have := (unhide HY).2.2
                  show dd ≤ yd - now'
                  omega
                · have := (unhide HJ).2.le p z (by omega) hz
                  omega, .inr ⟨_, (unhide HY).2.1, (unhide HY).2.2.symm⟩⟩⟩
              clear HJ
              go_upto_region 48 with fail
              rw [← unhide HW5]
              go_wp2_with (go_at_call 17; refine (unhide CLf).mono ?_; rintro e w6 ⟨rfl, rfl⟩)
              go_roundw
              case rel => exact ⟨j + 1, dd, rfl, by first | rfl | go_num, by omega, by omega, HNX⟩
              case measure => simp [intOf]; omega
          · have hjn : j = N := by omega
            subst hjn
            have H7 := hide ((unhide H4).1.below (unhide HJ).1)
            have CN := hide (next_any wr (unhide H7).v.has (unhide H7).v.rw)
            go_wp2_with (go_at_call 18; refine Hid.out ?_)
            refine hide ?_
            refine (unhide CN).mono ?_
            rintro e w8 ⟨vn, rfl, hnx, b8⟩
            have H8 := hide ((unhide H7).below b8)
            have CLn := hide (wlen (unhide H8).v)
            have CNw := hide (wnow (unhide H8).v)
            rw [unhide HNN] at CLn
            have HFIN : Hid (WP C w w8 B H Mb now' n' L' sv' (.slice pa j capa) ∧ L'.length ≤ i + 1 ∧ n' ≤ i + 1 ∧ now' ≤ 300000) := hide ⟨unhide H8, by rw [unhide HNN]; exact hN61, (unhide H4).2.2, hn3⟩
            rcases hnx with ⟨hL, rfl⟩ | ⟨m, hm, rfl⟩
            · have hj0 : j = 0 := by rw [← unhide HNN, hL]; rfl
              subst hj0
              clear hL H7 CN b8 HJ H4 hlt2 hj
              go_wp2_with (first | (go_at_call 19; refine (unhide CLn).mono ?_; rintro e w9 ⟨rfl, rfl⟩) | (go_at_call 20; refine (unhide CNw).mono ?_; rintro e w10 ⟨rfl, rfl⟩))
              go_roundw
              case rel => exact ⟨i + 1, now', n', L', sv', by go_num, by omega, rfl, rfl, HFIN⟩
              case measure => simp [intOf]; omega
            · obtain ⟨z, hz, hze⟩ := hm.mem
              have hjp : 0 < j := by rw [← unhide HNN]; exact List.length_pos_of_mem hz
              have hfm : f = m - now' := by
                have h1 := (unhide HJ).2
                obtain ⟨p, hp, hpe⟩ := List.getElem_of_mem hz
                have h2 := h1.le p z (by rw [unhide HNN] at hp; exact hp) (by rw [List.getElem?_eq_getElem hp, hpe])
                rcases h1.ex with ⟨_, h3⟩ | ⟨u, hu, h3⟩
                · omega
                · have := hm.le u hu
                  omega
              subst hfm
              have hjd : decide ((0 : Int) < (j : Int)) = true := decide_eq_true (by omega)
              clear hm hz hze H7 CN b8 HJ H4 hlt2 hj
              go_wp2_with (first | (go_at_call 19; refine (unhide CLn).mono ?_; rintro e w9 ⟨rfl, rfl⟩) | (go_at_call 20; refine (unhide CNw).mono ?_; rintro e w10 ⟨rfl, rfl⟩))
              go_roundw
              case rel => exact ⟨i + 1, now', n', L', sv', by go_num, by omega, rfl, rfl, HFIN⟩
              case measure => simp [intOf]; omega
    · obtain rfl : i = len := by omega
      have HE : Hid (Below C w wr) := hide (unhide HI).1.v.low
      clear HI
      go_wp2_with fail
      go_ret
      exact ⟨rfl, by rw [hC]; exact unhide HE⟩
end Go.Proofs.Ytkglaklkbodjkaa
