/- All that waits is done. -/
import Derived.Test.YtjjdkkdnlnbedaaGreatEnMu
import Derived.Deep.DeepCutAuto
import Derived.Scope
namespace Go.Proofs.YtjjdkkdnlnbedaaGreat
open Go.RowKit Kt Qu
set_option linter.unusedVariables false

theorem hd_keeps {e : En} {q i : Nat} (hq : q ≤ 2) (hi : i ∈ Mk.listOf e.M) (hf : flg q (e.cp i) = true) (ho : Onl e) : (e.hd q i).2.2.n = e.n ∧ (e.hd q i).2.2.M = e.M ∧ Onl (e.hd q i).2.2 := by
  have h2 := congrArg Prod.snd (hd_yes hq hi hf).2
  simp only at h2
  rw [h2]
  have key : ∀ c : Cp, c.on = (e.cp i).on → Onl (e.set i c) := fun c hc k h16 hb => by
    obtain ⟨k1, k2⟩ := ho k h16 hb
    refine ⟨k1, ?_⟩
    by_cases z : k = i
    · subst z; rw [En.set_at, hc]; exact k2
    · rw [En.set_ne e c z]; exact k2
  rcases (show q = 0 ∨ q = 1 ∨ q = 2 by omega) with rfl | rfl | rfl
  · exact ⟨rfl, rfl, key _ (look_flags e _).2.2.2.1⟩
  · exact ⟨rfl, rfl, key _ (look_flags e _).2.2.2.1⟩
  · exact ⟨rfl, rfl, key _ (look_flags e _).2.2.2.1⟩
def Fq (q : Nat) : Nat := if q = 0 then 35 else if q = 1 then 33 else 34
theorem fq_eg (q : Nat) (args : Array Value) (w : World) : (callFunc (Fq q) args).run Tryz.prog w = .ok (.enter (Fq q) args) w := by
  unfold Fq
  split
  · kernel_rfl
  · split
    · kernel_rfl
    · kernel_rfl
section
variable {w w' : World} {l : Loc} {e : En}
theorem Es.hd (h : Es w l e) (ho : Onl e) (q : Nat) (cpu : Int) : Calls Tryz.prog (Fq q) #[.pointer (some ⟨l.g, 0, none⟩), .int .i64 cpu] w fun r w' => ∃ v, r = .returned (.tuple #[v, .int .i64 (e.hd q cpu).2.1]) ∧ Rg rfd w' w.heap.size v (e.hd q cpu).1 ∧ Es w' l (e.hd q cpu).2.2 ∧ Ft (efoot l) w w' := by
  unfold Fq En.hd
  split
  · exact kick_any h ho cpu
  · split
    · exact irq_any h ho cpu
    · exact soft_any h ho cpu
theorem Es.hd_len (h : Es w l e) {q i : Nat} (hq : q ≤ 2) (hi : i ∈ Mk.listOf e.M) (hn : i < e.n) (hf : flg q (e.cp i) = true) : (e.hd q i).1.length ≤ 384 := by
  have h2 := congrArg Prod.fst (hd_yes hq hi hf).2
  simp only at h2
  rw [h2]
  have := h.len_le hn
  rcases (show q = 0 ∨ q = 1 ∨ q = 2 by omega) with rfl | rfl | rfl
  · exact Nat.zero_le _
  · show (e.fired i false).length ≤ 384
    unfold En.fired En.firL
    rw [List.length_map]
    exact Nat.le_trans (List.length_filter_le _ _) this
  · show (e.fired i true).length ≤ 384
    unfold En.fired En.firL
    rw [List.length_map]
    exact Nat.le_trans (List.length_filter_le _ _) this
/-- What each round of Settle has at hand. -/
structure SJ (w0 : World) (l : Loc) (e0 : En) (w' : World) (acc : List Frd) (e : En) (v : Value) : Prop where
  es : Es w' l e
  ho : Onl e
  re : Reach e0 acc e
  row : Rg rfd w' w0.heap.size v acc
  ft : Ft (efoot l) w0 w'
  sz : acc.length + 384 * muE e e.n ≤ 24576
  n : e.n = e0.n
set_option maxRecDepth 20000 in
set_option maxHeartbeats 2000000 in
theorem settle_any (h : Es w l e) (ho : Onl e) : Calls Tryz.prog 43 #[.pointer (some ⟨l.g, 0, none⟩)] w fun r w' => ∃ v, r = .returned v ∧ Rg rfd w' w.heap.size v e.settle.1 ∧ Es w' l e.settle.2 ∧ Ft (efoot l) w w' := by
  have HH := hide h
  have H0 : Hid (SJ w l e w [] e (.slice none 0 0)) := hide ⟨h, ho, Reach.refl e h.n16, Rg.nil _ _, Ft.refl _ _, by have := muE_le e e.n; have := h.n16; simp; omega, rfl⟩
  clear h ho
  go_enter Tryz.func43, Tryz.ntmps43
  go_wp2_with fail
  refine wp_scope_straight ?_
  go_wp2_with fail
  refine wp_label ?_
  go_wp2_with fail
  go_loopw [3] (fun s3 w' => ∃ (acc : List Frd) (e1 : En) (a : Option Addr) (cap n : Nat), s3 = .slice a n cap ∧ n = acc.length ∧ Hid (SJ w l e w' acc e1 (.slice a n cap))) (fun _ w' => muW l.r l.d w' e.n)
  case atStart => exact ⟨[], e, none, 0, 0, rfl, rfl, H0⟩
  case round =>
    obtain ⟨acc, e1, a1, cap1, n1, rfl, hn1, HJ⟩ := hrel
    generalize wr = wo at *
    have HN1 := hide hn1
    clear hn1
    have hJ := unhide HJ
    obtain ⟨BS, hBS⟩ : ∃ b, wo.heap.size = b := ⟨_, rfl⟩
    obtain ⟨W2, hW2⟩ : ∃ W2, W2 = wo.alloc (.cells #[.func (.func 35) #[.pointer (some ⟨l.g, 0, none⟩)] #[], .func (.func 33) #[.pointer (some ⟨l.g, 0, none⟩)] #[], .func (.func 34) #[.pointer (some ⟨l.g, 0, none⟩)] #[]] 84) := ⟨_, rfl⟩
    have b2 : Below wo.heap.size wo W2 := by rw [hW2]; exact one_below _ _
    have k2 : Blk W2 BS 84 #[.func (.func 35) #[.pointer (some ⟨l.g, 0, none⟩)] #[], .func (.func 33) #[.pointer (some ⟨l.g, 0, none⟩)] #[], .func (.func 34) #[.pointer (some ⟨l.g, 0, none⟩)] #[]] := by rw [hW2]; exact Blk.new_at _ _ _ hBS.symm
    have nBS : ¬ efoot l BS := fun q => by have := hJ.es.lt BS q; omega
    have H2 := hide (And.intro (hJ.es.below b2) (And.intro k2 (And.intro nBS b2)))
    have HLT := hide (fun k (hk : efoot l k) => hJ.es.lt k hk)
    have HO := hide hJ.ho
    have HL1 := hide (fun (j i : Nat) (hj : (Mk.listOf e1.M)[j]? = some i) => show i < e1.n from by
      have := (Mk.mem_list e1.M i).1 (List.mem_of_getElem? hj)
      exact (hJ.ho i this.1 this.2).1)
    have hlen : (Mk.listOf e1.M).length ≤ 16 := Mk.listOf_len e1.M
    have HW2 := hide hW2
    clear hJ b2 k2 nBS hW2
    go_wp2_with fail
    rw [← unhide HW2]
    clear HW2
    go_loopw [3, 18] (fun s3 s18 w' => ∃ q : Nat, s18 = .int .i64 (q : Int) ∧ q ≤ 3 ∧ s3 = .slice a1 n1 cap1 ∧ Hid (Es w' l e1 ∧ Ft (efoot l) W2 w' ∧ ∀ q', q' < q → ∀ k ∈ Mk.listOf e1.M, flg q' (e1.cp k) = false)) (fun _ d _ => 3 - (intOf d).toNat)
    case atStart => exact ⟨0, rfl, by omega, rfl, hide ⟨(unhide H2).1, Ft.refl _ _, fun q' hq => by omega⟩⟩
    case round =>
      obtain ⟨q, rfl, hq, rfl, HQ⟩ := hrel
      generalize wr = wq at *
      by_cases hq3 : q < 3
      · obtain ⟨h3, f3, hfl⟩ := unhide HQ
        have k3 := (unhide H2).2.1.ft f3 (unhide H2).2.2.1
        have cq : wq.cell? ⟨BS, q, none⟩ = some (.func (.func (Fq q)) #[.pointer (some ⟨l.g, 0, none⟩)] #[]) := by
          rcases (show q = 0 ∨ q = 1 ∨ q = 2 by omega) with rfl | rfl | rfl
          · exact blkAt k3 0 _ rfl
          · exact blkAt k3 1 _ rfl
          · exact blkAt k3 2 _ rfl
        have g2 : wq.cell? ⟨l.g, 2, none⟩ = some (.int .u32 (e1.M : Int)) := blkAt h3.box 2 _ rfl
        have CM := hide h3.list
        have eg := fq_eg q
        have CF := hide (fun w' (h' : Es w' l e1) (i : Nat) => h'.hd (unhide HO) q (i : Int))
        have HQ3 := hide (And.intro h3 (And.intro f3 hfl))
        have HFQ : Hid (Fq q = Fq q) := hide rfl
        obtain ⟨n, hn⟩ : ∃ n, (Mk.listOf e1.M).length = n := ⟨_, rfl⟩
        have hn16 : n ≤ 16 := by omega
        have HN := hide hn
        clear h3 f3 hfl k3 HQ hn HFQ
        generalize Fq q = F at *
        go_wp2_with (go_at_call 27; refine Hid.out ?_)
        refine hide ?_
        refine (unhide CM).mono ?_
        rintro r w4 ⟨v4, rfl, row4, hb4⟩
        obtain ⟨a4, cap4, hf, -⟩ := row4.form
        rw [Mk.ints_len, unhide HN] at hf
        subst hf
        have H4 := hide (And.intro row4 (And.intro hb4 ((unhide HQ3).1.below hb4)))
        have HLT4 := hide (fun k (hk : efoot l k) => (unhide HQ3).1.lt k hk)
        clear row4 hb4 CM g2
        go_wp2_with fail
        go_loopw [3, 28] (fun s3 s28 w' => ∃ j : Nat, s28 = .int .i64 (j : Int) ∧ j ≤ n ∧ s3 = .slice a1 n1 cap1 ∧ Hid (Es w' l e1 ∧ Ft (efoot l) w4 w' ∧ ∀ j' i', j' < j → (Mk.listOf e1.M)[j']? = some i' → flg q (e1.cp i') = false)) (fun _ d _ => n - (intOf d).toNat)
        case atStart => exact ⟨0, rfl, by omega, rfl, hide ⟨(unhide H4).2.2, Ft.refl _ _, fun j' i' hj => by omega⟩⟩
        case round =>
          obtain ⟨j, rfl, hj, rfl, HJJ⟩ := hrel
          by_cases hlt : j < n
          · obtain ⟨i, hi⟩ : ∃ i, (Mk.listOf e1.M)[j]? = some i := ⟨_, List.getElem?_eq_getElem (by rw [unhide HN]; exact hlt)⟩
            obtain ⟨h5, f5, hfl5⟩ := unhide HJJ
            have hrow := (unhide H4).1.ft f5 (unhide HLT4)
            obtain ⟨a6, cap6, hf6, hc6⟩ := hrow.form
            obtain ⟨g6, hg6, cell6⟩ := hc6 j (i : Int) (by unfold Mk.ints; rw [List.getElem?_map, hi]; rfl)
            rw [Mk.ints_len, unhide HN] at hf6
            obtain ⟨rfl, -⟩ : a4 = a6 ∧ cap4 = cap6 := by cases hf6; exact ⟨rfl, rfl⟩
            subst hg6
            have CF5 := hide (unhide CF wr h5 i)
            have him := List.mem_of_getElem? hi
            have H5 := hide (And.intro h5 (And.intro f5 (And.intro hfl5 hi)))
            clear h5 f5 hfl5 hrow hc6 hf6
            cases hfg : flg q (e1.cp i) with
            | true =>
              rw [(hd_yes (by omega) him hfg).1] at CF5
              go_wp2_with fail
              refine (unhide CF5).mono ?_
              rintro r w7 ⟨v7, rfl, row7, h7, f7⟩
              have hin := unhide HL1 j i hi
              obtain ⟨kn, kM, kO⟩ := hd_keeps (by omega) him hfg (unhide HO)
              obtain ⟨mn, mlt⟩ := muE_hd (by omega) him hin hfg
              have hln := (unhide H5).1.hd_len (by omega) him hin hfg
              have hst := (unhide HJ).re.step (by omega) hi hin hfg (unhide HQ3).2.2 (unhide H5).2.2.1
              obtain ⟨EN, hEN⟩ : ∃ EN, (En.hd q e1 (i : Int)).2.2 = EN := ⟨_, rfl⟩
              obtain ⟨FL, hFL⟩ : ∃ FL, (En.hd q e1 (i : Int)).1 = FL := ⟨_, rfl⟩
              rw [hEN] at kn kM kO mn mlt hst h7
              rw [hFL] at hln hst row7
              obtain ⟨a7, cap7, hf7, -⟩ := row7.form
              obtain ⟨N7, hN7⟩ : ∃ n, FL.length = n := ⟨_, rfl⟩
              rw [hN7] at hf7
              subst hf7
              have f07 : Ft (efoot l) wo w7 := ((((Ft.of_below _ (unhide H2).2.2.2).trans (unhide HQ3).2.1).trans (Ft.of_below _ (unhide H4).2.1)).trans (unhide H5).2.1).trans f7
              have hown : ∀ g, (Value.slice a1 n1 cap1).ownBlock = some g → w.heap.size ≤ g ∧ ¬ efoot l g := fun g hg => ⟨((unhide HJ).row.lt g hg).1, fun hk => by
                have h1 := (unhide HJ).row.lt g hg
                have h2 := (unhide HH).lt g hk
                omega⟩
              have rowA : Rg rfd w7 w.heap.size (.slice a1 n1 cap1) acc := (unhide HJ).row.ft f07 fun g hg => (hown g hg).2
              have hsz0 : w.heap.size ≤ w7.heap.size := by have := (unhide HJ).ft.size; have := f07.size; omega
              have HNW := hide (show News w7 (.slice a7 N7 cap7) FL.length rfd.K (rfd.row FL) from row7.news)
              have HBD := hide (show acc.length + FL.length ≤ 1000000 by have := (unhide HJ).sz; omega)
              have HRW := hide (And.intro rowA hsz0)
              have HX := hide (And.intro h7 (And.intro f07 (And.intro hown (And.intro kn (And.intro kO (And.intro mn (And.intro mlt (And.intro hln (And.intro hst kM)))))))))
              clear row7 h7 f7 CF5 H5 hi him hfg HJJ hin kn kM kO mn mlt hln hst hEN hFL hN7 f07 hown rowA hsz0 CF eg cq cell6
              go_wp2_with (at_builtin; refine rlist_app rfd rfl _ _ rfl w.heap.size (.slice a1 n1 cap1) acc rfl (unhide HRW).1 FL (unhide HNW) (unhide HBD) (unhide HRW).2 ?_; intro v8 w8 o8 G8; have H8 := hide (And.intro o8 G8); clear o8 G8)
              obtain ⟨o8, G8⟩ := unhide H8
              obtain ⟨h7, f07, hown, kn, kO, mn, mlt, hln, hst, kM⟩ := unhide HX
              obtain ⟨a8, cap8, hf8, -⟩ := o8.form
              have hJ := unhide HJ
              have s7 := (unhide HRW).2
              have f8 : Ft (fun g => (Value.slice a1 n1 cap1).ownBlock = some g) w7 w8 := (Ft.refl _ w7).grown G8 (fun g hg => .inl hg)
              have e8 : Es w8 l EN := h7.move f8 fun k hk hg => (hown k hg).2 hk
              have f8b : Ft (efoot l) w w8 := (hJ.ft.trans f07).grown G8 fun g hg => .inr (hown g hg).1
              subst hf8
              have eo := hJ.n
              have esz := hJ.sz
              refine ⟨⟨acc ++ FL, EN, a8, cap8, _, rfl, rfl, hide ⟨e8, kO, hst, o8, f8b, ?_, by rw [kn, eo]⟩⟩, ?_⟩
              · rw [List.length_append, mn]; omega
              · rw [muW_eq e8 _ (by rw [kn, eo]; exact Nat.le_refl _), muW_eq hJ.es _ (by rw [eo]; exact Nat.le_refl _), ← eo]
                exact mlt
            | false =>
              rw [hd_no (by omega) him hfg] at CF5
              go_wp2_with fail
              refine (unhide CF5).mono ?_
              rintro r w7 ⟨v7, rfl, row7, h7, f7⟩
              obtain ⟨a7, cap7, hf7, -⟩ := row7.form
              subst hf7
              have H7 : Hid (Es w7 l e1 ∧ Ft (efoot l) w4 w7 ∧ ∀ j' i', j' < j + 1 → (Mk.listOf e1.M)[j']? = some i' → flg q (e1.cp i') = false) := hide ⟨h7, (unhide H5).2.1.trans f7, fun j' i' hj' hi' => by
                by_cases z : j' = j
                · subst z
                  have := (unhide H5).2.2.2
                  rw [hi'] at this
                  cases this
                  exact hfg
                · exact (unhide H5).2.2.1 j' i' (by omega) hi'⟩
              clear h7 f7 row7 CF5 H5 hi him hfg HJJ
              go_wp2_with fail
              go_roundw
              case rel => exact ⟨j + 1, by first | rfl | go_num, by omega, rfl, H7⟩
              case measure => simp [intOf]; omega
          · obtain rfl : j = n := by omega
            have HQ4 : Hid (Es wr l e1 ∧ Ft (efoot l) W2 wr ∧ ∀ q', q' < q + 1 → ∀ k ∈ Mk.listOf e1.M, flg q' (e1.cp k) = false) := hide ⟨(unhide HJJ).1, ((unhide HQ3).2.1.trans (Ft.of_below _ (unhide H4).2.1)).trans (unhide HJJ).2.1, fun q' hq' k hk => by
              by_cases z : q' = q
              · subst z
                obtain ⟨j', hj', he⟩ := List.getElem_of_mem hk
                exact (unhide HJJ).2.2 j' k (by rw [← unhide HN]; exact hj') (by rw [List.getElem?_eq_getElem hj', he])
              · exact (unhide HQ3).2.2 q' (by omega) k hk⟩
            clear HJJ H4 HQ3 CF eg cq
            go_wp2_with fail
            go_roundw
            case rel => exact ⟨q + 1, by first | rfl | go_num, by omega, rfl, HQ4⟩
            case measure => simp [intOf]; omega
      · obtain rfl : q = 3 := by omega
        go_wp2_with fail
        simp only [Exit.noGoto]
        refine bodyPost_ret (results_tmp rfl _ _ _) rfl ?_
        obtain ⟨h3, f3, hfl⟩ := unhide HQ
        have hJ := unhide HJ
        have hb := (unhide H2).2.2.2
        have := hJ.re.end (fun q' hq' => hfl q' hq')
        rw [this]
        refine ⟨_, rfl, ?_, h3, (hJ.ft.trans (Ft.of_below _ hb)).trans f3⟩
        refine (hJ.row.below hb).ft f3 fun g hg hk => ?_
        have h1 := hJ.row.lt g hg
        have h2 := (unhide HH).lt g hk
        omega
end
end Go.Proofs.YtjjdkkdnlnbedaaGreat
