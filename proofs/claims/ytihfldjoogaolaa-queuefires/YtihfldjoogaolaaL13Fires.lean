import Derived.Test.YtihfldjoogaolaaL13Fixed
namespace Go.Proofs.Ytihfldjoogaolaa
open Go.RowKit Kt Qu
set_option linter.unusedVariables false

theorem cellB {w w' : World} {x : Addr} {v : Value} (hb : Below w.heap.size w w') (hc : w.cell? x = some v) : w'.cell? x = some v := by
  rw [hb.cell (World.block_lt_of_cell? w x hc)]; exact hc
theorem addR_length (R : List Tmr) (t : Tmr) : (addR R t).length = R.length + if addE R t = 0 then 1 else 0 := by
  unfold addR
  split
  · exact insT_length t R
  · rfl
theorem none_due {now : Int} {z : Tmr} {S : List Tmr} (hs : SrtT (z :: S)) (hd : ¬ dueT now z) : ∀ y ∈ z :: S, ¬ dueT now y := by
  intro y hy hyd
  have hz : clampZ z.soft ≤ clampZ y.soft := by
    rcases List.mem_cons.1 hy with rfl | hy
    · exact Int.le_refl _
    · exact (List.pairwise_cons.1 hs).1 y hy
  refine hd ⟨?_, by have := hyd.2; omega⟩
  have h1 := hyd.1
  have : clampZ y.soft < 4611686018427387903 := by
    unfold clampZ
    split
    · omega
    · split <;> omega
  unfold clampZ at hz this
  repeat' split at hz
  all_goals (try split at this)
  all_goals (try split at this)
  all_goals omega
set_option maxRecDepth 100000 in
set_option maxHeartbeats 2000000 in
theorem lfires_short (p : Option Addr) (len cap : Nat) (T : Nat → Tmr) (now : Int) (w : World) (hlen : len ≤ 60)
    (hc : ∀ i, i < len → ∃ x, p = some x ∧ x.block < w.heap.size ∧ ∀ k v, (tc (T i))[k]? = some v → w.cell? ((x.add (i * 5)).add k) = some v) (hk : ∀ i, i < len → okT (T i)) :
    Calls Try.prog 4 #[.slice p len cap, .int .i64 now] w fun e w' => e = .returned (.bool true) ∧ Below w.heap.size w w' := by
  have CF := hide (fixed13 w)
  have CN := fun w' => hide (snew w')
  have CC := fun s w' => hide (rclamp_any s w')
  obtain ⟨C, hC⟩ : ∃ C, w.heap.size = C := ⟨_, rfl⟩
  rw [hC] at hc CF ⊢
  have HCC := hide hc
  have HK := hide hk
  have hl2 : ((len : Nat) : Int) ≤ 60 := by omega
  clear hc hk
  go_enter Try.func4, Try.ntmps4
  go_wp2_with (first | (go_at_call 5; refine (unhide CF).mono ?_; rintro e w1 ⟨rfl, hb1⟩) | (go_at_call 6; refine Hid.out ?_))
  refine hide ?_
  refine (unhide (CN _)).mono ?_
  rintro e w2 ⟨a, rfl, q2, hb2, hf2⟩
  have H2 := hide (Qv.new (C := C) hb1 (by have := hb1.size; omega) q2 hb2 hf2)
  clear q2 hb2 hf2 hb1 CF CN
  go_wp2_with fail
  go_loopw [6, 22] (fun s6 s22 w' => ∃ (i : Nat) (R : List Tmr), s22 = .int .i64 (i : Int) ∧ i ≤ len ∧ s6 = .int .i64 (R.length : Int) ∧ R.length ≤ i ∧ Hid (Qv C w w' a i R)) (fun _ d _ => len - (intOf d).toNat)
  case atStart => exact ⟨0, [], rfl, by omega, rfl, by simp, H2⟩
  case round =>
    obtain ⟨i, R, rfl, hi, rfl, hRi, HI⟩ := hrel
    by_cases hlt : i < len
    · obtain ⟨x, rfl, hx, hcl⟩ := (unhide HCC) i hlt
      have hki := (unhide HK) i hlt
      have hcl2 : ∀ k v, (tc (T i))[k]? = some v → wr.cell? ((x.add (i * 5)).add k) = some v := fun k v hv => by
        rw [(unhide HI).low.cell (by rw [show ((x.add (i * 5)).add k).block = x.block by unfold Addr.add; split <;> (split <;> rfl)]; exact hx)]
        exact hcl k v hv
      generalize T i = t at *
      have CA := hide (fun o => sadd (((unhide HI).below (one_below wr o)).q) (by omega) t hki)
      have HJ := hide (addR_length R t)
      have HIX := hide (fun o => (unhide HI).below (one_below wr o))
      obtain ⟨i1, i2, i3, i4, i5⟩ := t
      have e0 : wr.cell? (x.add (i * 5)) = some (.int .i64 i1) := hcl2 0 (.int .i64 i1) rfl
      have e1 : wr.cell? ⟨(x.add (i * 5)).block, (x.add (i * 5)).off + 1, none⟩ = some (.int .i64 i2) := hcl2 1 (.int .i64 i2) rfl
      have e2 : wr.cell? ⟨(x.add (i * 5)).block, (x.add (i * 5)).off + 2, none⟩ = some (.int .i64 i3) := hcl2 2 (.int .i64 i3) rfl
      have e3 : wr.cell? ⟨(x.add (i * 5)).block, (x.add (i * 5)).off + 3, none⟩ = some (.int .i64 i4) := hcl2 3 (.int .i64 i4) rfl
      have e4 : wr.cell? ⟨(x.add (i * 5)).block, (x.add (i * 5)).off + 4, none⟩ = some (.bool i5) := hcl2 4 (.bool i5) rfl
      simp only [tv] at CA
      obtain ⟨E, hE⟩ : ∃ E, addE R ⟨i1, i2, i3, i4, i5⟩ = E := ⟨_, rfl⟩
      rw [hE] at HJ CA
      obtain ⟨R2, hR2⟩ : ∃ R2, addR R ⟨i1, i2, i3, i4, i5⟩ = R2 := ⟨_, rfl⟩
      rw [hR2] at HJ CA
      clear hcl hcl2 hki hE hR2
      go_wp2_with (go_at_call 9; refine Hid.out ?_)
      refine hide ?_
      refine (unhide CA _).mono ?_
      rintro e w3 ⟨rfl, q3, f3⟩
      have H3 := hide ((unhide HIX _).step q3 f3)
      have hRl := unhide HJ
      clear q3 f3 HJ HIX HI CA e0 e1 e2 e3 e4
      by_cases hE : E = 0
      · subst hE
        rw [if_pos rfl] at hRl
        have hwr : IntKind.i64.wrap ((R.length : Int) + 1) = (R2.length : Int) := by rw [IntKind.wrap_i64]; omega
        go_wp2_with fail
        go_roundw
        case rel => exact ⟨i + 1, R2, by first | rfl | go_num, by omega, by first | rfl | go_num, by omega, H3⟩
        case measure => simp [intOf]; omega
      · rw [if_neg hE] at hRl
        have hEb : (E == 0) = false := by rw [beq_eq_false_iff_ne]; exact hE
        go_wp2_with fail
        go_roundw
        case rel => exact ⟨i + 1, R2, by first | rfl | go_num, by omega, by rw [show R.length = R2.length by omega], by omega, H3⟩
        case measure => simp [intOf]; omega
    · obtain rfl : i = len := by omega
      have hRn : R.length ≤ 64 := by omega
      clear hRi
      go_wp2_with fail
      go_loopw [6, 9] (fun s6 s9 w' => ∃ (S : List Tmr) (last : Int), s6 = .int .i64 (S.length : Int) ∧ S.length ≤ 64 ∧ s9 = .int .i64 last ∧ (∀ y ∈ S, last ≤ clampZ y.soft) ∧ Hid (Qv C w w' a i S)) (fun d _ _ => (intOf d).toNat)
      case atStart => exact ⟨R, -4611686018427387904, rfl, hRn, rfl, fun y _ => by have := clampZ_bd y.soft; omega, HI⟩
      case round =>
        obtain ⟨S, last, rfl, hSn, rfl, hla, HS⟩ := hrel
        by_cases hdue : ∃ z S', S = z :: S' ∧ dueT now z
        · obtain ⟨z, S', rfl, hd⟩ := hdue
          have CD := hide (sdue_ok (unhide HS).q now hd)
          have hz := hla z (by simp)
          have hsr := (List.pairwise_cons.1 (unhide HS).q.srt).1
          have HLA := hide (fun y (hy : y ∈ S') => hsr y hy)
          have hzo := (unhide HS).q.ok z (by simp)
          have hzi := isI_to hzo.2.2.1
          obtain ⟨hd1, hd2⟩ := hd
          have HST := hide (fun w' (h1 : Qs w' a i S') (h2 : Ft a.foot wr w') => (unhide HS).step h1 h2)
          obtain ⟨i1, i2, i3, i4, i5⟩ := z
          simp only [tv] at CD hz hd1 hd2 HLA hzi
          clear hla hsr hzo HS
          obtain ⟨K, hK⟩ : ∃ K, clampZ i3 = K := ⟨_, rfl⟩
          obtain ⟨Nw, hNw⟩ : ∃ Nw, clampZ now = Nw := ⟨_, rfl⟩
          have CCK := CC i3
          have CCN := CC now
          rw [hK] at hz hd2 HLA CCK
          rw [hNw] at hd2 CCN
          clear hK hNw CC
          go_wp2_with (go_at_call 11; refine Hid.out ?_)
          refine hide ?_
          refine (unhide CD).mono ?_
          rintro e w5 ⟨rfl, q5, f5⟩
          have v5 := (unhide HST) w5 q5 f5
          have H5 := hide (v5.below (one_below w5 (.cells #[.int .i64 i1, .int .i64 i2, .int .i64 i3, .int .i64 i4, .bool i5] 28)))
          clear q5 f5 v5 HST CD
          have hSn2 : S'.length ≤ 63 := by simp only [List.length_cons] at hSn; omega
          have hwr : IntKind.i64.wrap (((⟨i1, i2, i3, i4, i5⟩ :: S' : List Tmr).length : Int) - 1) = (S'.length : Int) := by rw [IntKind.wrap_i64, List.length_cons]; omega
          have hcons : ((⟨i1, i2, i3, i4, i5⟩ :: S' : List Tmr).length : Int) = (S'.length : Int) + 1 := by simp
          rw [hcons] at hwr ⊢
          have hgt : (Nw < K) = False := by simp; omega
          have hlt2 : (K < last) = False := by simp; omega
          by_cases hsn : now < i3
          · go_wp2_with (first | (go_at_call 12; with_reducible refine (unhide (CCK _)).mono ?_; rintro e wk ⟨rfl, rfl⟩) | (go_at_call 12; with_reducible refine (unhide (CCN _)).mono ?_; rintro e wk ⟨rfl, rfl⟩))
            go_roundw
            case rel => exact ⟨S', K, by first | rfl | go_num, by omega, rfl, fun y hy => (unhide HLA) y hy, H5⟩
            case measure => simp [intOf]
          · go_wp2_with (first | (go_at_call 12; with_reducible refine (unhide (CCK _)).mono ?_; rintro e wk ⟨rfl, rfl⟩) | (go_at_call 12; with_reducible refine (unhide (CCN _)).mono ?_; rintro e wk ⟨rfl, rfl⟩))
            go_roundw
            case rel => exact ⟨S', K, by first | rfl | go_num, by omega, rfl, fun y hy => (unhide HLA) y hy, H5⟩
            case measure => simp [intOf]
        · have hno : ∀ y ∈ S, ¬ dueT now y := by
            cases S with
            | nil => intro y hy; cases hy
            | cons z S' => exact none_due (unhide HS).q.srt (fun h => hdue ⟨z, S', rfl, h⟩)
          have CD := hide (sdue_no (unhide HS).q now (fun y S' e h => hdue ⟨y, S', e, h⟩))
          rw [show tv t0 = .agg #[.int .i64 0, .int .i64 0, .int .i64 0, .int .i64 0, .bool false] from rfl] at CD
          have HNO := hide hno
          clear hno hla hdue
          go_wp2_with (go_at_call 11; refine Hid.out ?_)
          refine hide ?_
          refine (unhide CD).mono ?_
          rintro e w5 ⟨rfl, b5⟩
          obtain ⟨W6, hW6⟩ : ∃ W6, W6 = w5.alloc (.cells #[.int .i64 0, .int .i64 0, .int .i64 0, .int .i64 0, .bool false] 28) := ⟨_, rfl⟩
          have v6 : Qv C w W6 a i S := ((unhide HS).below b5).below (by rw [hW6]; exact one_below _ _)
          have CA := hide (sall v6.q)
          have H6 := hide v6
          have HW6 := hide hW6
          clear v6 b5 CD hW6 HS
          go_wp2_with (go_at_call 13; refine Hid.out ?_)
          refine hide ?_
          rw [← unhide HW6]
          refine (unhide CA).mono ?_
          rintro e wA ⟨v, rfl, row, bA⟩
          obtain ⟨ra, rcap, rfl, -, -, hcell⟩ := row.form
          have HA := hide (And.intro ((unhide H6).below bA) hcell)
          clear row bA hcell CA H6
          go_wp2_with fail
          go_loopw [73] (fun d w' => ∃ j : Nat, d = .int .i64 (j : Int) ∧ j ≤ S.length ∧ Hid (Below wA.heap.size wA w')) (fun d _ => S.length - (intOf d).toNat)
          case atStart => exact ⟨0, rfl, by omega, hide (Below.refl _ _)⟩
          case round =>
            obtain ⟨j, rfl, hj, HJ⟩ := hrel
            by_cases hjl : j < S.length
            · obtain ⟨y, hy⟩ : ∃ y, S[j]? = some y := ⟨_, List.getElem?_eq_getElem hjl⟩
              obtain ⟨g, rfl, hcg⟩ := (unhide HA).2 j y hy
              have hyn := (unhide HNO) y (List.mem_of_getElem? hy)
              obtain ⟨i1, i2, i3, i4, i5⟩ := y
              have e0 : wr.cell? ⟨g, j * 5, none⟩ = some (.int .i64 i1) := cellB (unhide HJ) (hcg 0 (.int .i64 i1) rfl)
              have e1 : wr.cell? ⟨g, j * 5 + 1, none⟩ = some (.int .i64 i2) := cellB (unhide HJ) (hcg 1 (.int .i64 i2) rfl)
              have e2 : wr.cell? ⟨g, j * 5 + 2, none⟩ = some (.int .i64 i3) := cellB (unhide HJ) (hcg 2 (.int .i64 i3) rfl)
              have e3 : wr.cell? ⟨g, j * 5 + 3, none⟩ = some (.int .i64 i4) := cellB (unhide HJ) (hcg 3 (.int .i64 i4) rfl)
              have e4 : wr.cell? ⟨g, j * 5 + 4, none⟩ = some (.bool i5) := cellB (unhide HJ) (hcg 4 (.bool i5) rfl)
              have HJ2 := hide ((unhide HJ).trans ((one_below wr (.cells #[.int .i64 i1, .int .i64 i2, .int .i64 i3, .int .i64 i4, .bool i5] 28)).mono (unhide HJ).size))
              have hyn2 : ¬ (i3 < 4611686018427387903 ∧ clampZ i3 ≤ clampZ now) := hyn
              obtain ⟨K, hK⟩ : ∃ K, clampZ i3 = K := ⟨_, rfl⟩
              obtain ⟨Nw, hNw⟩ : ∃ Nw, clampZ now = Nw := ⟨_, rfl⟩
              have CCK := CC i3
              have CCN := CC now
              rw [hK] at hyn2 CCK
              rw [hNw] at hyn2 CCN
              clear hK hNw CC hyn hcg hy HJ
              by_cases hs : i3 < 4611686018427387903
              · have hle : (K ≤ Nw) = False := by simp; omega
                clear hyn2
                go_wp2_with (first | (go_at_call 12; with_reducible refine (unhide (CCK _)).mono ?_; rintro e wk ⟨rfl, rfl⟩) | (go_at_call 12; with_reducible refine (unhide (CCN _)).mono ?_; rintro e wk ⟨rfl, rfl⟩))
                go_roundw
                case rel => exact ⟨j + 1, by first | rfl | go_num, by omega, HJ2⟩
                case measure => simp [intOf]; omega
              · clear hyn2
                go_wp2_with fail
                go_roundw
                case rel => exact ⟨j + 1, by first | rfl | go_num, by omega, HJ2⟩
                case measure => simp [intOf]; omega
            · obtain rfl : j = S.length := by omega
              have CL := hide (slen_any ((unhide HA).1.below (unhide HJ)).q)
              go_wp2_with (go_at_call 15; refine (unhide CL).mono ?_; rintro e wk ⟨rfl, hwk⟩; obtain rfl := hwk.symm)
              go_ret
              exact ⟨rfl, ((unhide HA).1.below (unhide HJ)).low⟩
theorem lfires_long (p : Option Addr) (len cap : Nat) (now : Int) (w : World) (hlen : 60 < len) : Calls Try.prog 4 #[.slice p len cap, .int .i64 now] w fun e w' => e = .returned (.bool true) ∧ Below w.heap.size w w' := by
  have h2 : (60 : Int) < (len : Int) := by omega
  go_enter Try.func4, Try.ntmps4
  go_wp2_with (go_at_call 5; refine (fixed13 _).mono ?_; rintro e w1 ⟨rfl, hb1⟩)
  go_ret
  exact ⟨rfl, hb1⟩
end Go.Proofs.Ytihfldjoogaolaa
