import Derived.Test.YtpdljlfhnnlijaaTc2
import Derived.Test.YtpdljlfhnnlijaaFlt
namespace Go.Proofs.Ytpdljlfhnnlijaa
open Go.RowKit

theorem hdV_head (A B : List It) (h : A.head? = B.head?) : hdV A = hdV B := by
  cases A <;> cases B <;> simp_all [hdV]
set_option maxRecDepth 100000 in
set_option maxHeartbeats 4000000 in
theorem lat_short (p : Option Addr) (len cap : Nat) (a b : Nat → Int) (tm : Int) (w : World) (hlen : len ≤ 200)
    (hc : ∀ i, i < len → ∃ x, p = some x ∧ w.cell? (x.add (i * 2)) = some (.int .i64 (a i)) ∧ w.cell? (x.add (i * 2 + 1)) = some (.int .i64 (b i)) ∧ x.block < w.heap.size) :
    Calls Try.prog 6 #[.slice p len cap, .int .i64 tm] w fun e w' => e = .returned (.bool true) ∧ Below w.heap.size w w' := by
  have CF := hide (fixed6 w)
  have CN := fun w' => hide (tnew 200 (by omega) (by omega) w')
  rw [show ((200 : Nat) : Int) = 200 from rfl] at CN
  obtain ⟨B, hB⟩ : ∃ B, w.heap.size = B := ⟨_, rfl⟩
  rw [hB] at hc
  have hc := hide hc
  have hl2 : ((len : Nat) : Int) ≤ 200 := by omega
  go_enter Try.func6, Try.ntmps6
  go_wp2_with (first | (go_at_call 7; refine (unhide CF).mono ?_; rintro e w1 ⟨rfl, hb1⟩) | (go_at_call 8; refine Hid.out ?_))
  refine hide ?_
  refine (unhide (CN _)).mono ?_
  rintro e w2 ⟨T, G, rfl, tr2, hb2, hT, hG⟩
  rw [hB] at hb1
  have S2 : Below B w w2 := hb1.trans (hb2.mono (by have := hb1.size; omega))
  have hT1 : B ≤ T := by have := hb1.size; omega
  have hG1 : B ≤ G := by have := hb1.size; omega
  have HT2 := hide tr2
  clear tr2 hb1 hb2 hT hG
  go_wp2_with fail
  go_loopw [6, 24] (fun s6 d w' => ∃ (i : Nat) (tf : Nat → Int) (L : List It), s6 = .int .i64 (cntB tm L : Int) ∧ d = .int .i64 (i : Int) ∧ i ≤ len ∧ Hid (Tre w' T G 200 tf L ∧ L.length = i ∧ ∀ x, 0 ≤ tf x ∧ tf x ≤ i) ∧ Below B w w') (fun _ d _ => len - (intOf d).toNat)
  case atStart => exact ⟨0, fun _ => 0, [], rfl, rfl, by omega, hide ⟨unhide HT2, rfl, fun _ => ⟨by show (0 : Int) ≤ 0; omega, by show (0 : Int) ≤ ((0 : Nat) : Int); omega⟩⟩, S2⟩
  case round =>
    obtain ⟨i, tf, L, rfl, rfl, hi, HI, hbel⟩ := hrel
    by_cases hlt : i < len
    · obtain ⟨x, rfl, hc1, hc2, hx⟩ := (unhide hc) i hlt
      have e1 : wr.cell? (x.add (i * 2)) = some (.int .i64 (a i)) := by
        rw [hbel.cell (p := x.add (i * 2)) (by unfold Addr.add; split <;> exact hx)]; exact hc1
      have e2 : wr.cell? (x.add (i * 2 + 1)) = some (.int .i64 (b i)) := by
        rw [hbel.cell (p := x.add (i * 2 + 1)) (by unfold Addr.add; split <;> exact hx)]; exact hc2
      rw [← Go.Deep.add_add] at e2
      have e3 : wr.cell? ⟨(x.add (i * 2)).block, (x.add (i * 2)).off + 1, none⟩ = some (.int .i64 (b i)) := e2
      clear hc1 hc2 e2
      generalize a i = ka at *
      generalize b i = kb at *
      have hcl := cnt_le tm L
      have hll := (unhide HI).2.1
      have HCP := hide (fun pre post x => cnt_put tm pre post x)
      have HCN := hide (show cntB tm L = cntB tm L from rfl)
      obtain ⟨K, hK⟩ : ∃ K, cntB tm L = K := ⟨_, rfl⟩
      rw [hK] at hcl ⊢
      have HKK := hide hK
      clear hK HCN
      obtain ⟨qb, hqb⟩ : ∃ x, wr.heap.size = x := ⟨_, rfl⟩
      go_wp2_with (go_at_call 13; refine Hid.out ?_)
      refine hide ?_
      obtain ⟨tr, ll, tb⟩ := unhide HI
      have C1 := tput T G 200 tf L _ (tr.below (one_below wr (.cells #[.int .i64 ka, .int .i64 kb] 38))) (by omega) (fun x => ⟨(tb x).1, by have := (tb x).2; omega⟩) ka kb
      have lts := tr.lts
      refine C1.mono ?_
      rintro e w3 ⟨n, pre, post, rfl, n1, n2, n3, l3, q1, q2, tr3, tt3⟩
      have S3 : Below B w w3 := Touch.low (hbel.trans ((one_below wr (.cells #[.int .i64 ka, .int .i64 kb] 38)).mono (by have := hbel.size; omega))) tt3 hT1 hG1 (by have := hbel.size; have := (one_below wr (.cells #[.int .i64 ka, .int .i64 kb] 38)).size; omega)
      have kx := (Blk.new_at wr 38 #[.int .i64 ka, .int .i64 kb] hqb.symm).touch tt3 (by omega) (by omega)
      have g0 := kx.cell 0
      have g1 := kx.cell 1
      have HI3 : Hid (Tre w3 T G 200 (fun x => if x = n then tf n + 1 else tf x) (pre ++ ⟨n, tf n + 1, ka, kb⟩ :: post) ∧ (pre ++ ⟨n, tf n + 1, ka, kb⟩ :: post : List It).length = i + 1 ∧ ∀ x, 0 ≤ (fun x => if x = n then tf n + 1 else tf x) x ∧ (fun x => if x = n then tf n + 1 else tf x) x ≤ ((i + 1 : Nat) : Int)) := hide ⟨tr3, by rw [l3] at ll; simp only [List.length_append, List.length_cons] at ll ⊢; omega, fun x => by
        have h1 := tb x
        have h2 := tb n
        simp only
        split <;> omega⟩
      have HCC := hide ((unhide HCP) pre post ⟨n, tf n + 1, ka, kb⟩)
      rw [← l3, unhide HKK] at HCC
      clear C1 tr ll tb l3 q1 q2 tr3 tt3 n3 HI kx lts HCP HKK
      by_cases hka : ka < tm
      · have HC2 := hide (show cntB tm (pre ++ ⟨n, tf n + 1, ka, kb⟩ :: post) = K + 1 by rw [unhide HCC, if_pos hka])
        clear HCC
        go_wp2_with fail
        go_roundw
        case rel => exact ⟨i + 1, _, _, by rw [unhide HC2]; go_num, by go_num, by omega, HI3, S3⟩
        case measure => simp [intOf]; omega
      · have HC2 := hide (show cntB tm (pre ++ ⟨n, tf n + 1, ka, kb⟩ :: post) = K by rw [unhide HCC, if_neg hka]; rfl)
        clear HCC
        go_wp2_with fail
        go_roundw
        case rel => exact ⟨i + 1, _, _, by rw [unhide HC2], by go_num, by omega, HI3, S3⟩
        case measure => simp [intOf]; omega
    · obtain rfl : i = len := by omega
      obtain ⟨tr, ll, tb⟩ := unhide HI
      obtain ⟨A, R, hL, hhd, hA, hR⟩ := at_split tm L tr.srt
      have HAT := hide (tat T G 200 tf L wr tr tm)
      rw [hdV_head _ _ hhd] at HAT
      obtain ⟨u, v, o, hv, ho⟩ := hdV_cases R
      rw [hv] at HAT
      have hlen2 : A.length + R.length = i := by rw [← ll, hL, List.length_append]
      rw [← hA]
      have hoo : o = decide ((A.length : Int) < (i : Int)) := by
        rcases ho with ⟨rfl, rfl⟩ | ⟨y, R', rfl, rfl, _⟩
        · symm; apply decide_eq_false; simp at hlen2; omega
        · symm; apply decide_eq_true; simp only [List.length_cons] at hlen2; omega
      have HH := hide (And.intro tr (And.intro ll (And.intro hL (And.intro hR ho))))
      clear tr ll tb hL hhd hR ho hv HI hA
      have hll : L.length = i := (unhide HH).2.1
      generalize hAl : A.length = K at *
      by_cases hKi : K < i
      · rw [decide_eq_true (by omega)] at hoo
        subst hoo
        go_wp2_with (go_at_call 10; refine Hid.out ?_)
        refine hide ?_
        refine (unhide HAT).mono ?_
        rintro e w5 ⟨rfl, hb5⟩
        obtain ⟨tr, ll, hL, hR, ho⟩ := unhide HH
        obtain ⟨Q, hQ⟩ : ∃ Q, w5.heap.size = Q := ⟨_, rfl⟩
        have tr5 := (tr.below hb5).below (one_below w5 (.cells #[.int .i64 u, .int .i64 v] 27))
        have lts := (tr.below hb5).lts
        rw [hQ] at lts
        have S5 : Below B w (w5.alloc (.cells #[.int .i64 u, .int .i64 v] 27)) := (hbel.trans (hb5.mono (by have := hbel.size; omega))).trans ((one_below _ _).mono (by have := hbel.size; have := hb5.size; omega))
        have hBQ : B ≤ Q := by have := hbel.size; have := hb5.size; omega
        have HJ := hide (And.intro hL (And.intro hAl (And.intro hR (And.intro ho (And.intro (Blk.new_at w5 27 #[.int .i64 u, .int .i64 v] hQ.symm) tr5)))))
        clear tr ll hL hR ho tr5 HH HAT hb5
        go_wp2_with fail
        go_loopw [10, 11] (fun s10 s11 w' => ∃ (A R : List It) (u v : Int) (o : Bool) (m : Nat), s10 = .bool o ∧ s11 = .int .i64 (m : Int) ∧ m ≤ 200 ∧ Hid (L = A ++ R ∧ A.length = K + m ∧ (∀ y ∈ R, tm ≤ y.a) ∧ ((R = [] ∧ o = false) ∨ ∃ y R', R = y :: R' ∧ o = true ∧ u = y.n ∧ v = y.tu) ∧ Blk w' Q 27 #[.int .i64 u, .int .i64 v] ∧ Tre w' T G 200 tf L) ∧ Below B w w') (fun _ s11 _ => 200 - (intOf s11).toNat)
        case atStart => exact ⟨A, R, u, v, true, 0, rfl, rfl, by omega, hide ⟨(unhide HJ).1, (unhide HJ).2.1, (unhide HJ).2.2.1, by simpa using (unhide HJ).2.2.2.1, (unhide HJ).2.2.2.2⟩, S5⟩
        case round =>
          obtain ⟨A, R, u, v, o, m, rfl, rfl, hm, HI, hbel⟩ := hrel
          obtain ⟨hL, hA, hR, ho, kq, tr⟩ := unhide HI
          have hlL : A.length + R.length = i := by have := hll; rw [hL, List.length_append] at this; exact this
          rcases ho with ⟨rfl, rfl⟩ | ⟨y, R', rfl, rfl, rfl, rfl⟩
          · have hmk : m + K = i := by simp only [List.length_nil] at hlL; omega
            have CH := hide (theights T G 200 tf L wr tr (by omega))
            clear hL hA hR kq tr HI HJ hlL
            go_wp2_with (go_at_call 21; refine Hid.out ?_)
            refine hide ?_
            refine (unhide CH).mono ?_
            rintro e w6 ⟨⟨lo, hi, rfl, h1, h2⟩, hb6⟩
            have S6 : Below B w w6 := hbel.trans (hb6.mono (by have := hbel.size; omega))
            have he : ((m : Int) + (K : Int) == (i : Int)) = true := by rw [beq_iff_eq]; omega
            have hd : decide ((hi : Int) ≤ 2 * (lo : Int) + 1) = true := decide_eq_true (by omega)
            clear CH hb6
            go_wp2_with fail
            go_ret
            exact ⟨rfl, by rw [hB]; exact S6⟩
          · have hm2 : m < 200 := by simp only [List.length_cons] at hlL; omega
            have hya : tm ≤ y.a := hR y (by simp)
            have HK := hide (tkey_in T G 200 tf L wr tr y (by rw [hL]; simp))
            have c0 := kq.cell 0
            have c1 := kq.cell 1
            have HH := hide (And.intro hL (And.intro hA (And.intro hR (And.intro kq tr))))
            clear hL hA hR kq tr HI HJ hlL
            go_wp2_with (go_at_call 17; refine Hid.out ?_)
            refine hide ?_
            refine (unhide HK).mono ?_
            rintro e w6 ⟨rfl, hb6⟩
            obtain ⟨hL, hA, hR, kq, tr⟩ := unhide HH
            obtain ⟨W7, hW7⟩ : ∃ W7, W7 = w6.alloc (.cells #[.int .i64 y.a, .int .i64 y.b] 38) := ⟨_, rfl⟩
            have b7 : Below w6.heap.size w6 W7 := by rw [hW7]; exact one_below _ _
            have kq6 := kq.below hb6 kq.lt
            have kq7 := kq6.below b7 kq6.lt
            have tr7 := (tr.below hb6).below b7
            have S7 : Below B w W7 := (hbel.trans (hb6.mono (by have := hbel.size; omega))).trans (b7.mono (by have := hbel.size; have := hb6.size; omega))
            obtain ⟨u2, v2, o2, hv2, ho2⟩ := hdV_cases R'
            have HN := hide (tnext T G 200 tf A R' y W7 (by rw [← hL]; exact tr7))
            rw [hv2] at HN
            have d0 := kq7.cell 0
            have d1 := kq7.cell 1
            rw [hW7] at d0 d1
            have H7 := hide (And.intro hL (And.intro hA (And.intro hR (And.intro kq7 (And.intro tr7 (And.intro S7 ho2))))))
            clear c0 c1 hL hA hR kq tr HH HK hb6 b7 kq6 kq7 tr7 S7 ho2 hv2
            go_wp2_with (go_at_call 20; refine Hid.out ?_)
            refine hide ?_
            rw [← hW7]
            refine (unhide HN).mono ?_
            rintro e w8 ⟨rfl, hb8⟩
            obtain ⟨hL, hA, hR, kq7, tr7, S7, ho2⟩ := unhide H7
            have kq8 := kq7.below hb8 kq7.lt
            have tr8 := tr7.below hb8
            have S8 : Below B w w8 := S7.trans (hb8.mono (by have := S7.size; omega))
            have g0 := kq8.cell 0
            have g1 := kq8.cell 1
            have g2 := kq8.free
            have H8 := hide (And.intro hL (And.intro hA (And.intro hR (And.intro kq8 (And.intro tr8 (And.intro S8 ho2))))))
            clear d0 d1 hL hA hR kq7 tr7 S7 ho2 kq8 tr8 S8 H7 HN hb8 hW7
            go_wp2_with fail
            go_roundw
            case rel =>
              obtain ⟨hL, hA, hR, kq8, tr8, S8, ho2⟩ := unhide H8
              exact ⟨A ++ [y], R', u2, v2, o2, m + 1, rfl, by go_num, by omega, hide ⟨by rw [hL, List.append_assoc]; rfl, by rw [List.length_append, hA]; simp; omega, fun z hz => hR z (by simp [hz]), ho2, (kq8.put _ _).put _ _, (tr8.set (by omega) (by omega) _ _).set (by omega) (by omega) _ _⟩, (S8.setCell (by simp; omega) _).setCell (by simp; omega) _⟩
            case measure => simp [intOf]; omega
      · rw [decide_eq_false (by omega)] at hoo
        subst hoo
        go_wp2_with (go_at_call 10; refine Hid.out ?_)
        refine hide ?_
        refine (unhide HAT).mono ?_
        rintro e w5 ⟨rfl, hb5⟩
        obtain ⟨tr, ll, hL, hR, ho⟩ := unhide HH
        obtain ⟨Q, hQ⟩ : ∃ Q, w5.heap.size = Q := ⟨_, rfl⟩
        have tr5 := (tr.below hb5).below (one_below w5 (.cells #[.int .i64 u, .int .i64 v] 27))
        have lts := (tr.below hb5).lts
        rw [hQ] at lts
        have S5 : Below B w (w5.alloc (.cells #[.int .i64 u, .int .i64 v] 27)) := (hbel.trans (hb5.mono (by have := hbel.size; omega))).trans ((one_below _ _).mono (by have := hbel.size; have := hb5.size; omega))
        have hBQ : B ≤ Q := by have := hbel.size; have := hb5.size; omega
        have HJ := hide (And.intro hL (And.intro hAl (And.intro hR (And.intro ho (And.intro (Blk.new_at w5 27 #[.int .i64 u, .int .i64 v] hQ.symm) tr5)))))
        clear tr ll hL hR ho tr5 HH HAT hb5
        go_wp2_with fail
        go_loopw [10, 11] (fun s10 s11 w' => ∃ (A R : List It) (u v : Int) (o : Bool) (m : Nat), s10 = .bool o ∧ s11 = .int .i64 (m : Int) ∧ m ≤ 200 ∧ Hid (L = A ++ R ∧ A.length = K + m ∧ (∀ y ∈ R, tm ≤ y.a) ∧ ((R = [] ∧ o = false) ∨ ∃ y R', R = y :: R' ∧ o = true ∧ u = y.n ∧ v = y.tu) ∧ Blk w' Q 27 #[.int .i64 u, .int .i64 v] ∧ Tre w' T G 200 tf L) ∧ Below B w w') (fun _ s11 _ => 200 - (intOf s11).toNat)
        case atStart => exact ⟨A, R, u, v, false, 0, rfl, rfl, by omega, hide ⟨(unhide HJ).1, (unhide HJ).2.1, (unhide HJ).2.2.1, by simpa using (unhide HJ).2.2.2.1, (unhide HJ).2.2.2.2⟩, S5⟩
        case round =>
          obtain ⟨A, R, u, v, o, m, rfl, rfl, hm, HI, hbel⟩ := hrel
          obtain ⟨hL, hA, hR, ho, kq, tr⟩ := unhide HI
          have hlL : A.length + R.length = i := by have := hll; rw [hL, List.length_append] at this; exact this
          rcases ho with ⟨rfl, rfl⟩ | ⟨y, R', rfl, rfl, rfl, rfl⟩
          · have hmk : m + K = i := by simp only [List.length_nil] at hlL; omega
            have CH := hide (theights T G 200 tf L wr tr (by omega))
            clear hL hA hR kq tr HI HJ hlL
            go_wp2_with (go_at_call 21; refine Hid.out ?_)
            refine hide ?_
            refine (unhide CH).mono ?_
            rintro e w6 ⟨⟨lo, hi, rfl, h1, h2⟩, hb6⟩
            have S6 : Below B w w6 := hbel.trans (hb6.mono (by have := hbel.size; omega))
            have he : ((m : Int) + (K : Int) == (i : Int)) = true := by rw [beq_iff_eq]; omega
            have hd : decide ((hi : Int) ≤ 2 * (lo : Int) + 1) = true := decide_eq_true (by omega)
            clear CH hb6
            go_wp2_with fail
            go_ret
            exact ⟨rfl, by rw [hB]; exact S6⟩
          · have hm2 : m < 200 := by simp only [List.length_cons] at hlL; omega
            have hya : tm ≤ y.a := hR y (by simp)
            have HK := hide (tkey_in T G 200 tf L wr tr y (by rw [hL]; simp))
            have c0 := kq.cell 0
            have c1 := kq.cell 1
            have HH := hide (And.intro hL (And.intro hA (And.intro hR (And.intro kq tr))))
            clear hL hA hR kq tr HI HJ hlL
            go_wp2_with (go_at_call 17; refine Hid.out ?_)
            refine hide ?_
            refine (unhide HK).mono ?_
            rintro e w6 ⟨rfl, hb6⟩
            obtain ⟨hL, hA, hR, kq, tr⟩ := unhide HH
            obtain ⟨W7, hW7⟩ : ∃ W7, W7 = w6.alloc (.cells #[.int .i64 y.a, .int .i64 y.b] 38) := ⟨_, rfl⟩
            have b7 : Below w6.heap.size w6 W7 := by rw [hW7]; exact one_below _ _
            have kq6 := kq.below hb6 kq.lt
            have kq7 := kq6.below b7 kq6.lt
            have tr7 := (tr.below hb6).below b7
            have S7 : Below B w W7 := (hbel.trans (hb6.mono (by have := hbel.size; omega))).trans (b7.mono (by have := hbel.size; have := hb6.size; omega))
            obtain ⟨u2, v2, o2, hv2, ho2⟩ := hdV_cases R'
            have HN := hide (tnext T G 200 tf A R' y W7 (by rw [← hL]; exact tr7))
            rw [hv2] at HN
            have d0 := kq7.cell 0
            have d1 := kq7.cell 1
            rw [hW7] at d0 d1
            have H7 := hide (And.intro hL (And.intro hA (And.intro hR (And.intro kq7 (And.intro tr7 (And.intro S7 ho2))))))
            clear c0 c1 hL hA hR kq tr HH HK hb6 b7 kq6 kq7 tr7 S7 ho2 hv2
            go_wp2_with (go_at_call 20; refine Hid.out ?_)
            refine hide ?_
            rw [← hW7]
            refine (unhide HN).mono ?_
            rintro e w8 ⟨rfl, hb8⟩
            obtain ⟨hL, hA, hR, kq7, tr7, S7, ho2⟩ := unhide H7
            have kq8 := kq7.below hb8 kq7.lt
            have tr8 := tr7.below hb8
            have S8 : Below B w w8 := S7.trans (hb8.mono (by have := S7.size; omega))
            have g0 := kq8.cell 0
            have g1 := kq8.cell 1
            have g2 := kq8.free
            have H8 := hide (And.intro hL (And.intro hA (And.intro hR (And.intro kq8 (And.intro tr8 (And.intro S8 ho2))))))
            clear d0 d1 hL hA hR kq7 tr7 S7 ho2 kq8 tr8 S8 H7 HN hb8 hW7
            go_wp2_with fail
            go_roundw
            case rel =>
              obtain ⟨hL, hA, hR, kq8, tr8, S8, ho2⟩ := unhide H8
              exact ⟨A ++ [y], R', u2, v2, o2, m + 1, rfl, by go_num, by omega, hide ⟨by rw [hL, List.append_assoc]; rfl, by rw [List.length_append, hA]; simp; omega, fun z hz => hR z (by simp [hz]), ho2, (kq8.put _ _).put _ _, (tr8.set (by omega) (by omega) _ _).set (by omega) (by omega) _ _⟩, (S8.setCell (by simp; omega) _).setCell (by simp; omega) _⟩
            case measure => simp [intOf]; omega
set_option maxHeartbeats 1000000 in
theorem lat_long (p : Option Addr) (len cap : Nat) (tm : Int) (w : World) (hlen : 200 < len) :
    Calls Try.prog 6 #[.slice p len cap, .int .i64 tm] w fun e w' => e = .returned (.bool true) ∧ Below w.heap.size w w' := by
  have CF := hide (fixed6 w)
  have hl2 : (200 : Int) < ((len : Nat) : Int) := by omega
  go_enter Try.func6, Try.ntmps6
  go_wp2_with (go_at_call 7; refine (unhide CF).mono ?_; rintro e w1 ⟨rfl, hb1⟩)
  go_ret
  exact ⟨rfl, hb1⟩
theorem lat_row (p : Option Addr) (len cap : Nat) (V : Nat → Nat → Value) (tm : Int) (w : World) (h : SRow 2 w p len cap V)
    (hl : ∀ i, i < cap → ∀ j l, j < 2 → leafAt Try.prog 8 38 j = some l → l.is (V i j)) :
    Calls Try.prog 6 #[.slice p len cap, .int .i64 tm] w fun e w' => e = .returned (.bool true) ∧ Below w.heap.size w w' := by
  obtain ⟨a, ha⟩ := rows_int (j := 0) (k := .i64) hl (by omega) (by kernel_rfl)
  obtain ⟨b, hb⟩ := rows_int (j := 1) (k := .i64) hl (by omega) (by kernel_rfl)
  by_cases hlen : len ≤ 200
  · refine lat_short p len cap a b tm w hlen fun i hi => ?_
    rcases h with ⟨_, h1, _⟩ | ⟨x, e, h1, _, hcell⟩
    · omega
    · have c0 := hcell i (by omega) 0 (by omega)
      have c1 := hcell i (by omega) 1 (by omega)
      rw [(ha i (by omega)).1] at c0
      rw [(hb i (by omega)).1] at c1
      refine ⟨x, e, c0, c1, ?_⟩
      have := World.block_lt_of_cell? w _ c1
      unfold Addr.add at this
      split at this <;> exact this
  · exact lat_long p len cap tm w (by omega)
end Go.Proofs.Ytpdljlfhnnlijaa
