import Derived.Test.YtcbdbkdnindaoaaDoorMk10
namespace Go.Proofs.YtcbdbkdnindaoaaDoor
open Go.RowKit Mk Dg

def arr (hv : Nat → Bool) : Array Value := Array.ofFn (n := 16) fun c => .bool (hv c.val)
theorem arr_at (hv : Nat → Bool) (k : Nat) (h : k < 16) : (arr hv)[k]? = some (.bool (hv k)) := by
  unfold arr
  rw [Array.getElem?_ofFn, dif_pos h]
theorem arr_put (hv : Nat → Bool) (k : Nat) (h : k < 16) : (arr hv).setIfInBounds k (.bool true) = arr (fun c => hv c || decide (c = k)) := by
  apply Array.ext_getElem?
  intro j
  rw [Array.getElem?_setIfInBounds]
  by_cases hj : j < 16
  · rw [arr_at _ j hj, arr_at _ j hj]
    by_cases e : k = j
    · subst e
      rw [if_pos rfl, if_pos (by unfold arr; simp; exact h)]
      simp
    · rw [if_neg e, decide_eq_false (fun h => e h.symm), Bool.or_false]
  · unfold arr
    rw [if_neg (by omega)]
    rw [Array.getElem?_ofFn, Array.getElem?_ofFn, dif_neg hj, dif_neg hj]
theorem parse_dash : parseN [45] = (0, true) := by decide +kernel
set_option maxRecDepth 100000 in
set_option maxHeartbeats 4000000 in
theorem rparse_any (l : List UInt8) (hl : l.length ≤ 60) (w : World) :
    Calls Tryd.prog 19 #[.string (bs l)] w fun e w' => e = .returned (.tuple #[.int .u32 ((parseN l).1 : Nat), .bool (parseN l).2]) ∧ Below w.heap.size w w' := by
  have hz := bs_size l
  have he := bs_eq l [45]
  rw [show (bs [45]).toList = [45] from by rw [ByteArray.toList_eq, bs_list]] at he
  by_cases hd : l = [45]
  · rw [show (l == [45]) = true by rw [hd]; rfl] at he
    have HR := hide (show parseN l = (0, true) by rw [hd]; exact parse_dash)
    clear hd
    generalize parseN l = R at *
    go_enter Tryd.func19, Tryd.ntmps19
    go_wp2
    go_ret2
    exact ⟨by rw [unhide HR]; rfl, Below.refl _ _⟩
  · rw [show (l == [45]) = false by rw [beq_eq_false_iff_ne]; exact hd] at he
    have HNO := hide (show (∀ M, M < 65536 → textOf M = l → False) → parseN l = (0, false) from fun h => parse_no l fun M hM e => h M hM e)
    have HYES := hide (fun M hM h => parse_yes l M hM h)
    have HTP := hide (fun M h => text_parts M l h hd)
    obtain ⟨B, hB⟩ : ∃ B, w.heap.size = B := ⟨_, rfl⟩
    rw [hB]
    obtain ⟨R, hR⟩ : ∃ R, parseN l = R := ⟨_, rfl⟩
    rw [hR] at HNO HYES ⊢
    have CN := fun p w' => hide (rnumber_any p w')
    clear hd hR
    obtain ⟨L, hL⟩ : ∃ L, l.length = L := ⟨_, rfl⟩
    rw [hL] at hz hl
    go_enter Tryd.func19, Tryd.ntmps19
    go_wp2
    go_loopw [5, 6] (fun f d wr => ∃ (i fr : Nat) (hv : Nat → Bool), i ≤ L + 1 ∧ fr ≤ i ∧ d = .int .i64 (i : Int) ∧ f = .int .i64 (fr : Int) ∧ Hid (Below B w wr ∧ Blk wr B 47 (arr hv) ∧ ∀ rs, rs ≠ [] → Ok 0 rs → l = joinT rs → PI l rs i fr hv)) (fun _ d _ => 62 - (intOf d).toNat)
    case atStart =>
      refine ⟨0, 0, fun _ => false, by omega, by omega, rfl, rfl, hide ⟨?_, ?_, fun rs h1 _ h2 => PI.start h1 h2⟩⟩
      · have h := below1 w
        rw [hB] at h
        exact h _
      · exact Blk.new_at w _ _ hB.symm
    case round =>
      obtain ⟨i, fr, hv, hi, hfr, rfl, rfl, HI⟩ := hrel
      by_cases hiL : i ≤ L
      · by_cases hc : i < L ∧ l[i]? ≠ some 44
        · obtain ⟨c1, c2⟩ := hc
          have hs : i < (bs l).size := by omega
          have hb := bs_at l i hs (by omega)
          have hne : l[i]'(by omega) ≠ 44 := by
            intro e
            rw [List.getElem?_eq_getElem (by omega), e] at c2
            exact c2 rfl
          have HI2 := hide (show Below B w wr ∧ Blk wr B 47 (arr hv) ∧ ∀ rs, rs ≠ [] → Ok 0 rs → l = joinT rs → PI l rs (i + 1) fr hv from
            ⟨(unhide HI).1, (unhide HI).2.1, fun rs h1 h2 h3 => ((unhide HI).2.2 rs h1 h2 h3).skip (by omega) c2⟩)
          have hx : ((l[i]'(by omega)).toNat : Int) ≠ 44 := by
            intro e
            apply hne
            apply UInt8.toNat_inj.1
            have e2 : (44 : UInt8).toNat = 44 := rfl
            omega
          have hlt := UInt8.toNat_lt (l[i]'(by omega))
          clear HI c2 hne
          generalize l[i]'(by omega) = c at *
          generalize hcn : c.toNat = x at *
          have hxx : ((x : Int) == 44) = false := by rw [beq_eq_false_iff_ne]; exact hx
          have hxy : ((x : Int) != 44) = true := by rw [bne, hxx]; rfl
          go_wp2
          go_roundw
          case rel => exact ⟨i + 1, fr, hv, by omega, by omega, by go_num, rfl, HI2⟩
          case measure => simp [intOf]; omega
        · -- the end of a part
          have hat : i = l.length ∨ l[i]? = some 44 := by
            by_cases e : i < L
            · right
              by_cases e2 : l[i]? = some 44
              · exact e2
              · exact absurd ⟨e, e2⟩ hc
            · left; omega
          have hx1 : (bs l).extract fr i = bs ((l.drop fr).take (i - fr)) := by rw [bs_cut, List.drop_take]
          have HPA := hide (fun rs h1 h2 h3 => PI.part h2 ((unhide HI).2.2 rs h1 h2 h3) (by omega) hat)
          obtain ⟨p, hp⟩ : ∃ p, (l.drop fr).take (i - fr) = p := ⟨_, rfl⟩
          obtain ⟨N, hpl, hN61⟩ : ∃ N, p.length = N ∧ N ≤ 61 := ⟨_, rfl, by rw [← hp, List.length_take, List.length_drop]; omega⟩
          rw [hp] at hx1 HPA
          have HB := hide (And.intro (unhide HI).1 (unhide HI).2.1)
          have zp := bs_size p
          rw [hpl] at zp
          have HPA := hide (show ∀ rs, rs ≠ [] → Ok 0 rs → l = joinT rs → ∃ a b : Nat, a ≤ b ∧ b ≤ 15 ∧ lhN p N = ((a : Int), (b : Int)) ∧ ∀ hv', (∀ c, c < 16 → hv' c = (hv c || (decide (a ≤ c) && decide (c ≤ b)))) → PI l rs (i + 1) (i + 1) hv' by rw [← hpl]; exact unhide HPA)
          clear HI hp hc
          have CNp := CN p
          by_cases hLi : i < L
          · have hs : i < (bs l).size := by omega
            have hb := bs_at l i hs (by omega)
            have h44 : l[i]'(by omega) = 44 := by
              rcases hat with h | h
              · omega
              · rw [List.getElem?_eq_getElem (by omega)] at h; simpa using h
            rw [h44] at hb
            have h44n : (44 : UInt8).toNat = 44 := rfl
            clear h44 hat
            go_wp2_with (go_at_call 25; refine (unhide (CNp _)).mono ?_; rintro e w' ⟨rfl, rfl⟩)
            go_loopw [8, 9, 10] (fun lo hi d w' => ∃ (k : Nat) (a b : Int), k ≤ N ∧ d = .int .i64 (k : Int) ∧ lo = .int .i64 a ∧ hi = .int .i64 b ∧ -1 ≤ a ∧ a ≤ 15 ∧ -1 ≤ b ∧ b ≤ 15 ∧ Hid ((a, b) = lhN p k ∧ Below B w w' ∧ Blk w' B 47 (arr hv))) (fun _ _ d _ => 62 - (intOf d).toNat)
            case atStart =>
              have h := numZ_bd p
              exact ⟨0, numZ p, numZ p, by omega, rfl, rfl, rfl, by omega, by omega, by omega, by omega, hide ⟨rfl, unhide HB⟩⟩
            case round =>
              obtain ⟨k, a, b, hk, rfl, rfl, rfl, a0, a1, b0, b1, HK⟩ := hrel
              clear HB
              by_cases hkl : k < N
              · have hs : k < (bs p).size := by omega
                obtain ⟨c, hc0⟩ : ∃ c, p[k]? = some c := ⟨_, List.getElem?_eq_getElem (show k < p.length by omega)⟩
                have hb : (bs p)[k]'hs = c := by
                  rw [bs_at p k hs (by omega)]
                  rw [List.getElem?_eq_getElem (show k < p.length by omega)] at hc0
                  simpa using hc0
                have HK2 := hide (show lhN p (k + 1) = if c = 45 then (numZ (p.take k), numZ (p.drop (k + 1))) else (a, b) by
                  show (if p[k]? = some 45 then (numZ (p.take k), numZ (p.drop (k + 1))) else lhN p k) = _
                  rw [hc0, ← (unhide HK).1]
                  by_cases e : c = 45
                  · rw [if_pos e, if_pos (by rw [e])]
                  · rw [if_neg e, if_neg (fun h => e (by simpa using h))])
                clear hc0
                have HK3 := hide (unhide HK).2
                clear HK
                by_cases hc : c = 45
                · rw [if_pos hc] at HK2
                  rw [hc] at hb
                  have hxa : (bs p).extract 0 k = bs (p.take k) := by rw [bs_cut, List.drop_zero]
                  have hxb : (bs p).extract (k + 1) N = bs (p.drop (k + 1)) := by rw [← hpl, bs_cut, List.take_length]
                  have hk0 : (0 : Int) ≤ (k : Int) := by omega
                  have hk1 : (k : Int) ≤ (N : Int) := by omega
                  have hk2 : (0 : Int) ≤ (k : Int) + 1 := by omega
                  have hk3 : (k : Int) + 1 ≤ (N : Int) := by omega
                  have C1 := CN (p.take k)
                  have C2 := CN (p.drop (k + 1))
                  have n1 := numZ_bd (p.take k)
                  have n2 := numZ_bd (p.drop (k + 1))
                  generalize numZ (p.take k) = A1 at *
                  generalize numZ (p.drop (k + 1)) = A2 at *
                  generalize p.take k = P1 at *
                  generalize p.drop (k + 1) = P2 at *
                  have h45 : (45 : UInt8).toNat = 45 := rfl
                  have hw1 : IntKind.i64.wrap ((k : Int) + 1) = (k : Int) + 1 := by rw [IntKind.wrap_i64]; omega
                  clear hc CN CNp
                  go_wp2_with fail
                  go_quiet (first | (go_at_call 25; with_reducible exact Calls.quiet_of_same (unhide (C1 _))) | (go_at_call 25; with_reducible exact Calls.quiet_of_same (unhide (C2 _))))
                  go_wp2_with fail
                  have HK4 := hide (show Below B w (wr.drewN nq) ∧ Blk (wr.drewN nq) B 47 (arr hv) from
                    ⟨(unhide HK3).1.trans ((below_drewN wr nq).mono (hB ▸ (unhide HK3).1.size)), (unhide HK3).2.below (below_drewN wr nq) (unhide HK3).2.lt⟩)
                  go_roundw
                  case rel => exact ⟨k + 1, A1, A2, by omega, by go_num, rfl, rfl, n1.1, n1.2, n2.1, n2.2, hide ⟨(unhide HK2).symm, unhide HK4⟩⟩
                  case measure => simp [intOf]; omega
                · rw [if_neg hc] at HK2
                  have hx : (c.toNat : Int) ≠ 45 := by
                    intro e
                    apply hc
                    apply UInt8.toNat_inj.1
                    have e2 : (45 : UInt8).toNat = 45 := rfl
                    omega
                  clear hc
                  generalize hcn : c.toNat = x at *
                  have hxx : ((x : Int) == 45) = false := by rw [beq_eq_false_iff_ne]; exact hx
                  go_wp2_with fail
                  go_roundw
                  case rel => exact ⟨k + 1, a, b, by omega, by go_num, rfl, rfl, a0, a1, b0, b1, hide ⟨(unhide HK2).symm, unhide HK3⟩⟩
                  case measure => simp [intOf]; omega
              · obtain rfl : k = N := by omega
                obtain ⟨hab, hbw, hbk⟩ := unhide HK
                have HPB := hide (show ∀ rs, rs ≠ [] → Ok 0 rs → l = joinT rs → ∃ x y : Nat, x ≤ y ∧ y ≤ 15 ∧ a = (x : Int) ∧ b = (y : Int) ∧ ∀ hv', (∀ c, c < 16 → hv' c = (hv c || (decide (x ≤ c) && decide (c ≤ y)))) → PI l rs (i + 1) (i + 1) hv' from fun rs h1 h2 h3 => by
                  obtain ⟨x, y, q1, q2, q3, q4⟩ := unhide HPA rs h1 h2 h3
                  rw [← hab] at q3
                  simp only [Prod.mk.injEq] at q3
                  exact ⟨x, y, q1, q2, q3.1, q3.2, q4⟩)
                have HK3 := hide (And.intro hbw hbk)
                clear HK hab hbw hbk HPA
                by_cases hneg : a < 0 ∨ b < 0
                · have HR := hide (unhide HNO (fun M hM h => by
                    obtain ⟨rs, h1, h2, h3, _⟩ := unhide HTP M h
                    obtain ⟨x, y, q1, q2, q3, q4, _⟩ := unhide HPB rs h1 h2 h3
                    omega))
                  rcases hneg with hneg | hneg
                  · go_wp2_with fail
                    go_ret2
                    exact ⟨by rw [unhide HR]; rfl, (unhide HK3).1⟩
                  · by_cases ha : a < 0
                    · go_wp2_with fail
                      go_ret2
                      exact ⟨by rw [unhide HR]; rfl, (unhide HK3).1⟩
                    · go_wp2_with fail
                      go_ret2
                      exact ⟨by rw [unhide HR]; rfl, (unhide HK3).1⟩
                · obtain ⟨x, rfl⟩ := Int.eq_ofNat_of_zero_le (show 0 ≤ a by omega)
                  obtain ⟨y, rfl⟩ := Int.eq_ofNat_of_zero_le (show 0 ≤ b by omega)
                  clear hneg
                  go_wp2_with fail
                  go_loopw [11] (fun d w' => ∃ j : Nat, (j = 0 ∨ x + j ≤ y + 1) ∧ d = .int .i64 ((x + j : Nat) : Int) ∧ Hid (Below B w w' ∧ Blk w' B 47 (arr fun c => hv c || (decide (x ≤ c) && decide (c < x + j))))) (fun d _ => 62 - (intOf d).toNat)
                  case atStart =>
                    refine ⟨0, .inl rfl, rfl, hide ⟨(unhide HK3).1, ?_⟩⟩
                    have e : (fun c => hv c || (decide (x ≤ c) && decide (c < x + 0))) = hv := by
                      funext c
                      have : (decide (x ≤ c) && decide (c < x + 0)) = false := by simp
                      rw [this, Bool.or_false]
                    rw [e]; exact (unhide HK3).2
                  case round =>
                    obtain ⟨j, hj, rfl, HJ⟩ := hrel
                    clear HK3
                    by_cases hjy : x + j ≤ y
                    · have hfree := (unhide HJ).2.free (x + j)
                      have hcell := (unhide HJ).2.cell (x + j)
                      rw [arr_at _ _ (by omega)] at hcell
                      have HJ2 := hide (show Below B w (wr.setCell ⟨B, x + j, none⟩ (.bool true)) ∧ Blk (wr.setCell ⟨B, x + j, none⟩ (.bool true)) B 47 (arr fun c => hv c || (decide (x ≤ c) && decide (c < x + (j + 1)))) by
                        refine ⟨(unhide HJ).1.setCell (Nat.le_refl _) _, ?_⟩
                        have h := (unhide HJ).2.put (x + j) (.bool true)
                        rw [arr_put _ _ (by omega)] at h
                        have e : (fun c => (hv c || (decide (x ≤ c) && decide (c < x + j))) || decide (c = x + j)) = fun c => hv c || (decide (x ≤ c) && decide (c < x + (j + 1))) := by
                          funext c
                          cases hv c
                          · rw [Bool.false_or, Bool.false_or, Bool.eq_iff_iff]
                            simp
                            omega
                          · rfl
                        rw [e] at h; exact h)
                      generalize hxj : x + j = z at *
                      generalize (hv z || (decide (x ≤ z) && decide (z < z))) = old at *
                      clear HJ
                      have hz15 : (z : Int) ≤ 15 := by omega
                      have hz16 : z < 16 := by omega
                      have HXJ := hide (And.intro hxj hj)
                      clear hxj hj
                      go_wp2_with fail
                      go_roundw
                      case rel => exact ⟨j + 1, .inr (by have := (unhide HXJ).1; omega), by have := (unhide HXJ).1; congr 1; omega, HJ2⟩
                      case measure => simp [intOf]; omega
                    · have HO := hide (show Below B w wr ∧ ∃ hv2, Blk wr B 47 (arr hv2) ∧ ∀ rs, rs ≠ [] → Ok 0 rs → l = joinT rs → PI l rs (i + 1) (i + 1) hv2 by
                        refine ⟨(unhide HJ).1, _, (unhide HJ).2, fun rs h1 h2 h3 => ?_⟩
                        obtain ⟨x2, y2, q1, q2, q3, q4, q5⟩ := unhide HPB rs h1 h2 h3
                        refine q5 _ fun c hc => ?_
                        have : (decide (x ≤ c) && decide (c < x + j)) = (decide (x2 ≤ c) && decide (c ≤ y2)) := by
                          rw [Bool.eq_iff_iff]
                          simp
                          omega
                        rw [this])
                      clear HJ
                      have hzz : ¬ ((x + j : Nat) : Int) ≤ (y : Int) := by omega
                      clear hj hjy HPB
                      generalize x + j = z at *
                      go_wp2_with fail
                      go_roundw
                      case rel =>
                        obtain ⟨h1, hv2, h2, h3⟩ := unhide HO
                        exact ⟨i + 1, i + 1, hv2, by omega, by omega, by go_num, by go_num, hide ⟨h1, h2, h3⟩⟩
                      case measure => simp [intOf]; omega
          · obtain rfl : i = L := by omega
            clear hat
            go_wp2_with (go_at_call 25; refine (unhide (CNp _)).mono ?_; rintro e w' ⟨rfl, rfl⟩)
            go_loopw [8, 9, 10] (fun lo hi d w' => ∃ (k : Nat) (a b : Int), k ≤ N ∧ d = .int .i64 (k : Int) ∧ lo = .int .i64 a ∧ hi = .int .i64 b ∧ -1 ≤ a ∧ a ≤ 15 ∧ -1 ≤ b ∧ b ≤ 15 ∧ Hid ((a, b) = lhN p k ∧ Below B w w' ∧ Blk w' B 47 (arr hv))) (fun _ _ d _ => 62 - (intOf d).toNat)
            case atStart =>
              have h := numZ_bd p
              exact ⟨0, numZ p, numZ p, by omega, rfl, rfl, rfl, by omega, by omega, by omega, by omega, hide ⟨rfl, unhide HB⟩⟩
            case round =>
              obtain ⟨k, a, b, hk, rfl, rfl, rfl, a0, a1, b0, b1, HK⟩ := hrel
              clear HB
              by_cases hkl : k < N
              · have hs : k < (bs p).size := by omega
                obtain ⟨c, hc0⟩ : ∃ c, p[k]? = some c := ⟨_, List.getElem?_eq_getElem (show k < p.length by omega)⟩
                have hb : (bs p)[k]'hs = c := by
                  rw [bs_at p k hs (by omega)]
                  rw [List.getElem?_eq_getElem (show k < p.length by omega)] at hc0
                  simpa using hc0
                have HK2 := hide (show lhN p (k + 1) = if c = 45 then (numZ (p.take k), numZ (p.drop (k + 1))) else (a, b) by
                  show (if p[k]? = some 45 then (numZ (p.take k), numZ (p.drop (k + 1))) else lhN p k) = _
                  rw [hc0, ← (unhide HK).1]
                  by_cases e : c = 45
                  · rw [if_pos e, if_pos (by rw [e])]
                  · rw [if_neg e, if_neg (fun h => e (by simpa using h))])
                clear hc0
                have HK3 := hide (unhide HK).2
                clear HK
                by_cases hc : c = 45
                · rw [if_pos hc] at HK2
                  rw [hc] at hb
                  have hxa : (bs p).extract 0 k = bs (p.take k) := by rw [bs_cut, List.drop_zero]
                  have hxb : (bs p).extract (k + 1) N = bs (p.drop (k + 1)) := by rw [← hpl, bs_cut, List.take_length]
                  have hk0 : (0 : Int) ≤ (k : Int) := by omega
                  have hk1 : (k : Int) ≤ (N : Int) := by omega
                  have hk2 : (0 : Int) ≤ (k : Int) + 1 := by omega
                  have hk3 : (k : Int) + 1 ≤ (N : Int) := by omega
                  have C1 := CN (p.take k)
                  have C2 := CN (p.drop (k + 1))
                  have n1 := numZ_bd (p.take k)
                  have n2 := numZ_bd (p.drop (k + 1))
                  generalize numZ (p.take k) = A1 at *
                  generalize numZ (p.drop (k + 1)) = A2 at *
                  generalize p.take k = P1 at *
                  generalize p.drop (k + 1) = P2 at *
                  have h45 : (45 : UInt8).toNat = 45 := rfl
                  have hw1 : IntKind.i64.wrap ((k : Int) + 1) = (k : Int) + 1 := by rw [IntKind.wrap_i64]; omega
                  clear hc CN CNp
                  go_wp2_with fail
                  go_quiet (first | (go_at_call 25; with_reducible exact Calls.quiet_of_same (unhide (C1 _))) | (go_at_call 25; with_reducible exact Calls.quiet_of_same (unhide (C2 _))))
                  go_wp2_with fail
                  have HK4 := hide (show Below B w (wr.drewN nq) ∧ Blk (wr.drewN nq) B 47 (arr hv) from
                    ⟨(unhide HK3).1.trans ((below_drewN wr nq).mono (hB ▸ (unhide HK3).1.size)), (unhide HK3).2.below (below_drewN wr nq) (unhide HK3).2.lt⟩)
                  go_roundw
                  case rel => exact ⟨k + 1, A1, A2, by omega, by go_num, rfl, rfl, n1.1, n1.2, n2.1, n2.2, hide ⟨(unhide HK2).symm, unhide HK4⟩⟩
                  case measure => simp [intOf]; omega
                · rw [if_neg hc] at HK2
                  have hx : (c.toNat : Int) ≠ 45 := by
                    intro e
                    apply hc
                    apply UInt8.toNat_inj.1
                    have e2 : (45 : UInt8).toNat = 45 := rfl
                    omega
                  clear hc
                  generalize hcn : c.toNat = x at *
                  have hxx : ((x : Int) == 45) = false := by rw [beq_eq_false_iff_ne]; exact hx
                  go_wp2_with fail
                  go_roundw
                  case rel => exact ⟨k + 1, a, b, by omega, by go_num, rfl, rfl, a0, a1, b0, b1, hide ⟨(unhide HK2).symm, unhide HK3⟩⟩
                  case measure => simp [intOf]; omega
              · obtain rfl : k = N := by omega
                obtain ⟨hab, hbw, hbk⟩ := unhide HK
                have HPB := hide (show ∀ rs, rs ≠ [] → Ok 0 rs → l = joinT rs → ∃ x y : Nat, x ≤ y ∧ y ≤ 15 ∧ a = (x : Int) ∧ b = (y : Int) ∧ ∀ hv', (∀ c, c < 16 → hv' c = (hv c || (decide (x ≤ c) && decide (c ≤ y)))) → PI l rs (i + 1) (i + 1) hv' from fun rs h1 h2 h3 => by
                  obtain ⟨x, y, q1, q2, q3, q4⟩ := unhide HPA rs h1 h2 h3
                  rw [← hab] at q3
                  simp only [Prod.mk.injEq] at q3
                  exact ⟨x, y, q1, q2, q3.1, q3.2, q4⟩)
                have HK3 := hide (And.intro hbw hbk)
                clear HK hab hbw hbk HPA
                by_cases hneg : a < 0 ∨ b < 0
                · have HR := hide (unhide HNO (fun M hM h => by
                    obtain ⟨rs, h1, h2, h3, _⟩ := unhide HTP M h
                    obtain ⟨x, y, q1, q2, q3, q4, _⟩ := unhide HPB rs h1 h2 h3
                    omega))
                  rcases hneg with hneg | hneg
                  · go_wp2_with fail
                    go_ret2
                    exact ⟨by rw [unhide HR]; rfl, (unhide HK3).1⟩
                  · by_cases ha : a < 0
                    · go_wp2_with fail
                      go_ret2
                      exact ⟨by rw [unhide HR]; rfl, (unhide HK3).1⟩
                    · go_wp2_with fail
                      go_ret2
                      exact ⟨by rw [unhide HR]; rfl, (unhide HK3).1⟩
                · obtain ⟨x, rfl⟩ := Int.eq_ofNat_of_zero_le (show 0 ≤ a by omega)
                  obtain ⟨y, rfl⟩ := Int.eq_ofNat_of_zero_le (show 0 ≤ b by omega)
                  clear hneg
                  go_wp2_with fail
                  go_loopw [11] (fun d w' => ∃ j : Nat, (j = 0 ∨ x + j ≤ y + 1) ∧ d = .int .i64 ((x + j : Nat) : Int) ∧ Hid (Below B w w' ∧ Blk w' B 47 (arr fun c => hv c || (decide (x ≤ c) && decide (c < x + j))))) (fun d _ => 62 - (intOf d).toNat)
                  case atStart =>
                    refine ⟨0, .inl rfl, rfl, hide ⟨(unhide HK3).1, ?_⟩⟩
                    have e : (fun c => hv c || (decide (x ≤ c) && decide (c < x + 0))) = hv := by
                      funext c
                      have : (decide (x ≤ c) && decide (c < x + 0)) = false := by simp
                      rw [this, Bool.or_false]
                    rw [e]; exact (unhide HK3).2
                  case round =>
                    obtain ⟨j, hj, rfl, HJ⟩ := hrel
                    clear HK3
                    by_cases hjy : x + j ≤ y
                    · have hfree := (unhide HJ).2.free (x + j)
                      have hcell := (unhide HJ).2.cell (x + j)
                      rw [arr_at _ _ (by omega)] at hcell
                      have HJ2 := hide (show Below B w (wr.setCell ⟨B, x + j, none⟩ (.bool true)) ∧ Blk (wr.setCell ⟨B, x + j, none⟩ (.bool true)) B 47 (arr fun c => hv c || (decide (x ≤ c) && decide (c < x + (j + 1)))) by
                        refine ⟨(unhide HJ).1.setCell (Nat.le_refl _) _, ?_⟩
                        have h := (unhide HJ).2.put (x + j) (.bool true)
                        rw [arr_put _ _ (by omega)] at h
                        have e : (fun c => (hv c || (decide (x ≤ c) && decide (c < x + j))) || decide (c = x + j)) = fun c => hv c || (decide (x ≤ c) && decide (c < x + (j + 1))) := by
                          funext c
                          cases hv c
                          · rw [Bool.false_or, Bool.false_or, Bool.eq_iff_iff]
                            simp
                            omega
                          · rfl
                        rw [e] at h; exact h)
                      generalize hxj : x + j = z at *
                      generalize (hv z || (decide (x ≤ z) && decide (z < z))) = old at *
                      clear HJ
                      have hz15 : (z : Int) ≤ 15 := by omega
                      have hz16 : z < 16 := by omega
                      have HXJ := hide (And.intro hxj hj)
                      clear hxj hj
                      go_wp2_with fail
                      go_roundw
                      case rel => exact ⟨j + 1, .inr (by have := (unhide HXJ).1; omega), by have := (unhide HXJ).1; congr 1; omega, HJ2⟩
                      case measure => simp [intOf]; omega
                    · have HO := hide (show Below B w wr ∧ ∃ hv2, Blk wr B 47 (arr hv2) ∧ ∀ rs, rs ≠ [] → Ok 0 rs → l = joinT rs → PI l rs (i + 1) (i + 1) hv2 by
                        refine ⟨(unhide HJ).1, _, (unhide HJ).2, fun rs h1 h2 h3 => ?_⟩
                        obtain ⟨x2, y2, q1, q2, q3, q4, q5⟩ := unhide HPB rs h1 h2 h3
                        refine q5 _ fun c hc => ?_
                        have : (decide (x ≤ c) && decide (c < x + j)) = (decide (x2 ≤ c) && decide (c ≤ y2)) := by
                          rw [Bool.eq_iff_iff]
                          simp
                          omega
                        rw [this])
                      clear HJ
                      have hzz : ¬ ((x + j : Nat) : Int) ≤ (y : Int) := by omega
                      clear hj hjy HPB
                      generalize x + j = z at *
                      go_wp2_with fail
                      go_roundw
                      case rel =>
                        obtain ⟨h1, hv2, h2, h3⟩ := unhide HO
                        exact ⟨i + 1, i + 1, hv2, by omega, by omega, by go_num, by go_num, hide ⟨h1, h2, h3⟩⟩
                      case measure => simp [intOf]; omega
      · obtain rfl : i = L + 1 := by omega
        obtain ⟨hbw, hbk, hpi⟩ := unhide HI
        have HV := hide (show ∀ M, M < 65536 → textOf M = l → vN hv 16 = M from fun M hM h => by
          obtain ⟨rs, h1, h2, h3, h4⟩ := unhide HTP M h
          have := hpi rs h1 h2 h3
          rw [← hL] at this
          exact this.done M hM h4)
        have HBK := hide hbk
        have HBW := hide hbw
        have HVL := hide (vN_lt hv)
        clear HI hpi hbw hbk
        go_wp2_with fail
        go_loop [12, 13] (fun m d => ∃ k v : Nat, k ≤ 16 ∧ d = .int .i64 (15 - (k : Int)) ∧ m = .int .u32 (v : Int) ∧ Hid (v = vN hv k)) (fun _ d => (intOf d + 1).toNat)
        case atStart => exact ⟨0, 0, by omega, rfl, rfl, hide rfl⟩
        case round =>
          obtain ⟨k, v, hk, rfl, rfl, HK⟩ := hrel
          by_cases hk16 : k < 16
          · obtain ⟨j, hj⟩ : ∃ j : Nat, 15 - (k : Int) = (j : Int) := ⟨15 - k, by omega⟩
            have hvb : v < 65536 := by
              have h1 := unhide HVL k
              have h2 : 2 ^ k ≤ 2 ^ 16 := Nat.pow_le_pow_right (by omega) hk
              rw [← unhide HK] at h1
              have h3 : 2 ^ 16 = 65536 := rfl
              omega
            have hcell := (unhide HBK).cell j
            rw [arr_at hv j (by omega)] at hcell
            have HS := hide (show vN hv (k + 1) = v * 2 + if hv j = true then 1 else 0 by
              rw [unhide HK, show j = 15 - k by omega]; rfl)
            rw [hj]
            clear HK
            have e1 : IntKind.u32.wrap ((v : Int) * 2) = (v : Int) * 2 := by rw [IntKind.wrap_u32]; omega
            have e2 : IntKind.u32.wrap ((v : Int) * 2 + 1) = (v : Int) * 2 + 1 := by rw [IntKind.wrap_u32]; omega
            cases hb : hv j
            · rw [hb] at hcell
              rw [hb, if_neg (by decide)] at HS
              go_wp2_with fail
              go_round
              case rel => exact ⟨k + 1, v * 2 + 0, by omega, by go_num, by simp, hide (unhide HS).symm⟩
              case measure => first | (simp [intOf]; done) | (simp [intOf]; omega)
            · rw [hb] at hcell
              rw [hb, if_pos rfl] at HS
              go_wp2_with fail
              go_round
              case rel => exact ⟨k + 1, v * 2 + 1, by omega, by go_num, by simp, hide (unhide HS).symm⟩
              case measure => first | (simp [intOf]; done) | (simp [intOf]; omega)
          · obtain rfl : k = 16 := by omega
            have hvb : v < 65536 := by rw [unhide HK]; exact unhide HVL 16
            have CT := fun w' => hide (rtext_any v (by omega) w')
            have heq := bs_eq (textOf v) l
            by_cases ht : textOf v = l
            · have HR := hide (unhide HYES v hvb ht)
              rw [show (textOf v == l) = true by rw [ht]; exact beq_self_eq_true _] at heq
              clear ht
              generalize textOf v = T at *
              go_wp2_with (go_at_call 17; refine (unhide (CT _)).mono ?_; rintro e w2 ⟨rfl, b2⟩)
              go_ret2
              exact ⟨by rw [unhide HR]; rfl, (unhide HBW).trans (b2.mono (hB ▸ (unhide HBW).size))⟩
            · have HR := hide (unhide HNO (fun M hM h => by
                have := unhide HV M hM h
                rw [← unhide HK] at this
                subst this
                exact ht h))
              rw [show (textOf v == l) = false by rw [beq_eq_false_iff_ne]; exact ht] at heq
              clear ht
              generalize textOf v = T at *
              go_wp2_with (go_at_call 17; refine (unhide (CT _)).mono ?_; rintro e w2 ⟨rfl, b2⟩)
              go_ret2
              exact ⟨by rw [unhide HR]; rfl, (unhide HBW).trans (b2.mono (hB ▸ (unhide HBW).size))⟩
end Go.Proofs.YtcbdbkdnindaoaaDoor
