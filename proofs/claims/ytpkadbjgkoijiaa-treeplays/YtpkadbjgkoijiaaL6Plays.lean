import Derived.Test.YtpkadbjgkoijiaaTq4
import Derived.Test.YtpkadbjgkoijiaaFlt
namespace Go.Proofs.Ytpkadbjgkoijiaa
open Go.RowKit

theorem row_grown {w w' : World} {C e size n : Nat} {v : Value} {xs : List Value} {r : Option Nat} (h : w.ownsRow C e size v n xs) (hg : w.grownBy w' r) (hne : ∀ a, v.ownBlock = some a → some a ≠ r) : w'.ownsRow C e size v n xs := by
  refine ⟨h.1, ?_⟩
  rcases h.2 with h2 | ⟨g, cap, cur, h1, h2, h3, h4⟩
  · exact .inl h2
  · refine .inr ⟨g, cap, cur, h1, h2, ?_, h4⟩
    have hb : v.ownBlock = some g := by rw [h1]; rfl
    rw [hg.block g (h.lt g hb).2 (hne g hb)]; exact h3
theorem news_handle {w : World} {b : Nat} {x y : Int} (h : Blk w b 27 #[.int .i64 x, .int .i64 y]) : News w (.slice (some ⟨b, 0, none⟩) 1 1) 1 2 [.int .i64 x, .int .i64 y] := by
  refine ⟨rfl, fun u hu => ?_, .inr ⟨_, 1, rfl, fun j u hu => ?_⟩⟩
  · simp only [List.mem_cons, List.not_mem_nil, or_false] at hu
    rcases hu with rfl | rfl <;> rfl
  · rw [add0, h.cell, ← hu]
    simp
set_option maxRecDepth 100000 in
set_option maxHeartbeats 1000000 in
theorem lplays_short (P : Nat) (p : Option Addr) (len cap : Nat) (kd ka kb ii hp ht : Nat → Int) (tm : Int) (w : World) (hP1 : 1 ≤ P) (hP2 : P ≤ 4096) (hlen : len ≤ 150)
    (hk : ∀ i, i < len → 0 ≤ kd i ∧ kd i ≤ 255) (hi64 : ∀ i, i < len → -9223372036854775808 ≤ ii i ∧ ii i ≤ 9223372036854775807)
    (hc : ∀ i, i < len → ∃ x, p = some x ∧ x.block < w.heap.size ∧ w.cell? (x.add (i * 6)) = some (.int .u8 (kd i)) ∧ w.cell? (x.add (i * 6 + 1)) = some (.int .i64 (ka i)) ∧ w.cell? (x.add (i * 6 + 2)) = some (.int .i64 (kb i)) ∧
      w.cell? (x.add (i * 6 + 3)) = some (.int .i64 (ii i)) ∧ w.cell? (x.add (i * 6 + 4)) = some (.int .i64 (hp i)) ∧ w.cell? (x.add (i * 6 + 5)) = some (.int .i64 (ht i))) :
    Calls Try.prog 3 #[.int .i64 (P : Int), .slice p len cap, .int .i64 tm] w fun e w' => e = .returned (.bool true) ∧ Below w.heap.size w w' := by
  have CF := hide (fixed6 w)
  have CN := fun w' => hide (tnew P hP1 hP2 w')
  obtain ⟨B, hB⟩ : ∃ B, w.heap.size = B := ⟨_, rfl⟩
  rw [hB] at hc
  have hc := hide hc
  have hk := hide hk
  have hi64 := hide hi64
  have hl2 : ((len : Nat) : Int) ≤ 150 := by omega
  have hd1 : decide ((150 : Int) < (len : Int)) = false := decide_eq_false (by omega)
  have hd2 : decide ((P : Int) < 1) = false := decide_eq_false (by omega)
  have hd3 : decide ((4096 : Int) < (P : Int)) = false := decide_eq_false (by omega)
  go_enter Try.func3, Try.ntmps3
  go_wp2_with (first | (go_at_call 4; refine (unhide CF).mono ?_; rintro e w1 ⟨rfl, hb1⟩) | (go_at_call 5; refine Hid.out ?_))
  refine hide ?_
  refine (unhide (CN _)).mono ?_
  rintro e w2 ⟨T, G, rfl, tr2, hb2, hT, hG⟩
  rw [hB] at hb1
  obtain ⟨C, hC⟩ : ∃ C, w2.heap.size = C := ⟨_, rfl⟩
  have HH0 : Hid (PS w B C T G P w2 (fun _ => 0) [] [] (.slice none 0 0) (.slice none 0 0)) := hide (by
    have s1 := hb1.size
    have s2 := hb2.size
    have l := tr2.lts
    exact ⟨tr2, World.ownsRow_nil _ _ _ _, World.ownsRow_nil _ _ _ _, (fun a h => by cases h), hb1.trans (hb2.mono (by omega)), by omega, by omega, (fun h hh => by cases hh)⟩)
  clear tr2 hb1 hb2 hT hG CF CN
  go_wp2_with fail
  go_loopw [12, 13, 73] (fun vr vg d w' => ∃ (i : Nat) (tf : Nat → Int) (L : List It) (gn : List (Nat × Int)), d = .int .i64 (i : Int) ∧ i ≤ len ∧ Hid (PS w B C T G P w' tf L gn vr vg ∧ gn.length ≤ i ∧ L.length ≤ i ∧ ∀ x, 0 ≤ tf x ∧ tf x ≤ i)) (fun _ _ d _ => len - (intOf d).toNat)
  case atStart => exact ⟨0, fun _ => 0, [], [], rfl, by omega, hide ⟨unhide HH0, by simp, by simp, fun _ => ⟨by show (0 : Int) ≤ 0; omega, by show (0 : Int) ≤ ((0 : Nat) : Int); omega⟩⟩⟩
  case round =>
    obtain ⟨i, tf, L, gn, rfl, hi, HI⟩ := hrel
    by_cases hlt : i < len
    · obtain ⟨x, rfl, hx, hc0, hc1, hc2, hc3, hc4, hc5⟩ := (unhide hc) i hlt
      obtain ⟨hps, hgl, hll, htb⟩ := unhide HI
      have hol : ∀ k v, k ≠ 0 → w.cell? (x.add (i * 6 + k)) = some v → wr.cell? ⟨(x.add (i * 6)).block, (x.add (i * 6)).off + k, none⟩ = some v := fun k v hk0 h => by
        have e2 : wr.cell? (x.add (i * 6 + k)) = some v := by rw [hps.bl.cell (p := x.add (i * 6 + k)) (by unfold Addr.add; split <;> exact hx)]; exact h
        rw [← Go.Deep.add_add] at e2
        unfold Addr.add at e2
        rw [if_neg hk0] at e2
        exact e2
      have e0 : wr.cell? (x.add (i * 6)) = some (.int .u8 (kd i)) := by rw [hps.bl.cell (p := x.add (i * 6)) (by unfold Addr.add; split <;> exact hx)]; exact hc0
      have e1 := hol 1 _ (by omega) hc1
      have e2 := hol 2 _ (by omega) hc2
      have e3 := hol 3 _ (by omega) hc3
      have e4 := hol 4 _ (by omega) hc4
      have e5 := hol 5 _ (by omega) hc5
      have hkd := (unhide hk) i hlt
      have hii := (unhide hi64) i hlt
      clear hc0 hc1 hc2 hc3 hc4 hc5 hol
      generalize kd i = K at *
      generalize ka i = A1 at *
      generalize kb i = A2 at *
      generalize ii i = I at *
      generalize hp i = H1 at *
      generalize ht i = H2 at *
      obtain ⟨bx, hbx⟩ : ∃ b, wr.heap.size = b := ⟨_, rfl⟩
      have hCb : C ≤ bx := by have := hps.cz; omega
      obtain ⟨W3, hW3⟩ : ∃ W3, W3 = wr.alloc (.cells #[.int .u8 K, .int .i64 A1, .int .i64 A2, .int .i64 I, .int .i64 H1, .int .i64 H2] 40) := ⟨_, rfl⟩
      have hps3 : PS w B C T G P W3 tf L gn u12 u13 := hps.below (by rw [hW3]; exact one_below _ _)
      have kb3 : Blk W3 bx 40 #[.int .u8 K, .int .i64 A1, .int .i64 A2, .int .i64 I, .int .i64 H1, .int .i64 H2] := by rw [hW3]; exact Blk.new_at _ _ _ hbx.symm
      have HS3 := hide (And.intro hps3 (And.intro kb3 (And.intro hgl (And.intro hll htb))))
      have e6 : K.tmod 3 = K % 3 := Int.tmod_eq_emod_of_nonneg hkd.1
      have hmd : K % 3 = 0 ∨ K % 3 = 1 ∨ K % 3 = 2 := by omega
      clear hps hps3 kb3 hgl hll htb HI HH0
      rcases hmd with hmd | hmd | hmd
      · rw [hmd] at e6
        have HW3 := hide hW3
        clear hW3
        by_cases hfull : L.length = P
        · have hfi : ((L.length : Int) == (P : Int)) = true := by rw [beq_iff_eq]; omega
          have CP := hide (tput_full T G P tf L W3 (unhide HS3).1.tr hfull A1 A2)
          obtain ⟨ra, rcap, hra⟩ := row_val (unhide HS3).1.row
          subst hra
          have HFU := hide hfull
          clear hfull
          go_wp2_with (go_at_call 10; refine Hid.out ?_)
          refine hide ?_
          rw [← unhide HW3]
          refine (unhide CP).mono ?_
          rintro e w4 ⟨rfl, hb4⟩
          obtain ⟨W5, hW5⟩ : ∃ W5, W5 = w4.alloc (.cells #[.int .i64 0, .int .i64 0] 27) := ⟨_, rfl⟩
          have HS5 : Hid (PS w B C T G P W5 tf L gn (.slice ra L.length rcap) u13 ∧ gn.length ≤ i + 1 ∧ L.length ≤ i + 1 ∧ ∀ x, 0 ≤ tf x ∧ tf x ≤ ((i + 1 : Nat) : Int)) := hide (by
            obtain ⟨h1, h2, h3, h4, h5⟩ := unhide HS3
            exact ⟨(h1.below hb4).below (by rw [hW5]; exact one_below _ _), by omega, by omega, fun x => by have := h5 x; omega⟩)
          have HW5 := hide hW5
          clear hb4 CP HS3 hW5 e0 e1 e2 e3 e4 e5
          have CS := hide (same_any (.slice ra L.length rcap) T G P tf L W5 (unhide HS5).1.tr (IRw.of_own (unhide HS5).1.row) (by have := (unhide HS5).2.2.1; omega))
          go_wp2_with (go_at_call 13; refine Hid.out ?_)
          refine hide ?_
          rw [← unhide HW5]
          refine (unhide CS).mono ?_
          rintro e w9 ⟨rfl, hb9⟩
          have HF := hide (And.intro ((unhide HS5).1.below hb9) (unhide HS5).2)
          clear hb9 CS
          go_wp2_with fail
          go_roundw
          case rel => exact ⟨i + 1, _, _, _, by go_num, by omega, HF⟩
          case measure => simp [intOf]; omega
        · have hroom : L.length < P := by have := (unhide HS3).1.tr.len; omega
          have hfi : ((L.length : Int) == (P : Int)) = false := by rw [beq_eq_false_iff_ne]; omega
          have CP := hide (tput T G P tf L W3 (unhide HS3).1.tr hroom (fun x => ⟨((unhide HS3).2.2.2.2 x).1, by have := ((unhide HS3).2.2.2.2 x).2; omega⟩) A1 A2)
          obtain ⟨ra, rcap, hra⟩ := row_val (unhide HS3).1.row
          subst hra
          obtain ⟨ga, gcap, hga⟩ := row_val (unhide HS3).1.gon
          subst hga
          clear hfull hroom
          go_wp2_with (go_at_call 10; refine Hid.out ?_)
          refine hide ?_
          rw [← unhide HW3]
          refine (unhide CP).mono ?_
          rintro e w4 ⟨n, pre, post, rfl, g1, g2, g3, l3, g4, g5, tr4, tt4⟩
          obtain ⟨q, hq⟩ : ∃ q, tf n = q := ⟨_, rfl⟩
          rw [hq] at tr4 ⊢
          obtain ⟨W5, hW5⟩ : ∃ W5, W5 = w4.alloc (.cells #[.int .i64 (n : Int), .int .i64 (q + 1)] 27) := ⟨_, rfl⟩
          obtain ⟨bh, hbh⟩ : ∃ b, w4.heap.size = b := ⟨_, rfl⟩
          have b45 : Below w4.heap.size w4 W5 := by rw [hW5]; exact one_below _ _
          obtain ⟨hps3, kb3, hgl, hll, htb⟩ := unhide HS3
          obtain ⟨row4, gon4, bl4, cz4⟩ := hps3.touch tt4
          have row5 := row_keep row4 (fun j _ hj => b45.block j hj)
          have gon5 := row_keep gon4 (fun j _ hj => b45.block j hj)
          have hbt3 := hps3.bt
          have kb5 : Blk W5 bx 40 #[.int .u8 K, .int .i64 A1, .int .i64 A2, .int .i64 I, .int .i64 H1, .int .i64 H2] := by
            have h := kb3.touch tt4 (by omega) (by omega)
            exact h.below b45 h.lt
          have kh5 : Blk W5 bh 27 #[.int .i64 (n : Int), .int .i64 (q + 1)] := by rw [hW5]; exact Blk.new_at _ _ _ hbh.symm
          have CI := hide (find_any (.slice ra L.length rcap) L (n : Int) (q + 1) W5 (IRw.of_own row5) (by omega))
          rw [fidx_none L (n : Int) (q + 1) (fun y hy h => g3 y hy (by omega))] at CI
          have HS5 := hide (And.intro hps3 (And.intro row5 (And.intro gon5 (And.intro kb5 (And.intro kh5 (And.intro bl4 (And.intro cz4 (And.intro b45 (And.intro tr4 (And.intro l3 (And.intro g3 (And.intro g4 g5))))))))))))
          have HW5 := hide hW5
          clear hps3 kb3 hgl hll htb row4 gon4 bl4 cz4 row5 gon5 kb5 kh5 b45 tr4 l3 g3 g4 g5 tt4 hW5 CP e0 e1 e2 e3 e4 e5 hbt3
          go_wp2_with (go_at_call 11; refine Hid.out ?_)
          refine hide ?_
          rw [← unhide HW5]
          refine (unhide CI).mono ?_
          rintro e w6 ⟨rfl, hb6⟩
          have HB6 := hide hb6
          clear hb6 CI HW5
          have hgl : gn.length ≤ 150 := by have := (unhide HS3).2.2.1; omega
          go_wp2_with fail
          go_loopw [105] (fun d w' => ∃ j : Nat, d = .int .i64 (j : Int) ∧ j ≤ gn.length ∧ Hid (Below W5.heap.size W5 w')) (fun d _ => 151 - (intOf d).toNat)
          case atStart => exact ⟨0, rfl, by omega, HB6⟩
          case round =>
            obtain ⟨j, rfl, hj, HJ⟩ := hrel
            clear HB6
            by_cases hjl : j < gn.length
            · obtain ⟨c1, c2⟩ := grow_at gn j hjl
              have hgon := (unhide HS5).2.2.1
              have hgt := ((unhide HS3).1.gok _ (List.getElem_mem hjl)).1
              obtain ⟨gg, hgg⟩ : ∃ gg, ga = some ⟨gg, 0, none⟩ := by
                rcases hgon.2 with ⟨h, h0⟩ | ⟨g', cap', cur, h, _⟩
                · omega
                · cases h; exact ⟨g', rfl⟩
              subst hgg
              have x1 := hgon.cells (g := gg) rfl _ _ c1
              have x2 := hgon.cells (g := gg) rfl _ _ c2
              rw [add0] at x1 x2
              have y1 := hold x1 wr (unhide HJ)
              have y2 := hold x2 wr (unhide HJ)
              obtain ⟨z1, z2⟩ : wr.cell? ⟨bh, 0, none⟩ = some (.int .i64 (n : Int)) ∧ wr.cell? ⟨bh, 1, none⟩ = some (.int .i64 (q + 1)) :=
                ⟨hold ((unhide HS5).2.2.2.2.1.cell 0) wr (unhide HJ), hold ((unhide HS5).2.2.2.2.1.cell 1) wr (unhide HJ)⟩
              have hbhl : bh < wr.heap.size := World.block_lt_of_cell? wr _ z1
              clear x1 x2 c1 c2 hgon
              generalize gn[j] = gh at *
              obtain ⟨q1, q2⟩ := gh
              simp only at y1 y2 hgt
              by_cases e : q1 = n
              · subst e
                rw [hq] at hgt
                have d2 : (q2 == q + 1) = false := by rw [beq_eq_false_iff_ne]; omega
                go_wp2_with fail
                have HJ2 := hide ((unhide HJ).trans ((one_below wr (.cells #[.int .i64 (q1 : Int), .int .i64 q2] 27)).mono (unhide HJ).size))
                go_roundw
                case rel => exact ⟨j + 1, by go_num, by omega, HJ2⟩
                case measure => simp [intOf]; omega
              · have d1 : ((q1 : Int) == (n : Int)) = false := by rw [beq_eq_false_iff_ne]; omega
                go_wp2_with fail
                have HJ2 := hide ((unhide HJ).trans ((one_below wr (.cells #[.int .i64 (q1 : Int), .int .i64 q2] 27)).mono (unhide HJ).size))
                go_roundw
                case rel => exact ⟨j + 1, by go_num, by omega, HJ2⟩
                case measure => simp [intOf]; omega
            · obtain rfl : j = gn.length := by omega
              obtain ⟨hps3, row5, gon5, kb5, kh5, bl4, cz4, b45, tr4, l3, g3, g4, g5⟩ := unhide HS5
              have hJ := unhide HJ
              have row8 := row_keep row5 (fun k _ hk => hJ.block k hk)
              have gon8 := row_keep gon5 (fun k _ hk => hJ.block k hk)
              have kb8 := kb5.below hJ kb5.lt
              have kh8 := kh5.below hJ kh5.lt
              have x1 := kb8.cell 1
              have x2 := kb8.cell 2
              have x3 := kh8.cell 0
              have x4 := kh8.cell 1

              have CL := hide (lput_any C (.slice ra L.length rcap) pre post ⟨n, q + 1, A1, A2⟩ wr (by rw [← l3]; exact row8) g4 g5 (by rw [← l3]; have := (unhide HS3).2.2.2.1; omega))
              have HG8 := hide gon8
              clear hps3 row5 gon5 kb5 kh5 bl4 cz4 b45 tr4 l3 g3 g4 g5 hJ row8 gon8 kb8 kh8
              go_wp2_with (go_at_call 12; refine Hid.out ?_)
              refine hide ?_
              refine (unhide CL).mono ?_
              rintro e w8 ⟨v8, rfl, row9, hb8⟩
              have HS9 : Hid (PS w B C T G P w8 (fun x => if x = n then q + 1 else tf x) (pre ++ ⟨n, q + 1, A1, A2⟩ :: post) gn v8 (.slice ga gn.length gcap) ∧ gn.length ≤ i + 1 ∧ (pre ++ ⟨n, q + 1, A1, A2⟩ :: post).length ≤ i + 1 ∧ ∀ x, 0 ≤ (fun x => if x = n then q + 1 else tf x) x ∧ (fun x => if x = n then q + 1 else tf x) x ≤ ((i + 1 : Nat) : Int)) := hide (by
                obtain ⟨hps3, kb3, hgl3, hll, htb⟩ := unhide HS3
                obtain ⟨_, row5, gon5, kb5, kh5, bl4, cz4, b45, tr4, l3, g3, g4, g5⟩ := unhide HS5
                have hJ := unhide HJ
                have b58 := hJ.trans (hb8.mono hJ.size)
                have b48 : Below w4.heap.size w4 w8 := b45.trans (b58.mono b45.size)
                have hz5 : C ≤ wr.heap.size := Nat.le_trans cz4 (Nat.le_trans b45.size hJ.size)
                refine ⟨⟨?_, World.ownsRow.mono row9 hz5, row_keep (unhide HG8) (fun k _ hk => hb8.block k hk), ?_, ?_, Nat.le_trans cz4 b48.size, hps3.bt, ?_⟩, by omega, ?_, ?_⟩
                · have e : (fun x => if x = n then q + 1 else tf x) = (fun x => if x = n then tf n + 1 else tf x) := by rw [hq]
                  rw [e]
                  rw [hq] at *
                  exact tr4.below b48
                · intro a ha hb
                  have h1 := (row9.lt a ha).1
                  have h2 := ((unhide HG8).lt a hb).2
                  omega
                · exact bl4.trans (b48.mono (by have := hps3.bt; omega))
                · intro h hh
                  obtain ⟨h1, h2⟩ := hps3.gok h hh
                  refine ⟨?_, ?_⟩
                  · show h.2 ≤ if h.1 = n then q + 1 else tf h.1
                    split
                    · rename_i e; rw [e, hq] at h1; omega
                    · exact h1
                  · intro y hy
                    rcases List.mem_append.1 hy with hy | hy
                    · exact h2 y (by rw [l3]; simp [hy])
                    · rcases List.mem_cons.1 hy with rfl | hy
                      · rintro ⟨e1, e2⟩
                        simp only at e1 e2
                        rw [← e1, hq] at h1
                        omega
                      · exact h2 y (by rw [l3]; simp [hy])
                · rw [l3, List.length_append] at hll
                  rw [List.length_append, List.length_cons]
                  omega
                · intro x
                  have h1 := htb x
                  have h2 := htb n
                  rw [hq] at h2
                  show 0 ≤ (if x = n then q + 1 else tf x) ∧ (if x = n then q + 1 else tf x) ≤ ((i + 1 : Nat) : Int)
                  split <;> omega)
              clear row9 hb8 CL HG8 HS5 HJ HS3 x1 x2 x3 x4
              have CS := hide (same_any v8 T G P (fun x => if x = n then q + 1 else tf x) (pre ++ ⟨n, q + 1, A1, A2⟩ :: post) w8 (unhide HS9).1.tr (IRw.of_own (unhide HS9).1.row) (by have := (unhide HS9).2.2.1; omega))
              go_wp2_with (go_at_call 13; refine Hid.out ?_)
              refine hide ?_
              refine (unhide CS).mono ?_
              rintro e w9 ⟨rfl, hb9⟩
              have HF := hide (And.intro ((unhide HS9).1.below hb9) (unhide HS9).2)
              clear hb9 CS
              go_wp2_with fail
              go_roundw
              case rel => exact ⟨i + 1, _, _, _, by go_num, by omega, HF⟩
              case measure => simp [intOf]; omega
      · rw [hmd] at e6
        have HW3 := hide hW3
        clear hW3
        obtain ⟨N, hN⟩ : ∃ N, L.length = N := ⟨_, rfl⟩
        obtain ⟨ra, rcap, hra⟩ := row_val (unhide HS3).1.row
        rw [hN] at hra
        subst hra
        have HN := hide hN
        have hN150 : N ≤ 150 := by have := (unhide HS3).2.2.2.1; omega
        by_cases hz : N = 0
        · have hfi : ((N : Int) == 0) = true := by rw [beq_iff_eq]; omega
          have HS5 : Hid (PS w B C T G P W3 tf L gn (.slice ra N rcap) u13 ∧ gn.length ≤ i + 1 ∧ L.length ≤ i + 1 ∧ ∀ x, 0 ≤ tf x ∧ tf x ≤ ((i + 1 : Nat) : Int)) := hide (by
            obtain ⟨h1, h2, h3, h4, h5⟩ := unhide HS3
            exact ⟨h1, by omega, by omega, fun x => by have := h5 x; omega⟩)
          clear HS3 hz hN
          have CS := hide (same_any (.slice ra N rcap) T G P tf L W3 (unhide HS5).1.tr (IRw.of_own (unhide HS5).1.row) (by have := (unhide HS5).2.2.1; omega))
          go_wp2_with (go_at_call 13; refine Hid.out ?_)
          refine hide ?_
          rw [← unhide HW3]
          refine (unhide CS).mono ?_
          rintro e w9 ⟨rfl, hb9⟩
          have HF := hide (And.intro ((unhide HS5).1.below hb9) (unhide HS5).2)
          clear hb9 CS
          go_wp2_with fail
          go_roundw
          case rel => exact ⟨i + 1, _, _, _, by go_num, by omega, HF⟩
          case measure => simp [intOf]; omega
        · have hfi : ((N : Int) == 0) = false := by rw [beq_eq_false_iff_ne]; omega
          obtain ⟨U, k, hU, hNw, hkU, hkN, hkw⟩ := idx_facts I N hz hN150
          obtain ⟨A, Bq, y, hL, hA, i3, i4⟩ := split_item L k (by rw [hN]; exact hkN)
          have hrow3 := (unhide HS3).1.row
          rw [hN] at hrow3
          obtain ⟨g, hrg, hcap1, hcap2⟩ := row_some hrow3 hz
          subst hrg
          have c3 := hrow3.cells (g := g) rfl _ _ i3
          have c4 := hrow3.cells (g := g) rfl _ _ i4
          clear hrow3
          rw [add0] at c3 c4
          have r3 : wr.alloc (.cells #[.int .u8 K, .int .i64 A1, .int .i64 A2, .int .i64 I, .int .i64 H1, .int .i64 H2] 40) = W3 := (unhide HW3).symm
          rw [← r3] at c3 c4
          clear r3
          have CD := hide (tdrop_in T G P tf A Bq y W3 (by rw [← hL]; exact (unhide HS3).1.tr))
          have HL := hide (And.intro hL hA)
          have HY := hide (And.intro i3 i4)
          obtain ⟨yn, yt, ya, yb⟩ := y
          simp only at c3 c4 CD
          obtain ⟨ga, gcap, hga⟩ := row_val (unhide HS3).1.gon
          subst hga
          have hidx : wrap64 ((IntKind.u64.wrap I).tmod (N : Int)) = (k : Int) := by rw [hU, hkU, hkw]
          have hk0 : (0 : Int) ≤ (k : Int) := Int.natCast_nonneg k
          have hk1 : (k : Int) < (N : Int) := Int.ofNat_lt.2 hkN
          clear hL hA i3 i4 hN hU hNw hkU hkw
          go_wp2_with (go_at_call 8; refine Hid.out ?_)
          refine hide ?_
          rw [← unhide HW3]
          refine (unhide CD).mono ?_
          rintro e w4 ⟨rfl, tr4, tt4⟩
          obtain ⟨row4, gon4, bl4, cz4⟩ := (unhide HS3).1.touch tt4
          obtain ⟨bg, hbg⟩ : ∃ b, w4.heap.size = b := ⟨_, rfl⟩
          have d3 := row4.cells (g := g) rfl _ _ (unhide HY).1
          have d4 := row4.cells (g := g) rfl _ _ (unhide HY).2
          rw [add0] at d3 d4
          have hgl : gn.length ≤ 150 := by have := (unhide HS3).2.2.1; omega
          obtain ⟨i0, hi0, hz0, hz1, hz2⟩ := info_parts hnInfo
          have hcb : C ≤ w4.heap.size := cz4
          have kx4 := Blk.new_at w4 27 #[.int .i64 (yn : Int), .int .i64 yt] hbg.symm
          have HS4 := hide (And.intro tr4 (And.intro row4 (And.intro gon4 (And.intro bl4 (And.intro kx4 cz4)))))
          clear tr4 row4 gon4 bl4 kx4 tt4 CD c3 c4 e0 e1 e2 e3 e4 e5
          go_wp2_with (at_builtin; refine list_app rfl _ _ 36 rfl C 27 i0 (.agg #[.int .i64 0, .int .i64 0]) 2 16 Try.underlying36 hi0 hz0 hz1 hz2 rfl (by decide) (.slice ga gn.length gcap) gn.length (grow gn) rfl (World.ownsRow.alloc (unhide HS4).2.2.1 _) 1 [.int .i64 (yn : Int), .int .i64 yt] (news_handle (unhide HS4).2.2.2.2.1) (by omega) (by decide) (by simp; omega) ?_)
          intro v5 w5 o5 g5
          obtain ⟨tr4, row4, gon4, bl4, kx4, cz4⟩ := unhide HS4
          obtain ⟨hL, hA⟩ := unhide HL
          subst hA
          have hps3 := (unhide HS3).1
          have hbt3 := hps3.bt
          have hneT : ∀ j, j < C → some j ≠ (Value.slice ga gn.length gcap).ownBlock := fun j hj e => by have := (gon4.lt j e.symm).1; omega
          have tr5 : Tre w5 T G P tf (A ++ Bq) := (tr4.below (one_below w4 (.cells #[.int .i64 (yn : Int), .int .i64 yt] 27))).grown g5 (hneT T (by omega)) (hneT G (by omega))
          have row5 : w5.ownsRow C 46 4 (.slice (some ⟨g, 0, none⟩) N rcap) L.length (irow L) := row_grown (World.ownsRow.alloc row4 _) g5 (fun a ha e => hps3.ap a ha e.symm)
          have bl5 : Below B w w5 := (bl4.alloc (by omega) _).grown g5 (by simp; omega) (fun j hj => by have := (gon4.lt j hj).1; omega)
          have cz5 : C ≤ w5.heap.size := by have := g5.size; simp at this; omega
          obtain ⟨D, hD⟩ : ∃ D, w5.heap.size = D := ⟨_, rfl⟩
          have hNL := unhide HN
          have rowA : w5.ownsRow C 46 4 (.slice (some ⟨g, 0, none⟩) (A ++ ⟨yn, yt, ya, yb⟩ :: Bq).length rcap) (A ++ ⟨yn, yt, ya, yb⟩ :: Bq).length (irow (A ++ ⟨yn, yt, ya, yb⟩ :: Bq)) := by
            rw [← hL, hNL]; rw [hNL] at row5; exact row5
          have hAy : A ++ (⟨yn, yt, ya, yb⟩ : It) :: Bq = (A ++ [⟨yn, yt, ya, yb⟩]) ++ Bq := by simp
          have rowB := rowA
          rw [hAy] at rowB
          have n1 := fun w' (h : Below D w5 w') => (news_pre rowA rcap).held w' (by rw [hD]; exact h)
          have n3 := fun w' (h : Below D w5 w') => (news_from rowB (by rw [← hAy, ← hL]; exact hNL) hcap1 (rcap - (A.length + 1))).held w' (by rw [hD]; exact h)
          rw [List.length_append, List.length_singleton] at n3
          have hBl : A.length + 1 + Bq.length = N := by rw [← hNL, hL]; simp; omega
          have HI := hide (And.intro n1 n3)
          have HP := hide (And.intro tr5 (And.intro row5 (And.intro bl5 (And.intro cz5 (And.intro o5 (And.intro hL hps3))))))
          have hp0 : (0 : Int) ≤ (A.length : Int) := Int.natCast_nonneg _
          have hp1 : (A.length : Int) ≤ (rcap : Int) := by omega
          have hp2 : (A.length : Int) + 1 ≤ (N : Int) := by omega
          have hp3 : (N : Int) ≤ (rcap : Int) := by omega
          have hp4 : (0 : Int) ≤ (A.length : Int) + 1 := by omega
          have hw1 : IntKind.i64.wrap ((A.length : Int) + 1) = (A.length : Int) + 1 := by rw [IntKind.wrap_i64]; omega
          have htn : ((A.length : Int) + 1).toNat = A.length + 1 := by omega
          have BE : ∀ o : Obj, Below D w5 (w5.alloc o).drew := fun o => by rw [← hD]; exact (one_below w5 o).drew
          have HBE := hide BE
          clear BE n1 n3 tr5 row5 bl5 cz5 o5 hL hps3 hbt3 rowA rowB hAy tr4 row4 gon4 bl4 kx4 cz4 hneT g5 HS4 HY d3 d4 hidx hk0 hk1 hNL
          go_wp2_with fail
          go_region_law (first
            | (refine step_own rfl _ _ rfl hD _ 0 [] rfl (own_empty (Nat.le_refl _) hD) A.length (irow A) ((unhide HI).1 _ ((unhide HBE) _)) (by omega) ((unhide HBE) _) ?_; intro v6 w6 o6 S6 K6; rw [Nat.zero_add, List.nil_append] at o6)
            | (refine step_own rfl _ _ rfl hD _ A.length (irow A) rfl o6 Bq.length (irow Bq) ((unhide HI).2 _ S6) (by omega) S6 ?_; intro v7 w7 o7 S7 K7))
          all_goals go_wp2_with fail
          all_goals
            have HS9 : Hid (PS w B C T G P w7 tf (A ++ Bq) (gn ++ [(yn, yt)]) v7 v5 ∧ (gn ++ [(yn, yt)]).length ≤ i + 1 ∧ (A ++ Bq).length ≤ i + 1 ∧ ∀ x, 0 ≤ tf x ∧ tf x ≤ ((i + 1 : Nat) : Int)) := hide (by
              obtain ⟨tr5, row5, bl5, cz5, o5, hL, hps3⟩ := unhide HP
              obtain ⟨_, kb3, hgl3, hll, htb⟩ := unhide HS3
              have b57 : Below w5.heap.size w5 w7 := by rw [hD]; exact S7
              have o5' : w5.ownsRow C 27 2 v5 (gn ++ [(yn, yt)]).length (grow (gn ++ [(yn, yt)])) := by
                rw [grow_snoc, List.length_append]; exact o5
              have pl := hps3.tr.places
              have hbt3 := hps3.bt
              refine ⟨⟨tr5.below b57, ?_, row_keep o5' (fun k _ hk => b57.block k hk), ?_, bl5.trans (b57.mono (by omega)), Nat.le_trans cz5 b57.size, hps3.bt, ?_⟩, ?_, ?_, ?_⟩
              · have e : irow A ++ irow Bq = irow (A ++ Bq) := (irow_append A Bq).symm
                rw [e] at o7
                rw [List.length_append]
                exact World.ownsRow.mono o7 (by omega)
              · intro a ha hb
                have h1 := (o7.lt a ha).1
                have h2 := (o5.lt a hb).2
                omega
              · intro h hh
                rcases List.mem_append.1 hh with hh | hh
                · obtain ⟨h1, h2⟩ := hps3.gok h hh
                  exact ⟨h1, fun z hz => h2 z (by
                    rw [hL]
                    rcases List.mem_append.1 hz with hz | hz
                    · simp [hz]
                    · simp [hz])⟩
                · have e : h = (yn, yt) := by simpa using hh
                  subst e
                  have hy := pl.2 ⟨yn, yt, ya, yb⟩ (by rw [hL]; simp)
                  refine ⟨by show yt ≤ tf yn; have := hy.2.2; simp only at this; omega, fun z hz hzz => ?_⟩
                  have hnd := pl.1
                  rw [hL, List.map_append, List.map_cons] at hnd
                  have hnd2 := List.nodup_append.1 hnd
                  have hzn : z.n = yn := hzz.1
                  rcases List.mem_append.1 hz with hz | hz
                  · exact hnd2.2.2 z.n (List.mem_map.2 ⟨z, hz, rfl⟩) yn (by simp) hzn
                  · exact (List.nodup_cons.1 hnd2.2.1).1 (by rw [← hzn]; exact List.mem_map.2 ⟨z, hz, rfl⟩)
              · rw [List.length_append, List.length_singleton]; omega
              · rw [hL, List.length_append, List.length_cons] at hll
                rw [List.length_append]; omega
              · intro x
                have := htb x
                omega)
            clear o6 S6 K6 o7 S7 K7 HP HS3 HI HBE
            have CS := hide (same_any v7 T G P tf (A ++ Bq) w7 (unhide HS9).1.tr (IRw.of_own (unhide HS9).1.row) (by have := (unhide HS9).2.2.1; omega))
            go_wp2_with (go_at_call 13; refine Hid.out ?_)
            refine hide ?_
            refine (unhide CS).mono ?_
            rintro e w9 ⟨rfl, hb9⟩
            have HF := hide (And.intro ((unhide HS9).1.below hb9) (unhide HS9).2)
            clear hb9 CS
            go_wp2_with fail
            go_roundw
            case rel => exact ⟨i + 1, _, _, _, by go_num, by omega, HF⟩
            case measure => simp [intOf]; omega
      · rw [hmd] at e6
        have HW3 := hide hW3
        clear hW3
        obtain ⟨ra, rcap, hra⟩ := row_val (unhide HS3).1.row
        subst hra
        have CI := hide (find_any (.slice ra L.length rcap) L H1 H2 W3 (IRw.of_own (unhide HS3).1.row) (by have := (unhide HS3).2.2.2.1; omega))
        have x4 : W3.cell? ⟨bx, 4, none⟩ = some (.int .i64 H1) := (unhide HS3).2.1.cell 4
        have x5 : W3.cell? ⟨bx, 5, none⟩ = some (.int .i64 H2) := (unhide HS3).2.1.cell 5
        have HX := hide (And.intro x4 x5)
        clear x4 x5
        by_cases hin : ∃ y ∈ L, (y.n : Int) = H1 ∧ y.tu = H2
        · obtain ⟨j, hj⟩ := fidx_in L H1 H2 hin
          rw [hj] at CI
          clear hin hj
          go_wp2_with (go_at_call 11; refine Hid.out ?_)
          refine hide ?_
          rw [← unhide HW3]
          refine (unhide CI).mono ?_
          rintro e w4 ⟨rfl, hb4⟩
          have HS5 : Hid (PS w B C T G P w4 tf L gn (.slice ra L.length rcap) u13 ∧ gn.length ≤ i + 1 ∧ L.length ≤ i + 1 ∧ ∀ x, 0 ≤ tf x ∧ tf x ≤ ((i + 1 : Nat) : Int)) := hide (by
            obtain ⟨h1, h2, h3, h4, h5⟩ := unhide HS3
            exact ⟨h1.below hb4, by omega, by omega, fun x => by have := h5 x; omega⟩)
          clear hb4 CI HS3 e0 e1 e2 e3 e4 e5
          have CS := hide (same_any (.slice ra L.length rcap) T G P tf L w4 (unhide HS5).1.tr (IRw.of_own (unhide HS5).1.row) (by have := (unhide HS5).2.2.1; omega))
          go_wp2_with (go_at_call 13; refine Hid.out ?_)
          refine hide ?_
          refine (unhide CS).mono ?_
          rintro e w9 ⟨rfl, hb9⟩
          have HF := hide (And.intro ((unhide HS5).1.below hb9) (unhide HS5).2)
          clear hb9 CS
          go_wp2_with fail
          go_roundw
          case rel => exact ⟨i + 1, _, _, _, by go_num, by omega, HF⟩
          case measure => simp [intOf]; omega
        · have hno : ∀ y ∈ L, ¬ ((y.n : Int) = H1 ∧ y.tu = H2) := fun y hy h => hin ⟨y, hy, h⟩
          rw [fidx_none L H1 H2 hno] at CI
          have HNO := hide hno
          clear hin hno
          go_wp2_with (go_at_call 11; refine Hid.out ?_)
          refine hide ?_
          rw [← unhide HW3]
          refine (unhide CI).mono ?_
          rintro e w4 ⟨rfl, hb4⟩
          have z4 := hold (unhide HX).1 w4 hb4
          have z5 := hold (unhide HX).2 w4 hb4
          have CD := hide (tdrop_out T G P tf L w4 ((unhide HS3).1.tr.below hb4) H1 H2 (unhide HNO))
          have HB4 := hide hb4
          clear hb4 CI e0 e1 e2 e3 e4 e5
          go_wp2_with (go_at_call 8; refine Hid.out ?_)
          refine hide ?_
          refine (unhide CD).mono ?_
          rintro e w5 ⟨rfl, hb5⟩
          have HS5 : Hid (PS w B C T G P w5 tf L gn (.slice ra L.length rcap) u13 ∧ gn.length ≤ i + 1 ∧ L.length ≤ i + 1 ∧ ∀ x, 0 ≤ tf x ∧ tf x ≤ ((i + 1 : Nat) : Int)) := hide (by
            obtain ⟨h1, h2, h3, h4, h5⟩ := unhide HS3
            exact ⟨(h1.below (unhide HB4)).below hb5, by omega, by omega, fun x => by have := h5 x; omega⟩)
          clear hb5 CD HS3 HB4 z4 z5
          have CS := hide (same_any (.slice ra L.length rcap) T G P tf L w5 (unhide HS5).1.tr (IRw.of_own (unhide HS5).1.row) (by have := (unhide HS5).2.2.1; omega))
          go_wp2_with (go_at_call 13; refine Hid.out ?_)
          refine hide ?_
          refine (unhide CS).mono ?_
          rintro e w9 ⟨rfl, hb9⟩
          have HF := hide (And.intro ((unhide HS5).1.below hb9) (unhide HS5).2)
          clear hb9 CS
          go_wp2_with fail
          go_roundw
          case rel => exact ⟨i + 1, _, _, _, by go_num, by omega, HF⟩
          case measure => simp [intOf]; omega
    · obtain rfl : i = len := by omega
      obtain ⟨hps, hgl, hll, htb⟩ := unhide HI
      have CT := hide (tat T G P tf L wr hps.tr tm)
      obtain ⟨uu, vv, oo, hv, ho⟩ := hdV_cases (L.find? (fun y => decide (tm ≤ y.a))).toList
      rw [hv] at CT
      obtain ⟨ra, rcap, hra⟩ := row_val hps.row
      subst hra
      have hl5 : L.length ≤ 150 := by omega
      have HPS := hide hps
      have HO := hide ho
      clear hps hgl hll htb HI HH0 hv ho
      go_wp2_with (go_at_call 7; refine Hid.out ?_)
      refine hide ?_
      refine (unhide CT).mono ?_
      rintro e w4 ⟨rfl, hb4⟩
      obtain ⟨W5, hW5⟩ : ∃ W5, W5 = w4.alloc (.cells #[.int .i64 uu, .int .i64 vv] 27) := ⟨_, rfl⟩
      obtain ⟨bh, hbh⟩ : ∃ b, w4.heap.size = b := ⟨_, rfl⟩
      have hps5 : PS w B C T G P W5 tf L gn (.slice ra L.length rcap) u13 := ((unhide HPS).below hb4).below (by rw [hW5]; exact one_below _ _)
      have kh5 : Blk W5 bh 27 #[.int .i64 uu, .int .i64 vv] := by rw [hW5]; exact Blk.new_at _ _ _ hbh.symm
      have H5 := hide (And.intro hps5 kh5)
      have HW5 := hide hW5
      clear hps5 kh5 hb4 CT HPS hW5
      go_wp2_with fail
      rw [← unhide HW5]
      go_loopw [185] (fun d w' => ∃ j : Nat, d = .int .i64 (j : Int) ∧ j ≤ L.length ∧ Hid (Below W5.heap.size W5 w' ∧ L.find? (fun y => decide (tm ≤ y.a)) = (L.drop j).find? (fun y => decide (tm ≤ y.a)))) (fun d _ => 151 - (intOf d).toNat)
      case atStart => exact ⟨0, rfl, by omega, hide ⟨Below.refl _ _, rfl⟩⟩
      case round =>
        obtain ⟨j, rfl, hj, HJ⟩ := hrel
        by_cases hjl : j < L.length
        · obtain ⟨z, hz⟩ : ∃ z, L[j]? = some z := ⟨_, List.getElem?_eq_getElem hjl⟩
          obtain ⟨hjl2, hzz⟩ := List.getElem?_eq_some_iff.1 hz
          obtain ⟨i1, i2, i3, i4⟩ := irow_at L j hjl
          rw [hzz] at i1 i2 i3 i4
          have hrow := (unhide H5).1.row
          obtain ⟨g, hrg, _, _⟩ := row_some hrow (by omega)
          subst hrg
          have c1 := hrow.cells (g := g) rfl _ _ i1
          have c2 := hrow.cells (g := g) rfl _ _ i2
          have c3 := hrow.cells (g := g) rfl _ _ i3
          have c4 := hrow.cells (g := g) rfl _ _ i4
          rw [add0] at c1 c2 c3 c4
          have d1 := hold c1 wr (unhide HJ).1
          have d2 := hold c2 wr (unhide HJ).1
          have d3 := hold c3 wr (unhide HJ).1
          have d4 := hold c4 wr (unhide HJ).1
          have d5 : wr.cell? ⟨bh, 0, none⟩ = some (.int .i64 uu) := hold ((unhide H5).2.cell 0) wr (unhide HJ).1
          have d6 : wr.cell? ⟨bh, 1, none⟩ = some (.int .i64 vv) := hold ((unhide H5).2.cell 1) wr (unhide HJ).1
          have hbhl : bh < wr.heap.size := World.block_lt_of_cell? wr _ d5
          have hfd := fnd_drop L (fun y => decide (tm ≤ y.a)) j z hz
          rw [← (unhide HJ).2] at hfd
          have HFD := hide hfd
          have HB5 := hide (unhide HJ).1
          obtain ⟨zn, zt, za, zb⟩ := z
          simp only at d1 d2 d3 d4
          clear hz hzz hjl2 i1 i2 i3 i4 hrow c1 c2 c3 c4 hfd HJ
          by_cases hta : tm ≤ za
          · have hf : L.find? (fun y => decide (tm ≤ y.a)) = some ⟨zn, zt, za, zb⟩ := by
              have := unhide HFD
              rw [if_pos (decide_eq_true hta)] at this; exact this
            obtain ⟨rfl, rfl, rfl⟩ : oo = true ∧ uu = (zn : Int) ∧ vv = zt := by
              rcases unhide HO with ⟨h1, h2⟩ | ⟨y, R, h1, h2, h3, h4⟩
              · rw [hf] at h1; cases h1
              · rw [hf] at h1
                have e : y = ⟨zn, zt, za, zb⟩ := by
                  have : [(⟨zn, zt, za, zb⟩ : It)] = y :: R := h1
                  cases this; rfl
                subst e
                exact ⟨h2, h3, h4⟩
            clear hf HFD HO
            go_wp2_with fail
            go_ret
            refine ⟨rfl, ?_⟩
            have hb := (unhide H5).1.bl
            have h5 := unhide HB5
            rw [hB]
            exact (hb.trans (h5.mono (unhide H5).1.lts)).trans ((one_below wr _).mono (Nat.le_trans (unhide H5).1.lts h5.size))
          · have hf : L.find? (fun y => decide (tm ≤ y.a)) = (L.drop (j + 1)).find? (fun y => decide (tm ≤ y.a)) := by
              have := unhide HFD
              rw [if_neg (by rw [decide_eq_false hta]; decide)] at this; exact this
            have HJ2 := hide (And.intro ((unhide HB5).trans ((one_below wr (.cells #[.int .i64 za, .int .i64 zb, .int .i64 zn, .int .i64 zt] 46)).mono (unhide HB5).size)) hf)
            clear hf HFD
            go_wp2_with fail
            go_roundw
            case rel => exact ⟨j + 1, by go_num, by omega, HJ2⟩
            case measure => simp [intOf]; omega
        · obtain rfl : j = L.length := by omega
          obtain rfl : oo = false := by
            rcases unhide HO with ⟨h1, h2⟩ | ⟨y, R, h1, h2, h3, h4⟩
            · exact h2
            · have h := (unhide HJ).2
              rw [List.drop_length] at h
              rw [h] at h1
              cases h1
          have HB5 := hide (unhide HJ).1
          clear HJ HO
          go_wp2_with fail
          go_ret
          refine ⟨rfl, ?_⟩
          rw [hB]
          exact (unhide H5).1.bl.trans ((unhide HB5).mono (unhide H5).1.lts)
end Go.Proofs.Ytpkadbjgkoijiaa
