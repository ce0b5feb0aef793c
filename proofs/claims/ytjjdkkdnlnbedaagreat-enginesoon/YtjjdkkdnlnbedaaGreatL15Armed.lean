/- EngineArmed: the walk. -/
import Derived.Test.YtjjdkkdnlnbedaaGreatL15Fixed
import Derived.Test.YtjjdkkdnlnbedaaGreatEnArm
namespace Go.Proofs.YtjjdkkdnlnbedaaGreat
open Go.RowKit Kt Qu
set_option linter.unusedVariables false

def stl (s : Stp) : List Value := [.int .i64 s.kind, .int .i64 s.cpu, .int .i64 s.n, .int .i64 s.t.id, .int .i64 s.t.clock, .int .i64 s.t.soft, .int .i64 s.t.hard, .bool s.t.lazy]
/-- A row of steps. -/
def Steps (w : World) (p : Option Addr) (len : Nat) (S : Nat → Stp) : Prop := ∀ i, i < len → (isI (S i).n ∧ okT (S i).t) ∧ ∃ x, p = some x ∧ x.block < w.heap.size ∧ ∀ k v, (stl (S i))[k]? = some v → w.cell? ((x.add (i * 8)).add k) = some v
set_option maxRecDepth 20000 in
theorem larmed_long (A B : Int) (p : Option Addr) (len cap : Nat) (w : World) (hlen : 100 < len) : Calls Tryz.prog 6 #[.int .u8 A, .int .u8 B, .slice p len cap] w fun r w' => r = .returned (.bool true) ∧ Below w.heap.size w w' := by
  have h2 : (100 : Int) < (len : Int) := by omega
  go_enter Tryz.func6, Tryz.ntmps6
  go_wp2_with (go_at_call 8; refine (lfixed15_any _).mono ?_; rintro r w1 ⟨rfl, hb1⟩)
  go_ret
  exact ⟨rfl, hb1⟩
set_option maxRecDepth 100000 in
set_option maxHeartbeats 16000000 in
theorem larmed_short (A B : Int) (hA : 0 ≤ A ∧ A ≤ 255) (hB : 0 ≤ B ∧ B ≤ 255) (p : Option Addr) (len cap : Nat) (S : Nat → Stp) (w : World) (hlen : len ≤ 100) (hS : Steps w p len S) :
    Calls Tryz.prog 6 #[.int .u8 A, .int .u8 B, .slice p len cap] w fun r w' => r = .returned (.bool true) ∧ Below w.heap.size w w' := by
  have CF := hide (lfixed15_any w)
  have HS := hide hS
  obtain ⟨C, hC⟩ : ∃ C, w.heap.size = C := ⟨_, rfl⟩
  obtain ⟨n, hn⟩ : ∃ n : Nat, 1 + A % 16 = (n : Int) := ⟨(1 + A % 16).toNat, by omega⟩
  have hn1 : 1 ≤ n := by omega
  have hn16 : n ≤ 16 := by omega
  have em : A.tmod 16 = A % 16 := Int.tmod_eq_emod_of_nonneg hA.1
  have hmr : 0 ≤ A % 16 ∧ A % 16 ≤ 15 := by omega
  rw [hC] at CF
  have CN := hide (fun w1 (hb : Below C w w1) => evnew n B 1099511627776 C w w1 hb (by have := hb.size; omega) hn1 hn16 hB.1 (by omega) (by decide) (by decide))
  have hl2 : ((len : Nat) : Int) ≤ 100 := by omega
  clear hS
  go_enter Tryz.func6, Tryz.ntmps6
  go_wp2_with (first | (go_at_call 8; refine (unhide CF).mono ?_; rintro r w1 ⟨rfl, hb1⟩; have HB1 := hide hb1; clear hb1) | (go_at_call 9; refine Hid.out ?_))
  refine hide ?_
  refine (unhide CN w1 (unhide HB1)).mono ?_
  rintro r w2 ⟨g, l2, rfl, h2, -, -⟩
  have H2 : Hid (Ev C w w2 g l2 (enNew n B 1099511627776) 0 0 ∧ Arm (enNew n B 1099511627776) ∧ (enNew n B 1099511627776).n = n ∧ (enNew n B 1099511627776).le = B) := hide ⟨h2, arm_new _ _ _, rfl, rfl⟩
  have HC := hide hC
  clear h2 CN CF hC HB1
  generalize enNew n B 1099511627776 = E0 at *
  go_wp2_with fail
  go_loopw [38] (fun s38 w' => ∃ (i : Nat) (l : Loc) (e : En), s38 = .int .i64 (i : Int) ∧ i ≤ len ∧ Hid (Ev C w w' g l e i i ∧ Arm e ∧ e.n = n ∧ e.le = B)) (fun d _ => len - (intOf d).toNat)
  case atStart => exact ⟨0, l2, E0, rfl, by omega, H2⟩
  case round =>
    clear H2
    obtain ⟨i, l, e, rfl, hi, HI⟩ := hrel
    by_cases hlt : i < len
    · obtain ⟨⟨hN, hT⟩, x, rfl, hx, hcl⟩ := (unhide HS) i hlt
      have hcl2 : ∀ k v, (stl (S i))[k]? = some v → wr.cell? ((x.add (i * 8)).add k) = some v := fun k v hv => by
        rw [(unhide HI).1.low.cell (by rw [show ((x.add (i * 8)).add k).block = x.block by unfold Addr.add; split <;> (split <;> rfl), ← unhide HC]; exact hx)]
        exact hcl k v hv
      clear hcl
      generalize S i = s at *
      have HST := hide (And.intro hN hT)
      have CD := hide (fun w3 (h3 : Ev C w w3 g l e i i) => evdo h3 s hN hT (by omega) (by omega))
      have HAR := hide (arm_step (unhide HI).2.1 (unhide HI).1.ok ⟨(unhide HI).1.es.nums.m0, by have := (unhide HI).1.es.nums.mq; have := (unhide HI).1.es.nums.qc; have := (unhide HI).1.es.nums.c1; omega, by rw [(unhide HI).2.2.2]; exact hB.1⟩ s)
      have HEN := hide (step_n e s)
      obtain ⟨O, hO⟩ : ∃ O, e.step s = O := ⟨_, rfl⟩
      rw [hO] at CD HAR HEN
      simp only [stv, stc] at CD
      obtain ⟨kk, kc, kn, ⟨i1, i2, i3, i4, i5⟩⟩ := s
      have e0 : wr.cell? (x.add (i * 8)) = some (.int .i64 kk) := hcl2 0 _ rfl
      have e1 : wr.cell? ⟨(x.add (i * 8)).block, (x.add (i * 8)).off + 1, none⟩ = some (.int .i64 kc) := hcl2 1 _ rfl
      have e2 : wr.cell? ⟨(x.add (i * 8)).block, (x.add (i * 8)).off + 2, none⟩ = some (.int .i64 kn) := hcl2 2 _ rfl
      have e3 : wr.cell? ⟨(x.add (i * 8)).block, (x.add (i * 8)).off + 3, none⟩ = some (.int .i64 i1) := hcl2 3 _ rfl
      have e4 : wr.cell? ⟨(x.add (i * 8)).block, (x.add (i * 8)).off + 4, none⟩ = some (.int .i64 i2) := hcl2 4 _ rfl
      have e5 : wr.cell? ⟨(x.add (i * 8)).block, (x.add (i * 8)).off + 5, none⟩ = some (.int .i64 i3) := hcl2 5 _ rfl
      have e6 : wr.cell? ⟨(x.add (i * 8)).block, (x.add (i * 8)).off + 6, none⟩ = some (.int .i64 i4) := hcl2 6 _ rfl
      have e7 : wr.cell? ⟨(x.add (i * 8)).block, (x.add (i * 8)).off + 7, none⟩ = some (.bool i5) := hcl2 7 _ rfl
      obtain ⟨bx, hbx⟩ : ∃ b, wr.heap.size = b := ⟨_, rfl⟩
      obtain ⟨W3, hW3⟩ : ∃ W3, W3 = wr.alloc (.cells #[.int .i64 kk, .int .i64 kc, .int .i64 kn, .int .i64 i1, .int .i64 i2, .int .i64 i3, .int .i64 i4, .bool i5] 37) := ⟨_, rfl⟩
      have b3 : Below wr.heap.size wr W3 := by rw [hW3]; exact one_below _ _
      have k3 : Blk W3 bx 37 #[.int .i64 kk, .int .i64 kc, .int .i64 kn, .int .i64 i1, .int .i64 i2, .int .i64 i3, .int .i64 i4, .bool i5] := by rw [hW3]; exact Blk.new_at _ _ _ hbx.symm
      have CD3 := hide (unhide CD W3 ((unhide HI).1.below b3))
      have z0 : W3.cell? ⟨bx, 0, none⟩ = some (.int .i64 kk) := blkAt k3 0 _ rfl
      have z1 : W3.cell? ⟨bx, 1, none⟩ = some (.int .i64 kc) := blkAt k3 1 _ rfl
      have z2 : W3.cell? ⟨bx, 2, none⟩ = some (.int .i64 kn) := blkAt k3 2 _ rfl
      have z3 : W3.cell? ⟨bx, 3, none⟩ = some (.int .i64 i1) := blkAt k3 3 _ rfl
      have z4 : W3.cell? ⟨bx, 4, none⟩ = some (.int .i64 i2) := blkAt k3 4 _ rfl
      have z5 : W3.cell? ⟨bx, 5, none⟩ = some (.int .i64 i3) := blkAt k3 5 _ rfl
      have z6 : W3.cell? ⟨bx, 6, none⟩ = some (.int .i64 i4) := blkAt k3 6 _ rfl
      have z7 : W3.cell? ⟨bx, 7, none⟩ = some (.bool i5) := blkAt k3 7 _ rfl
      have HW3 := hide hW3
      have HNB := hide (unhide HI).2.2
      clear hcl2 hN hT hO CD b3 k3 hW3 HI hx
      go_upto_region 9 with fail
      rw [← unhide HW3]
      clear e0 e1 e2 e3 e4 e5 e6 e7 HW3
      go_wp2_with (go_at_call 14; refine Hid.out ?_)
      refine hide ?_
      refine (unhide CD3).mono ?_
      rintro r w4 ⟨v4, l4, rfl, row4, h4, f4, hx4, ho4⟩
      obtain ⟨a4, cap4, hf4, -⟩ := row4.form
      generalize O.1.length = n4 at *
      subst hf4
      obtain ⟨e4, he4⟩ : ∃ e4, O.2.2 = e4 := ⟨_, rfl⟩
      rw [he4] at h4 HAR HEN
      have CNw := hide (now_any h4.es 0 (by decide) (by decide))
      have CON := hide (online_any h4.es)
      have CP := hide (fun w' (hb : Below w4.heap.size w4 w') (k : Nat) (hk : k < e4.n) => pending_any (h4.es.below hb) hk)
      have CT := hide (fun w' (hb : Below w4.heap.size w4 w') (k : Nat) (hk : k < e4.n) => timers_any (h4.es.below hb) hk)
      have CA := hide (fun w' (hb : Below w4.heap.size w4 w') (k : Nat) (hk : k < e4.n) => armed_any15 (h4.es.below hb) hk)
      have CW := hide (fun w' (hb : Below w4.heap.size w4 w') (c : Int) (h0 : 0 ≤ c) (h2 : c ≤ 2) => now_any (h4.es.below hb) c h0 h2)
      rw [h4.g] at CNw CON CP CT CA CW
      have hm4 : 0 ≤ e4.z.m ∧ e4.z.m ≤ 1152921504606846976 := ⟨h4.es.nums.m0, by have := h4.es.nums.mq; have := h4.es.nums.qc; have := h4.es.nums.c1; omega⟩
      rw [show e4.z.rd (Int.toNat 0) = e4.z.m from rfl] at CNw
      have H4 := hide h4
      have HE4 := hide (And.intro ((unhide HEN).1.trans (unhide HNB).1) ((unhide HEN).2.trans (unhide HNB).2))
      have HM4 := hide hm4
      clear row4 h4 f4 hx4 ho4 CD3 z0 z1 z2 z3 z4 z5 z6 z7 hm4 he4
      obtain ⟨m4, hm4⟩ : ∃ m4, e4.z.m = m4 := ⟨_, rfl⟩
      rw [hm4] at CNw
      have HMM := hide hm4
      clear hm4
      go_wp2_with (first | (go_at_call 17; refine (unhide CNw).mono ?_; rintro r w5 ⟨rfl, rfl⟩) | (go_at_call 10; refine Hid.out ?_))
      refine hide ?_
      refine (unhide CON).mono ?_
      rintro r w6 ⟨v6, rfl, row6, hb6⟩
      obtain ⟨a6, cap6, hf6, -⟩ := row6.form
      rw [Mk.ints_len] at hf6
      have hl16 : (Mk.listOf e4.M).length ≤ 16 := Mk.listOf_len e4.M
      obtain ⟨n6, hn6⟩ : ∃ n6, (Mk.listOf e4.M).length = n6 := ⟨_, rfl⟩
      rw [hn6] at hf6 hl16
      subst hf6
      have H6 := hide (And.intro row6 hb6)
      have HN6 := hide hn6
      have HL6 := hide (fun (j k : Nat) (hj : (Mk.listOf e4.M)[j]? = some k) => show k < e4.n ∧ e4.M.testBit k = true from by
        have := (Mk.mem_list e4.M k).1 (List.mem_of_getElem? hj)
        exact ⟨(unhide H4).ok.bit this.2, this.2⟩)
      clear row6 hb6 CON CNw hn6
      go_wp2_with fail
      go_loopw [53] (fun s53 w' => ∃ j : Nat, s53 = .int .i64 (j : Int) ∧ j ≤ n6 ∧ Hid (Below w6.heap.size w6 w')) (fun d _ => n6 - (intOf d).toNat)
      case atStart => exact ⟨0, rfl, by omega, hide (Below.refl _ _)⟩
      case round =>
        obtain ⟨j, rfl, hj, HJ⟩ := hrel
        by_cases hj6 : j < n6
        · obtain ⟨k, hk⟩ : ∃ k, (Mk.listOf e4.M)[j]? = some k := ⟨_, List.getElem?_eq_getElem (by rw [unhide HN6]; exact hj6)⟩
          obtain ⟨hkn, hkb⟩ := unhide HL6 j k hk
          obtain ⟨a7, cap7, hf7, hc7⟩ := ((unhide H6).1.below (unhide HJ)).form
          obtain ⟨g7, hg7, cell7⟩ := hc7 j (k : Int) (by unfold Mk.ints; rw [List.getElem?_map, hk]; rfl)
          rw [Mk.ints_len, unhide HN6] at hf7
          obtain ⟨rfl, -⟩ : a6 = a7 ∧ cap6 = cap7 := by cases hf7; exact ⟨rfl, rfl⟩
          subst hg7
          have hb5r := (unhide H6).2.trans ((unhide HJ).mono (unhide H6).2.size)
          have CPk := hide (unhide CP wr hb5r k hkn)
          have HKA := hide ((unhide HAR) k hkn hkb)
          have HKN := hide hkn
          have HB5 := hide hb5r
          clear hc7 hf7 hk hkn hkb hb5r
          obtain ⟨ck, hck⟩ : ∃ ck, e4.cp k = ck := ⟨_, rfl⟩
          rw [hck] at CPk HKA
          have HCK := hide hck
          clear hck
          obtain ⟨la, hla⟩ : ∃ la, ck.la = la := ⟨_, rfl⟩
          obtain ⟨ra, hra⟩ : ∃ ra, ck.ra = ra := ⟨_, rfl⟩
          obtain ⟨ki, hki⟩ : ∃ ki, ck.ki = ki := ⟨_, rfl⟩
          rw [hla, hra, hki] at CPk
          have HFL := hide (And.intro hla (And.intro hra hki))
          clear hla hra hki
          by_cases hq : la = false ∧ ra = false ∧ ki = false
          case neg =>
            have hq2 : la = true ∨ (la = false ∧ ra = true) ∨ (la = false ∧ ra = false ∧ ki = true) := by
              cases la <;> cases ra <;> cases ki <;> simp_all
            clear hq
            rcases hq2 with rfl | ⟨rfl, rfl⟩ | ⟨rfl, rfl, rfl⟩
            all_goals
              go_wp2_with (go_at_call 20; refine (unhide CPk).mono ?_; rintro r w8 ⟨rfl, hb8⟩; have HB8 := hide ((unhide HJ).trans (hb8.mono (unhide HJ).size)); clear hb8)
              go_roundw
              case rel => exact ⟨j + 1, by first | rfl | go_num, by omega, HB8⟩
              case measure => simp [intOf]; omega
          obtain ⟨rfl, rfl, rfl⟩ := hq
          go_wp2_with (first | (go_at_call 20; refine (unhide CPk).mono ?_; rintro r w8 ⟨rfl, hb8⟩; have HB8 := hide ((unhide HB5).trans (hb8.mono (unhide HB5).size)); have HB8b := hide ((unhide HJ).trans (hb8.mono (unhide HJ).size)); clear hb8) | (go_at_call 11; refine Hid.out ?_))
          refine hide ?_
          refine (unhide CT _ (unhide HB8) k (unhide HKN)).mono ?_
          rintro r w9 ⟨v9, rfl, row9, hb9⟩
          obtain ⟨a9, cap9, rfl, rd9⟩ := Rd.of row9
          rw [unhide HCK] at rd9 ⊢
          obtain ⟨L, hL⟩ : ∃ L, ck.L = L := ⟨_, rfl⟩
          obtain ⟨NL, hNL⟩ : ∃ N, L.length = N := ⟨_, rfl⟩
          rw [hL, hNL] at rd9
          rw [hL, hNL]
          have H9 := hide (And.intro rd9 ((unhide HB8).trans (hb9.mono (unhide HB8).size)))
          have H9b := hide ((unhide HB8b).trans (hb9.mono (unhide HB8b).size))
          have HLL := hide (And.intro hL hNL)
          have HTM := hide (fun (jj : Nat) (t : Tmr) (ht : L[jj]? = some t) => show 0 ≤ t.clock ∧ t.clock ≤ 2 from by
            have := (unhide H4).ok.tm k t (unhide HKN) (by rw [unhide HCK, hL]; exact List.mem_of_getElem? ht)
            exact ⟨this.1, this.2.1⟩)
          have hNL384 : NL ≤ 384 := by
            have := (unhide H4).es.len_le (i := k) (unhide HKN)
            rw [unhide HCK, hL, hNL] at this
            exact this
          clear row9 rd9 hb9 hL hNL CPk
          go_wp2_with fail
          go_loopw [17, 75] (fun s17 s75 w' => ∃ (jj : Nat) (f : Int), s75 = .int .i64 (jj : Int) ∧ jj ≤ NL ∧ s17 = .int .i64 f ∧ (-4611686018427387903 ≤ f ∧ f ≤ 4611686018427387903) ∧ Hid (Below w9.heap.size w9 w' ∧ f = mnF e4.z.off true (L.take jj) maxT)) (fun _ d _ => NL - (intOf d).toNat)
          case atStart => exact ⟨0, 4611686018427387903, rfl, by omega, rfl, by omega, hide ⟨Below.refl _ _, rfl⟩⟩
          case round =>
            obtain ⟨jj, f, rfl, hjj, rfl, hf, HJJ⟩ := hrel
            by_cases hjn : jj < NL
            · obtain ⟨t, ht⟩ : ∃ t, L[jj]? = some t := ⟨_, List.getElem?_eq_getElem (by rw [(unhide HLL).2]; exact hjn)⟩
              obtain ⟨tc0, tc2⟩ := unhide HTM jj t ht
              obtain ⟨g', o', rfl, hgl', y0, y1, y2, y3, y4⟩ := tcells' ((unhide H9).1.below (unhide HJJ).1) ht
              have hsn : mnF e4.z.off true (L.take (jj + 1)) maxT = min f (subZ t.soft (e4.z.off t.clock.toNat)) := by
                rw [List.take_add_one, ht, Option.toList_some, mnF_snoc, ← (unhide HJJ).2]
              rw [off_rd _ _ (by omega), unhide HMM] at hsn
              have hrb := rd_bd (unhide H4).es.nums t.clock.toNat
              have hsb := subZ_bd t.soft (e4.z.rd t.clock.toNat - m4)
              have hb5r := (unhide H9).2.trans ((unhide HJJ).1.mono (unhide H9).2.size)
              have CNk := hide (fun w' (hb : Below wr.heap.size wr w') => unhide CW w' (hb5r.trans (hb.mono hb5r.size)) t.clock tc0 tc2)
              have CSk := fun w' => hide (rsub_any t.soft (e4.z.rd t.clock.toNat - m4) w')
              generalize hrd : e4.z.rd t.clock.toNat = rdv at *
              obtain ⟨sz, hsz⟩ : ∃ sz, subZ t.soft (rdv - m4) = sz := ⟨_, rfl⟩
              rw [hsz] at CSk hsn hsb
              have HSN := hide hsn
              have HBW := hide (unhide HJJ).1
              clear hsn hsz hrd ht tc0 tc2 HJJ hb5r
              obtain ⟨i1, i2, i3, i4, i5⟩ := t
              simp only at y0 y1 y2 y3 y4 CNk CSk
              obtain ⟨bt, hbt⟩ : ∃ b, wr.heap.size = b := ⟨_, rfl⟩
              obtain ⟨W10, hW10⟩ : ∃ W10, W10 = wr.alloc (.cells #[.int .i64 i1, .int .i64 i2, .int .i64 i3, .int .i64 i4, .bool i5] 35) := ⟨_, rfl⟩
              have b10 : Below wr.heap.size wr W10 := by rw [hW10]; exact one_below _ _
              have k10 : Blk W10 bt 35 #[.int .i64 i1, .int .i64 i2, .int .i64 i3, .int .i64 i4, .bool i5] := by rw [hW10]; exact Blk.new_at _ _ _ hbt.symm
              have q1 : W10.cell? ⟨bt, 1, none⟩ = some (.int .i64 i2) := blkAt k10 1 _ rfl
              have q2 : W10.cell? ⟨bt, 2, none⟩ = some (.int .i64 i3) := blkAt k10 2 _ rfl
              have CN10 := hide (unhide CNk W10 b10)
              have HB10 := hide ((unhide HBW).trans (b10.mono (unhide HBW).size))
              have HW10 := hide hW10
              have hmb := unhide HM4
              rw [unhide HMM] at hmb
              clear b10 k10 hW10 CNk HBW
              go_upto_region 20 with fail
              rw [← unhide HW10]
              clear y0 y1 y2 y3 y4 HW10
              by_cases hmn : sz < f
              · have hmin : min f sz = sz := by omega
                go_wp2_with (first | (go_at_call 17; refine (unhide CN10).mono ?_; rintro r w11 ⟨rfl, rfl⟩) | (go_at_call 21; refine (unhide (CSk _)).mono ?_; rintro r w12 ⟨rfl, rfl⟩))
                go_roundw
                case rel => exact ⟨jj + 1, sz, by first | rfl | go_num, by omega, rfl, by omega, hide ⟨unhide HB10, by rw [unhide HSN]; omega⟩⟩
                case measure => simp [intOf]; omega
              · have hmin : min f sz = f := by omega
                go_wp2_with (first | (go_at_call 17; refine (unhide CN10).mono ?_; rintro r w11 ⟨rfl, rfl⟩) | (go_at_call 21; refine (unhide (CSk _)).mono ?_; rintro r w12 ⟨rfl, rfl⟩))
                go_roundw
                case rel => exact ⟨jj + 1, f, by first | rfl | go_num, by omega, rfl, by omega, hide ⟨unhide HB10, by rw [unhide HSN]; omega⟩⟩
                case measure => simp [intOf]; omega
            · obtain rfl : jj = NL := by omega
              have hah : f = e4.ahead ck := by
                rw [(unhide HJJ).2, ← (unhide HLL).2, List.take_length]
                unfold En.ahead
                rw [(unhide HFL).2.1, (unhide HLL).1]
                rfl
              have HBE := hide ((unhide H9b).trans ((unhide HJJ).1.mono (unhide H9b).size))
              by_cases hge : 4611686018427387903 ≤ f
              · go_wp2_with fail
                go_roundw
                case rel => exact ⟨j + 1, by first | rfl | go_num, by omega, HBE⟩
                case measure => simp [intOf]; omega
              · obtain ⟨a, ha, hle⟩ := unhide HKA (unhide HFL).1 (unhide HFL).2.1 (unhide HFL).2.2 (by rw [← hah]; unfold maxT; omega)
                rw [← hah, unhide HMM, (unhide HE4).2] at hle
                have hb5r := (unhide H9).2.trans ((unhide HJJ).1.mono (unhide H9).2.size)
                have CAk := hide (unhide CA wr hb5r k (unhide HKN))
                rw [unhide HCK, ha] at CAk
                simp only [Option.getD_some, Option.isSome_some] at CAk
                have hmb := unhide HM4
                rw [unhide HMM] at hmb
                have hwr : wrap64 (m4 + B) = m4 + B := by unfold wrap64; omega
                clear hb5r HJJ ha
                by_cases hmx : f ≤ m4 + B
                · go_wp2_with (go_at_call 22; refine (unhide CAk).mono ?_; rintro r w13 ⟨rfl, hb13⟩; have HB13 := hide ((unhide HBE).trans (hb13.mono (unhide HBE).size)); clear hb13)
                  go_roundw
                  case rel => exact ⟨j + 1, by first | rfl | go_num, by omega, HB13⟩
                  case measure => simp [intOf]; omega
                · go_wp2_with (go_at_call 22; refine (unhide CAk).mono ?_; rintro r w13 ⟨rfl, hb13⟩; have HB13 := hide ((unhide HBE).trans (hb13.mono (unhide HBE).size)); clear hb13)
                  go_roundw
                  case rel => exact ⟨j + 1, by first | rfl | go_num, by omega, HB13⟩
                  case measure => simp [intOf]; omega
        · obtain rfl : j = n6 := by omega
          go_wp2_with fail
          go_roundw
          case rel => exact ⟨i + 1, l4, e4, by first | rfl | go_num, by omega, hide ⟨(unhide H4).below ((unhide H6).2.trans ((unhide HJ).mono (unhide H6).2.size)), unhide HAR, (unhide HE4).1, (unhide HE4).2⟩⟩
          case measure => simp [intOf]; omega
    · obtain rfl : i = len := by omega
      go_wp2_with fail
      go_ret
      exact ⟨rfl, by rw [unhide HC]; exact (unhide HI).1.low⟩
end Go.Proofs.YtjjdkkdnlnbedaaGreat
