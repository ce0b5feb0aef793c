/- EngineKeeps: the walk. -/
import Derived.Test.YtjjdkkdnlnbedaaGreatL15Never
namespace Go.Proofs.YtjjdkkdnlnbedaaGreat
open Go.RowKit Kt Qu
set_option linter.unusedVariables false

set_option maxRecDepth 20000 in
theorem lkeeps_long (A : Int) (p : Option Addr) (len cap : Nat) (w : World) (hlen : 150 < len) : Calls Tryz.prog 5 #[.int .u8 A, .slice p len cap] w fun r w' => r = .returned (.bool true) ∧ Below w.heap.size w w' := by
  have h2 : (150 : Int) < (len : Int) := by omega
  go_enter Tryz.func5, Tryz.ntmps5
  go_wp2_with (go_at_call 8; refine (lfixed15_any _).mono ?_; rintro r w1 ⟨rfl, hb1⟩)
  go_ret
  exact ⟨rfl, hb1⟩
def tmv (t : Tmr) : Value := .agg #[.int .i64 t.id, .int .i64 t.clock, .int .i64 t.soft, .int .i64 t.hard, .bool t.lazy]
abbrev KMap (w : World) (b n : Nat) (sm : Int → Option Tmr) (sz : Nat) : Prop := GMap Tryz.prog 3 (fun x : Int => Value.int .i64 x) tmv w b n sm sz
theorem kmZero (w : World) : (zeroValue 35).run Tryz.prog w = .ok (.agg #[.int .i64 0, .int .i64 0, .int .i64 0, .int .i64 0, .bool false]) w := by kernel_rfl
/-- What a law keeps. -/
structure Kv (C : Nat) (w0 w : World) (g : Nat) (l : Loc) (e : En) (i Mq ns : Nat) (sm : Int → Option Tmr) (n : Nat) : Prop where
  ev : Ev C w0 w g l e i i
  mp : KMap w Mq ns sm e.len
  kn : Knows (fun t => t) e sm
  out : ¬ efoot l Mq
  ge : C ≤ Mq
  nn : e.n = n
theorem online_some {e : En} (h : EnOk e) : 0 < (Mk.listOf e.M).length := by
  obtain ⟨i, hi⟩ : ∃ i, e.M.testBit i = true := by
    rcases Classical.em (∃ i, e.M.testBit i = true) with q | q
    · exact q
    · exact absurd (Nat.eq_of_testBit_eq fun i => by rw [Nat.zero_testBit]; cases hb : e.M.testBit i with | false => rfl | true => exact absurd ⟨i, hb⟩ q) h.M0
  exact List.length_pos_of_mem ((Mk.mem_list e.M i).2 ⟨Nat.lt_of_lt_of_le (h.bit hi) h.n16, hi⟩)
theorem lenTo_up (e : En) {j n : Nat} (h : j < n) : lenTo e j + (e.cp j).L.length ≤ lenTo e n := by
  induction n with
  | zero => omega
  | succ n ih =>
    show _ ≤ lenTo e n + (e.cp n).L.length
    by_cases q : j = n
    · subst q; exact Nat.le_refl _
    · have := ih (by omega); omega
set_option maxRecDepth 100000 in
set_option maxHeartbeats 16000000 in
theorem lkeeps_short (A : Int) (hA : 0 ≤ A ∧ A ≤ 255) (p : Option Addr) (len cap : Nat) (S : Nat → Stp) (w : World) (hlen : len ≤ 150) (hS : Steps w p len S) :
    Calls Tryz.prog 5 #[.int .u8 A, .slice p len cap] w fun r w' => r = .returned (.bool true) ∧ Below w.heap.size w w' := by
  have CF := hide (lfixed15_any w)
  have HS := hide hS
  obtain ⟨C, hC⟩ : ∃ C, w.heap.size = C := ⟨_, rfl⟩
  obtain ⟨n, hn⟩ : ∃ n : Nat, 1 + A % 16 = (n : Int) := ⟨(1 + A % 16).toNat, by omega⟩
  have hn1 : 1 ≤ n := by omega
  have hn16 : n ≤ 16 := by omega
  have em : A.tmod 16 = A % 16 := Int.tmod_eq_emod_of_nonneg hA.1
  have hmr : 0 ≤ A % 16 ∧ A % 16 ≤ 15 := by omega
  rw [hC] at CF
  have CN := hide (fun w1 (hb : Below C w w1) => evnew n 1 1000 C w w1 hb (by have := hb.size; omega) hn1 hn16 (by omega) (by omega) (by omega) (by omega))
  have hl2 : ((len : Nat) : Int) ≤ 150 := by omega
  have hmm := @run_makeMap Tryz.prog
  clear hS
  go_enter Tryz.func5, Tryz.ntmps5
  go_wp2_with (first | (go_at_call 8; refine (unhide CF).mono ?_; rintro r w1 ⟨rfl, hb1⟩; have HB1 := hide hb1; clear hb1) | (go_at_call 9; refine Hid.out ?_))
  refine hide ?_
  refine (unhide CN w1 (unhide HB1)).mono ?_
  rintro r w2 ⟨g, l2, rfl, h2, -, -⟩
  obtain ⟨Mq, hMq⟩ : ∃ m, w2.heap.size = m := ⟨_, rfl⟩
  obtain ⟨W2, hW2⟩ : ∃ W2, W2 = w2.alloc (.map #[] 0) := ⟨_, rfl⟩
  have H2 : Hid (Kv C w W2 g l2 (enNew n 1 1000) 0 Mq 0 (fun _ => none) n) := hide (by
    have b2 : Below w2.heap.size w2 W2 := by rw [hW2]; exact one_below _ _
    have hen : (enNew n 1 1000).len = 0 := by
      show lenTo _ n = 0
      have : ∀ m, lenTo (enNew n 1 1000) m = 0 := fun m => by induction m with | zero => rfl | succ k ih => exact (by show lenTo _ k + 0 = 0; omega)
      exact this n
    refine ⟨h2.below b2, ?_, fun x b => ⟨(fun q => by cases q), fun ⟨t, ⟨i, hi, ht⟩, _⟩ => by cases ht⟩, fun q => ?_, ?_, rfl⟩
    · rw [hen, hW2, ← hMq]; exact GMap.made w2
    · have := h2.es.lt Mq q; omega
    · have := h2.cs; omega)
  have HC := hide hC
  have HW2 := hide hW2
  clear h2 CN CF hC HB1 hW2
  generalize enNew n 1 1000 = E0 at *
  go_wp2_with fail
  rw [← unhide HW2]
  clear HW2 hmm
  go_loopw [34] (fun s38 w' => ∃ (i ns : Nat) (l : Loc) (e : En) (sm : Int → Option Tmr), s38 = .int .i64 (i : Int) ∧ i ≤ len ∧ ns ≤ i ∧ Hid (Kv C w w' g l e i Mq ns sm n)) (fun d _ => len - (intOf d).toNat)
  case atStart => exact ⟨0, 0, l2, E0, _, rfl, by omega, by omega, H2⟩
  case round =>
    clear H2
    obtain ⟨i, ns, l, e, sm, rfl, hi, hns, HI⟩ := hrel
    by_cases hlt : i < len
    · obtain ⟨⟨hN, hT⟩, x, rfl, hx, hcl⟩ := (unhide HS) i hlt
      have hcl2 : ∀ k v, (stl (S i))[k]? = some v → wr.cell? ((x.add (i * 8)).add k) = some v := fun k v hv => by
        rw [(unhide HI).ev.low.cell (by rw [show ((x.add (i * 8)).add k).block = x.block by unfold Addr.add; split <;> (split <;> rfl), ← unhide HC]; exact hx)]
        exact hcl k v hv
      clear hcl
      generalize S i = s at *
      have HNT := hide (And.intro hN hT)
      have CD := hide (fun w3 (h3 : Ev C w w3 g l e i i) => evdo h3 s hN hT (by omega) (by omega))
      have HFI := hide (step_fires (unhide HI).ev.ok s)
      have HST : Hid (s.kind = 1 → (e.step s) = ([], e.start s.cpu s.t)) := hide (fun q => by unfold En.step; rw [if_pos q])
      have HCN : Hid (s.kind = 2 → (e.step s) = ([], e.cancel s.n)) := hide (fun q => by unfold En.step; rw [if_neg (by omega), if_pos q])
      have HEN := hide ((step_n e s).1.trans (unhide HI).nn)
      obtain ⟨O, hO⟩ : ∃ O, e.step s = O := ⟨_, rfl⟩
      rw [hO] at CD HFI HST HCN HEN
      simp only [stv, stc] at CD
      obtain ⟨kk, kc, kn, ⟨i1, i2, i3, i4, i5⟩⟩ := s
      simp only at HFI HST HCN
      have e0 : wr.cell? (x.add (i * 8)) = some (.int .i64 kk) := hcl2 0 _ rfl
      have e1 : wr.cell? ⟨(x.add (i * 8)).block, (x.add (i * 8)).off + 1, none⟩ = some (.int .i64 kc) := hcl2 1 _ rfl
      have e2 : wr.cell? ⟨(x.add (i * 8)).block, (x.add (i * 8)).off + 2, none⟩ = some (.int .i64 kn) := hcl2 2 _ rfl
      have e3 : wr.cell? ⟨(x.add (i * 8)).block, (x.add (i * 8)).off + 3, none⟩ = some (.int .i64 i1) := hcl2 3 _ rfl
      have e4 : wr.cell? ⟨(x.add (i * 8)).block, (x.add (i * 8)).off + 4, none⟩ = some (.int .i64 i2) := hcl2 4 _ rfl
      have e5 : wr.cell? ⟨(x.add (i * 8)).block, (x.add (i * 8)).off + 5, none⟩ = some (.int .i64 i3) := hcl2 5 _ rfl
      have e6 : wr.cell? ⟨(x.add (i * 8)).block, (x.add (i * 8)).off + 6, none⟩ = some (.int .i64 i4) := hcl2 6 _ rfl
      have e7 : wr.cell? ⟨(x.add (i * 8)).block, (x.add (i * 8)).off + 7, none⟩ = some (.bool i5) := hcl2 7 _ rfl
      obtain ⟨bx, hbx⟩ : ∃ b, wr.heap.size = b := ⟨_, rfl⟩
      obtain ⟨W3, hW3⟩ : ∃ W3, W3 = wr.alloc (.cells #[.int .i64 kk, .int .i64 kc, .int .i64 kn, .int .i64 i1, .int .i64 i2, .int .i64 i3, .int .i64 i4, .bool i5] 37) := ⟨_, rfl⟩
      have b3 : Below wr.heap.size wr W3 := by rw [hW3]; exact one_below _ _
      have k3 : Blk W3 bx 37 #[.int .i64 kk, .int .i64 kc, .int .i64 kn, .int .i64 i1, .int .i64 i2, .int .i64 i3, .int .i64 i4, .bool i5] := by rw [hW3]; exact Blk.new_at _ _ _ hbx.symm
      have CD3 := hide (unhide CD W3 ((unhide HI).ev.below b3))
      have z0 : W3.cell? ⟨bx, 0, none⟩ = some (.int .i64 kk) := blkAt k3 0 _ rfl
      have z1 : W3.cell? ⟨bx, 1, none⟩ = some (.int .i64 kc) := blkAt k3 1 _ rfl
      have z2 : W3.cell? ⟨bx, 2, none⟩ = some (.int .i64 kn) := blkAt k3 2 _ rfl
      have z3 : W3.cell? ⟨bx, 3, none⟩ = some (.int .i64 i1) := blkAt k3 3 _ rfl
      have z4 : W3.cell? ⟨bx, 4, none⟩ = some (.int .i64 i2) := blkAt k3 4 _ rfl
      have z5 : W3.cell? ⟨bx, 5, none⟩ = some (.int .i64 i3) := blkAt k3 5 _ rfl
      have z6 : W3.cell? ⟨bx, 6, none⟩ = some (.int .i64 i4) := blkAt k3 6 _ rfl
      have z7 : W3.cell? ⟨bx, 7, none⟩ = some (.bool i5) := blkAt k3 7 _ rfl
      have HW3 := hide hW3
      have hMb : Mq < bx := by have := (unhide HI).mp.lt; omega
      have HBX : Hid (¬ efoot l bx ∧ bx < W3.heap.size ∧ Mq < W3.heap.size ∧ KMap W3 Mq ns sm e.len ∧ Blk W3 bx 37 #[.int .i64 kk, .int .i64 kc, .int .i64 kn, .int .i64 i1, .int .i64 i2, .int .i64 i3, .int .i64 i4, .bool i5]) := hide ⟨fun q => by have := (unhide HI).ev.es.lt bx q; omega, k3.lt, by have := k3.lt; omega, (unhide HI).mp.below b3 (unhide HI).mp.lt, k3⟩
      have HIk := hide (And.intro (unhide HI).kn (And.intro (unhide HI).out (And.intro (unhide HI).ge (unhide HI).ev.ok)))
      clear hcl2 hN hT hO CD b3 k3 hW3 HI hx
      go_upto_region 11 with fail
      rw [← unhide HW3]
      clear e0 e1 e2 e3 e4 e5 e6 e7 HW3
      go_wp2_with (go_at_call 14; refine Hid.out ?_)
      refine hide ?_
      refine (unhide CD3).mono ?_
      rintro r w4 ⟨v4, l4, rfl, row4, h4, f4, hx4, ho4⟩
      obtain ⟨m3n, m3b, m3c, m3, k3⟩ := unhide HBX
      have m4 := m3.ft f4 (unhide HIk).2.1
      have k4 := k3.ft f4 m3n
      have out4 : ¬ efoot l4 Mq := fun q => (hx4 Mq q).elim (unhide HIk).2.1 (fun z => by omega)
      have y0 : w4.cell? ⟨bx, 0, none⟩ = some (.int .i64 kk) := blkAt k4 0 _ rfl
      have y2 : w4.cell? ⟨bx, 2, none⟩ = some (.int .i64 kn) := blkAt k4 2 _ rfl
      have y3 : w4.cell? ⟨bx, 3, none⟩ = some (.int .i64 i1) := blkAt k4 3 _ rfl
      have y4 : w4.cell? ⟨bx, 4, none⟩ = some (.int .i64 i2) := blkAt k4 4 _ rfl
      have y5 : w4.cell? ⟨bx, 5, none⟩ = some (.int .i64 i3) := blkAt k4 5 _ rfl
      have y6 : w4.cell? ⟨bx, 6, none⟩ = some (.int .i64 i4) := blkAt k4 6 _ rfl
      have y7 : w4.cell? ⟨bx, 7, none⟩ = some (.bool i5) := blkAt k4 7 _ rfl
      obtain ⟨a4, cap4, rfl, rd4⟩ := Rd.of row4
      obtain ⟨E4, hE4⟩ : ∃ E4, O.2.2 = E4 := ⟨_, rfl⟩
      obtain ⟨N, hNN⟩ : ∃ N, O.1.length = N := ⟨_, rfl⟩
      obtain ⟨er, her⟩ : ∃ er, O.2.1 = er := ⟨_, rfl⟩
      rw [hE4] at h4 HEN
      rw [hNN] at rd4
      rw [hNN, her]
      by_cases hk1 : kk = 1
      · have hOs := unhide HST hk1
        have hOe : O.2 = e.start kc ⟨i1, i2, i3, i4, i5⟩ := by rw [hOs]
        have hN0 : N = 0 := by rw [← hNN, hOs]; rfl
        subst hN0
        rcases start_has (unhide HIk).2.2.2 kc ⟨i1, i2, i3, i4, i5⟩ with ⟨c1, c2⟩ | ⟨c1, c2, c3, c4⟩
        · rw [← hOe, her] at c1
          rw [← hOe, hE4] at c2
          have H5 : Hid (Kv C w w4 g l4 E4 (i + 1) Mq ns sm n) := hide ⟨h4, by rw [c2]; exact m4, by rw [c2]; exact (unhide HIk).1, out4, (unhide HIk).2.2.1, unhide HEN⟩
          subst hk1
          clear row4 h4 f4 hx4 ho4 CD3 hOs hOe HST HCN HFI HIk HBX m3n m3b m3c m3 k3 m4 k4 out4 c2 z0 z1 z2 z3 z4 z5 z6 z7 rd4 hE4 hNN her HEN
          go_wp2_with fail
          go_loopw [69] (fun s69 w' => s69 = .int .i64 0 ∧ Hid (Kv C w w' g l4 E4 (i + 1) Mq ns sm n)) (fun _ _ => 0)
          case atStart => exact ⟨rfl, H5⟩
          case round =>
            obtain ⟨rfl, H6⟩ := hrel
            clear H5
            go_wp2_with fail
            go_roundw
            case rel => exact ⟨i + 1, ns, l4, E4, sm, by first | rfl | go_num, by omega, by omega, H6⟩
            case measure => simp [intOf]; omega
        · rw [← hOe] at c1 c3 c4
          rw [her] at c1
          rw [hE4] at c3 c4
          have hkn := (unhide HIk).1.start c2 c4
          have hno := (unhide HIk).1.no c2
          simp only at hkn hno
          obtain ⟨w5, q1, q2, q3⟩ := m4.upd smKey Tryz.underlying51 (by omega) smInj i1 (smHas (unhide HNT).2.1) ⟨i1, i2, i3, i4, i5⟩
          have q1' : (Instr.mapUpdate 51 (.map (some Mq)) (.int .i64 i1) (.agg #[.int .i64 i1, .int .i64 i2, .int .i64 i3, .int .i64 i4, .bool i5])).run Tryz.prog w4 = .ok () w5 := q1
          have f5 : Ft (fun k => k = Mq) w4 w5 := (Ft.refl _ _).grown q3 (fun g' hg' => by cases hg'; exact .inl rfl)
          have k5 := k4.ft f5 (fun q => by omega)
          have x0 : w5.cell? ⟨bx, 0, none⟩ = some (.int .i64 kk) := blkAt k5 0 _ rfl
          have H5 : Hid (Kv C w w5 g l4 E4 (i + 1) Mq (ns + 1) (fun x => if x = i1 then some ⟨i1, i2, i3, i4, i5⟩ else sm x) n) := hide ⟨h4.ft f5 (fun k hk => hk ▸ out4) (fun k hk => hk ▸ (unhide HIk).2.2.1), by rw [hno] at q2; rw [c3]; exact q2, hkn, out4, (unhide HIk).2.2.1, unhide HEN⟩
          obtain ⟨sm5, hsm5⟩ : ∃ s5 : Int → Option Tmr, (fun x => if x = i1 then some ⟨i1, i2, i3, i4, i5⟩ else sm x) = s5 := ⟨_, rfl⟩
          rw [hsm5] at H5
          subst hk1 c1
          clear row4 h4 f4 hx4 ho4 CD3 hOs hOe HST HCN HFI HIk HBX m3n m3b m3c m3 k3 m4 k4 out4 c2 c3 c4 z0 z1 z2 z3 z4 z5 z6 z7 rd4 hE4 hNN her q1 q2 q3 f5 hkn hno k5 hsm5 HEN
          go_wp2_with fail
          go_loopw [69] (fun s69 w' => s69 = .int .i64 0 ∧ Hid (Kv C w w' g l4 E4 (i + 1) Mq (ns + 1) sm5 n)) (fun _ _ => 0)
          case atStart => exact ⟨rfl, H5⟩
          case round =>
            obtain ⟨rfl, H6⟩ := hrel
            clear H5
            go_wp2_with fail
            go_roundw
            case rel => exact ⟨i + 1, (ns + 1), l4, E4, sm5, by first | rfl | go_num, by omega, by omega, H6⟩
            case measure => simp [intOf]; omega
      · by_cases hk2 : kk = 2
        · have hOs := unhide HCN hk2
          have hOe : O.2 = e.cancel kn := by rw [hOs]
          have hN0 : N = 0 := by rw [← hNN, hOs]; rfl
          subst hN0
          obtain ⟨c1, c2⟩ := cancel_has (unhide HIk).2.2.2 kn
          have hkn := (unhide HIk).1.del c2
          rw [← hOe, hE4] at hkn
          rcases c1 with ⟨d1, d2, d3⟩ | ⟨d1, ⟨t, ht, he⟩, d3⟩
          · rw [← hOe, her] at d3
            rw [← hOe, hE4] at d2
            have H5 : Hid (Kv C w w4 g l4 E4 (i + 1) Mq ns sm n) := hide ⟨h4, by rw [d2]; exact m4, by rw [d2]; exact (unhide HIk).1, out4, (unhide HIk).2.2.1, unhide HEN⟩
            subst hk2
            clear row4 h4 f4 hx4 ho4 CD3 hOs hOe HST HCN HFI HIk HBX m3n m3b m3c m3 k3 m4 k4 out4 d1 d2 c2 hkn z0 z1 z2 z3 z4 z5 z6 z7 rd4 hE4 hNN her HEN
            go_wp2_with fail
            go_loopw [69] (fun s69 w' => s69 = .int .i64 0 ∧ Hid (Kv C w w' g l4 E4 (i + 1) Mq ns sm n)) (fun _ _ => 0)
            case atStart => exact ⟨rfl, H5⟩
            case round =>
              obtain ⟨rfl, H6⟩ := hrel
              clear H5
              go_wp2_with fail
              go_roundw
              case rel => exact ⟨i + 1, ns, l4, E4, sm, by first | rfl | go_num, by omega, by omega, H6⟩
              case measure => simp [intOf]; omega
          · rw [← hOe, her] at d1
            rw [← hOe, hE4] at d3
            have hsm := ((unhide HIk).1 kn t).2 ⟨t, ht, he, rfl⟩
            obtain ⟨w5, q1, q2, q3⟩ := m4.del smKey Tryz.underlying51 smInj kn (smHas (unhide HNT).1) 0
            have f5 : Ft (fun k => k = Mq) w4 w5 := (Ft.refl _ _).grown q3 (fun g' hg' => by cases hg'; exact .inl rfl)
            have H5 : Hid (Kv C w w5 g l4 E4 (i + 1) Mq ns (fun x => if x = kn then none else sm x) n) := hide ⟨h4.ft f5 (fun k hk => hk ▸ out4) (fun k hk => hk ▸ (unhide HIk).2.2.1), by rw [hsm] at q2; rw [show E4.len = e.len - 1 by omega]; exact q2, hkn, out4, (unhide HIk).2.2.1, unhide HEN⟩
            obtain ⟨sm5, hsm5⟩ : ∃ s5 : Int → Option Tmr, (fun x => if x = kn then none else sm x) = s5 := ⟨_, rfl⟩
            rw [hsm5] at H5
            subst hk2 d1
            clear row4 h4 f4 hx4 ho4 CD3 hOs hOe HST HCN HFI HIk HBX m3n m3b m3c m3 k3 m4 k4 out4 d3 c2 hkn z0 z1 z2 z3 z4 z5 z6 z7 rd4 hE4 hNN her q2 q3 f5 hsm hsm5 HEN ht
            go_wp2_with fail
            go_loopw [69] (fun s69 w' => s69 = .int .i64 0 ∧ Hid (Kv C w w' g l4 E4 (i + 1) Mq ns sm5 n)) (fun _ _ => 0)
            case atStart => exact ⟨rfl, H5⟩
            case round =>
              obtain ⟨rfl, H6⟩ := hrel
              clear H5
              go_wp2_with fail
              go_roundw
              case rel => exact ⟨i + 1, ns, l4, E4, sm5, by first | rfl | go_num, by omega, by omega, H6⟩
              case measure => simp [intOf]; omega
        · obtain ⟨fi, fz⟩ := unhide HFI hk1 hk2
          have hl := fi.len
          have hl2 := (unhide HIk).2.2.2.len
          obtain ⟨F, hF⟩ : ∃ F, O.1 = F := ⟨_, rfl⟩
          rw [hF] at fi hl rd4 hNN
          rw [hE4] at fi hl
          have hN64 : N ≤ 64 := by omega
          have HKE : Hid (E4.len = e.len - N ∧ Knows (fun t => t) E4 (offM sm (idsF F))) := hide ⟨by omega, (unhide HIk).1.fires fi⟩
          have HFD : Hid ((idsF F).Nodup ∧ ∀ f ∈ F, ∃ t, sm f.id = some t ∧ isI f.id) := hide (by
            refine ⟨fi.nd, fun f hf => ?_⟩
            obtain ⟨t, ht, h1, -⟩ := fi.due f hf
            obtain ⟨j, hj, hm⟩ := ht
            have htm := (unhide HIk).2.2.2.tm j t hj hm
            exact ⟨t, ((unhide HIk).1 f.id t).2 ⟨t, ⟨j, hj, hm⟩, h1, rfl⟩, h1 ▸ htm.2.2.2.1⟩)
          obtain ⟨cc, hcc⟩ : ∃ c, W3.heap.size = c := ⟨_, rfl⟩
          rw [hcc] at rd4 m3c
          have HLN := hide hNN
          have HK0 : Hid (Ev C w w4 g l4 E4 (i + 1) (i + 1) ∧ KMap w4 Mq ns (offM sm ((idsF F).take 0)) (e.len - 0) ∧ Rd rfd w4 cc a4 N cap4 F) := hide ⟨h4, by rw [List.take_zero, offM_nil]; exact m4, rd4⟩
          have HO4 := hide (And.intro out4 (And.intro (unhide HIk).2.2.1 m3c))
          clear row4 h4 f4 hx4 ho4 CD3 HST HCN HFI HBX m3n m3b m3c m3 k3 m4 k4 out4 z0 z1 z2 z3 z4 z5 z6 z7 rd4 hNN hF hE4 hcc HIk fi fz hl hl2 her
          go_wp2_with fail
          go_loopw [69] (fun s69 w' => ∃ k : Nat, s69 = .int .i64 (k : Int) ∧ k ≤ N ∧ Hid (Ev C w w' g l4 E4 (i + 1) (i + 1) ∧ KMap w' Mq ns (offM sm ((idsF F).take k)) (e.len - k) ∧ Rd rfd w' cc a4 N cap4 F)) (fun d _ => N - (intOf d).toNat)
          case atStart => exact ⟨0, rfl, by omega, HK0⟩
          case round =>
            obtain ⟨k, rfl, hk, HK⟩ := hrel
            clear HK0
            by_cases hkN : k < N
            · obtain ⟨f, hf⟩ : ∃ f, F[k]? = some f := ⟨_, List.getElem?_eq_getElem (by rw [unhide HLN]; exact hkN)⟩
              obtain ⟨⟨t1, t2, t3, t4, t5⟩, s1, s2⟩ := (unhide HFD).2 f (List.mem_of_getElem? hf)
              obtain ⟨ev, mk, rd⟩ := unhide HK
              have hid : (idsF F)[k]? = some f.id := by unfold idsF; rw [List.getElem?_map, hf]; rfl
              have hoff := off_at sm hid (unhide HFD).1
              rw [s1] at hoff
              obtain ⟨g', o', rfl, hgl', y0, y1, y2, y3, y4⟩ := fcells rd hf
              obtain ⟨bt, hbt⟩ : ∃ b, wr.heap.size = b := ⟨_, rfl⟩
              obtain ⟨f1, f2, f3, f4, f5⟩ := f
              simp only at s1 s2 hid hoff y0 y1 y2 y3 y4
              obtain ⟨W10, hW10⟩ : ∃ W10, W10 = wr.alloc (.cells #[.int .i64 f1, .int .i64 f2, .int .i64 f3, .int .i64 f4, .int .i64 f5] 42) := ⟨_, rfl⟩
              have b10 : Below wr.heap.size wr W10 := by rw [hW10]; exact one_below _ _
              have k10 : Blk W10 bt 42 #[.int .i64 f1, .int .i64 f2, .int .i64 f3, .int .i64 f4, .int .i64 f5] := by rw [hW10]; exact Blk.new_at _ _ _ hbt.symm
              have x0 : W10.cell? ⟨bt, 0, none⟩ = some (.int .i64 f1) := blkAt k10 0 _ rfl
              have ev10 := ev.below b10
              have mk10 := mk.below b10 mk.lt
              have rd10 := rd.below b10
              have lk : (Instr.lookup 51 (.map (some Mq)) (.int .i64 f1) true).run Tryz.prog W10 = .ok (.tuple #[.agg #[.int .i64 t1, .int .i64 t2, .int .i64 t3, .int .i64 t4, .bool t5], .bool true]) W10 := mk10.look_some smKey Tryz.underlying51 (kmZero W10) f1 (smHas s2) hoff true
              obtain ⟨W11, hW11⟩ : ∃ W11, W11 = W10.alloc (.cells #[.int .i64 t1, .int .i64 t2, .int .i64 t3, .int .i64 t4, .bool t5] 35) := ⟨_, rfl⟩
              have b11 : Below W10.heap.size W10 W11 := by rw [hW11]; exact one_below _ _
              have ev11 := ev10.below b11
              have mk11 := mk10.below b11 mk10.lt
              have rd11 := rd10.below b11
              have k11 := k10.below b11 k10.lt
              have v0 : W11.cell? ⟨bt, 0, none⟩ = some (.int .i64 f1) := blkAt k11 0 _ rfl
              obtain ⟨w12, q1, q2, q3⟩ := mk11.del smKey Tryz.underlying51 smInj f1 (smHas s2) 0
              have f12 : Ft (fun k => k = Mq) W11 w12 := (Ft.refl _ _).grown q3 (fun g' hg' => by cases hg'; exact .inl rfl)
              have H12 : Hid (Ev C w w12 g l4 E4 (i + 1) (i + 1) ∧ KMap w12 Mq ns (offM sm ((idsF F).take (k + 1))) (e.len - (k + 1)) ∧ Rd rfd w12 cc (some ⟨g', o', none⟩) N cap4 F) := hide (by
                refine ⟨ev11.ft f12 (fun k hk => hk ▸ (unhide HO4).1) (fun k hk => hk ▸ (unhide HO4).2.1), ?_, rd11.ft f12 (fun x hx q => by have := (rd11.blk x hx).1; have := (unhide HO4).2.2; omega)⟩
                rw [off_step sm hid, hoff] at q2
                exact q2)
              have HW10 := hide hW10
              have HW11 := hide hW11
              clear ev mk rd b10 k10 ev10 mk10 rd10 b11 ev11 mk11 rd11 k11 hW10 hW11 hf hid s1 s2 hoff HK q2 q3 f12
              go_upto_region 19 with fail
              rw [← unhide HW10]
              clear y0 y1 y2 y3 y4 HW10
              go_upto_region 20 with fail
              rw [← unhide HW11]
              clear HW11 x0 lk
              go_wp2_with fail
              go_roundw
              case rel => exact ⟨k + 1, by first | rfl | go_num, by omega, H12⟩
              case measure => simp [intOf]; omega
            · obtain rfl : k = N := by omega
              obtain ⟨ev, mk, rd⟩ := unhide HK
              rw [List.take_of_length_le (by unfold idsF; rw [List.length_map, unhide HLN]; exact Nat.le_refl _)] at mk
              have H5 : Hid (Kv C w wr g l4 E4 (i + 1) Mq ns (offM sm (idsF F)) n) := hide ⟨ev, by rw [(unhide HKE).1]; exact mk, (unhide HKE).2, (unhide HO4).1, (unhide HO4).2.1, unhide HEN⟩
              clear ev mk rd HK HKE HFD HLN
              go_wp2_with fail
              go_roundw
              case rel => exact ⟨i + 1, ns, l4, E4, _, by first | rfl | go_num, by omega, by omega, H5⟩
              case measure => simp [intOf]; omega
    · obtain rfl : i = len := by omega
      obtain ⟨Wz, rfl⟩ : ∃ W, W = wr := ⟨wr, rfl⟩
      obtain ⟨ev, mk, kno, out, ge, nn⟩ := unhide HI
      have CT := hide (fun w' (hb : Below Wz.heap.size Wz w') (k : Nat) (hk : k < n) => timers_any (ev.es.below hb) (i := k) (nn ▸ hk))
      have CL := hide (fun w' (hb : Below Wz.heap.size Wz w') => len_any15 (ev.es.below hb))
      have CON := hide (fun w' (hb : Below Wz.heap.size Wz w') => online_any (ev.es.below hb))
      rw [ev.g] at CT CL CON
      have hsz : lenTo e n = e.len := by rw [← nn]; rfl
      have hsl := ev.ok.len
      have HMK := hide (fun w' (hb : Below Wz.heap.size Wz w') => mk.below hb mk.lt)
      have HTK := hide (fun (j : Nat) (t : Tmr) (hj : j < n) (ht : t ∈ (e.cp j).L) => show sm t.id = some t ∧ isI t.id from ⟨(kno t.id t).2 ⟨t, ⟨j, nn ▸ hj, ht⟩, rfl, rfl⟩, (ev.ok.tm j t (nn ▸ hj) ht).2.2.2.1⟩)
      have HMO : Hid (∀ j, j < n → lenTo e j + (e.cp j).L.length ≤ e.len) := hide (fun j hj => by rw [← hsz]; exact lenTo_up e hj)
      have HF := hide (And.intro ev.low ev.cs)
      have hon := online_some ev.ok
      obtain ⟨n6, hn6⟩ : ∃ n6, (Mk.listOf e.M).length = n6 := ⟨_, rfl⟩
      rw [hn6] at hon
      have HN6 := hide hn6
      obtain ⟨Z, hZ⟩ : ∃ Z, e.len = Z := ⟨_, rfl⟩
      rw [hZ] at hsz hsl HMK HMO CL
      have HSZ := hide hsz
      clear ev mk kno out ge nn HI hn6 hsz hZ
      go_wp2_with fail
      go_loopw [16, 88] (fun s16 s88 w' => ∃ j lj : Nat, s88 = .int .i64 (j : Int) ∧ j ≤ n ∧ s16 = .int .i64 (lj : Int) ∧ Hid (Below Wz.heap.size Wz w' ∧ lenTo e j = lj)) (fun _ d _ => n - (intOf d).toNat)
      case atStart => exact ⟨0, 0, rfl, by omega, rfl, hide ⟨Below.refl _ _, rfl⟩⟩
      case round =>
        obtain ⟨j, lj, rfl, hj, rfl, HJ⟩ := hrel
        by_cases hjn : j < n
        · have hup := unhide HMO j hjn
          rw [(unhide HJ).2] at hup
          go_wp2_with (go_at_call 11; refine Hid.out ?_)
          refine hide ?_
          refine (unhide CT wr (unhide HJ).1 j hjn).mono ?_
          rintro r w9 ⟨v9, rfl, row9, hb9⟩
          obtain ⟨a9, cap9, rfl, rd9⟩ := Rd.of row9
          have HTJ := hide (fun t ht => unhide HTK j t hjn ht)
          have HLJ : Hid (lenTo e (j + 1) = lj + (e.cp j).L.length) := hide (by rw [← (unhide HJ).2]; rfl)
          generalize (e.cp j).L = L at *
          obtain ⟨NL, hNL⟩ : ∃ N, L.length = N := ⟨_, rfl⟩
          rw [hNL] at rd9 hup HLJ
          rw [hNL]
          have HNL := hide hNL
          have H9 := hide (And.intro rd9 ((unhide HJ).1.trans (hb9.mono (unhide HJ).1.size)))
          clear row9 rd9 hb9 hNL HJ
          go_wp2_with fail
          go_loopw [16, 95] (fun s16 s95 w' => ∃ k : Nat, s95 = .int .i64 (k : Int) ∧ k ≤ NL ∧ s16 = .int .i64 ((lj + k : Nat) : Int) ∧ Hid (Below w9.heap.size w9 w')) (fun _ d _ => NL - (intOf d).toNat)
          case atStart => exact ⟨0, rfl, by omega, rfl, hide (Below.refl _ _)⟩
          case round =>
            obtain ⟨k, rfl, hk, rfl, HK⟩ := hrel
            by_cases hkN : k < NL
            · obtain ⟨t, ht⟩ : ∃ t, L[k]? = some t := ⟨_, List.getElem?_eq_getElem (by rw [unhide HNL]; exact hkN)⟩
              obtain ⟨s1, s2⟩ := unhide HTJ t (List.mem_of_getElem? ht)
              obtain ⟨g', o', rfl, hgl', y0, y1, y2, y3, y4⟩ := tcells' ((unhide H9).1.below (unhide HK)) ht
              have hbz := (unhide H9).2.trans ((unhide HK).mono (unhide H9).2.size)
              obtain ⟨i1, i2, i3, i4, i5⟩ := t
              simp only at y0 y1 y2 y3 y4 s1 s2
              obtain ⟨bt, hbt⟩ : ∃ b, wr.heap.size = b := ⟨_, rfl⟩
              obtain ⟨W10, hW10⟩ : ∃ W10, W10 = wr.alloc (.cells #[.int .i64 i1, .int .i64 i2, .int .i64 i3, .int .i64 i4, .bool i5] 35) := ⟨_, rfl⟩
              have b10 : Below wr.heap.size wr W10 := by rw [hW10]; exact one_below _ _
              have k10 : Blk W10 bt 35 #[.int .i64 i1, .int .i64 i2, .int .i64 i3, .int .i64 i4, .bool i5] := by rw [hW10]; exact Blk.new_at _ _ _ hbt.symm
              have q0 : W10.cell? ⟨bt, 0, none⟩ = some (.int .i64 i1) := blkAt k10 0 _ rfl
              have q1 : W10.cell? ⟨bt, 1, none⟩ = some (.int .i64 i2) := blkAt k10 1 _ rfl
              have q2 : W10.cell? ⟨bt, 2, none⟩ = some (.int .i64 i3) := blkAt k10 2 _ rfl
              have q3 : W10.cell? ⟨bt, 3, none⟩ = some (.int .i64 i4) := blkAt k10 3 _ rfl
              have q4 : W10.cell? ⟨bt, 4, none⟩ = some (.bool i5) := blkAt k10 4 _ rfl
              have lk : (Instr.lookup 51 (.map (some Mq)) (.int .i64 i1) false).run Tryz.prog W10 = .ok (.agg #[.int .i64 i1, .int .i64 i2, .int .i64 i3, .int .i64 i4, .bool i5]) W10 := (unhide HMK W10 (hbz.trans (b10.mono hbz.size))).look_some smKey Tryz.underlying51 (kmZero W10) i1 (smHas s2) s1 false
              have HB10 := hide ((unhide HK).trans (b10.mono (unhide HK).size))
              have HW10 := hide hW10
              clear b10 k10 hW10 ht s1 s2 hbz HK
              go_upto_region 32 with fail
              rw [← unhide HW10]
              clear y0 y1 y2 y3 y4 HW10
              go_wp2_with fail
              go_roundw
              case rel => exact ⟨k + 1, by first | rfl | go_num, by omega, by first | rfl | go_num, HB10⟩
              case measure => simp [intOf]; omega
            · obtain rfl : k = NL := by omega
              have HE := hide (And.intro ((unhide H9).2.trans ((unhide HK).mono (unhide H9).2.size)) (unhide HLJ))
              clear HK H9 HLJ
              go_wp2_with fail
              go_roundw
              case rel => exact ⟨j + 1, lj + k, by first | rfl | go_num, by omega, by first | rfl | go_num, HE⟩
              case measure => simp [intOf]; omega
        · obtain rfl : j = n := by omega
          have hlj : lj = Z := (unhide HJ).2.symm.trans (unhide HSZ)
          subst hlj
          have hml := (unhide HMK wr (unhide HJ).1).len Tryz.underlying51
          go_wp2_with (go_at_call 19; refine Hid.out ?_)
          refine hide ?_
          refine (unhide CL wr (unhide HJ).1).mono ?_
          rintro r w5 ⟨rfl, hb5⟩
          have HB5 := hide ((unhide HJ).1.trans (hb5.mono (unhide HJ).1.size))
          clear hb5 hml
          go_wp2_with (go_at_call 10; refine Hid.out ?_)
          refine hide ?_
          refine (unhide CON w5 (unhide HB5)).mono ?_
          rintro r w6 ⟨v6, rfl, row6, hb6⟩
          obtain ⟨a6, cap6, hf6, -⟩ := row6.form
          rw [Mk.ints_len, unhide HN6] at hf6
          subst hf6
          have hd6 : decide (0 < n6) = true := decide_eq_true hon
          have HE := hide ((unhide HF).1.trans (((unhide HB5).trans (hb6.mono (unhide HB5).size)).mono (unhide HF).2))
          clear row6 hb6 HB5 HJ
          go_wp2_with fail
          go_ret
          exact ⟨by first | rfl | simp, by rw [unhide HC]; exact unhide HE⟩
end Go.Proofs.YtjjdkkdnlnbedaaGreat
