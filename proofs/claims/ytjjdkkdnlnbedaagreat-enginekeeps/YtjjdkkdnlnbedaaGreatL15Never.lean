/- EngineNever: the walk. -/
import Derived.Test.YtjjdkkdnlnbedaaGreatL15Armed
import Derived.Test.YtjjdkkdnlnbedaaGreatEnSm
import Derived.Carry
namespace Go.Proofs.YtjjdkkdnlnbedaaGreat
open Go.RowKit Kt Qu
set_option linter.unusedVariables false

set_option maxRecDepth 20000 in
theorem lnever_long (A B : Int) (p : Option Addr) (len cap : Nat) (w : World) (hlen : 150 < len) : Calls Tryz.prog 4 #[.int .u8 A, .int .u8 B, .slice p len cap] w fun r w' => r = .returned (.bool true) ∧ Below w.heap.size w w' := by
  have h2 : (150 : Int) < (len : Int) := by omega
  go_enter Tryz.func4, Tryz.ntmps4
  go_wp2_with (go_at_call 8; refine (lfixed15_any _).mono ?_; rintro r w1 ⟨rfl, hb1⟩)
  go_ret
  exact ⟨rfl, hb1⟩
/-- What a law keeps. -/
structure Nv (C : Nat) (w0 w : World) (g : Nat) (l : Loc) (e : En) (i Mq ns : Nat) (sm : Int → Option Int) : Prop where
  ev : Ev C w0 w g l e i i
  mp : SMap w Mq ns sm e.len
  kn : Knows (fun t => t.soft) e sm
  out : ¬ efoot l Mq
  ge : C ≤ Mq
theorem step_len {e : En} (h : EnOk e) (s : Stp) (ht : okT s.t) : (e.step s).1.length ≤ 64 ∨ s.kind = 1 ∨ s.kind = 2 := by
  by_cases h1 : s.kind = 1
  · exact .inr (.inl h1)
  by_cases h2 : s.kind = 2
  · exact .inr (.inr h2)
  have := (step_fires h s h1 h2).1.len
  have := h.len
  exact .inl (by omega)
set_option maxRecDepth 100000 in
set_option maxHeartbeats 16000000 in
theorem lnever_short (A B : Int) (hA : 0 ≤ A ∧ A ≤ 255) (hB : 0 ≤ B ∧ B ≤ 255) (p : Option Addr) (len cap : Nat) (S : Nat → Stp) (w : World) (hlen : len ≤ 150) (hS : Steps w p len S) :
    Calls Tryz.prog 4 #[.int .u8 A, .int .u8 B, .slice p len cap] w fun r w' => r = .returned (.bool true) ∧ Below w.heap.size w w' := by
  have CF := hide (lfixed15_any w)
  have HS := hide hS
  obtain ⟨C, hC⟩ : ∃ C, w.heap.size = C := ⟨_, rfl⟩
  obtain ⟨n, hn⟩ : ∃ n : Nat, 1 + A % 16 = (n : Int) := ⟨(1 + A % 16).toNat, by omega⟩
  have hn1 : 1 ≤ n := by omega
  have hn16 : n ≤ 16 := by omega
  have em : A.tmod 16 = A % 16 := Int.tmod_eq_emod_of_nonneg hA.1
  have hmr : 0 ≤ A % 16 ∧ A % 16 ≤ 15 := by omega
  rw [hC] at CF
  have CN := hide (fun w1 (hb : Below C w w1) => evnew n B (B + 1000) C w w1 hb (by have := hb.size; omega) hn1 hn16 hB.1 (by omega) (by omega) (by omega))
  have hl2 : ((len : Nat) : Int) ≤ 150 := by omega
  have hmm := @run_makeMap Tryz.prog
  clear hS
  go_enter Tryz.func4, Tryz.ntmps4
  go_wp2_with (first | (go_at_call 8; refine (unhide CF).mono ?_; rintro r w1 ⟨rfl, hb1⟩; have HB1 := hide hb1; clear hb1) | (go_at_call 9; refine Hid.out ?_))
  refine hide ?_
  refine (unhide CN w1 (unhide HB1)).mono ?_
  rintro r w2 ⟨g, l2, rfl, h2, -, -⟩
  obtain ⟨Mq, hMq⟩ : ∃ m, w2.heap.size = m := ⟨_, rfl⟩
  obtain ⟨W2, hW2⟩ : ∃ W2, W2 = w2.alloc (.map #[] 0) := ⟨_, rfl⟩
  have H2 : Hid (Nv C w W2 g l2 (enNew n B (B + 1000)) 0 Mq 0 (fun _ => none)) := hide (by
    have b2 : Below w2.heap.size w2 W2 := by rw [hW2]; exact one_below _ _
    have hen : (enNew n B (B + 1000)).len = 0 := by
      show lenTo _ n = 0
      have : ∀ m, lenTo (enNew n B (B + 1000)) m = 0 := fun m => by induction m with | zero => rfl | succ k ih => exact (by show lenTo _ k + 0 = 0; omega)
      exact this n
    refine ⟨h2.below b2, ?_, fun x b => ⟨(fun q => by cases q), fun ⟨t, ⟨i, hi, ht⟩, _⟩ => by cases ht⟩, fun q => ?_, ?_⟩
    · rw [hen, hW2, ← hMq]; exact GMap.made w2
    · have := h2.es.lt Mq q; omega
    · have := h2.cs; omega)
  have HC := hide hC
  have HW2 := hide hW2
  clear h2 CN CF hC HB1 hW2
  generalize enNew n B (B + 1000) = E0 at *
  go_wp2_with fail
  rw [← unhide HW2]
  clear HW2 hmm
  go_loopw [39] (fun s38 w' => ∃ (i ns : Nat) (l : Loc) (e : En) (sm : Int → Option Int), s38 = .int .i64 (i : Int) ∧ i ≤ len ∧ ns ≤ i ∧ Hid (Nv C w w' g l e i Mq ns sm)) (fun d _ => len - (intOf d).toNat)
  case atStart => exact ⟨0, 0, l2, E0, _, rfl, by omega, by omega, H2⟩
  case round =>
    clear H2
    obtain ⟨i, ns, l, e, sm, rfl, hi, hns, HI⟩ := hrel
    by_cases hlt : i < len
    · obtain ⟨⟨hN, hT⟩, x, rfl, hx, hcl⟩ := (unhide HS) i hlt
      have hcl2 : ∀ k v, (stl (S i))[k]? = some v → wr.cell? ((x.add (i * 8)).add k) = some v := fun k v hv => by
        rw [(unhide HI).ev.low.cell (by rw [show ((x.add (i * 8)).add k).block = x.block by unfold Addr.add; split <;> (split <;> rfl), ← unhide HC]; exact hx)]
        exact hcl k v hv
      clear hcl
      generalize S i = s at *
      have HNT := hide (And.intro hN hT)
      have CD := hide (fun w3 (h3 : Ev C w w3 g l e i i) => evdo h3 s hN hT (by omega) (by omega))
      have HFI := hide (step_fires (unhide HI).ev.ok s)
      have HST : Hid (s.kind = 1 → (e.step s) = ([], e.start s.cpu s.t)) := hide (fun q => by unfold En.step; rw [if_pos q])
      have HCN : Hid (s.kind = 2 → (e.step s) = ([], e.cancel s.n)) := hide (fun q => by unfold En.step; rw [if_neg (by omega), if_pos q])
      obtain ⟨O, hO⟩ : ∃ O, e.step s = O := ⟨_, rfl⟩
      rw [hO] at CD HFI HST HCN
      simp only [stv, stc] at CD
      obtain ⟨kk, kc, kn, ⟨i1, i2, i3, i4, i5⟩⟩ := s
      simp only at HFI HST HCN
      have e0 : wr.cell? (x.add (i * 8)) = some (.int .i64 kk) := hcl2 0 _ rfl
      have e1 : wr.cell? ⟨(x.add (i * 8)).block, (x.add (i * 8)).off + 1, none⟩ = some (.int .i64 kc) := hcl2 1 _ rfl
      have e2 : wr.cell? ⟨(x.add (i * 8)).block, (x.add (i * 8)).off + 2, none⟩ = some (.int .i64 kn) := hcl2 2 _ rfl
      have e3 : wr.cell? ⟨(x.add (i * 8)).block, (x.add (i * 8)).off + 3, none⟩ = some (.int .i64 i1) := hcl2 3 _ rfl
      have e4 : wr.cell? ⟨(x.add (i * 8)).block, (x.add (i * 8)).off + 4, none⟩ = some (.int .i64 i2) := hcl2 4 _ rfl
      have e5 : wr.cell? ⟨(x.add (i * 8)).block, (x.add (i * 8)).off + 5, none⟩ = some (.int .i64 i3) := hcl2 5 _ rfl
      have e6 : wr.cell? ⟨(x.add (i * 8)).block, (x.add (i * 8)).off + 6, none⟩ = some (.int .i64 i4) := hcl2 6 _ rfl
      have e7 : wr.cell? ⟨(x.add (i * 8)).block, (x.add (i * 8)).off + 7, none⟩ = some (.bool i5) := hcl2 7 _ rfl
      obtain ⟨bx, hbx⟩ : ∃ b, wr.heap.size = b := ⟨_, rfl⟩
      obtain ⟨W3, hW3⟩ : ∃ W3, W3 = wr.alloc (.cells #[.int .i64 kk, .int .i64 kc, .int .i64 kn, .int .i64 i1, .int .i64 i2, .int .i64 i3, .int .i64 i4, .bool i5] 37) := ⟨_, rfl⟩
      have b3 : Below wr.heap.size wr W3 := by rw [hW3]; exact one_below _ _
      have k3 : Blk W3 bx 37 #[.int .i64 kk, .int .i64 kc, .int .i64 kn, .int .i64 i1, .int .i64 i2, .int .i64 i3, .int .i64 i4, .bool i5] := by rw [hW3]; exact Blk.new_at _ _ _ hbx.symm
      have CD3 := hide (unhide CD W3 ((unhide HI).ev.below b3))
      have z0 : W3.cell? ⟨bx, 0, none⟩ = some (.int .i64 kk) := blkAt k3 0 _ rfl
      have z1 : W3.cell? ⟨bx, 1, none⟩ = some (.int .i64 kc) := blkAt k3 1 _ rfl
      have z2 : W3.cell? ⟨bx, 2, none⟩ = some (.int .i64 kn) := blkAt k3 2 _ rfl
      have z3 : W3.cell? ⟨bx, 3, none⟩ = some (.int .i64 i1) := blkAt k3 3 _ rfl
      have z4 : W3.cell? ⟨bx, 4, none⟩ = some (.int .i64 i2) := blkAt k3 4 _ rfl
      have z5 : W3.cell? ⟨bx, 5, none⟩ = some (.int .i64 i3) := blkAt k3 5 _ rfl
      have z6 : W3.cell? ⟨bx, 6, none⟩ = some (.int .i64 i4) := blkAt k3 6 _ rfl
      have z7 : W3.cell? ⟨bx, 7, none⟩ = some (.bool i5) := blkAt k3 7 _ rfl
      have HW3 := hide hW3
      have hMb : Mq < bx := by have := (unhide HI).mp.lt; omega
      have HBX : Hid (¬ efoot l bx ∧ bx < W3.heap.size ∧ Mq < W3.heap.size ∧ SMap W3 Mq ns sm e.len ∧ Blk W3 bx 37 #[.int .i64 kk, .int .i64 kc, .int .i64 kn, .int .i64 i1, .int .i64 i2, .int .i64 i3, .int .i64 i4, .bool i5]) := hide ⟨fun q => by have := (unhide HI).ev.es.lt bx q; omega, k3.lt, by have := k3.lt; omega, (unhide HI).mp.below b3 (unhide HI).mp.lt, k3⟩
      have HIk := hide (And.intro (unhide HI).kn (And.intro (unhide HI).out (And.intro (unhide HI).ge (unhide HI).ev.ok)))
      have HNM := hide (unhide HI).ev.es.nums
      clear hcl2 hN hT hO CD b3 k3 hW3 HI hx
      go_upto_region 10 with fail
      rw [← unhide HW3]
      clear e0 e1 e2 e3 e4 e5 e6 e7 HW3
      by_cases hk1 : kk = 1
      · subst hk1
        go_wp2_with (go_at_call 14; refine Hid.out ?_)
        refine hide ?_
        refine (unhide CD3).mono ?_
        rintro r w4 ⟨v4, l4, rfl, row4, h4, f4, hx4, ho4⟩
        have hOs := unhide HST (by first | trivial | rfl)
        have hOe : O.2 = e.start kc ⟨i1, i2, i3, i4, i5⟩ := by rw [hOs]
        obtain ⟨a4, cap4, hf4, -⟩ := row4.form
        generalize O.1.length = n4 at *
        subst hf4
        obtain ⟨m3n, m3b, m3c, m3, k3⟩ := unhide HBX
        have m4 := m3.ft f4 (unhide HIk).2.1
        have k4 := k3.ft f4 m3n
        have out4 : ¬ efoot l4 Mq := fun q => (hx4 Mq q).elim (unhide HIk).2.1 (fun z => by omega)
        rcases start_has (unhide HIk).2.2.2 kc ⟨i1, i2, i3, i4, i5⟩ with ⟨c1, c2⟩ | ⟨c1, c2, c3, c4⟩
        · rw [← hOe] at c1 c2
          have H5 : Hid (Nv C w w4 g l4 O.2.2 (i + 1) Mq ns sm) := hide ⟨h4, by rw [c2]; exact m4, by rw [c2]; exact (unhide HIk).1, out4, (unhide HIk).2.2.1⟩
          generalize O.2.1 = er at *
          clear row4 h4 f4 hx4 ho4 CD3 hOs hOe HST HCN HFI HIk HBX m3n m3b m3c m3 k3 m4 k4 out4 c2 z0 z1 z2 z3 z4 z5 z6 z7
          go_wp2_with fail
          go_roundw
          case rel => exact ⟨i + 1, ns, l4, O.2.2, sm, by first | rfl | go_num, by omega, by omega, H5⟩
          case measure => simp [intOf]; omega
        · rw [← hOe] at c1 c3 c4
          have hkn := (unhide HIk).1.start c2 c4
          have hno := (unhide HIk).1.no c2
          simp only at hkn hno
          have y3 : w4.cell? ⟨bx, 3, none⟩ = some (.int .i64 i1) := blkAt k4 3 _ rfl
          have y5 : w4.cell? ⟨bx, 5, none⟩ = some (.int .i64 i3) := blkAt k4 5 _ rfl
          obtain ⟨w5, q1, q2, q3⟩ := m4.upd smKey Tryz.underlying45 (by omega) smInj i1 (smHas (unhide HNT).2.1) i3
          have f5 : Ft (fun k => k = Mq) w4 w5 := (Ft.refl _ _).grown q3 (fun g' hg' => by cases hg'; exact .inl rfl)
          have H5 : Hid (Nv C w w5 g l4 O.2.2 (i + 1) Mq (ns + 1) (fun x => if x = i1 then some i3 else sm x)) := hide ⟨h4.ft f5 (fun k hk => hk ▸ out4) (fun k hk => hk ▸ (unhide HIk).2.2.1), by rw [hno] at q2; rw [c3]; exact q2, hkn, out4, (unhide HIk).2.2.1⟩
          rw [c1]
          clear row4 h4 f4 hx4 ho4 CD3 hOs hOe HST HCN HFI HIk HBX m3n m3b m3c m3 k3 m4 k4 out4 c1 c2 c3 c4 z0 z1 z2 z3 z4 z5 z6 z7 q2 q3 f5 hkn hno
          go_wp2_with fail
          go_roundw
          case rel => exact ⟨i + 1, ns + 1, l4, O.2.2, _, by first | rfl | go_num, by omega, by omega, H5⟩
          case measure => simp [intOf]; omega
      · go_wp2_with (go_at_call 14; refine Hid.out ?_)
        refine hide ?_
        refine (unhide CD3).mono ?_
        rintro r w4 ⟨v4, l4, rfl, row4, h4, f4, hx4, ho4⟩
        obtain ⟨m3n, m3b, m3c, m3, k3⟩ := unhide HBX
        have m4 := m3.ft f4 (unhide HIk).2.1
        have k4 := k3.ft f4 m3n
        have out4 : ¬ efoot l4 Mq := fun q => (hx4 Mq q).elim (unhide HIk).2.1 (fun z => by omega)
        have HKE : Hid (kk ≠ 2 → O.2.2.len = e.len - O.1.length ∧ Knows (fun t => t.soft) O.2.2 (offM sm (idsF O.1))) := hide fun q => by
          have fi := (unhide HFI hk1 q).1
          exact ⟨by have := fi.len; omega, (unhide HIk).1.fires fi⟩
        have HK2 : Hid (kk = 2 → O.1 = [] ∧ Knows (fun t => t.soft) O.2.2 (fun x => if x = kn then none else sm x) ∧ (if (sm kn).isSome = true then e.len - 1 else e.len) = O.2.2.len) := hide fun q => by
          have hO := unhide HCN q
          obtain ⟨c1, c2⟩ := cancel_has (unhide HIk).2.2.2 kn
          rw [hO]
          refine ⟨rfl, (unhide HIk).1.del c2, ?_⟩
          rcases c1 with ⟨d1, d2, -⟩ | ⟨-, ⟨t, ht, he⟩, d3⟩
          · rw [(unhide HIk).1.no d1]
            show e.len = (e.cancel kn).2.len
            rw [d2]
          · rw [((unhide HIk).1 kn t.soft).2 ⟨t, ht, he, rfl⟩]
            show e.len - 1 = (e.cancel kn).2.len
            omega
        have HFD : Hid ((idsF O.1).Nodup ∧ O.1.length ≤ 64 ∧ ∀ f ∈ O.1, ∃ so, sm f.id = some so ∧ isI f.id ∧ so < 4611686018427387903 ∧ clampZ so ≤ f.rd ∧ 0 ≤ f.clock ∧ f.clock ≤ 2 ∧ O.2.2.z.rd f.clock.toNat = f.rd) := hide (by
          by_cases q : kk = 2
          · rw [(unhide HK2 q).1]
            exact ⟨List.nodup_nil, by decide, fun f hf => by cases hf⟩
          · obtain ⟨fi, fz⟩ := unhide HFI hk1 q
            have hl := fi.len
            have hl2 := (unhide HIk).2.2.2.len
            refine ⟨fi.nd, by omega, fun f hf => ?_⟩
            obtain ⟨t, ht, h1, h2, h3, h5⟩ := fi.due f hf
            obtain ⟨j, hj, hm⟩ := ht
            have htm := (unhide HIk).2.2.2.tm j t hj hm
            have hb := rd_bd (unhide HNM) t.clock.toNat
            have hz := fz (fun q => by rw [q] at hf; cases hf)
            refine ⟨t.soft, ((unhide HIk).1 f.id t.soft).2 ⟨t, ⟨j, hj, hm⟩, h1, rfl⟩, h1 ▸ htm.2.2.2.1, h3.1, ?_, by rw [h2]; exact htm.1, by rw [h2]; exact htm.2.1, by rw [hz, h2, h5]⟩
            have := h3.2
            rw [clampZ_id (t := e.z.rd t.clock.toNat) (by omega) (by omega)] at this
            rw [h5]; exact this)
        obtain ⟨a4, cap4, rfl, rd4⟩ := Rd.of row4
        obtain ⟨cc, hcc⟩ : ∃ c, W3.heap.size = c := ⟨_, rfl⟩
        rw [hcc] at rd4 m3c
        obtain ⟨N, hNN⟩ : ∃ N, O.1.length = N := ⟨_, rfl⟩
        obtain ⟨F, hF⟩ : ∃ F, O.1 = F := ⟨_, rfl⟩
        obtain ⟨E4, hE4⟩ : ∃ E4, O.2.2 = E4 := ⟨_, rfl⟩
        rw [hNN, hF] at rd4
        rw [hNN, hF, hE4] at HKE HFD
        rw [hF, hE4] at HK2
        rw [hE4] at h4
        have hN64 : N ≤ 64 := (unhide HFD).2.1
        have HLN : Hid (F.length = N) := hide (by rw [← hF]; exact hNN)
        rw [hNN]
        have HK0 : Hid (Ev C w w4 g l4 E4 (i + 1) (i + 1) ∧ SMap w4 Mq ns (offM sm ((idsF F).take 0)) (e.len - 0) ∧ Rd rfd w4 cc a4 N cap4 F ∧ Blk w4 bx 37 #[.int .i64 kk, .int .i64 kc, .int .i64 kn, .int .i64 i1, .int .i64 i2, .int .i64 i3, .int .i64 i4, .bool i5]) := hide ⟨h4, by rw [List.take_zero, offM_nil]; exact m4, rd4, k4⟩
        have HO4 := hide (And.intro out4 (And.intro (unhide HIk).2.2.1 m3c))
        generalize O.2.1 = er at *
        clear row4 h4 f4 hx4 ho4 CD3 HST HCN HFI HBX m3n m3b m3c m3 k3 m4 k4 out4 z0 z1 z2 z3 z4 z5 z6 z7 rd4 hNN hF hE4 hcc HIk HNM
        go_wp2_with fail
        go_loopw [69] (fun s69 w' => ∃ k : Nat, s69 = .int .i64 (k : Int) ∧ k ≤ N ∧ Hid (Ev C w w' g l4 E4 (i + 1) (i + 1) ∧ SMap w' Mq ns (offM sm ((idsF F).take k)) (e.len - k) ∧ Rd rfd w' cc a4 N cap4 F ∧ Blk w' bx 37 #[.int .i64 kk, .int .i64 kc, .int .i64 kn, .int .i64 i1, .int .i64 i2, .int .i64 i3, .int .i64 i4, .bool i5])) (fun d _ => N - (intOf d).toNat)
        case atStart => exact ⟨0, rfl, by omega, HK0⟩
        case round =>
          obtain ⟨k, rfl, hk, HK⟩ := hrel
          clear HK0
          by_cases hkN : k < N
          · obtain ⟨f, hf⟩ : ∃ f, F[k]? = some f := ⟨_, List.getElem?_eq_getElem (by rw [unhide HLN]; exact hkN)⟩
            obtain ⟨so, s1, s2, s3, s4, s5, s6, s7⟩ := (unhide HFD).2.2 f (List.mem_of_getElem? hf)
            obtain ⟨ev, mk, rd, bk⟩ := unhide HK
            have hid : (idsF F)[k]? = some f.id := by unfold idsF; rw [List.getElem?_map, hf]; rfl
            have hoff := off_at sm hid (unhide HFD).1
            rw [s1] at hoff
            obtain ⟨g', o', rfl, hgl', y0, y1, y2, y3, y4⟩ := fcells rd hf
            obtain ⟨bt, hbt⟩ : ∃ b, wr.heap.size = b := ⟨_, rfl⟩
            obtain ⟨K, hK⟩ : ∃ K, clampZ so = K := ⟨_, rfl⟩
            have CK := fun w' => hide (rclamp_any so w')
            rw [hK] at CK s4
            obtain ⟨f1, f2, f3, f4, f5⟩ := f
            simp only at s1 s2 s4 s5 s6 s7 hid hoff y0 y1 y2 y3 y4
            obtain ⟨W10, hW10⟩ : ∃ W10, W10 = wr.alloc (.cells #[.int .i64 f1, .int .i64 f2, .int .i64 f3, .int .i64 f4, .int .i64 f5] 42) := ⟨_, rfl⟩
            have b10 : Below wr.heap.size wr W10 := by rw [hW10]; exact one_below _ _
            have k10 : Blk W10 bt 42 #[.int .i64 f1, .int .i64 f2, .int .i64 f3, .int .i64 f4, .int .i64 f5] := by rw [hW10]; exact Blk.new_at _ _ _ hbt.symm
            have x0 : W10.cell? ⟨bt, 0, none⟩ = some (.int .i64 f1) := blkAt k10 0 _ rfl
            have x1 : W10.cell? ⟨bt, 1, none⟩ = some (.int .i64 f2) := blkAt k10 1 _ rfl
            have x4 : W10.cell? ⟨bt, 4, none⟩ = some (.int .i64 f5) := blkAt k10 4 _ rfl
            have ev10 := ev.below b10
            have mk10 := mk.below b10 mk.lt
            have lk : (Instr.lookup 45 (.map (some Mq)) (.int .i64 f1) true).run Tryz.prog W10 = .ok (.tuple #[.int .i64 so, .bool true]) W10 := mk10.look_some smKey Tryz.underlying45 (smZero W10) f1 (smHas s2) hoff true
            have CN10 := hide (now_any ev10.es f2 s5 s6)
            rw [ev10.g, s7] at CN10
            have H10 : Hid (Ev C w W10 g l4 E4 (i + 1) (i + 1) ∧ SMap W10 Mq ns (offM sm ((idsF F).take k)) (e.len - k) ∧ Rd rfd W10 cc (some ⟨g', o', none⟩) N cap4 F ∧ Blk W10 bx 37 #[.int .i64 kk, .int .i64 kc, .int .i64 kn, .int .i64 i1, .int .i64 i2, .int .i64 i3, .int .i64 i4, .bool i5] ∧ Blk W10 bt 42 #[.int .i64 f1, .int .i64 f2, .int .i64 f3, .int .i64 f4, .int .i64 f5]) := hide ⟨ev10, mk10, rd.below b10, bk.below b10 bk.lt, k10⟩
            have HFK := hide (And.intro hid (And.intro s2 (And.intro s1 hoff)))
            have hd1 : decide (4611686018427387903 ≤ so) = false := decide_eq_false (by omega)
            have hd2 : decide (f5 < K) = false := decide_eq_false (by omega)
            have HW10 := hide hW10
            clear ev mk rd bk b10 k10 ev10 mk10 hW10 hf hid s1 s2 s3 s4 s5 s6 s7 hoff hK HK
            go_upto_region 18 with fail
            rw [← unhide HW10]
            clear y0 y1 y2 y3 y4 HW10
            go_wp2_with (go_at_call 17; refine (unhide CN10).mono ?_; rintro r w11 ⟨rfl, rfl⟩)
            go_quiet (first | (go_at_call 18; with_reducible refine (unhide (CK _)).mono ?_; rintro e9 w9 ⟨rfl, rfl⟩; exact ⟨rfl, _, rfl⟩))
            obtain ⟨ev, mk, rd, bk, k10⟩ := unhide H10
            obtain ⟨hid, s2, s1, hoff⟩ := unhide HFK
            obtain ⟨W11, hW11⟩ : ∃ W11, W11 = w11.drewN nq := ⟨_, rfl⟩
            rw [← hW11]
            have b11 : Below w11.heap.size w11 W11 := by rw [hW11]; exact ⟨rfl, rfl, rfl, Nat.le_refl _, fun _ _ => rfl⟩
            have ev11 := ev.below b11
            have mk11 := mk.below b11 mk.lt
            have rd11 := rd.below b11
            have bk11 := bk.below b11 bk.lt
            have k11 := k10.below b11 k10.lt
            have v0 : W11.cell? ⟨bt, 0, none⟩ = some (.int .i64 f1) := blkAt k11 0 _ rfl
            obtain ⟨w12, q1, q2, q3⟩ := mk11.del smKey Tryz.underlying45 smInj f1 (smHas s2) 0
            have f12 : Ft (fun k => k = Mq) W11 w12 := (Ft.refl _ _).grown q3 (fun g' hg' => by cases hg'; exact .inl rfl)
            have H12 : Hid (Ev C w w12 g l4 E4 (i + 1) (i + 1) ∧ SMap w12 Mq ns (offM sm ((idsF F).take (k + 1))) (e.len - (k + 1)) ∧ Rd rfd w12 cc (some ⟨g', o', none⟩) N cap4 F ∧ Blk w12 bx 37 #[.int .i64 kk, .int .i64 kc, .int .i64 kn, .int .i64 i1, .int .i64 i2, .int .i64 i3, .int .i64 i4, .bool i5]) := hide (by
              refine ⟨ev11.ft f12 (fun k hk => hk ▸ (unhide HO4).1) (fun k hk => hk ▸ (unhide HO4).2.1), ?_, rd11.ft f12 (fun x hx q => by have := (rd11.blk x hx).1; have := (unhide HO4).2.2; omega), bk11.ft f12 (fun q => by omega)⟩
              rw [off_step sm hid, hoff] at q2
              exact q2)
            clear ev mk rd bk k10 hid s2 s1 hoff hW11 b11 ev11 mk11 rd11 bk11 k11 q2 q3 f12 H10 HFK x0 x1 x4 lk CN10 CK
            go_wp2_with fail
            go_roundw
            case rel => exact ⟨k + 1, by first | rfl | go_num, by omega, H12⟩
            case measure => simp [intOf]; omega
          · obtain rfl : k = N := by omega
            obtain ⟨ev, mk, rd, bk⟩ := unhide HK
            have x0 : wr.cell? ⟨bx, 0, none⟩ = some (.int .i64 kk) := blkAt bk 0 _ rfl
            have x2 : wr.cell? ⟨bx, 2, none⟩ = some (.int .i64 kn) := blkAt bk 2 _ rfl
            rw [List.take_of_length_le (by unfold idsF; rw [List.length_map, unhide HLN]; exact Nat.le_refl _)] at mk
            by_cases hk2 : kk = 2
            · obtain ⟨c1, c2, c3⟩ := unhide HK2 hk2
              have hlN := unhide HLN
              rw [c1] at mk hlN
              have hN0 : k = 0 := hlN.symm
              rw [hN0] at mk
              have mk' : SMap wr Mq ns sm e.len := by
                rw [show idsF [] = [] from rfl, offM_nil] at mk
                exact mk
              obtain ⟨w5, q1, q2, q3⟩ := mk'.del smKey Tryz.underlying45 smInj kn (smHas (unhide HNT).1) 0
              have f5 : Ft (fun k => k = Mq) wr w5 := (Ft.refl _ _).grown q3 (fun g' hg' => by cases hg'; exact .inl rfl)
              have H5 : Hid (Nv C w w5 g l4 E4 (i + 1) Mq ns (fun x => if x = kn then none else sm x)) := hide ⟨ev.ft f5 (fun k hk => hk ▸ (unhide HO4).1) (fun k hk => hk ▸ (unhide HO4).2.1), by rw [← c3]; exact q2, c2, (unhide HO4).1, (unhide HO4).2.1⟩
              subst hk2
              clear ev mk rd bk HK c1 c2 c3 hlN hN0 mk' q2 q3 f5 HK2 HKE HFD HLN
              go_wp2_with fail
              go_roundw
              case rel => exact ⟨i + 1, ns, l4, E4, _, by first | rfl | go_num, by omega, by omega, H5⟩
              case measure => simp [intOf]; omega
            · obtain ⟨c1, c2⟩ := unhide HKE hk2
              have H5 : Hid (Nv C w wr g l4 E4 (i + 1) Mq ns (offM sm (idsF F))) := hide ⟨ev, by rw [c1]; exact mk, c2, (unhide HO4).1, (unhide HO4).2.1⟩
              clear ev mk rd bk HK c1 c2 HK2 HKE HFD HLN
              go_wp2_with fail
              go_roundw
              case rel => exact ⟨i + 1, ns, l4, E4, _, by first | rfl | go_num, by omega, by omega, H5⟩
              case measure => simp [intOf]; omega
    · obtain rfl : i = len := by omega
      have CLn := hide (len_any15 (unhide HI).ev.es)
      rw [(unhide HI).ev.g] at CLn
      go_wp2_with (go_at_call 19; refine Hid.out ?_)
      refine hide ?_
      refine (unhide CLn).mono ?_
      rintro r w9 ⟨rfl, hb9⟩
      have hml := ((unhide HI).mp.below hb9 (unhide HI).mp.lt).len Tryz.underlying45
      have HF := hide ((unhide HI).ev.low.trans (hb9.mono (unhide HI).ev.cs))
      clear HI CLn hb9
      go_wp2_with fail
      go_ret
      exact ⟨by first | rfl | simp, by rw [unhide HC]; exact unhide HF⟩
end Go.Proofs.YtjjdkkdnlnbedaaGreat
