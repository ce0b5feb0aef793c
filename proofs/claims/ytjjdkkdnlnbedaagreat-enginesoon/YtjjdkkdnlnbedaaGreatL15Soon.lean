/- EngineSoon: the walk. -/
import Derived.Test.YtjjdkkdnlnbedaaGreatEnSoon2
import Derived.Test.YtjjdkkdnlnbedaaGreatL15Armed
import Derived.Test.YtjjdkkdnlnbedaaGreatGr
import Derived.Carry
import Derived.Deep.DeepCutAuto
namespace Go.Proofs.YtjjdkkdnlnbedaaGreat
open Go.RowKit Kt Qu
set_option linter.unusedVariables false

theorem and255 (q : Int) : bits .and .i64 q 255 = q % 256 := by
  have e : (BitVec.ofInt 64 q &&& BitVec.ofInt 64 255).toNat = (q % 256).toNat := by
    have h3 : (BitVec.ofInt 64 255).toNat = 2 ^ 8 - 1 := by decide
    rw [BitVec.toNat_and, h3, Nat.and_two_pow_sub_one_eq_mod, BitVec.toNat_ofInt]
    omega
  show IntKind.i64.wrap ((BitVec.ofInt 64 q &&& BitVec.ofInt 64 255).toNat : Int) = _
  rw [e, IntKind.wrap_i64]
  omega
set_option maxRecDepth 20000 in
theorem lsoon_long (A B : Int) (p pg : Option Addr) (len cap leng capg : Nat) (w : World) (hlen : 30 < len) : Calls Tryz.prog 7 #[.int .u8 A, .int .u8 B, .slice p len cap, .slice pg leng capg] w fun r w' => r = .returned (.bool true) ∧ Below w.heap.size w w' := by
  have h2 : (30 : Int) < (len : Int) := by omega
  go_enter Tryz.func7, Tryz.ntmps7
  go_wp2_with (go_at_call 8; refine (lfixed15_any _).mono ?_; rintro r w1 ⟨rfl, hb1⟩)
  go_ret
  exact ⟨rfl, hb1⟩
theorem Knows.congr {β : Type} {v v' : Tmr → β} {e : En} {sm : Int → Option β} (h : Knows v e sm) (hv : ∀ t, hasT e t → v t = v' t) : Knows v' e sm := fun x b => by
  rw [h x b]
  exact ⟨fun ⟨t, ht, he, hb⟩ => ⟨t, ht, he, by rw [← hv t ht]; exact hb⟩, fun ⟨t, ht, he, hb⟩ => ⟨t, ht, he, by rw [hv t ht]; exact hb⟩⟩
/-- What a law keeps. -/
structure Sv (C : Nat) (w0 w : World) (g : Nat) (l : Loc) (e : En) (q Mq ns : Nat) (sm : Int → Option Int) (n : Nat) (le m : Int) (B : Int → Int) (i : Nat) : Prop where
  ev : Ev C w0 w g l e q q
  mp : SMap w Mq ns sm e.len
  kn : Knows (fun t => B t.id + 2) e sm
  out : ¬ efoot l Mq
  ge : C ≤ Mq
  qu : Qui m le n B e
  ids : ∀ t, hasT e t → 0 ≤ t.id ∧ t.id < (i : Int)
def tml (t : Tmr) : List Value := [.int .i64 t.id, .int .i64 t.clock, .int .i64 t.soft, .int .i64 t.hard, .bool t.lazy]
set_option maxRecDepth 100000 in
set_option maxHeartbeats 16000000 in
theorem lsoon_short (A Bq : Int) (hA : 0 ≤ A ∧ A ≤ 255) (hBq : 0 ≤ Bq ∧ Bq ≤ 255) (p pg : Option Addr) (len cap leng capg : Nat) (T : Nat → Tmr) (G : Nat → Int) (w : World) (hlen : len ≤ 30)
    (hT : ∀ i, i < len → ∃ x, p = some x ∧ x.block < w.heap.size ∧ ∀ k v, (tml (T i))[k]? = some v → w.cell? ((x.add (i * 5)).add k) = some v)
    (hG : ∀ i, i < leng → (0 ≤ G i ∧ G i ≤ 255) ∧ ∃ x, pg = some x ∧ x.block < w.heap.size ∧ w.cell? (x.add i) = some (.int .u8 (G i))) :
    Calls Tryz.prog 7 #[.int .u8 A, .int .u8 Bq, .slice p len cap, .slice pg leng capg] w fun r w' => r = .returned (.bool true) ∧ Below w.heap.size w w' := by
  have CF := hide (lfixed15_any w)
  have HT := hide hT
  have HG := hide hG
  obtain ⟨C, hC⟩ : ∃ C, w.heap.size = C := ⟨_, rfl⟩
  obtain ⟨n, hn⟩ : ∃ n : Nat, 1 + A % 4 = (n : Int) := ⟨(1 + A % 4).toNat, by omega⟩
  have hn1 : 1 ≤ n := by omega
  have hn16 : n ≤ 4 := by omega
  have em : A.tmod 4 = A % 4 := Int.tmod_eq_emod_of_nonneg hA.1
  have em2 : Bq.tmod 20 = Bq % 20 := Int.tmod_eq_emod_of_nonneg hBq.1
  have hmr : 0 ≤ A % 4 ∧ A % 4 ≤ 3 := by omega
  obtain ⟨le, hle⟩ : ∃ le, Bq % 20 = le := ⟨_, rfl⟩
  rw [hle] at em2
  have hl20 : 0 ≤ le ∧ le ≤ 19 := by omega
  rw [hC] at CF
  have CN := hide (fun w1 (hb : Below C w w1) => evnew n le 1000 C w w1 hb (by have := hb.size; omega) hn1 (by omega) hl20.1 (by omega) (by omega) (by omega))
  have hl2 : ((len : Nat) : Int) ≤ 30 := by omega
  have hmm := @run_makeMap Tryz.prog
  clear hT hG
  go_enter Tryz.func7, Tryz.ntmps7
  go_wp2_with (first | (go_at_call 8; refine (unhide CF).mono ?_; rintro r w1 ⟨rfl, hb1⟩; have HB1 := hide hb1; clear hb1) | (go_at_call 9; refine Hid.out ?_))
  refine hide ?_
  refine (unhide CN w1 (unhide HB1)).mono ?_
  rintro r w2 ⟨g, l2, rfl, h2, -, -⟩
  obtain ⟨Mq, hMq⟩ : ∃ m, w2.heap.size = m := ⟨_, rfl⟩
  obtain ⟨W2, hW2⟩ : ∃ W2, W2 = w2.alloc (.map #[] 0) := ⟨_, rfl⟩
  have H2 : Hid (Sv C w W2 g l2 (enNew n le 1000) 0 Mq 0 (fun _ => none) n le 0 (fun _ => 0) 0) := hide (by
    have b2 : Below w2.heap.size w2 W2 := by rw [hW2]; exact one_below _ _
    have hen : (enNew n le 1000).len = 0 := by
      show lenTo _ n = 0
      have : ∀ m, lenTo (enNew n le 1000) m = 0 := fun m => by induction m with | zero => rfl | succ k ih => exact (by show lenTo _ k + 0 = 0; omega)
      exact this n
    refine ⟨h2.below b2, ?_, fun x b => ⟨(fun q => by cases q), fun ⟨t, ⟨i, hi, ht⟩, _⟩ => by cases ht⟩, fun q => ?_, ?_, qui_new _ hn1 (by omega) (by omega), fun t ⟨i, hi, ht⟩ => by cases ht⟩
    · rw [hen, hW2, ← hMq]; exact GMap.made w2
    · have := h2.es.lt Mq q; omega
    · have := h2.cs; omega)
  have HC := hide hC
  have HW2 := hide hW2
  clear h2 CN CF hC HB1 hW2
  generalize enNew n le 1000 = E0 at *
  go_wp2_with fail
  rw [← unhide HW2]
  clear HW2 hmm
  go_loopw [41, 13] (fun s41 s13 w' => ∃ (i m q ns : Nat) (l : Loc) (e : En) (sm : Int → Option Int) (B : Int → Int), s41 = .int .i64 (i : Int) ∧ s13 = .int .i64 (m : Int) ∧ i ≤ 400 ∧ m ≤ i ∧ ns ≤ i ∧ q ≤ 3 * i ∧ q ≤ 2 * i + len ∧ Hid (Sv C w w' g l e q Mq ns sm n le m B i)) (fun d _ _ => 400 - (intOf d).toNat)
  case atStart => exact ⟨0, 0, 0, 0, l2, E0, _, _, rfl, rfl, by omega, by omega, by omega, by omega, by omega, H2⟩
  case round =>
    clear H2
    obtain ⟨i, m, q, ns, l, e, sm, B, rfl, rfl, hi, hmi, hns, hq1, hq2, HI⟩ := hrel
    by_cases hlt : i < 400
    · go_upto_if 47 with fail
      go_cut [] (fun wx => ∃ (q2 ns2 : Nat) (l2 : Loc) (e2 : En) (sm2 : Int → Option Int) (B2 : Int → Int), ns2 ≤ i + 1 ∧ q2 ≤ 3 * i + 1 ∧ q2 ≤ 2 * i + len ∧ Hid (Sv C w wx g l2 e2 q2 Mq ns2 sm2 n le m B2 (i + 1)))
      case first =>
        by_cases hil : i < len
        · obtain ⟨x, rfl, hx, hcl⟩ := (unhide HT) i hil
          have hcl2 : ∀ k v, (tml (T i))[k]? = some v → wr.cell? ((x.add (i * 5)).add k) = some v := fun k v hv => by
            rw [(unhide HI).ev.low.cell (by rw [show ((x.add (i * 5)).add k).block = x.block by unfold Addr.add; split <;> (split <;> rfl), ← unhide HC]; exact hx)]
            exact hcl k v hv
          clear hcl
          generalize T i = s at *
          obtain ⟨i1, i2, i3, i4, i5⟩ := s
          have e0 : wr.cell? (x.add (i * 5)) = some (.int .i64 i1) := hcl2 0 _ rfl
          have e1 : wr.cell? ⟨(x.add (i * 5)).block, (x.add (i * 5)).off + 1, none⟩ = some (.int .i64 i2) := hcl2 1 _ rfl
          have e2 : wr.cell? ⟨(x.add (i * 5)).block, (x.add (i * 5)).off + 2, none⟩ = some (.int .i64 i3) := hcl2 2 _ rfl
          have e3 : wr.cell? ⟨(x.add (i * 5)).block, (x.add (i * 5)).off + 3, none⟩ = some (.int .i64 i4) := hcl2 3 _ rfl
          have e4 : wr.cell? ⟨(x.add (i * 5)).block, (x.add (i * 5)).off + 4, none⟩ = some (.bool i5) := hcl2 4 _ rfl
          have ha := and255 i3
          obtain ⟨so, hso⟩ : ∃ so, i3 % 256 = so := ⟨_, rfl⟩
          have hsb : 0 ≤ so ∧ so ≤ 255 := by omega
          rw [hso] at ha
          clear hcl2 hso
          go_upto_region 18 with fail
          obtain ⟨bx, hbx⟩ : ∃ b, wr.heap.size = b := ⟨_, rfl⟩
          obtain ⟨W3, hW3⟩ : ∃ W3, W3 = wr.alloc (.cells #[.int .i64 (i : Int), .int .i64 0, .int .i64 so, .int .i64 so, .bool i5] 35) := ⟨_, rfl⟩
          rw [← hW3, hbx]
          have b3 : Below wr.heap.size wr W3 := by rw [hW3]; exact one_below _ _
          have k3 : Blk W3 bx 35 #[.int .i64 (i : Int), .int .i64 0, .int .i64 so, .int .i64 so, .bool i5] := by rw [hW3]; exact Blk.new_at _ _ _ hbx.symm
          have ev3 := ((unhide HI).ev.below b3).below (below_drew (Below.refl _ _))
          have mp3 := ((unhide HI).mp.below b3 (unhide HI).mp.lt).below (below_drew (Below.refl _ _)) (by have := (unhide HI).mp.lt; have := b3.size; omega)
          have hMb : Mq < bx := by have := (unhide HI).mp.lt; omega
          have hFx : ¬ efoot l bx := fun z => by have := (unhide HI).ev.es.lt bx z; omega
          have r0 : ∀ w', Ft (efoot l) W3 w' → w'.cell? ⟨bx, 0, none⟩ = some (.int .i64 (i : Int)) := fun w' hf => blkAt (k3.ft hf hFx) 0 (.int .i64 (i : Int)) rfl
          have r1 : ∀ w', Ft (efoot l) W3 w' → w'.cell? ⟨bx, 1, none⟩ = some (.int .i64 0) := fun w' hf => blkAt (k3.ft hf hFx) 1 (.int .i64 0) rfl
          have r2 : ∀ w', Ft (efoot l) W3 w' → w'.cell? ⟨bx, 2, none⟩ = some (.int .i64 so) := fun w' hf => blkAt (k3.ft hf hFx) 2 (.int .i64 so) rfl
          have r3 : ∀ w', Ft (efoot l) W3 w' → w'.cell? ⟨bx, 3, none⟩ = some (.int .i64 so) := fun w' hf => blkAt (k3.ft hf hFx) 3 (.int .i64 so) rfl
          have r4 : ∀ w', Ft (efoot l) W3 w' → w'.cell? ⟨bx, 4, none⟩ = some (.bool i5) := fun w' hf => blkAt (k3.ft hf hFx) 4 (.bool i5) rfl
          have S0 : Ft (efoot l) W3 W3.drew := (Ft.refl (efoot l) W3).drew
          have hti : okT ⟨(i : Int), 0, so, so, i5⟩ := okT_small ⟨by omega, by omega⟩ ⟨by decide, by decide⟩ ⟨by omega, by omega⟩ ⟨by omega, by omega⟩
          have hidn : ∀ u, hasT e u → u.id ≠ (⟨(i : Int), 0, so, so, i5⟩ : Tmr).id := fun u hu => by
            show u.id ≠ (i : Int)
            have := ((unhide HI).ids u hu).2
            omega
          have hlen9 : e.len < 64 := by have := (unhide HI).mp.size_le; omega
          obtain ⟨hs1, hs2⟩ := (unhide HI).qu.start (i := i % n) (Nat.mod_lt _ (by omega)) (t := ⟨(i : Int), 0, so, so, i5⟩) rfl hsb rfl hti hidn hlen9
          have hst := start_has (unhide HI).ev.ok ((i % n : Nat) : Int) ⟨(i : Int), 0, so, so, i5⟩
          have CD := hide (evdo ev3 ⟨1, ((i % n : Nat) : Int), 0, ⟨(i : Int), 0, so, so, i5⟩⟩ (show isI 0 from isI_of (by decide) (by decide)) hti (by omega) (by omega))
          rw [show e.step ⟨1, ((i % n : Nat) : Int), 0, ⟨(i : Int), 0, so, so, i5⟩⟩ = ([], e.start ((i % n : Nat) : Int) ⟨(i : Int), 0, so, so, i5⟩) by unfold En.step; rw [if_pos rfl]] at CD
          simp only [stv, stc] at CD
          rw [hs1] at CD hst
          obtain ⟨E4, hE4⟩ : ∃ E4, (e.start ((i % n : Nat) : Int) ⟨(i : Int), 0, so, so, i5⟩).2 = E4 := ⟨_, rfl⟩
          rw [hE4] at CD hst hs2
          have hmod : (i : Int).tmod (n : Int) = ((i % n : Nat) : Int) := by rw [Int.tmod_eq_emod_of_nonneg (by omega)]; exact (Int.natCast_emod i n).symm
          have hn0 : (n : Int) ≠ 0 := by omega
          have hn00 : ¬ n = 0 := by omega
          generalize i % n = ip at *
          have HW3 := hide hW3
          have HM3 := hide (And.intro mp3 (And.intro hFx (And.intro hMb (And.intro hs2 hst))))
          clear b3 ev3 mp3 hW3 hMb hs2 hst hidn hti hlen9 hE4 e0 e1 e2 e3 e4 hx
          refine wp_region_held_drew (S := (fun w' => Ft (efoot l) W3 w')) (by kernel_rfl) ?_ (fun hHeld => ?_)
          · (first | assumption)
          refine wpAnyH_take (i := 0) (oi := ?o1) (v := ?v1) ?hi1 (by kernel_rfl) (by kernel_rfl) (by kernel_rfl) ?hQ1 (Or.inl ⟨?hw1, ?hy1⟩) (by assumption) ?_
          case hi1 => (simp only [List.getElem?_toArray, List.getElem?_cons_zero]; rfl)
          case hQ1 => exact fun _ _ _ h => h
          case hw1 => rfl
          case hy1 => (intro w hSw; (try dsimp only at hSw); go_simp; (try with_reducible rfl))
          simp only [Act.put, List.setIfInBounds_toArray, List.set_cons_zero, List.set_cons_succ]
          refine wpAnyH_take (i := 1) (oi := ?o2) (v := ?v2) ?hi2 (by kernel_rfl) (by kernel_rfl) (by kernel_rfl) ?hQ2 (Or.inl ⟨?hw2, ?hy2⟩) (by assumption) ?_
          case hi2 => (simp only [List.getElem?_toArray, List.getElem?_cons_succ, List.getElem?_cons_zero]; rfl)
          case hQ2 => exact fun _ _ _ h => h
          case hw2 => rfl
          case hy2 => (intro w hSw; (try dsimp only at hSw); go_simp; (try with_reducible rfl))
          simp only [Act.put, List.setIfInBounds_toArray, List.set_cons_zero, List.set_cons_succ]
          refine wpAnyH_take (i := 2) (oi := ?o3) (v := ?v3) ?hi3 (by kernel_rfl) (by kernel_rfl) (by kernel_rfl) ?hQ3 (Or.inl ⟨?hw3, ?hy3⟩) (by assumption) ?_
          case hi3 => (simp only [List.getElem?_toArray, List.getElem?_cons_succ, List.getElem?_cons_zero]; rfl)
          case hQ3 => exact fun _ _ _ h => h
          case hw3 => rfl
          case hy3 => (intro w hSw; (try dsimp only at hSw); go_simp; (try with_reducible rfl))
          simp only [Act.put, List.setIfInBounds_toArray, List.set_cons_zero, List.set_cons_succ]
          refine wpAnyH_take (i := 3) (oi := ?o4) (v := ?v4) ?hi4 (by kernel_rfl) (by kernel_rfl) (by kernel_rfl) ?hQ4 (Or.inl ⟨?hw4, ?hy4⟩) (by assumption) ?_
          case hi4 => (simp only [List.getElem?_toArray, List.getElem?_cons_succ, List.getElem?_cons_zero]; rfl)
          case hQ4 => exact fun _ _ _ h => h
          case hw4 => rfl
          case hy4 => (intro w hSw; (try dsimp only at hSw); go_simp; (try with_reducible rfl))
          simp only [Act.put, List.setIfInBounds_toArray, List.set_cons_zero, List.set_cons_succ]
          refine wpAnyH_take (i := 4) (oi := ?o5) (v := ?v5) ?hi5 (by kernel_rfl) (by kernel_rfl) (by kernel_rfl) ?hQ5 (Or.inl ⟨?hw5, ?hy5⟩) (by assumption) ?_
          case hi5 => (simp only [List.getElem?_toArray, List.getElem?_cons_succ, List.getElem?_cons_zero]; rfl)
          case hQ5 => exact fun _ _ _ h => h
          case hw5 => rfl
          case hy5 => (intro w hSw; (try dsimp only at hSw); go_simp; (try with_reducible rfl))
          simp only [Act.put, List.setIfInBounds_toArray, List.set_cons_zero, List.set_cons_succ]
          refine wpAnyH_take (i := 5) (oi := ?o6) (v := ?v6) ?hi6 (by kernel_rfl) (by kernel_rfl) (by kernel_rfl) ?hQ6 (Or.inl ⟨?hw6, ?hy6⟩) (by assumption) ?_
          case hi6 => (simp only [List.getElem?_toArray, List.getElem?_cons_succ, List.getElem?_cons_zero]; rfl)
          case hQ6 => exact fun _ _ _ h => h
          case hw6 => rfl
          case hy6 => (intro w hSw; (try dsimp only at hSw); go_simp; (try with_reducible rfl))
          simp only [Act.put, List.setIfInBounds_toArray, List.set_cons_zero, List.set_cons_succ]
          refine wpAnyH_ready (rs := [6]) (by kernel_rfl) (by simp) ?_
          refine AllReadyH.cons (o := ?o7) ?hi7 (fun K hK => ?_) AllReadyH.nil
          case hi7 => (simp only [List.getElem?_toArray, List.getElem?_cons_succ, List.getElem?_cons_zero]; rfl)
          go_simp
          (go_at_call 14; refine (unhide CD).mono ?_; rintro r w4 ⟨v4, l4, rfl, row4, h4, f4, hx4, -⟩; obtain ⟨a4, cap4, rfl, -⟩ := Rd.of row4; have S4 : Ft (efoot l) W3 w4 := S0.trans f4; have H4 := hide (And.intro h4 (And.intro f4 hx4)); clear row4 h4 f4 hx4)
          refine hK.out _ _ ?_ (fun hHeld => ?_)
          · (first | assumption)
          clear hK K
          refine wpAnyH_take (i := 7) (oi := ?o8) (v := ?v8) ?hi8 (by kernel_rfl) (by kernel_rfl) (by kernel_rfl) ?hQ8 (Or.inl ⟨?hw8, ?hy8⟩) (by assumption) ?_
          case hi8 => (simp only [List.getElem?_toArray, List.getElem?_cons_succ, List.getElem?_cons_zero]; rfl)
          case hQ8 => exact fun _ _ _ h => h
          case hw8 => rfl
          case hy8 => (intro w hSw; (try dsimp only at hSw); go_simp; (try with_reducible rfl))
          simp only [Act.put, List.setIfInBounds_toArray, List.set_cons_zero, List.set_cons_succ]
          refine wpAnyH_take (i := 8) (oi := ?o9) (v := ?v9) ?hi9 (by kernel_rfl) (by kernel_rfl) (by kernel_rfl) ?hQ9 (Or.inl ⟨?hw9, ?hy9⟩) (by assumption) ?_
          case hi9 => (simp only [List.getElem?_toArray, List.getElem?_cons_succ, List.getElem?_cons_zero]; rfl)
          case hQ9 => exact fun _ _ _ h => h
          case hw9 => rfl
          case hy9 => (intro w hSw; (try dsimp only at hSw); go_simp; (try with_reducible rfl))
          simp only [Act.put, List.setIfInBounds_toArray, List.set_cons_zero, List.set_cons_succ]
          refine wpAnyH_take (i := 9) (oi := ?o10) (v := ?v10) ?hi10 (by kernel_rfl) (by kernel_rfl) (by kernel_rfl) ?hQ10 (Or.inl ⟨?hw10, ?hy10⟩) (by assumption) ?_
          case hi10 => (simp only [List.getElem?_toArray, List.getElem?_cons_succ, List.getElem?_cons_zero]; rfl)
          case hQ10 => exact fun _ _ _ h => h
          case hw10 => rfl
          case hy10 => (intro w hSw; (try dsimp only at hSw); go_simp; (try with_reducible rfl))
          simp only [Act.put, List.setIfInBounds_toArray, List.set_cons_zero, List.set_cons_succ]
          refine wpAnyH_take (i := 10) (oi := ?o11) (v := ?v11) ?hi11 (by kernel_rfl) (by kernel_rfl) (by kernel_rfl) ?hQ11 (Or.inl ⟨?hw11, ?hy11⟩) (by assumption) ?_
          case hi11 => (simp only [List.getElem?_toArray, List.getElem?_cons_succ, List.getElem?_cons_zero]; rfl)
          case hQ11 => exact fun _ _ _ h => h
          case hw11 => rfl
          case hy11 => (intro w hSw; (try dsimp only at hSw); go_simp; (try with_reducible rfl))
          simp only [Act.put, List.setIfInBounds_toArray, List.set_cons_zero, List.set_cons_succ]
          refine wpAnyH_take (i := 11) (oi := ?o12) (v := ?v12) ?hi12 (by kernel_rfl) (by kernel_rfl) (by kernel_rfl) ?hQ12 (Or.inl ⟨?hw12, ?hy12⟩) (by assumption) ?_
          case hi12 => (simp only [List.getElem?_toArray, List.getElem?_cons_succ, List.getElem?_cons_zero]; rfl)
          case hQ12 => exact fun _ _ _ h => h
          case hw12 => rfl
          case hy12 => (intro w hSw; (try dsimp only at hSw); go_simp; (try with_reducible rfl))
          simp only [Act.put, List.setIfInBounds_toArray, List.set_cons_zero, List.set_cons_succ]
          refine wpAnyH_done (by kernel_rfl) ?_ _
          refine hide ?_
          obtain ⟨h4, f4, hx4⟩ := unhide H4
          obtain ⟨mp3, hFx', hMb, hs2, hst⟩ := unhide HM3
          have mp4 := mp3.ft f4 (unhide HI).out
          rcases hst with ⟨q0, -⟩ | ⟨-, c2, c3, c4⟩
          · exact absurd rfl q0
          obtain ⟨B', hs2, hBi, hBo⟩ : ∃ B' : Int → Int, Qui m le n B' E4 ∧ B' (i : Int) = max so (m : Int) + le ∧ ∀ y, y ≠ (i : Int) → B' y = B y := ⟨_, hs2, if_pos rfl, fun y hy => if_neg hy⟩
          have hB9 : ∀ t, hasT e t → (fun t => B t.id + 2) t = (fun t => B' t.id + 2) t := fun t ht => by
            have := ((unhide HI).ids t ht).2
            show B t.id + 2 = B' t.id + 2
            rw [hBo _ (by omega)]
          have hkn := ((unhide HI).kn.congr hB9).start c2 c4
          have hno := (unhide HI).kn.no c2
          simp only at hkn hno c4
          obtain ⟨Mx, hMx⟩ : ∃ Mx, max so (m : Int) = Mx := ⟨_, rfl⟩
          have hMxb : 0 ≤ Mx ∧ Mx ≤ 1000 := by omega
          have e1 : IntKind.i64.wrap (Mx + le) = Mx + le := by rw [IntKind.wrap_i64]; omega
          have e2 : IntKind.i64.wrap (Mx + le + 2) = Mx + le + 2 := by rw [IntKind.wrap_i64]; omega
          rw [hMx] at hBi
          rw [hBi] at hkn
          obtain ⟨L8, hL8⟩ : ∃ L8, Mx + le + 2 = L8 := ⟨_, rfl⟩
          rw [hL8] at hkn
          obtain ⟨w5, z1, z2, z3⟩ := mp4.upd smKey Tryz.underlying45 (by omega) smInj (i : Int) (smHas (isI_of (by omega) (by omega))) L8
          have z1' : (Instr.mapUpdate 45 (.map (some Mq)) (.int .i64 (i : Int)) (.int .i64 L8)).run Tryz.prog w4 = .ok () w5 := z1
          have f5 : Ft (fun k => k = Mq) w4 w5 := (Ft.refl _ _).grown z3 (fun g' hg' => by cases hg'; exact .inl rfl)
          have out4 : ¬ efoot l4 Mq := fun z => (hx4 Mq z).elim (unhide HI).out (fun z => by have := (unhide HI).mp.lt; have : W3.drew.heap.size = W3.heap.size := rfl; have := k3.lt; omega)
          have H5 : Hid (Sv C w w5 g l4 E4 (q + 1) Mq (ns + 1) (fun x => if x = (i : Int) then some L8 else sm x) n le m B' (i + 1)) := hide ⟨h4.ft f5 (fun k hk => hk ▸ out4) (fun k hk => hk ▸ (unhide HI).ge), by rw [hno] at z2; rw [c3]; exact z2, hkn, out4, (unhide HI).ge, hs2, fun t ht => by
            rcases (c4 t).1 ht with rfl | ht
            · exact ⟨by show (0 : Int) ≤ (i : Int); omega, by show (i : Int) < _; omega⟩
            · have := (unhide HI).ids t ht; omega⟩
          clear z2 z3 f5 hs2 hBo hB9 hkn hno c2 c3 c4 h4 f4 hx4 mp3 mp4 out4 H4 HM3 hFx' hMb CD HI HW3
          by_cases hsm : so < (m : Int)
          · rw [show L8 = (m : Int) + le + 2 by omega] at z1'
            go_wp2_with fail
            go_meet
            exact ⟨q + 1, ns + 1, l4, E4, _, B', by omega, by omega, by omega, H5⟩
          · rw [show L8 = so + le + 2 by omega] at z1'
            go_wp2_with fail
            go_meet
            exact ⟨q + 1, ns + 1, l4, E4, _, B', by omega, by omega, by omega, H5⟩
        · go_wp2_with fail
          go_meet
          exact ⟨q, ns, l, e, sm, B, by omega, by omega, by omega, hide ⟨(unhide HI).ev, (unhide HI).mp, (unhide HI).kn, (unhide HI).out, (unhide HI).ge, (unhide HI).qu, fun t ht => ⟨((unhide HI).ids t ht).1, by have := ((unhide HI).ids t ht).2; omega⟩⟩⟩
      case rest =>
        obtain ⟨q2, ns2, l2, e2, sm2, B2, hns2, hq21, hq22, H2⟩ := hcut
        clear HI
        go_upto_if 86 with fail
        go_cut [18] (fun s18 wx => ∃ k : Int, s18 = .int .i64 k ∧ (0 ≤ k ∧ k ≤ 1) ∧ wx = wc)
        case first =>
          by_cases hig : i < leng
          · obtain ⟨⟨g0, g1⟩, x, rfl, hx, hcl⟩ := (unhide HG) i hig
            have e0 : wc.cell? (x.add i) = some (.int .u8 (G i)) := by
              rw [(unhide H2).ev.low.cell (by rw [show (x.add i).block = x.block by unfold Addr.add; split <;> rfl, ← unhide HC]; exact hx)]
              exact hcl
            have em3 : (G i).tmod 2 = G i % 2 := Int.tmod_eq_emod_of_nonneg g0
            generalize G i = gi at *
            have hgi : 0 ≤ gi % 2 ∧ gi % 2 ≤ 1 := by omega
            generalize gi % 2 = gm at *
            clear hcl
            go_wp2_with fail
            go_meet
            exact ⟨gm, by first | rfl | go_num, hgi, rfl⟩
          · go_wp2_with fail
            go_meet
            exact ⟨1, rfl, by omega, rfl⟩
        case rest =>
          obtain ⟨k, rfl, hk, rfl⟩ := hcut
          obtain ⟨ha1, ha2⟩ := (unhide H2).qu.adv hk (by omega)
          have hadf := adv_fires e2 k
          have CA := hide (evdo (unhide H2).ev ⟨3, 0, k, t0⟩ (show isI k from isI_of (by omega) (by omega)) (okT_small ⟨by decide, by decide⟩ ⟨by decide, by decide⟩ ⟨by decide, by decide⟩ ⟨by decide, by decide⟩) (by omega) (by omega))
          rw [show e2.step ⟨3, 0, k, t0⟩ = ([], e2.adv k) by unfold En.step; rw [if_neg (show ¬ (3 : Int) = 1 by decide), if_neg (show ¬ (3 : Int) = 2 by decide), if_pos rfl]] at CA
          simp only [stv, stc, t0] at CA
          rw [ha1] at CA
          have hok3 := (unhide H2).ev.ok.adv k
          generalize (e2.adv k).2 = E3 at *
          go_wp2_with (go_at_call 14; refine Hid.out ?_)
          refine hide ?_
          refine (unhide CA).mono ?_
          rintro r w4 ⟨v4, l4, rfl, -, h4, f4, hx4, -⟩
          have hMw : Mq < wc.heap.size := (unhide H2).mp.lt
          have m4 := (unhide H2).mp.ft f4 (unhide H2).out
          have out4 : ¬ efoot l4 Mq := fun z => (hx4 Mq z).elim (unhide H2).out (fun z => by omega)
          have kn4 := (unhide H2).kn.fires hadf
          rw [show idsF [] = [] from rfl, offM_nil] at kn4
          have hln4 : E3.len = e2.len := hadf.len
          rw [← hln4] at m4
          have ids4 : ∀ t, hasT E3 t → 0 ≤ t.id ∧ t.id < ((i + 1 : Nat) : Int) := fun t ht => (unhide H2).ids t ((hadf.has t).1 ht).1
          have ge4 := (unhide H2).ge
          clear H2 CA hx4 hadf hMw hln4 ha1
          obtain ⟨m5, hm5⟩ : ∃ m5 : Nat, (m : Int) + k = (m5 : Int) := ⟨((m : Int) + k).toNat, by omega⟩
          rw [hm5] at ha2
          have hm5b : m5 ≤ i + 1 := by omega
          obtain ⟨hq5, hfd5⟩ := ha2.settle
          have hfs := settleF_fires 65 h4.ok
          have CS := hide (evdo h4 ⟨12, 0, 0, t0⟩ (isI_of (by decide) (by decide)) (okT_small ⟨by decide, by decide⟩ ⟨by decide, by decide⟩ ⟨by decide, by decide⟩ ⟨by decide, by decide⟩) (by omega) (by omega))
          rw [show E3.step ⟨12, 0, 0, t0⟩ = (E3.settle.1, 0, E3.settle.2) from rfl] at CS
          simp only [stv, stc, t0] at CS
          rw [show settleF 65 E3 = E3.settle from rfl] at hfs
          have HMR := hide (And.intro h4.es.lt (And.intro m4 (And.intro out4 (And.intro kn4 ids4))))
          obtain ⟨F, hF⟩ : ∃ F, E3.settle.1 = F := ⟨_, rfl⟩
          obtain ⟨E5, hE5⟩ : ∃ E5, E3.settle.2 = E5 := ⟨_, rfl⟩
          rw [hF, hE5] at CS hfs
          rw [hF] at hfd5
          rw [hE5] at hq5
          have HQ5 := hide hq5
          have HFS := hide (And.intro hfs hfd5)
          have HOK := hide h4.ok
          obtain ⟨N, hN⟩ : ∃ N, F.length = N := ⟨_, rfl⟩
          have hlN := hfs.len
          rw [hN] at hlN
          have hN64 : N ≤ 64 := by have := h4.ok.len; omega
          clear h4 m4 out4 kn4 ids4 hq5 hfs hfd5 hF hE5 ha2 hok3 f4
          go_wp2_with (go_at_call 14; refine Hid.out ?_)
          refine hide ?_
          refine (unhide CS).mono ?_
          rintro r w5 ⟨v5, l5, rfl, row5, h5, f5, hx5, -⟩
          obtain ⟨hlt4, m4, out4, kn4, ids4⟩ := unhide HMR
          have hMw : Mq < w4.heap.size := m4.lt
          have m5' := m4.ft f5 out4
          have out5 : ¬ efoot l5 Mq := fun z => (hx5 Mq z).elim out4 (fun z => by omega)
          obtain ⟨a5, cap5, rfl, rd5⟩ := Rd.of row5
          rw [hN] at rd5
          rw [hN]
          obtain ⟨hfs, hfd5⟩ := unhide HFS
          have kn5 := kn4.fires hfs
          have HFD : Hid ((idsF F).Nodup ∧ ∀ f ∈ F, sm2 f.id = some (B2 f.id + 2) ∧ isI f.id ∧ f.mono ≤ B2 f.id + 1) := hide (by
            refine ⟨hfs.nd, fun f hf => ?_⟩
            obtain ⟨t, ht, h1, -⟩ := hfs.due f hf
            have hid := ids4 t ht
            have hmo := hfd5 f hf
            exact ⟨(kn4 f.id _).2 ⟨t, ht, h1, by show B2 t.id + 2 = _; rw [h1]⟩, by rw [← h1]; exact isI_of (by omega) (by omega), by omega⟩)
          have ids5 : ∀ t, hasT E5 t → 0 ≤ t.id ∧ t.id < ((i + 1 : Nat) : Int) := fun t ht => ids4 t ((hfs.has t).1 ht).1
          have HKE : Hid (E5.len = E3.len - N ∧ Knows (fun t => B2 t.id + 2) E5 (offM sm2 (idsF F)) ∧ ∀ t, hasT E5 t → 0 ≤ t.id ∧ t.id < ((i + 1 : Nat) : Int)) := hide ⟨by omega, kn5, ids5⟩
          have HO5 := hide (And.intro out5 (And.intro ge4 hMw))
          obtain ⟨cc, hcc⟩ : ∃ c, w4.heap.size = c := ⟨_, rfl⟩
          rw [hcc] at rd5
          have HCC := hide hcc
          have HLN := hide hN
          have HK0 : Hid (Ev C w w5 g l5 E5 (q2 + 1 + 1) (q2 + 1 + 1) ∧ SMap w5 Mq ns2 (offM sm2 ((idsF F).take 0)) (E3.len - 0) ∧ Rd rfd w5 cc a5 N cap5 F) := hide ⟨h5, by rw [List.take_zero, offM_nil]; exact m5', rd5⟩
          clear row5 h5 f5 hx5 CS HMR HFS hlt4 m4 out4 kn4 ids4 m5' out5 rd5 hfs hfd5 kn5 ids5 hMw hN hlN hcc HOK
          go_wp2_with fail
          go_loopw [108] (fun s108 w' => ∃ j : Nat, s108 = .int .i64 (j : Int) ∧ j ≤ N ∧ Hid (Ev C w w' g l5 E5 (q2 + 1 + 1) (q2 + 1 + 1) ∧ SMap w' Mq ns2 (offM sm2 ((idsF F).take j)) (E3.len - j) ∧ Rd rfd w' cc a5 N cap5 F)) (fun d _ => N - (intOf d).toNat)
          case atStart => exact ⟨0, rfl, by omega, HK0⟩
          case round =>
            obtain ⟨j, rfl, hj, HK⟩ := hrel
            clear HK0
            by_cases hjN : j < N
            · obtain ⟨f, hf⟩ : ∃ f, F[j]? = some f := ⟨_, List.getElem?_eq_getElem (by rw [unhide HLN]; exact hjN)⟩
              obtain ⟨s1, s2, s3⟩ := (unhide HFD).2 f (List.mem_of_getElem? hf)
              obtain ⟨ev, mk, rd⟩ := unhide HK
              have hid : (idsF F)[j]? = some f.id := by unfold idsF; rw [List.getElem?_map, hf]; rfl
              have hoff := off_at sm2 hid (unhide HFD).1
              rw [s1] at hoff
              obtain ⟨g', o', rfl, hgl', y0, y1, y2, y3, y4⟩ := fcells rd hf
              obtain ⟨bt, hbt⟩ : ∃ b, wr.heap.size = b := ⟨_, rfl⟩
              obtain ⟨f1, f2, f3, f4, f5⟩ := f
              simp only at s1 s2 s3 hid hoff y0 y1 y2 y3 y4
              obtain ⟨W10, hW10⟩ : ∃ W10, W10 = wr.alloc (.cells #[.int .i64 f1, .int .i64 f2, .int .i64 f3, .int .i64 f4, .int .i64 f5] 42) := ⟨_, rfl⟩
              have b10 : Below wr.heap.size wr W10 := by rw [hW10]; exact one_below _ _
              have k10 : Blk W10 bt 42 #[.int .i64 f1, .int .i64 f2, .int .i64 f3, .int .i64 f4, .int .i64 f5] := by rw [hW10]; exact Blk.new_at _ _ _ hbt.symm
              have x0 : W10.cell? ⟨bt, 0, none⟩ = some (.int .i64 f1) := blkAt k10 0 _ rfl
              have x3 : W10.cell? ⟨bt, 3, none⟩ = some (.int .i64 f4) := blkAt k10 3 _ rfl
              have ev10 := ev.below b10
              have mk10 := mk.below b10 mk.lt
              have rd10 := rd.below b10
              obtain ⟨L8, hL8⟩ : ∃ L8, B2 f1 + 2 = L8 := ⟨_, rfl⟩
              rw [hL8] at hoff s1
              have lk : (Instr.lookup 45 (.map (some Mq)) (.int .i64 f1) false).run Tryz.prog W10 = .ok (.int .i64 L8) W10 := mk10.look_some smKey Tryz.underlying45 (smZero W10) f1 (smHas s2) hoff false
              have hnl : ¬ L8 < f4 := by omega
              obtain ⟨w12, q1, q2', q3⟩ := mk10.del smKey Tryz.underlying45 smInj f1 (smHas s2) 0
              have f12 : Ft (fun k => k = Mq) W10 w12 := (Ft.refl _ _).grown q3 (fun g' hg' => by cases hg'; exact .inl rfl)
              have H12 : Hid (Ev C w w12 g l5 E5 (q2 + 1 + 1) (q2 + 1 + 1) ∧ SMap w12 Mq ns2 (offM sm2 ((idsF F).take (j + 1))) (E3.len - (j + 1)) ∧ Rd rfd w12 cc (some ⟨g', o', none⟩) N cap5 F) := hide (by
                refine ⟨ev10.ft f12 (fun k hk => hk ▸ (unhide HO5).1) (fun k hk => hk ▸ (unhide HO5).2.1), ?_, rd10.ft f12 (fun x hx q => by have := (rd10.blk x hx).1; have := (unhide HO5).2.2; have := unhide HCC; omega)⟩
                rw [off_step sm2 hid, hoff] at q2'
                exact q2')
              have HW10 := hide hW10
              clear ev mk rd b10 k10 ev10 mk10 rd10 hW10 hf hid s1 s2 s3 hoff HK q2' q3 f12 hL8
              go_upto_region 31 with fail
              rw [← unhide HW10]
              clear y0 y1 y2 y3 y4 HW10
              go_wp2_with fail
              go_roundw
              case rel => exact ⟨j + 1, by first | rfl | go_num, by omega, H12⟩
              case measure => simp [intOf]; omega
            · obtain rfl : j = N := by omega
              obtain ⟨ev, mk, rd⟩ := unhide HK
              rw [List.take_of_length_le (by unfold idsF; rw [List.length_map, unhide HLN]; exact Nat.le_refl _)] at mk
              have H9 : Hid (Sv C w wr g l5 E5 (q2 + 1 + 1) Mq ns2 (offM sm2 (idsF F)) n le m5 B2 (i + 1)) := hide ⟨ev, by rw [(unhide HKE).1]; exact mk, (unhide HKE).2.1, (unhide HO5).1, (unhide HO5).2.1, unhide HQ5, (unhide HKE).2.2⟩
              clear ev mk rd HK HKE HFD HLN
              go_wp2_with fail
              go_roundw
              case rel => exact ⟨i + 1, m5, q2 + 1 + 1, ns2, l5, E5, _, B2, by first | rfl | go_num, by first | rfl | go_num, by omega, by omega, by omega, by omega, by omega, H9⟩
              case measure => simp [intOf]; omega
    · obtain rfl : i = 400 := by omega
      obtain ⟨ev, mk, kn, out, ge, qu, ids⟩ := unhide HI
      have HLT : Hid (∀ x v, sm x = some v → (m : Int) < v) := hide (fun x v hx => by
        obtain ⟨t, ⟨a, ha, ht⟩, -, hv⟩ := (kn x v).1 hx
        have := (qu.2 a (qu.1.nn ▸ ha)).bd t ht
        have hv2 : B t.id + 2 = v := hv
        omega)
      obtain ⟨R, hR⟩ : ∃ R, wr.heap.size = R := ⟨_, rfl⟩
      have HLO := hide (And.intro ev.low ev.cs)
      clear ev kn out qu ids HI
      go_wp2_with (first | (at_range; refine wpList_range_g rfl _ _ rfl 3 3 smKey Tryz.underlying45 rfl mk ?_; intro w0 left hrg0 hg0 hs0) | go_in)
      go_frame
      rw [hR] at hrg0 hs0
      rw [hR]
      have HB0 : Hid (Below C w w0) := hide (((Ft.refl (fun _ => False) wr).grown hg0 (fun g' hg' => by cases hg')).low (unhide HLO).1 (fun k hk => hk.elim) (unhide HLO).2)
      go_loopw [24] (fun _ wx => ∃ (left : Lit → Bool) (cnt : Nat), GRg Tryz.prog 3 (fun x : Int => Value.int .i64 x) (fun x : Int => Value.int .i64 x) wx Mq R ns sm left cnt ∧ Hid (Below C w wx)) (fun _ wx => wx.rangeLeft Mq R)
      case atStart => exact ⟨_, _, hrg0, HB0⟩
      case round =>
        obtain ⟨left2, cnt, hrg, HB⟩ := hrel
        go_wp2_with (first | (at_next; refine wpList_next_g rfl _ rfl 3 smKey (fun key kl hkey => by obtain ⟨x, rfl, -, -⟩ := Maps.keyOf_int_inv Tryz.underlying3 hkey; exact ⟨x, rfl⟩) rfl hrg ?_ ?_) | go_in)
        · intro _
          go_wp2_with fail
          go_ret
          exact ⟨by first | rfl | simp, by rw [unhide HC]; exact unhide HB⟩
        · intro x c w1 left3 cnt1 hkx hfx hrg1 hlt1 hg1 hs1 hen
          have hcm : ¬ c ≤ (m : Int) := by have := unhide HLT x c hfx; omega
          have hCR : C ≤ R := by rw [← hR]; exact (unhide HLO).2
          have HB1 : Hid (Below C w w1) := hide (((Ft.refl (fun k => k = R) wr).grown hg1 (fun g' hg' => by cases hg'; exact .inl rfl)).low (unhide HB) (fun k hk => hk ▸ hCR) (by have := hrg.lt; omega))
          go_wp2_with fail
          go_roundw
          case rel => exact ⟨left3, cnt1, hrg1⟩
          case measure => rw [hrg1.left_eq, hrg.left_eq]; exact hlt1
end Go.Proofs.YtjjdkkdnlnbedaaGreat
