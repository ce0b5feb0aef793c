import Derived.Test.YtihfldjoogaolaaL13Fixed
import Derived.Test.YtihfldjoogaolaaLq2
import Derived.Deep.DeepCutAuto
import Derived.Deep.CutBlock
namespace Go.Proofs.Ytihfldjoogaolaa
open Go.RowKit Kt Qu
set_option linter.unusedVariables false
set_option linter.unusedSimpArgs false

/-- The row that a timer is put into, whatever it is. -/
theorem tput_any (w : World) (C n cap : Nat) (a : Option Addr) (L : List Tmr) (h : Rd rtm w C a n cap L) (hl : n ≤ 1000) (t : Tmr) :
    Calls Try.prog 8 #[.slice a n cap, tv t] w fun e w' => ∃ v', e = .returned v' ∧ Rg rtm w' w.heap.size v' (insT t L) ∧ Below w.heap.size w w' := by
  obtain ⟨X, Y, rfl, e2, e3, e4⟩ := insT_parts t L
  rw [e2]
  cases a with
  | some x =>
    obtain ⟨-, -, g, o, rfl⟩ := h.blk _ rfl
    exact tput_some w C n cap g o X Y h hl t e3 e4
  | none =>
    have h1 := h.nil rfl
    have h2 := h.le
    have h3 := h.len
    rw [List.length_append] at h3
    obtain rfl : X = [] := List.length_eq_zero_iff.1 (by omega)
    obtain rfl : Y = [] := List.length_eq_zero_iff.1 (by omega)
    obtain rfl : cap = 0 := h1
    obtain rfl : n = 0 := by omega
    exact tput_none w t
/-- A queue, and the law's row of the same timers. -/
structure QP (C : Nat) (w0 w : World) (a : Qa) (n : Nat) (R : List Tmr) (ra : Option Addr) (rn rcap : Nat) : Prop where
  v : Qv C w0 w a n R
  row : Rd rtm w C ra rn rcap R
  out : ∀ x, ra = some x → ¬ a.foot x.block
section
variable {C : Nat} {w0 w w' : World} {a : Qa} {n n' : Nat} {R : List Tmr} {ra : Option Addr} {rn rcap : Nat}
theorem QP.below (h : QP C w0 w a n R ra rn rcap) (hb : Below w.heap.size w w') : QP C w0 w' a n R ra rn rcap := ⟨h.v.below hb, h.row.below hb, h.out⟩
theorem QP.step (h : QP C w0 w a n R ra rn rcap) (h2 : Qs w' a n' R) (f : Ft a.foot w w') : QP C w0 w' a n' R ra rn rcap := ⟨h.v.step h2 f, h.row.ft f h.out, h.out⟩
theorem QP.of {v : Value} {D : Nat} (h : Qv C w0 w' a n' R) (hr : Rg rtm w' D v R) (hD : C ≤ D) (hf : ∀ k, a.foot k → k < D) : ∃ ra rcap, v = .slice ra R.length rcap ∧ QP C w0 w' a n' R ra R.length rcap := by
  obtain ⟨ra, rcap, e, h2⟩ := Rd.of (hr.mono hD)
  refine ⟨ra, rcap, e, h, h2, fun x hx hk => ?_⟩
  have h3 := (hr.lt x.block (by rw [e, hx]; rfl)).1
  have h4 := hf _ hk
  omega
theorem QP.up (h : QP C w0 w a n R ra rn rcap) (hn : n < 1000000) : QP C w0 w a (n + 1) R ra rn rcap := ⟨⟨h.v.q.up hn, h.v.low, h.v.cs, h.v.foot⟩, h.row, h.out⟩
theorem QP.dr (h : QP C w0 w a n R ra rn rcap) (m : Nat) : QP C w0 (w.drewN m) a n R ra rn rcap := h.below ⟨rfl, rfl, rfl, Nat.le_refl _, fun _ _ => rfl⟩
theorem QP.al (h : QP C w0 w a n R ra rn rcap) (o : Obj) : QP C w0 (w.alloc o) a n R ra rn rcap := h.below (one_below w o)
theorem idsT_split {A B : List Tmr} {t : Tmr} : t.id ∈ idsT (A ++ t :: B) := List.mem_map.2 ⟨t, by simp, rfl⟩
end
set_option maxRecDepth 100000 in
theorem lplays13_long (p : Option Addr) (len cap : Nat) (w : World) (hlen : 150 < len) : Calls Try.prog 3 #[.slice p len cap] w fun e w' => e = .returned (.bool true) ∧ Below w.heap.size w w' := by
  have h2 : (150 : Int) < (len : Int) := by omega
  go_enter Try.func3, Try.ntmps3
  go_wp2_with (go_at_call 5; refine (fixed13 _).mono ?_; rintro e w1 ⟨rfl, hb1⟩)
  go_ret
  exact ⟨rfl, hb1⟩
set_option maxRecDepth 100000 in
set_option maxHeartbeats 16000000 in
theorem lplays13_short (p : Option Addr) (len cap : Nat) (kd : Nat → Int) (T : Nat → Tmr) (nw : Nat → Int) (w : World) (hlen : len ≤ 150)
    (hkd : ∀ i, i < len → 0 ≤ kd i ∧ kd i ≤ 255) (hk : ∀ i, i < len → okT (T i))
    (hc : ∀ i, i < len → ∃ x, p = some x ∧ x.block < w.heap.size ∧ ∀ k v, (Value.int .u8 (kd i) :: (tc (T i) ++ [.int .i64 (nw i)]))[k]? = some v → w.cell? ((x.add (i * 7)).add k) = some v) :
    Calls Try.prog 3 #[.slice p len cap] w fun e w' => e = .returned (.bool true) ∧ Below w.heap.size w w' := by
  have CF := hide (fixed13 w)
  have CN := fun w' => hide (snew w')
  have CC := fun s w' => hide (rclamp_any s w')
  obtain ⟨C, hC⟩ : ∃ C, w.heap.size = C := ⟨_, rfl⟩
  rw [hC] at hc CF ⊢
  have HCC := hide hc
  have HK := hide (And.intro hk hkd)
  have hl2 : ((len : Nat) : Int) ≤ 150 := by omega
  clear hc hk hkd
  go_enter Try.func3, Try.ntmps3
  go_wp2_with (first | (go_at_call 5; refine (unhide CF).mono ?_; rintro e w1 ⟨rfl, hb1⟩) | (go_at_call 6; refine Hid.out ?_))
  refine hide ?_
  refine (unhide (CN _)).mono ?_
  rintro e w2 ⟨a, rfl, q2, hb2, hf2⟩
  have H2 : Hid (QP C w w2 a 0 [] none 0 0) := hide ⟨Qv.new (C := C) hb1 (by have := hb1.size; omega) q2 hb2 hf2, Rd.empty _ _, fun x e => by cases e⟩
  clear q2 hb2 hf2 hb1 CF CN
  go_wp2_with fail
  go_loopw [4, 27] (fun s4 s27 w' => ∃ (i : Nat) (R : List Tmr) (ra : Option Addr) (rn rcap : Nat), s27 = .int .i64 (i : Int) ∧ i ≤ len ∧ s4 = .slice ra rn rcap ∧ Hid (QP C w w' a i R ra rn rcap)) (fun _ d _ => len - (intOf d).toNat)
  case atStart => exact ⟨0, [], none, 0, 0, rfl, by omega, rfl, H2⟩
  case round =>
    obtain ⟨i, R, ra, rn, rcap, rfl, hi, rfl, HI⟩ := hrel
    by_cases hlt : i < len
    · obtain ⟨x, rfl, hx, hcl⟩ := (unhide HCC) i hlt
      have hki := (unhide HK).1 i hlt
      have hkd := (unhide HK).2 i hlt
      have hcl2 : ∀ k v, (Value.int .u8 (kd i) :: (tc (T i) ++ [.int .i64 (nw i)]))[k]? = some v → wr.cell? ((x.add (i * 7)).add k) = some v := fun k v hv => by
        rw [(unhide HI).v.low.cell (by rw [show ((x.add (i * 7)).add k).block = x.block by unfold Addr.add; split <;> (split <;> rfl)]; exact hx)]
        exact hcl k v hv
      clear hcl
      generalize T i = t at *
      generalize kd i = K at *
      generalize nw i = Nw at *
      obtain ⟨i1, i2, i3, i4, i5⟩ := t
      have e0 : wr.cell? (x.add (i * 7)) = some (.int .u8 K) := hcl2 0 _ rfl
      have e1 : wr.cell? ⟨(x.add (i * 7)).block, (x.add (i * 7)).off + 1, none⟩ = some (.int .i64 i1) := hcl2 1 _ rfl
      have e2 : wr.cell? ⟨(x.add (i * 7)).block, (x.add (i * 7)).off + 2, none⟩ = some (.int .i64 i2) := hcl2 2 _ rfl
      have e3 : wr.cell? ⟨(x.add (i * 7)).block, (x.add (i * 7)).off + 3, none⟩ = some (.int .i64 i3) := hcl2 3 _ rfl
      have e4 : wr.cell? ⟨(x.add (i * 7)).block, (x.add (i * 7)).off + 4, none⟩ = some (.int .i64 i4) := hcl2 4 _ rfl
      have e5 : wr.cell? ⟨(x.add (i * 7)).block, (x.add (i * 7)).off + 5, none⟩ = some (.bool i5) := hcl2 5 _ rfl
      have e6 : wr.cell? ⟨(x.add (i * 7)).block, (x.add (i * 7)).off + 6, none⟩ = some (.int .i64 Nw) := hcl2 6 _ rfl
      obtain ⟨bx, hbx⟩ : ∃ b, wr.heap.size = b := ⟨_, rfl⟩
      obtain ⟨W3, hW3⟩ : ∃ W3, W3 = wr.alloc (.cells #[.int .u8 K, .int .i64 i1, .int .i64 i2, .int .i64 i3, .int .i64 i4, .bool i5, .int .i64 Nw] 30) := ⟨_, rfl⟩
      have b3 : Below wr.heap.size wr W3 := by rw [hW3]; exact one_below _ _
      have k3 : Blk W3 bx 30 #[.int .u8 K, .int .i64 i1, .int .i64 i2, .int .i64 i3, .int .i64 i4, .bool i5, .int .i64 Nw] := by rw [hW3]; exact Blk.new_at _ _ _ hbx.symm
      have hgx : ¬ a.foot bx := fun hF => by have := (unhide HI).v.q.lts bx hF; omega
      have q3 := (unhide HI).below b3
      have x1 := k3.cell 1
      simp only [List.getElem?_toArray, List.getElem?_cons_zero, List.getElem?_cons_succ] at x1
      have hrn : rn ≤ 1000 := by have := q3.row.len; have := q3.v.q.len; omega
      have CPl := hide (tplace_any W3 C rn rcap ra R q3.row hrn i1)
      have HOK := hide hki
      have H3 := hide (And.intro q3 (And.intro k3 hgx))
      have HW3 := hide hW3
      have hmd : K % 3 = 0 ∨ K % 3 = 1 ∨ K % 3 = 2 := by omega
      have e7 : K.tmod 3 = K % 3 := Int.tmod_eq_emod_of_nonneg hkd.1
      clear b3 k3 hgx q3 hW3 HI hcl2 hki
      go_upto_region 10 with fail
      rw [← unhide HW3]
      clear e0 e1 e2 e3 e4 e5 e6 HW3
      go_wp2_with (go_at_call 7; refine Hid.out ?_)
      refine hide ?_
      refine (unhide CPl).mono ?_
      rintro e w4 ⟨pp, rfl, hpl, b4⟩
      have q4 := (unhide H3).1.below b4
      have k4 := (unhide H3).2.1.below b4 (unhide H3).2.1.lt
      have HPL := hide hpl
      have x0 := k4.cell 0
      simp only [List.getElem?_toArray, List.getElem?_cons_zero, List.getElem?_cons_succ] at x0
      have H4 := hide (And.intro q4 (And.intro k4 (unhide H3).2.2))
      clear q4 k4 b4 hpl H3 CPl x1
      go_upto_block 2 with fail
      go_cut [4, 7, 35, 38] (fun s4 _ _ _ wx => ∃ (R' : List Tmr) (ra' : Option Addr) (rn' rcap' : Nat), s4 = .slice ra' rn' rcap' ∧ Hid (QP C w wx a (i + 1) R' ra' rn' rcap'))
      case first =>
        rcases hmd with hmd | hmd | hmd
        · as_aux_lemma =>
            have g1 : w4.cell? ⟨bx, 1, none⟩ = some (.int .i64 i1) := (unhide H4).2.1.cell 1
            have g2 : w4.cell? ⟨bx, 2, none⟩ = some (.int .i64 i2) := (unhide H4).2.1.cell 2
            have g3 : w4.cell? ⟨bx, 3, none⟩ = some (.int .i64 i3) := (unhide H4).2.1.cell 3
            have g4 : w4.cell? ⟨bx, 4, none⟩ = some (.int .i64 i4) := (unhide H4).2.1.cell 4
            have g5 : w4.cell? ⟨bx, 5, none⟩ = some (.bool i5) := (unhide H4).2.1.cell 5
            have CA := hide (sadd (unhide H4).1.v.q (by omega) ⟨i1, i2, i3, i4, i5⟩ (unhide HOK))
            have HRN := hide (unhide H4).1.row.len
            by_cases hs : i4 < i3
            · rw [show addE R ⟨i1, i2, i3, i4, i5⟩ = 2 from if_pos hs, show addR R ⟨i1, i2, i3, i4, i5⟩ = R by unfold addR addE; rw [if_pos hs, if_neg (by decide)]] at CA
              simp only [tv] at CA
              go_wp2_with (go_at_call 9; refine Hid.out ?_)
              refine hide ?_
              refine (unhide CA).mono ?_
              rintro e w6 ⟨rfl, q6, f6⟩
              have H6 := hide ((unhide H4).1.step q6 f6)
              clear q6 f6 CA H4
              go_wp2_with fail
              go_meet
              exact ⟨_, _, _, _, rfl, H6⟩
            · have hs2 : decide (i4 < i3) = false := decide_eq_false hs
              rcases unhide HPL with ⟨hm, hpp⟩ | ⟨X, Y, t', hR, ht', hpp⟩
              · subst hpp
                by_cases hf : rn = 64
                · have hlR : R.length = 64 := by rw [← unhide HRN]; exact hf
                  subst hf
                  rw [show addE R ⟨i1, i2, i3, i4, i5⟩ = 3 by unfold addE; rw [if_neg hs, if_neg hm, if_pos hlR], show addR R ⟨i1, i2, i3, i4, i5⟩ = R by unfold addR addE; rw [if_neg hs, if_neg hm, if_pos hlR, if_neg (by decide)]] at CA
                  simp only [tv] at CA
                  clear hm hlR hs
                  go_wp2_with (go_at_call 9; refine Hid.out ?_)
                  refine hide ?_
                  refine (unhide CA).mono ?_
                  rintro e w6 ⟨rfl, q6, f6⟩
                  have H6 := hide ((unhide H4).1.step q6 f6)
                  clear q6 f6 CA H4
                  go_wp2_with fail
                  go_meet
                  exact ⟨_, _, _, _, rfl, H6⟩
                · have hf2 : ((rn : Int) == 64) = false := by rw [beq_eq_false_iff_ne]; omega
                  have hlR : ¬ R.length = 64 := by rw [← unhide HRN]; exact hf
                  have hE : addE R ⟨i1, i2, i3, i4, i5⟩ = 0 := by unfold addE; rw [if_neg hs, if_neg hm, if_neg hlR]
                  have hR2 : addR R ⟨i1, i2, i3, i4, i5⟩ = insT ⟨i1, i2, i3, i4, i5⟩ R := by unfold addR; rw [if_pos hE]
                  have CPt := hide (tput_any w4 C rn rcap ra R (unhide H4).1.row hrn ⟨i1, i2, i3, i4, i5⟩)
                  have HR2 := hide (And.intro hE hR2)
                  simp only [tv] at CPt
                  clear hm hlR hs hE hR2 CA
                  go_wp2_with (go_at_call 8; refine Hid.out ?_)
                  refine hide ?_
                  refine (unhide CPt).mono ?_
                  rintro e w5 ⟨v5, rfl, r5, b5⟩
                  have v5q := (unhide H4).1.v.below b5
                  have k5 := (unhide H4).2.1.below b5 (unhide H4).2.1.lt
                  have CA := hide (sadd v5q.q (by omega) ⟨i1, i2, i3, i4, i5⟩ (unhide HOK))
                  rw [(unhide HR2).1, (unhide HR2).2] at CA
                  simp only [tv] at CA
                  have HR5 := hide (And.intro v5q (And.intro r5 (unhide H4).1.v))
                  have j1 : w5.cell? ⟨bx, 1, none⟩ = some (.int .i64 i1) := k5.cell 1
                  have j2 : w5.cell? ⟨bx, 2, none⟩ = some (.int .i64 i2) := k5.cell 2
                  have j3 : w5.cell? ⟨bx, 3, none⟩ = some (.int .i64 i3) := k5.cell 3
                  have j4 : w5.cell? ⟨bx, 4, none⟩ = some (.int .i64 i4) := k5.cell 4
                  have j5 : w5.cell? ⟨bx, 5, none⟩ = some (.bool i5) := k5.cell 5
                  clear v5q k5 r5 b5 CPt H4 g1 g2 g3 g4 g5
                  go_wp2_with (go_at_call 9; refine Hid.out ?_)
                  refine hide ?_
                  refine (unhide CA).mono ?_
                  rintro e w6 ⟨rfl, q6, f6⟩
                  obtain ⟨v5q, r5, v4q⟩ := unhide HR5
                  have hlt4 := v4q.q.lts
                  obtain ⟨ra6, rcap6, hv6, H6⟩ := QP.of (v5q.step q6 f6) (r5.ft f6 (fun g hg hk => by have := (r5.lt g hg).1; have := hlt4 g hk; omega)) v4q.cs hlt4
                  have H6 := hide H6
                  have HV6 := hide hv6
                  clear v5q r5 v4q hlt4 hv6 q6 f6 CA HR5 j1 j2 j3 j4 j5
                  go_wp2_with fail
                  go_meet
                  exact ⟨_, _, _, _, unhide HV6, H6⟩
              · subst hpp
                have hm : i1 ∈ idsT R := by rw [hR, ← ht']; exact idsT_split
                rw [show addE R ⟨i1, i2, i3, i4, i5⟩ = 9 by unfold addE; rw [if_neg hs, if_pos hm], show addR R ⟨i1, i2, i3, i4, i5⟩ = R by unfold addR addE; rw [if_neg hs, if_pos hm, if_neg (by decide)]] at CA
                simp only [tv] at CA
                have hp0 : (0 : Int) ≤ (X.length : Int) := by omega
                clear hm hs hR ht'
                go_wp2_with (go_at_call 9; refine Hid.out ?_)
                refine hide ?_
                refine (unhide CA).mono ?_
                rintro e w6 ⟨rfl, q6, f6⟩
                have H6 := hide ((unhide H4).1.step q6 f6)
                clear q6 f6 CA H4
                go_wp2_with fail
                go_meet
                exact ⟨_, _, _, _, rfl, H6⟩
        · as_aux_lemma =>
            rcases unhide HPL with ⟨hm, hpp⟩ | ⟨X, Y, t', hR, ht', hpp⟩
            · subst hpp
              have CD := hide (sdrop_none (unhide H4).1.v.q i1 (unhide HOK).1 hm)
              rw [show tv t0 = .agg #[.int .i64 0, .int .i64 0, .int .i64 0, .int .i64 0, .bool false] from rfl] at CD
              have g1 : w4.cell? ⟨bx, 1, none⟩ = some (.int .i64 i1) := (unhide H4).2.1.cell 1
              clear hm
              go_wp2_with (go_at_call 10; refine Hid.out ?_)
              refine hide ?_
              refine (unhide CD).mono ?_
              rintro e w6 ⟨rfl, b6⟩
              have H6 := hide (((unhide H4).1.below b6).up (by omega))
              clear b6 CD H4
              go_wp2_with fail
              go_quiet (fail)
              go_wp2_with fail
              go_meet
              exact ⟨_, _, _, _, rfl, hide (by first | exact ((unhide H6).dr _).al _ | exact ((unhide H6).al _).dr _)⟩
            · subst hpp
              subst hR
              obtain ⟨j1, j2, j3, j4, j5⟩ := t'
              simp only at ht'
              subst ht'
              have CD := hide (sdrop_ok (unhide H4).1.v.q)
              simp only [tv] at CD
              have g1 : w4.cell? ⟨bx, 1, none⟩ = some (.int .i64 j1) := (unhide H4).2.1.cell 1
              go_wp2_with (go_at_call 10; refine Hid.out ?_)
              refine hide ?_
              refine (unhide CD).mono ?_
              rintro e w6 ⟨rfl, q6, f6⟩
              have v6 := (unhide H4).1.v.step q6 f6
              have r6 := (unhide H4).1.row.ft f6 (unhide H4).1.out
              obtain ⟨g, o, rfl, hgl, y0, y1, y2, y3, y4⟩ := tcells (j := X.length) (t := ⟨j1, j2, j3, j4, j5⟩) r6 (by simp)
              obtain ⟨B6, hB6⟩ : ∃ b, w6.heap.size = b := ⟨_, rfl⟩
              obtain ⟨W7, hW7⟩ : ∃ W7, W7 = w6.alloc (.cells #[.int .i64 j1, .int .i64 j2, .int .i64 j3, .int .i64 j4, .bool j5] 28) := ⟨_, rfl⟩
              have b7 : Below w6.heap.size w6 W7 := by rw [hW7]; exact one_below _ _
              have k7 : Blk W7 B6 28 #[.int .i64 j1, .int .i64 j2, .int .i64 j3, .int .i64 j4, .bool j5] := by rw [hW7]; exact Blk.new_at _ _ _ hB6.symm
              have z0 : W7.drew.cell? ⟨B6, 0, none⟩ = some (.int .i64 j1) := k7.cell 0
              have z1 : W7.drew.cell? ⟨B6, 1, none⟩ = some (.int .i64 j2) := k7.cell 1
              have z2 : W7.drew.cell? ⟨B6, 2, none⟩ = some (.int .i64 j3) := k7.cell 2
              have z3 : W7.drew.cell? ⟨B6, 3, none⟩ = some (.int .i64 j4) := k7.cell 3
              have z4 : W7.drew.cell? ⟨B6, 4, none⟩ = some (.bool j5) := k7.cell 4
              have s0 : W7.drew.cell? ⟨g, o + X.length * 5, none⟩ = some (.int .i64 j1) := cellB (b7.trans (below_drew (Below.refl _ _))) y0
              have s1 : W7.drew.cell? ⟨g, o + X.length * 5 + 1, none⟩ = some (.int .i64 j2) := cellB (b7.trans (below_drew (Below.refl _ _))) y1
              have s2 : W7.drew.cell? ⟨g, o + X.length * 5 + 2, none⟩ = some (.int .i64 j3) := cellB (b7.trans (below_drew (Below.refl _ _))) y2
              have s3 : W7.drew.cell? ⟨g, o + X.length * 5 + 3, none⟩ = some (.int .i64 j4) := cellB (b7.trans (below_drew (Below.refl _ _))) y3
              have s4 : W7.drew.cell? ⟨g, o + X.length * 5 + 4, none⟩ = some (.bool j5) := cellB (b7.trans (below_drew (Below.refl _ _))) y4
              have HRN := r6.len
              have hle := r6.le
              have hmax := r6.max
              unfold maxLen at hmax
              simp only [List.length_append, List.length_cons] at HRN
              have hp0 : (0 : Int) ≤ (X.length : Int) := by omega
              have hp1 : (X.length : Int) < (rn : Int) := by omega
              have H7 := hide (And.intro (v6.below b7) (r6.below b7))
              have HW7 := hide hW7
              have HHR := hide HRN
              clear q6 f6 v6 r6 hW7 b7 k7 y0 y1 y2 y3 y4 CD H4 g1 HRN
              go_wp2_with fail
              rw [← unhide HW7]
              go_region
              obtain ⟨v7, r7⟩ := unhide H7
              obtain ⟨W8, hW8⟩ : ∃ W8, W8 = W7.drew := ⟨_, rfl⟩
              rw [← hW8]
              have b8 : Below W7.heap.size W7 W8 := by rw [hW8]; exact below_drew (Below.refl _ _)
              have v8 := v7.below b8
              have r8 := r7.below b8
              have HRN := unhide HHR
              obtain ⟨Z, hZ⟩ : ∃ Z, W8.heap.size = Z := ⟨_, rfl⟩
              have r8b : Rd rtm W8 C (some ⟨g, o, none⟩) rn rcap ((X ++ [⟨j1, j2, j3, j4, j5⟩]) ++ Y) := by rw [List.append_assoc]; exact r8
              have hN2 : ((X ++ [(⟨j1, j2, j3, j4, j5⟩ : Tmr)]) ++ Y).length = rn := r8b.len.symm
              have n1 := fun w' (h : Below Z W8 w') => dnews_pre (r8.below (hZ ▸ h)) rcap (fun e => by cases e)
              have n3 := fun w' (h : Below Z W8 w') => dnews_from (r8b.below (hZ ▸ h)) hN2 (rcap - (X ++ [(⟨j1, j2, j3, j4, j5⟩ : Tmr)]).length)
              have hl1 : (X ++ [(⟨j1, j2, j3, j4, j5⟩ : Tmr)]).length = X.length + 1 := by simp
              rw [hl1] at n3
              obtain ⟨k, hk⟩ : ∃ k, X.length = k := ⟨_, rfl⟩
              have n1k : ∀ w', Below Z W8 w' → News w' (.slice (some ⟨g, o, none⟩) k rcap) X.length rtm.K (rtm.row X) := fun w' h => by rw [← hk]; exact n1 w' h
              rw [hk] at n3 HRN hp0 hp1 ⊢
              obtain ⟨k1, hk1⟩ : ∃ k1, k + 1 = k1 := ⟨_, rfl⟩
              rw [hk1] at n3
              have hq1 : (k1 : Int) ≤ (rcap : Int) := by omega
              have hq2 : (k1 : Int) ≤ (rn : Int) := by omega
              have hq3 : (rn : Int) ≤ (rcap : Int) := by omega
              have hq4 : (k : Int) ≤ (rcap : Int) := by omega
              have hq5 : (k : Int) ≤ (rn : Int) := by omega
              have hq6 : (0 : Int) ≤ (k1 : Int) := by omega
              have hq7 : (k : Int) + 1 = (k1 : Int) := by omega
              have hq8 : IntKind.i64.wrap (k1 : Int) = (k1 : Int) := by rw [IntKind.wrap_i64]; omega
              have BE : ∀ o : Obj, Below Z W8 (W8.alloc o).drew := fun o => by rw [← hZ]; exact below_drew (one_below W8 o)
              have HBE := hide BE
              have HI2 := hide (And.intro n1k n3)
              have HL := hide (show X.length ≤ 5000 ∧ Y.length ≤ 5000 by omega)
              have HV8 := hide v8
              have HZ := hide hZ
              clear hW8 b8 v8 r8 r8b hN2 n1 n1k n3 hl1 BE v7 r7 H7 HW7 z0 z1 z2 z3 z4 s0 s1 s2 s3 s4 HRN hk1
              go_wp2_with fail
              go_region_law (first
                | (refine rstep_own rtm rfl _ _ rfl hZ _ [] rfl (rown_empty rtm (Nat.le_refl _) hZ) X (by first | exact (unhide HI2).1 _ ((unhide HBE) _)) (by have := (unhide HL).1; simp; omega) (by first | exact (unhide HBE) _) ?_; intro v1 w1 o1 S1 K1; rw [List.nil_append] at o1)
                | (refine rstep_own rtm rfl _ _ rfl hZ _ X rfl o1 Y (by first | exact (unhide HI2).2 _ S1) (by have := (unhide HL).1; have := (unhide HL).2; omega) S1 ?_; intro v3 w3 o3 S3 K3))
              all_goals
                obtain ⟨ra9, rcap9, hv9, H9⟩ := QP.of ((unhide HV8).below (by rw [unhide HZ]; exact S3)) o3 (by rw [← unhide HZ]; exact (unhide HV8).cs) (fun k' hk' => by have := (unhide HV8).q.lts k' hk'; have := unhide HZ; omega)
                have H9 := hide (H9.up (by omega))
                have HV9 := hide hv9
                clear hv9 o3 S3 K3
                go_wp2_with fail
                all_goals
                  go_meet
                  exact ⟨_, _, _, _, unhide HV9, H9⟩
        · as_aux_lemma =>
            have g6 : w4.cell? ⟨bx, 6, none⟩ = some (.int .i64 Nw) := (unhide H4).2.1.cell 6
            have HRN := hide (unhide H4).1.row.len
            have CCN := CC Nw
            by_cases hdue : ∃ z S', R = z :: S' ∧ dueT Nw z
            · obtain ⟨⟨j1, j2, j3, j4, j5⟩, S', rfl, hd⟩ := hdue
              have CD := hide (sdue_ok (unhide H4).1.v.q Nw hd)
              simp only [tv] at CD
              obtain ⟨hd1, hd2⟩ := hd
              simp only at hd1 hd2
              have CCJ := CC j3
              obtain ⟨Kj, hKj⟩ : ∃ Kj, clampZ j3 = Kj := ⟨_, rfl⟩
              obtain ⟨Kn, hKn⟩ : ∃ Kn, clampZ Nw = Kn := ⟨_, rfl⟩
              rw [hKj] at CCJ hd2
              rw [hKn] at CCN hd2
              have hd2b : decide (Kj ≤ Kn) = true := decide_eq_true hd2
              have hd1b : decide (j3 < 4611686018427387903) = true := decide_eq_true hd1
              clear hKj hKn hd1 hd2 CC
              go_wp2_with (go_at_call 11; refine Hid.out ?_)
              refine hide ?_
              refine (unhide CD).mono ?_
              rintro e w6 ⟨rfl, q6, f6⟩
              have v6 := (unhide H4).1.v.step q6 f6
              have r6 := (unhide H4).1.row.ft f6 (unhide H4).1.out
              have k6 := (unhide H4).2.1.ft f6 (unhide H4).2.2
              obtain ⟨g, o, rfl, hgl, y0, y1, y2, y3, y4⟩ := tcells (j := 0) (t := ⟨j1, j2, j3, j4, j5⟩) r6 rfl
              obtain ⟨B6, hB6⟩ : ∃ b, w6.heap.size = b := ⟨_, rfl⟩
              obtain ⟨W7, hW7⟩ : ∃ W7, W7 = w6.alloc (.cells #[.int .i64 j1, .int .i64 j2, .int .i64 j3, .int .i64 j4, .bool j5] 28) := ⟨_, rfl⟩
              have b7 : Below w6.heap.size w6 W7 := by rw [hW7]; exact one_below _ _
              have k7 : Blk W7 B6 28 #[.int .i64 j1, .int .i64 j2, .int .i64 j3, .int .i64 j4, .bool j5] := by rw [hW7]; exact Blk.new_at _ _ _ hB6.symm
              simp only [Nat.zero_mul, Nat.add_zero] at y0 y1 y2 y3 y4
              have s0 : W7.cell? ⟨g, o, none⟩ = some (.int .i64 j1) := cellB b7 y0
              have s1 : W7.cell? ⟨g, o + 1, none⟩ = some (.int .i64 j2) := cellB b7 y1
              have s2 : W7.cell? ⟨g, o + 2, none⟩ = some (.int .i64 j3) := cellB b7 y2
              have s3 : W7.cell? ⟨g, o + 3, none⟩ = some (.int .i64 j4) := cellB b7 y3
              have s4 : W7.cell? ⟨g, o + 4, none⟩ = some (.bool j5) := cellB b7 y4
              have z6 : W7.cell? ⟨bx, 6, none⟩ = some (.int .i64 Nw) := cellB b7 (k6.cell 6)
              have hle := r6.le
              have hmax := r6.max
              unfold maxLen at hmax
              have hrn1 : 1 ≤ rn := by have := unhide HRN; simp only [List.length_cons] at this; omega
              have hp0 : (0 : Int) < (rn : Int) := by omega
              have hp1 : (1 : Int) ≤ (rn : Int) := by omega
              have hp2 : (1 : Int) ≤ (rcap : Int) := by omega
              have hp3 : (rn : Int) ≤ (rcap : Int) := by omega
              have hp5 : 0 < rn := hrn1
              have hp4 : decide (0 < rn) = true := decide_eq_true hp5
              have H7 := hide (And.intro (v6.below b7) (And.intro (r6.below b7) (And.intro k7 (unhide H4).1.out)))
              have HW7 := hide hW7
              clear q6 f6 v6 r6 k6 hW7 b7 k7 y0 y1 y2 y3 y4 CD H4 g6
              go_wp2_with fail
              rw [← unhide HW7]
              go_quiet (first | (go_at_call 12; with_reducible refine (unhide (CCJ _)).mono ?_; rintro e w9 ⟨rfl, rfl⟩; exact ⟨rfl, _, rfl⟩) | (go_at_call 12; with_reducible refine (unhide (CCN _)).mono ?_; rintro e w9 ⟨rfl, rfl⟩; exact ⟨rfl, _, rfl⟩))
              obtain ⟨v7, r7, k7, out7⟩ := unhide H7
              obtain ⟨W8, hW8⟩ : ∃ W8, W8 = W7.drewN nq := ⟨_, rfl⟩
              rw [← hW8]
              have b8 : Below W7.heap.size W7 W8.drew := by rw [hW8]; exact ⟨rfl, rfl, rfl, Nat.le_refl _, fun _ _ => rfl⟩
              have t0 := cellB b8 s0
              have t1 := cellB b8 s1
              have t2 := cellB b8 s2
              have t3 := cellB b8 s3
              have t4 := cellB b8 s4
              have k8 := k7.below b8 k7.lt
              have z0 : W8.drew.cell? ⟨B6, 0, none⟩ = some (.int .i64 j1) := k8.cell 0
              have z1 : W8.drew.cell? ⟨B6, 1, none⟩ = some (.int .i64 j2) := k8.cell 1
              have z2 : W8.drew.cell? ⟨B6, 2, none⟩ = some (.int .i64 j3) := k8.cell 2
              have z3 : W8.drew.cell? ⟨B6, 3, none⟩ = some (.int .i64 j4) := k8.cell 3
              have z4 : W8.drew.cell? ⟨B6, 4, none⟩ = some (.bool j5) := k8.cell 4
              have r8 := (r7.below b8).tail
              have HQ8 : QP C w W8.drew a (i + 1) S' (if rcap = 1 then some ⟨g, o, none⟩ else some ⟨g, o + 5, none⟩) (rn - 1) (rcap - 1) := QP.up ⟨v7.below b8, r8, fun x hx hk => by
                have := out7 ⟨g, o, none⟩ rfl
                split at hx <;> (cases hx; exact this hk)⟩ (by omega)
              have H8a := hide (fun (h1 : rcap = 1) => show QP C w W8.drew a (i + 1) S' (some ⟨g, o, none⟩) (rn - 1) 0 by
                have := HQ8
                rw [if_pos h1, h1] at this
                exact this)
              have H8b := hide (fun (h1 : ¬ rcap = 1) => show QP C w W8.drew a (i + 1) S' (some ⟨g, o + 5, none⟩) (rn - 1) (rcap - 1) by
                have := HQ8
                rw [if_neg h1] at this
                exact this)
              clear v7 r7 k7 out7 hW8 b8 k8 r8 HQ8 H7 s0 s1 s2 s3 s4 z6
              go_wp2_with fail
              go_region
              go_wp2_with fail
              all_goals go_meet
              all_goals (first | exact ⟨_, _, _, _, rfl, hide ((unhide H8a) (by assumption))⟩ | exact ⟨_, _, _, _, rfl, hide ((unhide H8b) (by assumption))⟩)
            · have CD := hide (sdue_no (unhide H4).1.v.q Nw (fun y S' e h => hdue ⟨y, S', e, h⟩))
              rw [show tv t0 = .agg #[.int .i64 0, .int .i64 0, .int .i64 0, .int .i64 0, .bool false] from rfl] at CD
              have HRW := hide (unhide H4).1.row
              go_wp2_with (go_at_call 11; refine Hid.out ?_)
              refine hide ?_
              refine (unhide CD).mono ?_
              rintro e w6 ⟨rfl, b6⟩
              have q6 := (unhide H4).1.below b6
              have z6 : w6.cell? ⟨bx, 6, none⟩ = some (.int .i64 Nw) := cellB b6 g6
              have H6 := hide (q6.up (by omega))
              have hbl : bx < w6.heap.size := World.block_lt_of_cell? w6 _ z6
              cases R with
              | nil =>
                obtain rfl : rn = 0 := unhide HRN
                clear b6 q6 CD H4 g6 hdue HRW
                go_wp2_with fail
                go_quiet (fail)
                go_wp2_with fail
                go_quiet (fail)
                go_wp2_with fail
                go_meet
                exact ⟨_, _, _, _, rfl, hide (by first | exact (((unhide H6).dr _).dr _).al _ | exact ((unhide H6).al _).dr _ | exact (((unhide H6).al _).dr _).dr _ | exact (((unhide H6).dr _).al _).dr _ | exact ((unhide H6).dr _).al _)⟩
              | cons z S' =>
                obtain ⟨g, o, hra, hgl, y0, y1, y2, y3, y4⟩ := tcells (j := 0) q6.row rfl
                subst hra
                have hnd : ¬ dueT Nw z := fun h => hdue ⟨z, S', rfl, h⟩
                obtain ⟨j1, j2, j3, j4, j5⟩ := z
                have hnd2 : ¬ (j3 < 4611686018427387903 ∧ clampZ j3 ≤ clampZ Nw) := hnd
                simp only [Nat.zero_mul, Nat.add_zero] at y2
                have hle := q6.row.le
                have hmax := q6.row.max
                unfold maxLen at hmax
                have hrn1 : 1 ≤ rn := by have := unhide HRN; simp only [List.length_cons] at this; omega
                have hp0 : (0 : Int) < (rn : Int) := by omega
                have hp5 : 0 < rn := hrn1
                have hp4 : decide (0 < rn) = true := decide_eq_true hp5
                have CCJ := CC j3
                obtain ⟨Kj, hKj⟩ : ∃ Kj, clampZ j3 = Kj := ⟨_, rfl⟩
                obtain ⟨Kn, hKn⟩ : ∃ Kn, clampZ Nw = Kn := ⟨_, rfl⟩
                rw [hKj] at CCJ hnd2
                rw [hKn] at CCN hnd2
                clear b6 q6 CD H4 g6 hdue HRW hnd hKj hKn CC y0 y1 y3 y4
                by_cases hs : j3 < 4611686018427387903
                · have hd1b : decide (j3 < 4611686018427387903) = true := decide_eq_true hs
                  have hd2b : decide (Kj ≤ Kn) = false := decide_eq_false (by omega)
                  clear hnd2 hs
                  go_wp2_with fail
                  go_quiet (first | (go_at_call 12; with_reducible refine (unhide (CCJ _)).mono ?_; rintro e w9 ⟨rfl, rfl⟩; exact ⟨rfl, _, rfl⟩) | (go_at_call 12; with_reducible refine (unhide (CCN _)).mono ?_; rintro e w9 ⟨rfl, rfl⟩; exact ⟨rfl, _, rfl⟩))
                  go_wp2_with fail
                  go_quiet (fail)
                  go_wp2_with fail
                  go_meet
                  exact ⟨_, _, _, _, rfl, hide (by first | exact (((unhide H6).dr _).dr _).al _ | exact ((unhide H6).al _).dr _ | exact (((unhide H6).al _).dr _).dr _ | exact (((unhide H6).dr _).al _).dr _ | exact ((unhide H6).dr _).al _)⟩
                · have hd1b : decide (j3 < 4611686018427387903) = false := decide_eq_false hs
                  clear hnd2 hs
                  go_wp2_with fail
                  go_quiet (fail)
                  go_wp2_with fail
                  go_quiet (fail)
                  go_wp2_with fail
                  go_meet
                  exact ⟨_, _, _, _, rfl, hide (by first | exact (((unhide H6).dr _).dr _).al _ | exact ((unhide H6).al _).dr _ | exact (((unhide H6).al _).dr _).dr _ | exact (((unhide H6).dr _).al _).dr _ | exact ((unhide H6).dr _).al _)⟩
      case rest =>
        obtain ⟨R2, rb, rn2, rcap2, rfl, H5⟩ := hcut
        have CAl := hide (sall (unhide H5).v.q)
        have hRn := hide (unhide H5).row.len
        clear H4 HPL HOK hmd e7 hkd hx x0 hrn
        go_wp2_with (go_at_call 13; refine Hid.out ?_)
        refine hide ?_
        refine (unhide CAl).mono ?_
        rintro e w6 ⟨vA, rfl, rA, b6⟩
        obtain ⟨aA, capA, rfl, rdA⟩ := Rd.of rA
        have q6 := (unhide H5).below b6
        have CFi := hide (sfirst q6.v.q)
        have H6 := hide (And.intro q6 rdA)
        clear rA b6 q6 rdA CAl H5
        have HLT := hide (show i < len from hlt)
        cases R2 with
        | nil =>
          rw [show fstV [] = .tuple #[.agg #[.int .i64 0, .int .i64 0, .int .i64 0, .int .i64 0, .bool false], .bool false] from rfl] at CFi
          obtain rfl : rn2 = 0 := unhide hRn
          rw [show ([] : List Tmr).length = 0 from rfl] at H6 ⊢
          go_wp2_with (go_at_call 14; refine Hid.out ?_)
          refine hide ?_
          refine (unhide CFi).mono ?_
          rintro e w7 ⟨rfl, b7⟩
          have q7 := (unhide H6).1.below b7
          have CL := hide (fun o m => slen_any ((q7.al o).dr m).v.q)
          have H7 := hide q7
          rw [show (([] : List Tmr).length : Int) = 0 from rfl] at CL
          clear q7 b7 H6 CFi
          go_wp2_with fail
          go_quiet (first | (go_at_call 15; refine (unhide CL _ _).mono ?_; rintro e w9 ⟨rfl, rfl⟩; exact ⟨rfl, _, rfl⟩))
          go_wp2_with fail
          go_loopw [186] (fun d w' => d = .int .i64 0 ∧ Hid (QP C w w' a (i + 1) [] rb 0 rcap2)) (fun _ _ => 0)
          case atStart => exact ⟨rfl, hide (by first | exact ((unhide H7).al _).dr _ | exact ((unhide H7).dr _).al _)⟩
          case round =>
            obtain ⟨rfl, H9⟩ := hrel
            go_wp2_with fail
            go_roundw
            case rel => exact ⟨i + 1, [], rb, 0, rcap2, by first | rfl | go_num, by omega, rfl, H9⟩
            case measure => simp [intOf]; omega
        | cons t S =>
          obtain ⟨j1, j2, j3, j4, j5⟩ := t
          rw [show fstV (⟨j1, j2, j3, j4, j5⟩ :: S) = .tuple #[.agg #[.int .i64 j1, .int .i64 j2, .int .i64 j3, .int .i64 j4, .bool j5], .bool true] from rfl] at CFi
          obtain ⟨N, hN⟩ : ∃ N, (⟨j1, j2, j3, j4, j5⟩ :: S : List Tmr).length = N := ⟨_, rfl⟩
          obtain rfl : rn2 = N := by rw [← hN]; exact unhide hRn
          rw [hN] at H6 ⊢
          have hN1 : 1 ≤ rn2 := by rw [← hN]; simp
          have HN := hide hN
          clear hN hRn
          go_wp2_with (go_at_call 14; refine Hid.out ?_)
          refine hide ?_
          refine (unhide CFi).mono ?_
          rintro e w7 ⟨rfl, b7⟩
          obtain ⟨B7, hB7⟩ : ∃ b, w7.heap.size = b := ⟨_, rfl⟩
          obtain ⟨W8, hW8⟩ : ∃ W8, W8 = w7.alloc (.cells #[.int .i64 j1, .int .i64 j2, .int .i64 j3, .int .i64 j4, .bool j5] 28) := ⟨_, rfl⟩
          have b8 : Below w7.heap.size w7 W8 := by rw [hW8]; exact one_below _ _
          have k8 : Blk W8 B7 28 #[.int .i64 j1, .int .i64 j2, .int .i64 j3, .int .i64 j4, .bool j5] := by rw [hW8]; exact Blk.new_at _ _ _ hB7.symm
          have q8 := ((unhide H6).1.below b7).below b8
          have r8 := ((unhide H6).2.below b7).below b8
          have CL := hide (fun w' (hb : Below W8.heap.size W8 w') => slen_any (q8.below hb).v.q)
          rw [unhide HN] at CL
          obtain ⟨g, o, rfl, hgl, y0, y1, y2, y3, y4⟩ := tcells (j := 0) q8.row rfl
          simp only [Nat.zero_mul, Nat.add_zero] at y0 y1 y2 y3 y4
          have s0 := fun w' (hb : Below W8.heap.size W8 w') => cellB hb y0
          have s1 := fun w' (hb : Below W8.heap.size W8 w') => cellB hb y1
          have s2 := fun w' (hb : Below W8.heap.size W8 w') => cellB hb y2
          have s3 := fun w' (hb : Below W8.heap.size W8 w') => cellB hb y3
          have s4 := fun w' (hb : Below W8.heap.size W8 w') => cellB hb y4
          have z0 := hkHeld k8 0 (.int .i64 j1) rfl
          have z1 := hkHeld k8 1 (.int .i64 j2) rfl
          have z2 := hkHeld k8 2 (.int .i64 j3) rfl
          have z3 := hkHeld k8 3 (.int .i64 j4) rfl
          have z4 := hkHeld k8 4 (.bool j5) rfl
          have hdr : Below W8.heap.size W8 W8.drew := below_drew (Below.refl _ _)
          have hp0 : (0 : Int) < (rn2 : Int) := by omega
          have hp5 : 0 < rn2 := hN1
          have hp4 : decide (0 < rn2) = true := decide_eq_true hp5
          have H8 := hide (And.intro q8 r8)
          have HW8 := hide hW8
          clear q8 r8 k8 b8 b7 hW8 H6 CFi y0 y1 y2 y3 y4
          go_wp2_with fail
          rw [← unhide HW8]
          refine wp_region_held_drew (S := (fun w' => Below W8.heap.size W8 w')) (by kernel_rfl) ?_ (fun hHeld => ?_)
          · (first | (with_reducible assumption))
          refine wpAnyH_take (i := 0) (oi := ?o1) (v := ?v1) ?hi1 (by kernel_rfl) (by kernel_rfl) (by kernel_rfl) ?hQ1 (Or.inl ⟨?hw1, ?hy1⟩) (by assumption) ?_
          case hi1 => (simp only [List.getElem?_toArray, List.getElem?_cons_zero]; rfl)
          case hQ1 => exact fun _ _ _ h => h
          case hw1 => rfl
          case hy1 => (intro w hSw; (try dsimp only at hSw); go_simp; (try with_reducible rfl))
          simp only [Act.put, List.setIfInBounds_toArray, List.set_cons_zero, List.set_cons_succ]
          refine wpAnyH_take (i := 1) (oi := ?o2) (v := ?v2) ?hi2 (by kernel_rfl) (by kernel_rfl) (by kernel_rfl) ?hQ2 (Or.inl ⟨?hw2, ?hy2⟩) (by assumption) ?_
          case hi2 => (simp only [List.getElem?_toArray, List.getElem?_cons_succ, List.getElem?_cons_zero]; rfl)
          case hQ2 => exact fun _ _ _ h => h
          case hw2 => rfl
          case hy2 => (intro w hSw; (try dsimp only at hSw); go_simp; (try with_reducible rfl))
          simp only [Act.put, List.setIfInBounds_toArray, List.set_cons_zero, List.set_cons_succ]
          refine wpAnyH_take (i := 2) (oi := ?o3) (v := ?v3) ?hi3 (by kernel_rfl) (by kernel_rfl) (by kernel_rfl) ?hQ3 (Or.inl ⟨?hw3, ?hy3⟩) (by assumption) ?_
          case hi3 => (simp only [List.getElem?_toArray, List.getElem?_cons_succ, List.getElem?_cons_zero]; rfl)
          case hQ3 => exact fun _ _ _ h => h
          case hw3 => rfl
          case hy3 => (intro w hSw; (try dsimp only at hSw); go_simp; (try with_reducible rfl))
          simp only [Act.put, List.setIfInBounds_toArray, List.set_cons_zero, List.set_cons_succ]
          refine wpAnyH_take (i := 3) (oi := ?o4) (v := ?v4) ?hi4 (by kernel_rfl) (by kernel_rfl) (by kernel_rfl) ?hQ4 (Or.inl ⟨?hw4, ?hy4⟩) (by assumption) ?_
          case hi4 => (simp only [List.getElem?_toArray, List.getElem?_cons_succ, List.getElem?_cons_zero]; rfl)
          case hQ4 => exact fun _ _ _ h => h
          case hw4 => rfl
          case hy4 => (intro w hSw; (try dsimp only at hSw); go_simp; (try with_reducible rfl))
          simp only [Act.put, List.setIfInBounds_toArray, List.set_cons_zero, List.set_cons_succ]
          refine wpAnyH_take (i := 4) (oi := ?o5) (v := ?v5) ?hi5 (by kernel_rfl) (by kernel_rfl) (by kernel_rfl) ?hQ5 (Or.inl ⟨?hw5, ?hy5⟩) (by assumption) ?_
          case hi5 => (simp only [List.getElem?_toArray, List.getElem?_cons_succ, List.getElem?_cons_zero]; rfl)
          case hQ5 => exact fun _ _ _ h => h
          case hw5 => rfl
          case hy5 => (intro w hSw; (try dsimp only at hSw); go_simp; (try with_reducible rfl))
          simp only [Act.put, List.setIfInBounds_toArray, List.set_cons_zero, List.set_cons_succ]
          refine wpAnyH_take (i := 5) (oi := ?o6) (v := ?v6) ?hi6 (by kernel_rfl) (by kernel_rfl) (by kernel_rfl) ?hQ6 (Or.inl ⟨?hw6, ?hy6⟩) (by assumption) ?_
          case hi6 => (simp only [List.getElem?_toArray, List.getElem?_cons_succ, List.getElem?_cons_zero]; rfl)
          case hQ6 => exact fun _ _ _ h => h
          case hw6 => rfl
          case hy6 => (intro w hSw; (try dsimp only at hSw); go_simp; (try with_reducible rfl))
          simp only [Act.put, List.setIfInBounds_toArray, List.set_cons_zero, List.set_cons_succ]
          refine wpAnyH_take (i := 6) (oi := ?o7) (v := ?v7) ?hi7 (by kernel_rfl) (by kernel_rfl) (by kernel_rfl) ?hQ7 (Or.inl ⟨?hw7, ?hy7⟩) (by assumption) ?_
          case hi7 => (simp only [List.getElem?_toArray, List.getElem?_cons_succ, List.getElem?_cons_zero]; rfl)
          case hQ7 => exact fun _ _ _ h => h
          case hw7 => rfl
          case hy7 => (intro w hSw; (try dsimp only at hSw); go_simp; (try with_reducible rfl))
          simp only [Act.put, List.setIfInBounds_toArray, List.set_cons_zero, List.set_cons_succ]
          refine wpAnyH_take (i := 8) (oi := ?o8) (v := ?v8) ?hi8 (by kernel_rfl) (by kernel_rfl) (by kernel_rfl) ?hQ8 (Or.inl ⟨?hw8, ?hy8⟩) (by assumption) ?_
          case hi8 => (simp only [List.getElem?_toArray, List.getElem?_cons_succ, List.getElem?_cons_zero]; rfl)
          case hQ8 => exact fun _ _ _ h => h
          case hw8 => rfl
          case hy8 => (intro w hSw; (try dsimp only at hSw); go_simp; (try with_reducible rfl))
          simp only [Act.put, List.setIfInBounds_toArray, List.set_cons_zero, List.set_cons_succ]
          refine wpAnyH_take (i := 9) (oi := ?o9) (v := ?v9) ?hi9 (by kernel_rfl) (by kernel_rfl) (by kernel_rfl) ?hQ9 (Or.inl ⟨?hw9, ?hy9⟩) (by assumption) ?_
          case hi9 => (simp only [List.getElem?_toArray, List.getElem?_cons_succ, List.getElem?_cons_zero]; rfl)
          case hQ9 => exact fun _ _ _ h => h
          case hw9 => rfl
          case hy9 => (intro w hSw; (try dsimp only at hSw); go_simp; (try with_reducible rfl))
          simp only [Act.put, List.setIfInBounds_toArray, List.set_cons_zero, List.set_cons_succ]
          refine wpAnyH_ready (rs := [7]) (by kernel_rfl) (by simp) ?_
          refine AllReadyH.cons (o := ?o10) ?hi10 (fun K hK => ?_) AllReadyH.nil
          case hi10 => (simp only [List.getElem?_toArray, List.getElem?_cons_succ, List.getElem?_cons_zero]; rfl)
          go_simp
          (go_at_call 15; refine (unhide CL _ (by assumption)).mono ?_; rintro e w9 ⟨rfl, hw9⟩; obtain rfl := hw9.symm)
          refine hK.out _ _ ?_ (fun hHeld => ?_)
          · (first | (with_reducible assumption))
          clear hK K
          refine wpAnyH_take (i := 10) (oi := ?o11) (v := ?v11) ?hi11 (by kernel_rfl) (by kernel_rfl) (by kernel_rfl) ?hQ11 (Or.inl ⟨?hw11, ?hy11⟩) (by assumption) ?_
          case hi11 => (simp only [List.getElem?_toArray, List.getElem?_cons_succ, List.getElem?_cons_zero]; rfl)
          case hQ11 => exact fun _ _ _ h => h
          case hw11 => rfl
          case hy11 => (intro w hSw; (try dsimp only at hSw); go_simp; (try with_reducible rfl))
          simp only [Act.put, List.setIfInBounds_toArray, List.set_cons_zero, List.set_cons_succ]
          refine wpAnyH_take (i := 11) (oi := ?o12) (v := ?v12) ?hi12 (by kernel_rfl) (by kernel_rfl) (by kernel_rfl) ?hQ12 (Or.inl ⟨?hw12, ?hy12⟩) (by assumption) ?_
          case hi12 => (simp only [List.getElem?_toArray, List.getElem?_cons_succ, List.getElem?_cons_zero]; rfl)
          case hQ12 => exact fun _ _ _ h => h
          case hw12 => rfl
          case hy12 => (intro w hSw; (try dsimp only at hSw); go_simp; (try with_reducible rfl))
          simp only [Act.put, List.setIfInBounds_toArray, List.set_cons_zero, List.set_cons_succ]
          refine wpAnyH_take (i := 12) (oi := ?o13) (v := ?v13) ?hi13 (by kernel_rfl) (by kernel_rfl) (by kernel_rfl) ?hQ13 (Or.inl ⟨?hw13, ?hy13⟩) (by assumption) ?_
          case hi13 => (simp only [List.getElem?_toArray, List.getElem?_cons_succ, List.getElem?_cons_zero]; rfl)
          case hQ13 => exact fun _ _ _ h => h
          case hw13 => rfl
          case hy13 => (intro w hSw; (try dsimp only at hSw); go_simp; (try with_reducible rfl))
          simp only [Act.put, List.setIfInBounds_toArray, List.set_cons_zero, List.set_cons_succ]
          refine wpAnyH_take (i := 13) (oi := ?o14) (v := ?v14) ?hi14 (by kernel_rfl) (by kernel_rfl) (by kernel_rfl) ?hQ14 (Or.inl ⟨?hw14, ?hy14⟩) (by assumption) ?_
          case hi14 => (simp only [List.getElem?_toArray, List.getElem?_cons_succ, List.getElem?_cons_zero]; rfl)
          case hQ14 => exact fun _ _ _ h => h
          case hw14 => rfl
          case hy14 => (intro w hSw; (try dsimp only at hSw); go_simp; (try with_reducible rfl))
          simp only [Act.put, List.setIfInBounds_toArray, List.set_cons_zero, List.set_cons_succ]
          refine wpAnyH_take (i := 14) (oi := ?o15) (v := ?v15) ?hi15 (by kernel_rfl) (by kernel_rfl) (by kernel_rfl) ?hQ15 (Or.inl ⟨?hw15, ?hy15⟩) (by assumption) ?_
          case hi15 => (simp only [List.getElem?_toArray, List.getElem?_cons_succ, List.getElem?_cons_zero]; rfl)
          case hQ15 => exact fun _ _ _ h => h
          case hw15 => rfl
          case hy15 => (intro w hSw; (try dsimp only at hSw); go_simp; (try with_reducible rfl))
          simp only [Act.put, List.setIfInBounds_toArray, List.set_cons_zero, List.set_cons_succ]
          refine wpAnyH_take (i := 15) (oi := ?o16) (v := ?v16) ?hi16 (by kernel_rfl) (by kernel_rfl) (by kernel_rfl) ?hQ16 (Or.inl ⟨?hw16, ?hy16⟩) (by assumption) ?_
          case hi16 => (simp only [List.getElem?_toArray, List.getElem?_cons_succ, List.getElem?_cons_zero]; rfl)
          case hQ16 => exact fun _ _ _ h => h
          case hw16 => rfl
          case hy16 => (intro w hSw; (try dsimp only at hSw); go_simp; (try with_reducible rfl))
          simp only [Act.put, List.setIfInBounds_toArray, List.set_cons_zero, List.set_cons_succ]
          refine wpAnyH_take (i := 16) (oi := ?o17) (v := ?v17) ?hi17 (by kernel_rfl) (by kernel_rfl) (by kernel_rfl) ?hQ17 (Or.inl ⟨?hw17, ?hy17⟩) (by assumption) ?_
          case hi17 => (simp only [List.getElem?_toArray, List.getElem?_cons_succ, List.getElem?_cons_zero]; rfl)
          case hQ17 => exact fun _ _ _ h => h
          case hw17 => rfl
          case hy17 => (intro w hSw; (try dsimp only at hSw); go_simp; (try with_reducible rfl))
          simp only [Act.put, List.setIfInBounds_toArray, List.set_cons_zero, List.set_cons_succ]
          refine wpAnyH_take (i := 17) (oi := ?o18) (v := ?v18) ?hi18 (by kernel_rfl) (by kernel_rfl) (by kernel_rfl) ?hQ18 (Or.inl ⟨?hw18, ?hy18⟩) (by assumption) ?_
          case hi18 => (simp only [List.getElem?_toArray, List.getElem?_cons_succ, List.getElem?_cons_zero]; rfl)
          case hQ18 => exact fun _ _ _ h => h
          case hw18 => rfl
          case hy18 => (intro w hSw; (try dsimp only at hSw); go_simp; (try with_reducible rfl))
          simp only [Act.put, List.setIfInBounds_toArray, List.set_cons_zero, List.set_cons_succ]
          refine wpAnyH_take (i := 18) (oi := ?o19) (v := ?v19) ?hi19 (by kernel_rfl) (by kernel_rfl) (by kernel_rfl) ?hQ19 (Or.inl ⟨?hw19, ?hy19⟩) (by assumption) ?_
          case hi19 => (simp only [List.getElem?_toArray, List.getElem?_cons_succ, List.getElem?_cons_zero]; rfl)
          case hQ19 => exact fun _ _ _ h => h
          case hw19 => rfl
          case hy19 => (intro w hSw; (try dsimp only at hSw); go_simp; (try with_reducible rfl))
          simp only [Act.put, List.setIfInBounds_toArray, List.set_cons_zero, List.set_cons_succ]
          refine wpAnyH_take (i := 19) (oi := ?o20) (v := ?v20) ?hi20 (by kernel_rfl) (by kernel_rfl) (by kernel_rfl) ?hQ20 (Or.inl ⟨?hw20, ?hy20⟩) (by assumption) ?_
          case hi20 => (simp only [List.getElem?_toArray, List.getElem?_cons_succ, List.getElem?_cons_zero]; rfl)
          case hQ20 => exact fun _ _ _ h => h
          case hw20 => rfl
          case hy20 => (intro w hSw; (try dsimp only at hSw); go_simp; (try with_reducible rfl))
          simp only [Act.put, List.setIfInBounds_toArray, List.set_cons_zero, List.set_cons_succ]
          refine wpAnyH_take (i := 20) (oi := ?o21) (v := ?v21) ?hi21 (by kernel_rfl) (by kernel_rfl) (by kernel_rfl) ?hQ21 (Or.inl ⟨?hw21, ?hy21⟩) (by assumption) ?_
          case hi21 => (simp only [List.getElem?_toArray, List.getElem?_cons_succ, List.getElem?_cons_zero]; rfl)
          case hQ21 => exact fun _ _ _ h => h
          case hw21 => rfl
          case hy21 => (intro w hSw; (try dsimp only at hSw); go_simp; (try with_reducible rfl))
          simp only [Act.put, List.setIfInBounds_toArray, List.set_cons_zero, List.set_cons_succ]
          refine wpAnyH_take (i := 21) (oi := ?o22) (v := ?v22) ?hi22 (by kernel_rfl) (by kernel_rfl) (by kernel_rfl) ?hQ22 (Or.inl ⟨?hw22, ?hy22⟩) (by assumption) ?_
          case hi22 => (simp only [List.getElem?_toArray, List.getElem?_cons_succ, List.getElem?_cons_zero]; rfl)
          case hQ22 => exact fun _ _ _ h => h
          case hw22 => rfl
          case hy22 => (intro w hSw; (try dsimp only at hSw); go_simp; (try with_reducible rfl))
          simp only [Act.put, List.setIfInBounds_toArray, List.set_cons_zero, List.set_cons_succ]
          refine wpAnyH_take (i := 22) (oi := ?o23) (v := ?v23) ?hi23 (by kernel_rfl) (by kernel_rfl) (by kernel_rfl) ?hQ23 (Or.inl ⟨?hw23, ?hy23⟩) (by assumption) ?_
          case hi23 => (simp only [List.getElem?_toArray, List.getElem?_cons_succ, List.getElem?_cons_zero]; rfl)
          case hQ23 => exact fun _ _ _ h => h
          case hw23 => rfl
          case hy23 => (intro w hSw; (try dsimp only at hSw); go_simp; (try with_reducible rfl))
          simp only [Act.put, List.setIfInBounds_toArray, List.set_cons_zero, List.set_cons_succ]
          refine wpAnyH_take (i := 23) (oi := ?o24) (v := ?v24) ?hi24 (by kernel_rfl) (by kernel_rfl) (by kernel_rfl) ?hQ24 (Or.inl ⟨?hw24, ?hy24⟩) (by assumption) ?_
          case hi24 => (simp only [List.getElem?_toArray, List.getElem?_cons_succ, List.getElem?_cons_zero]; rfl)
          case hQ24 => exact fun _ _ _ h => h
          case hw24 => rfl
          case hy24 => (intro w hSw; (try dsimp only at hSw); go_simp; (try with_reducible rfl))
          simp only [Act.put, List.setIfInBounds_toArray, List.set_cons_zero, List.set_cons_succ]
          refine wpAnyH_take (i := 24) (oi := ?o25) (v := ?v25) ?hi25 (by kernel_rfl) (by kernel_rfl) (by kernel_rfl) ?hQ25 (Or.inl ⟨?hw25, ?hy25⟩) (by assumption) ?_
          case hi25 => (simp only [List.getElem?_toArray, List.getElem?_cons_succ, List.getElem?_cons_zero]; rfl)
          case hQ25 => exact fun _ _ _ h => h
          case hw25 => rfl
          case hy25 => (intro w hSw; (try dsimp only at hSw); go_simp; (try with_reducible rfl))
          simp only [Act.put, List.setIfInBounds_toArray, List.set_cons_zero, List.set_cons_succ]
          refine wpAnyH_take (i := 25) (oi := ?o26) (v := ?v26) ?hi26 (by kernel_rfl) (by kernel_rfl) (by kernel_rfl) ?hQ26 (Or.inl ⟨?hw26, ?hy26⟩) (by assumption) ?_
          case hi26 => (simp only [List.getElem?_toArray, List.getElem?_cons_succ, List.getElem?_cons_zero]; rfl)
          case hQ26 => exact fun _ _ _ h => h
          case hw26 => rfl
          case hy26 => (intro w hSw; (try dsimp only at hSw); go_simp; (try with_reducible rfl))
          simp only [Act.put, List.setIfInBounds_toArray, List.set_cons_zero, List.set_cons_succ]
          refine wpAnyH_take (i := 26) (oi := ?o27) (v := ?v27) ?hi27 (by kernel_rfl) (by kernel_rfl) (by kernel_rfl) ?hQ27 (Or.inl ⟨?hw27, ?hy27⟩) (by assumption) ?_
          case hi27 => (simp only [List.getElem?_toArray, List.getElem?_cons_succ, List.getElem?_cons_zero]; rfl)
          case hQ27 => exact fun _ _ _ h => h
          case hw27 => rfl
          case hy27 => (intro w hSw; (try dsimp only at hSw); go_simp; (try with_reducible rfl))
          simp only [Act.put, List.setIfInBounds_toArray, List.set_cons_zero, List.set_cons_succ]
          refine wpAnyH_take (i := 27) (oi := ?o28) (v := ?v28) ?hi28 (by kernel_rfl) (by kernel_rfl) (by kernel_rfl) ?hQ28 (Or.inl ⟨?hw28, ?hy28⟩) (by assumption) ?_
          case hi28 => (simp only [List.getElem?_toArray, List.getElem?_cons_succ, List.getElem?_cons_zero]; rfl)
          case hQ28 => exact fun _ _ _ h => h
          case hw28 => rfl
          case hy28 => (intro w hSw; (try dsimp only at hSw); go_simp; (try with_reducible rfl))
          simp only [Act.put, List.setIfInBounds_toArray, List.set_cons_zero, List.set_cons_succ]
          refine wpAnyH_take (i := 28) (oi := ?o29) (v := ?v29) ?hi29 (by kernel_rfl) (by kernel_rfl) (by kernel_rfl) ?hQ29 (Or.inl ⟨?hw29, ?hy29⟩) (by assumption) ?_
          case hi29 => (simp only [List.getElem?_toArray, List.getElem?_cons_succ, List.getElem?_cons_zero]; rfl)
          case hQ29 => exact fun _ _ _ h => h
          case hw29 => rfl
          case hy29 => (intro w hSw; (try dsimp only at hSw); go_simp; (try with_reducible rfl))
          simp only [Act.put, List.setIfInBounds_toArray, List.set_cons_zero, List.set_cons_succ]
          refine wpAnyH_done (by kernel_rfl) ?_ _
          obtain ⟨W9, hW9⟩ : ∃ W9, W9 = W8.drew := ⟨_, rfl⟩
          rw [← hW9]
          have b9 : Below W8.heap.size W8 W9 := by rw [hW9]; exact below_drew (Below.refl _ _)
          have H9 := hide (And.intro ((unhide H8).1.below b9) ((unhide H8).2.below b9))
          obtain ⟨R3, hR3⟩ : ∃ R3, (⟨j1, j2, j3, j4, j5⟩ :: S : List Tmr) = R3 := ⟨_, rfl⟩
          rw [hR3] at H9 HN
          have hn64 : rn2 ≤ 64 := by rw [← unhide HN]; exact (unhide H9).1.v.q.len
          clear hR3 hW9 b9 H8 HW8 s0 s1 s2 s3 s4 z0 z1 z2 z3 z4 CL hdr hp4 hp5 hp0 hgl hN1
          go_wp2_with fail
          go_loopw [186] (fun d w' => ∃ j : Nat, d = .int .i64 (j : Int) ∧ j ≤ rn2 ∧ Hid (Below W9.heap.size W9 w')) (fun d _ => rn2 - (intOf d).toNat)
          case atStart => exact ⟨0, rfl, by omega, hide (Below.refl _ _)⟩
          case round =>
            obtain ⟨j, rfl, hj, HJ⟩ := hrel
            by_cases hjl : j < rn2
            · obtain ⟨y, hy⟩ : ∃ y, R3[j]? = some y := ⟨_, List.getElem?_eq_getElem (by rw [unhide HN]; exact hjl)⟩
              have qr := (unhide H9).1.below (unhide HJ)
              have rr := (unhide H9).2.below (unhide HJ)
              obtain ⟨g', o', hgo, hgl', y0, y1, y2, y3, y4⟩ := tcells qr.row hy
              cases hgo
              obtain ⟨gA, oA, rfl, hgA, x0, x1, x2, x3, x4⟩ := tcells rr hy
              have hym := List.mem_of_getElem? hy
              have hyo := (qr.v.q.ok y hym).1
              have hyi : y.id ∈ idsT R3 := List.mem_map.2 ⟨y, hym, rfl⟩
              obtain ⟨B10, hB10⟩ : ∃ b, wr.heap.size = b := ⟨_, rfl⟩
              obtain ⟨y1', y2', y3', y4', y5'⟩ := y
              simp only at y0 y1 y2 y3 y4 x0 x1 x2 x3 x4 hyo hyi
              obtain ⟨W10, hW10⟩ : ∃ W10, W10 = wr.alloc (.cells #[.int .i64 y1', .int .i64 y2', .int .i64 y3', .int .i64 y4', .bool y5'] 28) := ⟨_, rfl⟩
              have b10 : Below wr.heap.size wr W10 := by rw [hW10]; exact one_below _ _
              have k10 : Blk W10 B10 28 #[.int .i64 y1', .int .i64 y2', .int .i64 y3', .int .i64 y4', .bool y5'] := by rw [hW10]; exact Blk.new_at _ _ _ hB10.symm
              have q10 := qr.below b10
              have CH := hide (fun w' (hb : Below W10.heap.size W10 w') => shas (q10.below hb).v.q y1' hyo)
              rw [decide_eq_true hyi] at CH
              have s0 := fun w' (hb : Below W10.heap.size W10 w') => cellB hb (cellB b10 x0)
              have s1 := fun w' (hb : Below W10.heap.size W10 w') => cellB hb (cellB b10 x1)
              have s2 := fun w' (hb : Below W10.heap.size W10 w') => cellB hb (cellB b10 x2)
              have s3 := fun w' (hb : Below W10.heap.size W10 w') => cellB hb (cellB b10 x3)
              have s4 := fun w' (hb : Below W10.heap.size W10 w') => cellB hb (cellB b10 x4)
              have z0 := hkHeld k10 0 (.int .i64 y1') rfl
              have z1 := hkHeld k10 1 (.int .i64 y2') rfl
              have z2 := hkHeld k10 2 (.int .i64 y3') rfl
              have z3 := hkHeld k10 3 (.int .i64 y4') rfl
              have z4 := hkHeld k10 4 (.bool y5') rfl
              have hdr : Below W10.heap.size W10 W10.drew := below_drew (Below.refl _ _)
              have HB10 := hide ((unhide HJ).trans (b10.mono (unhide HJ).size))
              have HW10 := hide hW10
              have hS10 : W9.heap.size ≤ W10.heap.size := Nat.le_trans (unhide HJ).size b10.size
              have hp0 : (0 : Int) ≤ (j : Int) := by omega
              have hp1 : (j : Int) < (rn2 : Int) := by omega
              clear hym hyo hyi qr rr q10 k10 b10 hW10 HJ hy x0 x1 x2 x3 x4 hgl' hgA
              go_wp2_with fail
              rw [← unhide HW10]
              clear y0 y1 y2 y3 y4
              refine wp_region_held_drew (S := (fun w' => Below W10.heap.size W10 w')) (by kernel_rfl) ?_ (fun hHeld => ?_)
              · (first | (with_reducible assumption))
              refine wpAnyH_take (i := 0) (oi := ?o30) (v := ?v30) ?hi30 (by kernel_rfl) (by kernel_rfl) (by kernel_rfl) ?hQ30 (Or.inl ⟨?hw30, ?hy30⟩) (by assumption) ?_
              case hi30 => (simp only [List.getElem?_toArray, List.getElem?_cons_zero]; rfl)
              case hQ30 => exact fun _ _ _ h => h
              case hw30 => rfl
              case hy30 => (intro w hSw; (try dsimp only at hSw); go_simp; (try with_reducible rfl))
              simp only [Act.put, List.setIfInBounds_toArray, List.set_cons_zero, List.set_cons_succ]
              refine wpAnyH_take (i := 1) (oi := ?o31) (v := ?v31) ?hi31 (by kernel_rfl) (by kernel_rfl) (by kernel_rfl) ?hQ31 (Or.inl ⟨?hw31, ?hy31⟩) (by assumption) ?_
              case hi31 => (simp only [List.getElem?_toArray, List.getElem?_cons_succ, List.getElem?_cons_zero]; rfl)
              case hQ31 => exact fun _ _ _ h => h
              case hw31 => rfl
              case hy31 => (intro w hSw; (try dsimp only at hSw); go_simp; (try with_reducible rfl))
              simp only [Act.put, List.setIfInBounds_toArray, List.set_cons_zero, List.set_cons_succ]
              refine wpAnyH_take (i := 2) (oi := ?o32) (v := ?v32) ?hi32 (by kernel_rfl) (by kernel_rfl) (by kernel_rfl) ?hQ32 (Or.inl ⟨?hw32, ?hy32⟩) (by assumption) ?_
              case hi32 => (simp only [List.getElem?_toArray, List.getElem?_cons_succ, List.getElem?_cons_zero]; rfl)
              case hQ32 => exact fun _ _ _ h => h
              case hw32 => rfl
              case hy32 => (intro w hSw; (try dsimp only at hSw); go_simp; (try with_reducible rfl))
              simp only [Act.put, List.setIfInBounds_toArray, List.set_cons_zero, List.set_cons_succ]
              refine wpAnyH_take (i := 3) (oi := ?o33) (v := ?v33) ?hi33 (by kernel_rfl) (by kernel_rfl) (by kernel_rfl) ?hQ33 (Or.inl ⟨?hw33, ?hy33⟩) (by assumption) ?_
              case hi33 => (simp only [List.getElem?_toArray, List.getElem?_cons_succ, List.getElem?_cons_zero]; rfl)
              case hQ33 => exact fun _ _ _ h => h
              case hw33 => rfl
              case hy33 => (intro w hSw; (try dsimp only at hSw); go_simp; (try with_reducible rfl))
              simp only [Act.put, List.setIfInBounds_toArray, List.set_cons_zero, List.set_cons_succ]
              refine wpAnyH_take (i := 4) (oi := ?o34) (v := ?v34) ?hi34 (by kernel_rfl) (by kernel_rfl) (by kernel_rfl) ?hQ34 (Or.inl ⟨?hw34, ?hy34⟩) (by assumption) ?_
              case hi34 => (simp only [List.getElem?_toArray, List.getElem?_cons_succ, List.getElem?_cons_zero]; rfl)
              case hQ34 => exact fun _ _ _ h => h
              case hw34 => rfl
              case hy34 => (intro w hSw; (try dsimp only at hSw); go_simp; (try with_reducible rfl))
              simp only [Act.put, List.setIfInBounds_toArray, List.set_cons_zero, List.set_cons_succ]
              refine wpAnyH_take (i := 5) (oi := ?o35) (v := ?v35) ?hi35 (by kernel_rfl) (by kernel_rfl) (by kernel_rfl) ?hQ35 (Or.inl ⟨?hw35, ?hy35⟩) (by assumption) ?_
              case hi35 => (simp only [List.getElem?_toArray, List.getElem?_cons_succ, List.getElem?_cons_zero]; rfl)
              case hQ35 => exact fun _ _ _ h => h
              case hw35 => rfl
              case hy35 => (intro w hSw; (try dsimp only at hSw); go_simp; (try with_reducible rfl))
              simp only [Act.put, List.setIfInBounds_toArray, List.set_cons_zero, List.set_cons_succ]
              refine wpAnyH_take (i := 6) (oi := ?o36) (v := ?v36) ?hi36 (by kernel_rfl) (by kernel_rfl) (by kernel_rfl) ?hQ36 (Or.inl ⟨?hw36, ?hy36⟩) (by assumption) ?_
              case hi36 => (simp only [List.getElem?_toArray, List.getElem?_cons_succ, List.getElem?_cons_zero]; rfl)
              case hQ36 => exact fun _ _ _ h => h
              case hw36 => rfl
              case hy36 => (intro w hSw; (try dsimp only at hSw); go_simp; (try with_reducible rfl))
              simp only [Act.put, List.setIfInBounds_toArray, List.set_cons_zero, List.set_cons_succ]
              refine wpAnyH_take (i := 7) (oi := ?o37) (v := ?v37) ?hi37 (by kernel_rfl) (by kernel_rfl) (by kernel_rfl) ?hQ37 (Or.inl ⟨?hw37, ?hy37⟩) (by assumption) ?_
              case hi37 => (simp only [List.getElem?_toArray, List.getElem?_cons_succ, List.getElem?_cons_zero]; rfl)
              case hQ37 => exact fun _ _ _ h => h
              case hw37 => rfl
              case hy37 => (intro w hSw; (try dsimp only at hSw); go_simp; (try with_reducible rfl))
              simp only [Act.put, List.setIfInBounds_toArray, List.set_cons_zero, List.set_cons_succ]
              refine wpAnyH_take (i := 8) (oi := ?o38) (v := ?v38) ?hi38 (by kernel_rfl) (by kernel_rfl) (by kernel_rfl) ?hQ38 (Or.inl ⟨?hw38, ?hy38⟩) (by assumption) ?_
              case hi38 => (simp only [List.getElem?_toArray, List.getElem?_cons_succ, List.getElem?_cons_zero]; rfl)
              case hQ38 => exact fun _ _ _ h => h
              case hw38 => rfl
              case hy38 => (intro w hSw; (try dsimp only at hSw); go_simp; (try with_reducible rfl))
              simp only [Act.put, List.setIfInBounds_toArray, List.set_cons_zero, List.set_cons_succ]
              refine wpAnyH_take (i := 9) (oi := ?o39) (v := ?v39) ?hi39 (by kernel_rfl) (by kernel_rfl) (by kernel_rfl) ?hQ39 (Or.inl ⟨?hw39, ?hy39⟩) (by assumption) ?_
              case hi39 => (simp only [List.getElem?_toArray, List.getElem?_cons_succ, List.getElem?_cons_zero]; rfl)
              case hQ39 => exact fun _ _ _ h => h
              case hw39 => rfl
              case hy39 => (intro w hSw; (try dsimp only at hSw); go_simp; (try with_reducible rfl))
              simp only [Act.put, List.setIfInBounds_toArray, List.set_cons_zero, List.set_cons_succ]
              refine wpAnyH_ready (rs := [10]) (by kernel_rfl) (by simp) ?_
              refine AllReadyH.cons (o := ?o40) ?hi40 (fun K hK => ?_) AllReadyH.nil
              case hi40 => (simp only [List.getElem?_toArray, List.getElem?_cons_succ, List.getElem?_cons_zero]; rfl)
              go_simp
              (go_at_call 16; refine (unhide CH _ (by assumption)).mono ?_; rintro e wh ⟨rfl, hbh⟩; have hbq := Below.trans (by assumption) (Below.mono hbh (Below.size (by assumption))); clear hbh)
              refine hK.out _ _ ?_ (fun hHeld => ?_)
              · (first | (with_reducible assumption))
              clear hK K
              refine wpAnyH_take (i := 11) (oi := ?o41) (v := ?v41) ?hi41 (by kernel_rfl) (by kernel_rfl) (by kernel_rfl) ?hQ41 (Or.inl ⟨?hw41, ?hy41⟩) (by assumption) ?_
              case hi41 => (simp only [List.getElem?_toArray, List.getElem?_cons_succ, List.getElem?_cons_zero]; rfl)
              case hQ41 => exact fun _ _ _ h => h
              case hw41 => rfl
              case hy41 => (intro w hSw; (try dsimp only at hSw); go_simp; (try with_reducible rfl))
              simp only [Act.put, List.setIfInBounds_toArray, List.set_cons_zero, List.set_cons_succ]
              refine wpAnyH_take (i := 12) (oi := ?o42) (v := ?v42) ?hi42 (by kernel_rfl) (by kernel_rfl) (by kernel_rfl) ?hQ42 (Or.inl ⟨?hw42, ?hy42⟩) (by assumption) ?_
              case hi42 => (simp only [List.getElem?_toArray, List.getElem?_cons_succ, List.getElem?_cons_zero]; rfl)
              case hQ42 => exact fun _ _ _ h => h
              case hw42 => rfl
              case hy42 => (intro w hSw; (try dsimp only at hSw); go_simp; (try with_reducible rfl))
              simp only [Act.put, List.setIfInBounds_toArray, List.set_cons_zero, List.set_cons_succ]
              refine wpAnyH_done (by kernel_rfl) ?_ _
              have HB11 := hide ((unhide HB10).trans (hbq.mono hS10))
              clear s0 s1 s2 s3 s4 z0 z1 z2 z3 z4 hdr CH hbq
              go_wp2_with fail
              go_roundw
              case rel => exact ⟨j + 1, by first | rfl | go_num, by omega, HB11⟩
              case measure => simp [intOf]; omega
            · obtain rfl : j = rn2 := by omega
              have H10 := hide ((unhide H9).1.below (unhide HJ))
              clear HJ H9 HN
              go_wp2_with fail
              go_roundw
              case rel => exact ⟨i + 1, R3, _, j, rcap2, by first | rfl | go_num, unhide HLT, rfl, H10⟩
              case measure => have := unhide HLT; simp [intOf]; omega
    · obtain rfl : i = len := by omega
      have HB := hide (unhide HI).v.low
      clear HI
      go_wp2_with fail
      go_ret
      exact ⟨rfl, unhide HB⟩
end Go.Proofs.Ytihfldjoogaolaa
