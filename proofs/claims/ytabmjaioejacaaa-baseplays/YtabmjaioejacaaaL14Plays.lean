import Derived.Test.YtabmjaioejacaaaL14Fixed
import Derived.Test.YtabmjaioejacaaaLb2
import Derived.Test.YtabmjaioejacaaaRgOne
import Derived.Deep.DeepCutAuto
import Derived.Deep.CutBlock
namespace Go.Proofs.Ytabmjaioejacaaa
open Go.RowKit Kt Qu
set_option linter.unusedVariables false
set_option linter.unusedSimpArgs false

/-- A base, and the law's row of the same timers. -/
structure BP (C : Nat) (w0 w : World) (b n : Nat) (P : Nat → Option Qa) (R : Rows6) (ra : Option Addr) (rn rcap : Nat) : Prop where
  v : Bv C w0 w b n P R
  row : Rd rtm w C ra rn rcap (allT R)
  out : ∀ x, ra = some x → ¬ bfoot b P x.block
  le : rn ≤ n
section
variable {C : Nat} {w0 w w' : World} {b n n' : Nat} {P P' : Nat → Option Qa} {R R' : Rows6} {ra : Option Addr} {rn rcap : Nat}
theorem BP.below (h : BP C w0 w b n P R ra rn rcap) (hb : Below w.heap.size w w') : BP C w0 w' b n P R ra rn rcap := ⟨h.v.below hb, h.row.below hb, h.out, h.le⟩
theorem BP.dr (h : BP C w0 w b n P R ra rn rcap) (m : Nat) : BP C w0 (w.drewN m) b n P R ra rn rcap := h.below ⟨rfl, rfl, rfl, Nat.le_refl _, fun _ _ => rfl⟩
theorem BP.al (h : BP C w0 w b n P R ra rn rcap) (o : Obj) : BP C w0 (w.alloc o) b n P R ra rn rcap := h.below (one_below w o)
theorem BP.up (h : BP C w0 w b n P R ra rn rcap) (hn : n < 1000000) : BP C w0 w b (n + 1) P R ra rn rcap := ⟨⟨h.v.bs.up hn, h.v.low, h.v.cs, h.v.foot⟩, h.row, h.out, by have := h.le; omega⟩
/-- The base has changed, its timers not. -/
theorem BP.step (h : BP C w0 w b n P R ra rn rcap) (h2 : Bs w' b n' P' R) (hn : n ≤ n') (f : Ft (bfoot b P) w w') (hf : ∀ k, bfoot b P' k → bfoot b P k ∨ w.heap.size ≤ k) : BP C w0 w' b n' P' R ra rn rcap :=
  ⟨h.v.step h2 f hf, h.row.ft f h.out, fun x hx hk => by
    rcases hf _ hk with q | q
    · exact h.out x hx q
    · have := (h.row.blk x hx).2.1; omega, by have := h.le; omega⟩
/-- A new row, that lies behind the base. -/
theorem BP.of {v : Value} {D : Nat} (h : Bv C w0 w' b n' P' R) (hr : Rg rtm w' D v (allT R)) (hD : C ≤ D) (hf : ∀ k, bfoot b P' k → ∀ g, v.ownBlock = some g → k ≠ g) (hl : (allT R).length ≤ n') : ∃ ra rcap, v = .slice ra (allT R).length rcap ∧ BP C w0 w' b n' P' R ra (allT R).length rcap := by
  obtain ⟨ra, rcap, e, h2⟩ := Rd.of (hr.mono hD)
  exact ⟨ra, rcap, e, h, h2, fun x hx hk => hf _ hk x.block (by rw [e, hx]; rfl) rfl, hl⟩
end
/-- What the law's look for an ID has found ahead of place j. -/
def PT (L : List Tmr) (id : Int) (j : Nat) (p : Int) : Prop := (p = -1 ∧ ∀ (i : Nat) (x : Tmr), i < j → L[i]? = some x → x.id ≠ id) ∨ ∃ (X Y : List Tmr) (t : Tmr), L = X ++ t :: Y ∧ t.id = id ∧ p = (X.length : Int)
theorem PT.none {L : List Tmr} {id p : Int} (h : PT L id L.length p) (hp : id ∉ idsT L) : p = -1 := by
  rcases h with ⟨h1, -⟩ | ⟨X, Y, t, h1, h2, -⟩
  · exact h1
  · exact absurd (show id ∈ idsT L by rw [h1, ← h2]; unfold idsT; simp) hp
theorem PT.some {L : List Tmr} {id p : Int} (h : PT L id L.length p) (hp : id ∈ idsT L) : ∃ (X Y : List Tmr) (t : Tmr), L = X ++ t :: Y ∧ t.id = id ∧ p = (X.length : Int) := by
  rcases h with ⟨-, h2⟩ | h
  · obtain ⟨y, hy, e⟩ := List.mem_map.1 hp
    obtain ⟨i, hi, he⟩ := List.getElem_of_mem hy
    exact absurd e (h2 i y hi (by rw [List.getElem?_eq_getElem hi, he]))
  · exact h
theorem cell9 {w : World} {g : Nat} {t : TypeId} {c0 c1 c2 c3 c4 c5 c6 c7 c8 : Value} (h : Blk w g t #[c0, c1, c2, c3, c4, c5, c6, c7, c8]) : ∀ w', Below w.heap.size w w' → w'.cell? ⟨g, 0, none⟩ = some c0 ∧ w'.cell? ⟨g, 1, none⟩ = some c1 ∧ w'.cell? ⟨g, 2, none⟩ = some c2 ∧ w'.cell? ⟨g, 3, none⟩ = some c3 ∧ w'.cell? ⟨g, 4, none⟩ = some c4 ∧ w'.cell? ⟨g, 5, none⟩ = some c5 ∧ w'.cell? ⟨g, 6, none⟩ = some c6 ∧ w'.cell? ⟨g, 7, none⟩ = some c7 ∧ w'.cell? ⟨g, 8, none⟩ = some c8 := fun w' hb =>
  ⟨hkHeld h 0 c0 rfl w' hb, hkHeld h 1 c1 rfl w' hb, hkHeld h 2 c2 rfl w' hb, hkHeld h 3 c3 rfl w' hb, hkHeld h 4 c4 rfl w' hb, hkHeld h 5 c5 rfl w' hb, hkHeld h 6 c6 rfl w' hb, hkHeld h 7 c7 rfl w' hb, hkHeld h 8 c8 rfl w' hb⟩
/-- One of two rows of one's own has grown. -/
theorem want_step {D : Nat} {w4 wd w2 : World} {v1 v2 : Value} {A B A' : List Tmr} {gq n cap : Nat} (s : Below D w4 wd ∧ Rg rtm wd D v1 A ∧ Rg rtm wd D v2 B ∧ ∀ q, v1.ownBlock = some q → v2.ownBlock ≠ some q) (hD : D ≤ wd.heap.size)
    (o2 : Rg rtm w2 D (.slice (some ⟨gq, 0, none⟩) n cap) A') (g2 : wd.grownBy w2 v1.ownBlock) (hq : v1.ownBlock = some gq ∨ gq = wd.heap.size + 1) :
    Below D w4 w2 ∧ Rg rtm w2 D (.slice (some ⟨gq, 0, none⟩) n cap) A' ∧ Rg rtm w2 D v2 B ∧ ∀ q, (Value.slice (some ⟨gq, 0, none⟩) n cap).ownBlock = some q → v2.ownBlock ≠ some q := by
  obtain ⟨s1, s2, s3, s4⟩ := s
  refine ⟨s1.grown g2 hD (fun k hk => (s2.lt k hk).1), o2, s3.grown g2 (fun q hq e => s4 q e.symm hq), fun q hq' e => ?_⟩
  cases hq'
  rcases hq with h | h
  · exact s4 gq h e
  · have := (s3.lt gq e).2; omega
set_option maxRecDepth 100000 in
theorem lplays14_long (p : Option Addr) (len cap : Nat) (o0 o1 o2 : Int) (w : World) (hlen : 60 < len) : Calls Try.prog 3 #[.slice p len cap, .agg #[.int .i64 o0, .int .i64 o1, .int .i64 o2]] w fun e w' => e = .returned (.bool true) ∧ Below w.heap.size w w' := by
  have h2 : (60 : Int) < (len : Int) := by omega
  have hb := hide (one_below w (.cells #[.int .i64 o0, .int .i64 o1, .int .i64 o2] 23))
  go_enter Try.func3, Try.ntmps3
  go_wp2_with (go_at_call 5; refine (fixed14 _).mono ?_; rintro e w1 ⟨rfl, hb1⟩)
  go_ret
  exact ⟨rfl, (unhide hb).trans (hb1.mono (unhide hb).size)⟩
set_option maxRecDepth 100000 in
set_option maxHeartbeats 16000000 in
theorem lplays14_short (p : Option Addr) (len cap : Nat) (kd : Nat → Int) (T : Nat → Tmr) (g0 g1 g2 : Nat → Int) (o0 o1 o2 : Int) (w : World) (hlen : len ≤ 60)
    (hkd : ∀ i, i < len → 0 ≤ kd i ∧ kd i ≤ 255) (hk : ∀ i, i < len → okT (T i))
    (hc : ∀ i, i < len → ∃ x, p = some x ∧ x.block < w.heap.size ∧ ∀ k v, (Value.int .u8 (kd i) :: (tc (T i) ++ [.int .i64 (g0 i), .int .i64 (g1 i), .int .i64 (g2 i)]))[k]? = some v → w.cell? ((x.add (i * 9)).add k) = some v) :
    Calls Try.prog 3 #[.slice p len cap, .agg #[.int .i64 o0, .int .i64 o1, .int .i64 o2]] w fun e w' => e = .returned (.bool true) ∧ Below w.heap.size w w' := by
  obtain ⟨g, hg⟩ : ∃ g, w.heap.size = g := ⟨_, rfl⟩
  obtain ⟨W0, hW0⟩ : ∃ W0, W0 = w.alloc (.cells #[.int .i64 o0, .int .i64 o1, .int .i64 o2] 23) := ⟨_, rfl⟩
  have b0 : Below w.heap.size w W0 := by rw [hW0]; exact one_below _ _
  have k0 : Blk W0 g 23 #[.int .i64 o0, .int .i64 o1, .int .i64 o2] := by rw [hW0]; exact Blk.new_at _ _ _ hg.symm
  have CF := hide (fixed14 W0)
  have CN := fun w' => hide (bnew w')
  obtain ⟨C, hC⟩ : ∃ C, W0.heap.size = C := ⟨_, rfl⟩
  rw [hC] at CF
  have hgC : g < C := by have := k0.lt; omega
  have HCC := hide (fun (i : Nat) (hi : i < len) => show ∃ x, p = some x ∧ x.block < C ∧ ∀ k v, (Value.int .u8 (kd i) :: (tc (T i) ++ [.int .i64 (g0 i), .int .i64 (g1 i), .int .i64 (g2 i)]))[k]? = some v → W0.cell? ((x.add (i * 9)).add k) = some v by
    obtain ⟨x, e, hx, h⟩ := hc i hi
    refine ⟨x, e, by have := b0.size; omega, fun k v hv => ?_⟩
    rw [b0.cell (by rw [show ((x.add (i * 9)).add k).block = x.block by unfold Addr.add; split <;> (split <;> rfl)]; exact hx)]
    exact h k v hv)
  have HK := hide (And.intro hk hkd)
  have HB0 := hide b0
  have HK0 := hide k0
  have hl2 : ((len : Nat) : Int) ≤ 60 := by omega
  have HW0 := hide hW0
  clear hc hk hkd b0 k0 hW0
  go_enter Try.func3, Try.ntmps3
  go_wp2_with (go_at_call 5; refine Hid.out ?_)
  refine hide ?_
  rw [← unhide HW0]
  refine (unhide CF).mono ?_
  rintro e w1 ⟨rfl, hb1⟩
  have HB1 := hide hb1
  clear hb1
  go_wp2_with (go_at_call 6; refine Hid.out ?_)
  refine hide ?_
  refine (unhide (CN _)).mono ?_
  rintro e w2 ⟨b, rfl, q2, hb2, hf2⟩
  have H2 : Hid (BP C W0 w2 b 0 (fun _ => none) (fun _ => []) none 0 0) := hide ⟨Bv.new (unhide HB1) (by have := (unhide HB1).size; omega) q2 hb2 hf2, Rd.empty _ _, (fun x e => by cases e), Nat.le_refl _⟩
  clear q2 hb2 hf2 HB1 CF CN HW0
  go_wp2_with fail
  go_loopw [6, 35] (fun s6 s35 w' => ∃ (i : Nat) (P : Nat → Option Qa) (R : Rows6) (ra : Option Addr) (rn rcap : Nat), s35 = .int .i64 (i : Int) ∧ i ≤ len ∧ s6 = .slice ra rn rcap ∧ Hid (BP C W0 w' b i P R ra rn rcap)) (fun _ d _ => len - (intOf d).toNat)
  case atStart => exact ⟨0, _, _, none, 0, 0, rfl, by omega, rfl, H2⟩
  case round =>
    clear H2
    obtain ⟨i, P, R, ra, rn, rcap, rfl, hi, rfl, HI⟩ := hrel
    by_cases hlt : i < len
    · obtain ⟨x, rfl, hx, hcl⟩ := (unhide HCC) i hlt
      have hki := (unhide HK).1 i hlt
      have hkd := (unhide HK).2 i hlt
      have hcl2 : ∀ k v, (Value.int .u8 (kd i) :: (tc (T i) ++ [.int .i64 (g0 i), .int .i64 (g1 i), .int .i64 (g2 i)]))[k]? = some v → wr.cell? ((x.add (i * 9)).add k) = some v := fun k v hv => by
        rw [(unhide HI).v.low.cell (by rw [show ((x.add (i * 9)).add k).block = x.block by unfold Addr.add; split <;> (split <;> rfl)]; exact hx)]
        exact hcl k v hv
      clear hcl
      generalize T i = t at *
      generalize kd i = K at *
      generalize g0 i = n0 at *
      generalize g1 i = n1 at *
      generalize g2 i = n2 at *
      obtain ⟨i1, i2, i3, i4, i5⟩ := t
      have e0 : wr.cell? (x.add (i * 9)) = some (.int .u8 K) := hcl2 0 _ rfl
      have e1 : wr.cell? ⟨(x.add (i * 9)).block, (x.add (i * 9)).off + 1, none⟩ = some (.int .i64 i1) := hcl2 1 _ rfl
      have e2 : wr.cell? ⟨(x.add (i * 9)).block, (x.add (i * 9)).off + 2, none⟩ = some (.int .i64 i2) := hcl2 2 _ rfl
      have e3 : wr.cell? ⟨(x.add (i * 9)).block, (x.add (i * 9)).off + 3, none⟩ = some (.int .i64 i3) := hcl2 3 _ rfl
      have e4 : wr.cell? ⟨(x.add (i * 9)).block, (x.add (i * 9)).off + 4, none⟩ = some (.int .i64 i4) := hcl2 4 _ rfl
      have e5 : wr.cell? ⟨(x.add (i * 9)).block, (x.add (i * 9)).off + 5, none⟩ = some (.bool i5) := hcl2 5 _ rfl
      have e6 : wr.cell? ⟨(x.add (i * 9)).block, (x.add (i * 9)).off + 6, none⟩ = some (.int .i64 n0) := hcl2 6 _ rfl
      have e7 : wr.cell? ⟨(x.add (i * 9)).block, (x.add (i * 9)).off + 7, none⟩ = some (.int .i64 n1) := hcl2 7 _ rfl
      have e8 : wr.cell? ⟨(x.add (i * 9)).block, (x.add (i * 9)).off + 8, none⟩ = some (.int .i64 n2) := hcl2 8 _ rfl
      obtain ⟨bx, hbx⟩ : ∃ b, wr.heap.size = b := ⟨_, rfl⟩
      obtain ⟨W3, hW3⟩ : ∃ W3, W3 = wr.alloc (.cells #[.int .u8 K, .int .i64 i1, .int .i64 i2, .int .i64 i3, .int .i64 i4, .bool i5, .int .i64 n0, .int .i64 n1, .int .i64 n2] 31) := ⟨_, rfl⟩
      have b3 : Below wr.heap.size wr W3 := by rw [hW3]; exact one_below _ _
      have k3 : Blk W3 bx 31 #[.int .u8 K, .int .i64 i1, .int .i64 i2, .int .i64 i3, .int .i64 i4, .bool i5, .int .i64 n0, .int .i64 n1, .int .i64 n2] := by rw [hW3]; exact Blk.new_at _ _ _ hbx.symm
      have hgx : ¬ bfoot b P bx := fun hF => by have := (unhide HI).v.bs.lts bx hF; omega
      have q3 := (unhide HI).below b3
      have hCbx : C ≤ bx := by have := (unhide HI).v.cs; omega
      have hrn : rn ≤ 60 := by have := q3.le; omega
      have HOK := hide hki
      have H3 := hide (And.intro q3 (And.intro k3 (And.intro hgx hCbx)))
      have HW3 := hide hW3
      have hmd : K % 3 = 0 ∨ K % 3 = 1 ∨ K % 3 = 2 := by omega
      have em : K.tmod 3 = K % 3 := Int.tmod_eq_emod_of_nonneg hkd.1
      have HLT := hide (show i < len from hlt)
      clear b3 k3 hgx q3 hW3 HI hcl2 hki hCbx
      go_upto_region 10 with fail
      rw [← unhide HW3]
      clear e0 e1 e2 e3 e4 e5 e6 e7 e8 HW3
      go_wp2_with fail
      go_loopw [9, 41] (fun s9 s41 w' => ∃ (j : Nat) (pp : Int), s41 = .int .i64 (j : Int) ∧ j ≤ rn ∧ s9 = .int .i64 pp ∧ Hid (Below W3.heap.size W3 w' ∧ PT (allT R) i1 j pp)) (fun _ d _ => rn - (intOf d).toNat)
      case atStart => exact ⟨0, -1, rfl, by omega, rfl, hide ⟨Below.refl _ _, .inl ⟨rfl, fun i x hi => by omega⟩⟩⟩
      case round =>
        obtain ⟨j, pp, rfl, hj, rfl, HJ⟩ := hrel
        by_cases hjl : j < rn
        · have q4 := (unhide H3).1.below (unhide HJ).1
          obtain ⟨y, hy⟩ : ∃ y, (allT R)[j]? = some y := ⟨_, List.getElem?_eq_getElem (by rw [← q4.row.len]; exact hjl)⟩
          obtain ⟨gr, or, hra, hgl, y0, y1, y2, y3, y4⟩ := tcells q4.row hy
          subst hra
          have k4 := (unhide H3).2.1.below (unhide HJ).1 (unhide H3).2.1.lt
          have a1 := blkAt k4 1 (.int .i64 i1) rfl
          have hbl := k4.lt
          have HY := hide hy
          obtain ⟨j1, j2, j3, j4, j5⟩ := y
          simp only at y0 y1 y2 y3 y4
          have HB := hide ((unhide HJ).1.trans ((one_below wr (.cells #[.int .i64 j1, .int .i64 j2, .int .i64 j3, .int .i64 j4, .bool j5] 29)).mono (unhide HJ).1.size))
          have HP := hide (unhide HJ).2
          clear q4 k4 hy HJ
          by_cases he : j1 = i1
          · subst he
            have hb : (j1 == j1) = true := by simp
            have HP2 := hide (show PT (allT R) j1 (j + 1) (j : Int) from .inr (by
              obtain ⟨h1, h2⟩ := split_at (unhide HY)
              exact ⟨_, _, _, h1, rfl, by rw [h2]⟩))
            go_wp2_with fail
            go_roundw
            case rel => exact ⟨j + 1, j, by first | rfl | go_num, by omega, rfl, hide ⟨unhide HB, unhide HP2⟩⟩
            case measure => simp [intOf]; omega
          · have hb : (j1 == i1) = false := by rw [beq_eq_false_iff_ne]; exact he
            have HP2 := hide (show PT (allT R) i1 (j + 1) pp from (unhide HP).imp (fun h => ⟨h.1, fun k x hk hx => by
              by_cases e : k = j
              · subst e
                have := unhide HY
                rw [hx] at this
                cases this
                exact he
              · exact h.2 k x (by omega) hx⟩) id)
            go_wp2_with fail
            go_roundw
            case rel => exact ⟨j + 1, pp, by first | rfl | go_num, by omega, rfl, hide ⟨unhide HB, unhide HP2⟩⟩
            case measure => simp [intOf]; omega
        · obtain rfl : j = rn := by omega
          have q4 := (unhide H3).1.below (unhide HJ).1
          have k4 := (unhide H3).2.1.below (unhide HJ).1 (unhide H3).2.1.lt
          have hPT := (unhide HJ).2
          rw [q4.row.len] at hPT
          have HPT := hide hPT
          have HA := hide (cell9 k4)
          have x0 := blkAt k4 0 (.int .u8 K) rfl
          have H4 := hide (And.intro q4 (And.intro (unhide H3).2.2.1 (unhide H3).2.2.2))
          have hbl := k4.lt
          generalize wr = w4 at *
          clear q4 k4 hPT HJ H3
          go_upto_block 4 with fail
          go_cut [6, 9, 39, 56] (fun s6 _ _ _ wx => ∃ (P' : Nat → Option Qa) (R' : Rows6) (ra' : Option Addr) (rn' rcap' : Nat), s6 = .slice ra' rn' rcap' ∧ Hid (BP C W0 wx b (i + 1) P' R' ra' rn' rcap'))
          case first =>
            rcases hmd with hmd | hmd | hmd
            · as_aux_lemma =>
                obtain ⟨a0, a1, a2, a3, a4, a5, -, -, -⟩ := unhide HA w4 (Below.refl _ _)
                have CA := hide (bstart (unhide H4).1.v.bs (by have := hlt; omega) ⟨i1, i2, i3, i4, i5⟩ (unhide HOK))
                have hi59 : i ≤ 59 := by have := unhide HLT; omega
                by_cases hc : i2 < 0 ∨ 3 ≤ i2
                · have eE : startE R ⟨i1, i2, i3, i4, i5⟩ = 2 := if_pos hc
                  have eR : startR R ⟨i1, i2, i3, i4, i5⟩ = R := by unfold startR; rw [eE]; rfl
                  rw [eE, eR] at CA
                  simp only [tv] at CA
                  clear eE eR
                  rcases hc with hc | hc
                  · have d1 : decide (i2 < 0) = true := decide_eq_true hc
                    go_wp2_with (go_at_call 8; refine Hid.out ?_)
                    refine hide ?_
                    refine (unhide CA).mono ?_
                    rintro e w6 ⟨rfl, P6, q6, f6, n6⟩
                    have H6 := hide ((unhide H4).1.step q6 (by omega) f6 n6)
                    clear q6 f6 n6 CA H4
                    go_wp2_with fail
                    go_meet
                    exact ⟨_, _, _, _, _, rfl, H6⟩
                  · have d1 : decide (i2 < 0) = false := decide_eq_false (by omega)
                    have d2 : decide (2 < i2) = true := decide_eq_true (by omega)
                    have d3 : ¬ i2 < 0 := by omega
                    have d4 : 2 < i2 := by omega
                    go_wp2_with (go_at_call 8; refine Hid.out ?_)
                    refine hide ?_
                    refine (unhide CA).mono ?_
                    rintro e w6 ⟨rfl, P6, q6, f6, n6⟩
                    have H6 := hide ((unhide H4).1.step q6 (by omega) f6 n6)
                    clear q6 f6 n6 CA H4
                    go_wp2_with fail
                    go_meet
                    exact ⟨_, _, _, _, _, rfl, H6⟩
                · have d1 : decide (i2 < 0) = false := decide_eq_false (by omega)
                  have d2 : decide (2 < i2) = false := decide_eq_false (by omega)
                  have d3 : ¬ i2 < 0 := by omega
                  have d4 : ¬ 2 < i2 := by omega
                  by_cases hm : i1 ∈ idsT (allT R)
                  · have eE : startE R ⟨i1, i2, i3, i4, i5⟩ = 9 := by unfold startE; rw [if_neg hc, if_pos hm]
                    have eR : startR R ⟨i1, i2, i3, i4, i5⟩ = R := by unfold startR; rw [eE]; rfl
                    rw [eE, eR] at CA
                    simp only [tv] at CA
                    obtain ⟨X, Y, t', hR, ht', hpp⟩ := (unhide HPT).some hm
                    subst hpp
                    have hp0 : (0 : Int) ≤ (X.length : Int) := by omega
                    clear eE eR hm hc hR ht'
                    go_wp2_with (go_at_call 8; refine Hid.out ?_)
                    refine hide ?_
                    refine (unhide CA).mono ?_
                    rintro e w6 ⟨rfl, P6, q6, f6, n6⟩
                    have H6 := hide ((unhide H4).1.step q6 (by omega) f6 n6)
                    clear q6 f6 n6 CA H4
                    go_wp2_with fail
                    go_meet
                    exact ⟨_, _, _, _, _, rfl, H6⟩
                  · obtain rfl := (unhide HPT).none hm
                    by_cases hs : i4 < i3
                    · have eE : startE R ⟨i1, i2, i3, i4, i5⟩ = 2 := by unfold startE addE; rw [if_neg hc, if_neg hm, if_pos hs]
                      have eR : startR R ⟨i1, i2, i3, i4, i5⟩ = R := by unfold startR; rw [eE]; rfl
                      rw [eE, eR] at CA
                      simp only [tv] at CA
                      have hs2 : decide (i4 < i3) = true := decide_eq_true hs
                      clear eE eR hm hc
                      go_wp2_with (go_at_call 8; refine Hid.out ?_)
                      refine hide ?_
                      refine (unhide CA).mono ?_
                      rintro e w6 ⟨rfl, P6, q6, f6, n6⟩
                      have H6 := hide ((unhide H4).1.step q6 (by omega) f6 n6)
                      clear q6 f6 n6 CA H4
                      go_wp2_with fail
                      go_meet
                      exact ⟨_, _, _, _, _, rfl, H6⟩
                    · have hs2 : decide (i4 < i3) = false := decide_eq_false hs
                      have hix := ixT_lt (t := ⟨i1, i2, i3, i4, i5⟩) (show 0 ≤ i2 by omega) (show i2 ≤ 2 by omega)
                      have hrl := (unhide H4).1.row.len
                      have hrle := (unhide H4).1.le
                      have hnm : i1 ∉ idsT (R (ixT ⟨i1, i2, i3, i4, i5⟩)) := fun h => hm (mem_ids_upT.2 ⟨_, hix, h⟩)
                      have hnl : ¬ (R (ixT ⟨i1, i2, i3, i4, i5⟩)).length = 64 := by
                        have : (R (ixT ⟨i1, i2, i3, i4, i5⟩)).length ≤ (allT R).length := by
                          rw [allT_split R hix]
                          simp only [List.length_append]
                          omega
                        omega
                      have eE : startE R ⟨i1, i2, i3, i4, i5⟩ = 0 := by unfold startE addE; rw [if_neg hc, if_neg hm, if_neg hs, if_neg hnm, if_neg hnl]
                      have eR : startR R ⟨i1, i2, i3, i4, i5⟩ = putT R ⟨i1, i2, i3, i4, i5⟩ := by unfold startR; rw [if_pos eE]
                      have CPt := hide (tput_any w4 C j rcap ra (unhide H4).1.v.bs.ok (unhide H4).1.row (by omega) ⟨i1, i2, i3, i4, i5⟩ (show 0 ≤ i2 by omega) (show i2 ≤ 2 by omega))
                      have HER := hide (And.intro eE eR)
                      have HPL := hide (show (allT (putT R ⟨i1, i2, i3, i4, i5⟩)).length ≤ i + 1 by rw [(allT_put_perm R hix).length_eq, List.length_cons]; omega)
                      simp only [tv] at CPt
                      clear CA eE eR hm hc hs hix hrl hrle hnm hnl
                      go_wp2_with (go_at_call 7; refine Hid.out ?_)
                      refine hide ?_
                      refine (unhide CPt).mono ?_
                      rintro e w5 ⟨v5, rfl, r5, b5⟩
                      obtain ⟨z0, z1, z2, z3, z4, z5, -, -, -⟩ := unhide HA w5 b5
                      have v5q := (unhide H4).1.v.below b5
                      have CA := hide (bstart v5q.bs (by omega) ⟨i1, i2, i3, i4, i5⟩ (unhide HOK))
                      rw [(unhide HER).1, (unhide HER).2] at CA
                      simp only [tv] at CA
                      have H5 := hide (And.intro v5q (And.intro r5 (And.intro (unhide H4).1.v b5)))
                      clear v5q r5 b5 CPt H4 a0 a1 a2 a3 a4 a5
                      go_wp2_with (go_at_call 8; refine Hid.out ?_)
                      refine hide ?_
                      refine (unhide CA).mono ?_
                      rintro e w6 ⟨rfl, P6, q6, f6, n6⟩
                      obtain ⟨v5q, r5, v4q, b5⟩ := unhide H5
                      have hl4 := v4q.bs.lts
                      obtain ⟨ra6, rcap6, hv6, H6⟩ := BP.of (v5q.step q6 f6 n6) (r5.ft f6 (fun g hg hk => by have := (r5.lt g hg).1; have := hl4 g hk; omega)) v4q.cs (fun k hk g hg e => by
                        subst e
                        have h1 := r5.lt k hg
                        rcases n6 k hk with h2 | h2
                        · have := hl4 k h2; omega
                        · omega) (unhide HPL)
                      have H6 := hide H6
                      have HV6 := hide hv6
                      clear v5q r5 v4q hl4 hv6 q6 f6 n6 CA H5 z0 z1 z2 z3 z4 z5 b5
                      go_wp2_with fail
                      go_meet
                      exact ⟨_, _, _, _, _, unhide HV6, H6⟩
            ·   skip
                obtain ⟨a0, a1, -, -, -, -, -, -, -⟩ := unhide HA w4 (Below.refl _ _)
                have hi59 : i ≤ 59 := by have := unhide HLT; omega
                by_cases hm : i1 ∈ idsT (allT R)
                case neg =>
                  obtain rfl := (unhide HPT).none hm
                  have CD := hide (bcancel_none (unhide H4).1.v.bs i1 (unhide HOK).1 hm)
                  rw [show tv t0 = .agg #[.int .i64 0, .int .i64 0, .int .i64 0, .int .i64 0, .bool false] from rfl] at CD
                  clear hm
                  go_wp2_with (go_at_call 9; refine Hid.out ?_)
                  refine hide ?_
                  refine (unhide CD).mono ?_
                  rintro e w6 ⟨rfl, q6, f6⟩
                  have H6 := hide (((unhide H4).1.step q6 (Nat.le_refl _) f6 (fun k hk => .inl hk)).up (by omega))
                  clear q6 f6 CD H4
                  go_wp2_with fail
                  go_quiet (fail)
                  go_wp2_with fail
                  go_meet
                  exact ⟨_, _, _, _, _, rfl, hide (by first | exact ((unhide H6).dr _).al _ | exact ((unhide H6).al _).dr _)⟩
                case pos =>
                  obtain ⟨X, Y, t', hR, ht', hpp⟩ := (unhide HPT).some hm
                  subst hpp
                  obtain ⟨x0, A, B, hx6, hRx, hdr⟩ := drop_parts (unhide H4).1.v.bs.ok hR
                  have HDR := hide hdr
                  have HRR := hide hR
                  obtain ⟨j1, j2, j3, j4, j5⟩ := t'
                  simp only at ht'
                  subst ht'
                  have CD := hide (bcancel_ok (unhide H4).1.v.bs hx6 hRx)
                  clear hx6 hRx hm hdr hR
                  simp only [tv] at CD
                  go_wp2_with (go_at_call 9; refine Hid.out ?_)
                  refine hide ?_
                  refine (unhide CD).mono ?_
                  rintro e w6 ⟨rfl, q6, f6⟩
                  have v6 := (unhide H4).1.v.step0 q6 f6
                  have r6 := (unhide H4).1.row.ft f6 (unhide H4).1.out
                  rw [unhide HRR] at r6
                  obtain ⟨g, o, rfl, hgl, y0, y1, y2, y3, y4⟩ := tcells (j := X.length) (t := ⟨j1, j2, j3, j4, j5⟩) r6 (by simp)
                  obtain ⟨B6, hB6⟩ : ∃ b, w6.heap.size = b := ⟨_, rfl⟩
                  obtain ⟨W7, hW7⟩ : ∃ W7, W7 = w6.alloc (.cells #[.int .i64 j1, .int .i64 j2, .int .i64 j3, .int .i64 j4, .bool j5] 29) := ⟨_, rfl⟩
                  have b7 : Below w6.heap.size w6 W7 := by rw [hW7]; exact one_below _ _
                  have k7 : Blk W7 B6 29 #[.int .i64 j1, .int .i64 j2, .int .i64 j3, .int .i64 j4, .bool j5] := by rw [hW7]; exact Blk.new_at _ _ _ hB6.symm
                  have z0 : W7.drew.cell? ⟨B6, 0, none⟩ = some (.int .i64 j1) := k7.cell 0
                  have z1 : W7.drew.cell? ⟨B6, 1, none⟩ = some (.int .i64 j2) := k7.cell 1
                  have z2 : W7.drew.cell? ⟨B6, 2, none⟩ = some (.int .i64 j3) := k7.cell 2
                  have z3 : W7.drew.cell? ⟨B6, 3, none⟩ = some (.int .i64 j4) := k7.cell 3
                  have z4 : W7.drew.cell? ⟨B6, 4, none⟩ = some (.bool j5) := k7.cell 4
                  have s0 : W7.drew.cell? ⟨g, o + X.length * 5, none⟩ = some (.int .i64 j1) := cellB (b7.trans (below_drew (Below.refl _ _))) y0
                  have s1 : W7.drew.cell? ⟨g, o + X.length * 5 + 1, none⟩ = some (.int .i64 j2) := cellB (b7.trans (below_drew (Below.refl _ _))) y1
                  have s2 : W7.drew.cell? ⟨g, o + X.length * 5 + 2, none⟩ = some (.int .i64 j3) := cellB (b7.trans (below_drew (Below.refl _ _))) y2
                  have s3 : W7.drew.cell? ⟨g, o + X.length * 5 + 3, none⟩ = some (.int .i64 j4) := cellB (b7.trans (below_drew (Below.refl _ _))) y3
                  have s4 : W7.drew.cell? ⟨g, o + X.length * 5 + 4, none⟩ = some (.bool j5) := cellB (b7.trans (below_drew (Below.refl _ _))) y4
                  have HRN := r6.len
                  have hjle := (unhide H4).1.le
                  have hle := r6.le
                  have hmax := r6.max
                  unfold maxLen at hmax
                  simp only [List.length_append, List.length_cons] at HRN
                  have hp0 : (0 : Int) ≤ (X.length : Int) := by omega
                  have hp1 : (X.length : Int) < (j : Int) := by omega
                  have H7 := hide (And.intro (v6.below b7) (r6.below b7))
                  have HW7 := hide hW7
                  have HHR := hide HRN
                  have HLE := hide (show X.length + Y.length ≤ i by omega)
                  clear q6 f6 v6 r6 hW7 b7 k7 y0 y1 y2 y3 y4 CD H4 HRN
                  go_wp2_with fail
                  rw [← unhide HW7]
                  go_region
                  obtain ⟨v7, r7⟩ := unhide H7
                  obtain ⟨W8, hW8⟩ : ∃ W8, W8 = W7.drew := ⟨_, rfl⟩
                  rw [← hW8]
                  have b8 : Below W7.heap.size W7 W8 := by rw [hW8]; exact below_drew (Below.refl _ _)
                  have v8 := v7.below b8
                  have r8 := r7.below b8
                  have HRN := unhide HHR
                  obtain ⟨Z, hZ⟩ : ∃ Z, W8.heap.size = Z := ⟨_, rfl⟩
                  have r8b : Rd rtm W8 C (some ⟨g, o, none⟩) j rcap ((X ++ [⟨j1, j2, j3, j4, j5⟩]) ++ Y) := by rw [List.append_assoc]; exact r8
                  have hN2 : ((X ++ [(⟨j1, j2, j3, j4, j5⟩ : Tmr)]) ++ Y).length = j := r8b.len.symm
                  have n1 := fun w' (h : Below Z W8 w') => dnews_pre (r8.below (hZ ▸ h)) rcap (fun e => by cases e)
                  have n3 := fun w' (h : Below Z W8 w') => dnews_from (r8b.below (hZ ▸ h)) hN2 (rcap - (X ++ [(⟨j1, j2, j3, j4, j5⟩ : Tmr)]).length)
                  have hl1 : (X ++ [(⟨j1, j2, j3, j4, j5⟩ : Tmr)]).length = X.length + 1 := by simp
                  rw [hl1] at n3
                  obtain ⟨k, hk⟩ : ∃ k, X.length = k := ⟨_, rfl⟩
                  have n1k : ∀ w', Below Z W8 w' → News w' (.slice (some ⟨g, o, none⟩) k rcap) X.length rtm.K (rtm.row X) := fun w' h => by rw [← hk]; exact n1 w' h
                  rw [hk] at n3 HRN hp0 hp1 ⊢
                  obtain ⟨k1, hk1⟩ : ∃ k1, k + 1 = k1 := ⟨_, rfl⟩
                  rw [hk1] at n3
                  have hq1 : (k1 : Int) ≤ (rcap : Int) := by omega
                  have hq2 : (k1 : Int) ≤ (j : Int) := by omega
                  have hq3 : (j : Int) ≤ (rcap : Int) := by omega
                  have hq4 : (k : Int) ≤ (rcap : Int) := by omega
                  have hq5 : (k : Int) ≤ (j : Int) := by omega
                  have hq6 : (0 : Int) ≤ (k1 : Int) := by omega
                  have hq7 : (k : Int) + 1 = (k1 : Int) := by omega
                  have hq8 : IntKind.i64.wrap (k1 : Int) = (k1 : Int) := by rw [IntKind.wrap_i64]; omega
                  have BE : ∀ o : Obj, Below Z W8 (W8.alloc o).drew := fun o => by rw [← hZ]; exact below_drew (one_below W8 o)
                  have HBE := hide BE
                  have HI2 := hide (And.intro n1k n3)
                  have HL := hide (show X.length ≤ 5000 ∧ Y.length ≤ 5000 by omega)
                  have HV8 := hide v8
                  have HZ := hide hZ
                  clear hW8 b8 v8 r8 r8b hN2 n1 n1k n3 hl1 BE v7 r7 H7 HW7 z0 z1 z2 z3 z4 s0 s1 s2 s3 s4 HRN hk1
                  go_wp2_with fail
                  go_region_law (first
                    | (refine rstep_own rtm rfl _ _ rfl hZ _ [] rfl (rown_empty rtm (Nat.le_refl _) hZ) X (by first | exact (unhide HI2).1 _ ((unhide HBE) _)) (by have := (unhide HL).1; simp; omega) (by first | exact (unhide HBE) _) ?_; intro v1 w1 o1 S1 K1; rw [List.nil_append] at o1)
                    | (refine rstep_own rtm rfl _ _ rfl hZ _ X rfl o1 Y (by first | exact (unhide HI2).2 _ S1) (by have := (unhide HL).1; have := (unhide HL).2; omega) S1 ?_; intro v3 w3 o3 S3 K3))
                  all_goals
                    obtain ⟨ra9, rcap9, hv9, H9⟩ := BP.of ((unhide HV8).below (by rw [unhide HZ]; exact S3)) (by rw [unhide HDR]; exact o3) (by rw [← unhide HZ]; exact (unhide HV8).cs) (fun k' hk' g' hg' e => by have h1 := (unhide HV8).bs.lts k' hk'; have h2 := unhide HZ; have h3 := (o3.lt g' hg').1; omega) (show _ ≤ i from by rw [unhide HDR, List.length_append]; have := unhide HLE; omega)
                    have H9 := hide (H9.up (by omega))
                    have HV9 := hide hv9
                    clear hv9 o3 S3 K3
                    go_wp2_with fail
                    all_goals
                      go_meet
                      exact ⟨_, _, _, _, _, unhide HV9, H9⟩
            ·   skip
                rw [hmd]
                have hi59 : i ≤ 59 := by have := unhide HLT; omega
                obtain ⟨L, hL⟩ : ∃ L, allT R = L := ⟨_, rfl⟩
                have hLn : L.length = j := by rw [← hL]; exact (unhide H4).1.row.len.symm
                obtain ⟨D, hD⟩ : ∃ D, w4.heap.size = D := ⟨_, rfl⟩
                obtain ⟨F, hF⟩ : ∃ F, firB (tri n0 n1 n2) i5 = F := ⟨_, rfl⟩
                have HLn := hide (And.intro hL (And.intro hLn (And.intro hD hF)))
                clear hL hLn hF
                go_wp2_with fail
                go_loopw [15, 16, 131] (fun s15 s16 d w' => ∃ (m : Nat) (v15 v16 : Value), v15 = s15 ∧ v16 = s16 ∧ d = .int .i64 (m : Int) ∧ m ≤ j ∧ Hid (Below D w4 w' ∧ Rg rtm w' D s15 ((L.take m).filter F) ∧ Rg rtm w' D s16 ((L.take m).filter fun t => !F t) ∧ ∀ q, s15.ownBlock = some q → s16.ownBlock ≠ some q)) (fun _ _ d _ => j - (intOf d).toNat)
                case atStart => exact ⟨0, _, _, rfl, rfl, rfl, by omega, hide ⟨by rw [← hD]; exact Below.refl _ _, Rg.nil _ _, Rg.nil _ _, fun q hq => by cases hq⟩⟩
                case round =>
                  obtain ⟨m, v15, v16, rfl, rfl, rfl, hm, HJ⟩ := hrel
                  by_cases hml : m < j
                  · obtain ⟨hL, hLn, hD', hF⟩ := unhide HLn
                    obtain ⟨y, hy⟩ : ∃ y, L[m]? = some y := ⟨_, List.getElem?_eq_getElem (by rw [hLn]; exact hml)⟩
                    obtain ⟨bJ, r15, r16, hne⟩ := unhide HJ
                    have qr := (unhide H4).1.below (hD.symm ▸ bJ)
                    have qrow := qr.row
                    rw [hL] at qrow
                    obtain ⟨g', o', hra, hgl', y0, y1, y2, y3, y4⟩ := tcells qrow hy
                    subst hra
                    have hym := List.mem_of_getElem? hy
                    have hyc : 0 ≤ y.clock ∧ y.clock ≤ 2 := by
                      obtain ⟨q, hq6, hqm⟩ := mem_allT.1 (show y ∈ allT R by rw [hL]; exact hym)
                      exact (qr.v.bs.ok.ix q y hq6 hqm).2
                    have htk : L.take (m + 1) = L.take m ++ [y] := by
                      obtain ⟨h1, h2⟩ := List.getElem?_eq_some_iff.1 hy
                      rw [List.take_succ_eq_append_getElem h1, h2]
                    have hf1 : (L.take (m + 1)).filter F = (L.take m).filter F ++ (if F y then [y] else []) := by rw [htk, List.filter_append]; simp [List.filter_cons]
                    have hf2 : (L.take (m + 1)).filter (fun t => !F t) = (L.take m).filter (fun t => !F t) ++ (if F y then [] else [y]) := by rw [htk, List.filter_append]; cases hFy : F y <;> simp [List.filter_cons, hFy]
                    have hl1 : ((L.take m).filter F).length ≤ 1000 := by have := List.length_filter_le F (L.take m); have := List.length_take_le m L; omega
                    have hl2' : ((L.take m).filter fun t => !F t).length ≤ 1000 := by have := List.length_filter_le (fun t => !F t) (L.take m); have := List.length_take_le m L; omega
                    obtain ⟨B10, hB10⟩ : ∃ b, wr.heap.size = b := ⟨_, rfl⟩
                    have hFy : F y = (decide (y.lazy = i5) && decide (dueT (tri n0 n1 n2 y.clock.toNat) y)) := by rw [← hF]; rfl
                    have CDu := hide (fun w' => ldue_any w' y n0 n1 n2 hyc.1 hyc.2)
                    have HFF := hide (And.intro hf1 (And.intro hf2 (And.intro hl1 hl2')))
                    obtain ⟨DU, hDU⟩ : ∃ DU, decide (dueT (tri n0 n1 n2 y.clock.toNat) y) = DU := ⟨_, rfl⟩
                    rw [hDU] at hFy CDu
                    obtain ⟨FY, hFY⟩ : ∃ FY, F y = FY := ⟨_, rfl⟩
                    rw [hFY] at hFy HFF
                    obtain ⟨j1, j2, j3, j4, j5⟩ := y
                    simp only [tv] at y0 y1 y2 y3 y4 hFy CDu
                    have HFY := hide hFy
                    obtain ⟨a0, a1, a2, a3, a4, a5, a6, a7, a8⟩ := unhide HA wr (hD.symm ▸ bJ)
                    have hbw : bx < wr.heap.size := World.block_lt_of_cell? wr _ a0
                    obtain ⟨W10, hW10⟩ : ∃ W10, W10 = wr.alloc (.cells #[.int .i64 j1, .int .i64 j2, .int .i64 j3, .int .i64 j4, .bool j5] 29) := ⟨_, rfl⟩
                    have b10 : Below wr.heap.size wr W10 := by rw [hW10]; exact one_below _ _
                    have k10 : Blk W10 B10 29 #[.int .i64 j1, .int .i64 j2, .int .i64 j3, .int .i64 j4, .bool j5] := by rw [hW10]; exact Blk.new_at _ _ _ hB10.symm
                    have hDB : D ≤ wr.heap.size := by have := bJ.size; omega
                    have z0 := hkHeld k10 0 (.int .i64 j1) rfl
                    have z1 := hkHeld k10 1 (.int .i64 j2) rfl
                    have z2 := hkHeld k10 2 (.int .i64 j3) rfl
                    have z3 := hkHeld k10 3 (.int .i64 j4) rfl
                    have z4 := hkHeld k10 4 (.bool j5) rfl
                    have HZ := hide (fun w' (hb : Below W10.heap.size W10 w') => And.intro (z0 w' hb) (And.intro (z1 w' hb) (And.intro (z2 w' hb) (And.intro (z3 w' hb) (z4 w' hb)))))
                    have H10 := hide (And.intro (bJ.trans (b10.mono hDB)) (And.intro (r15.below b10) (And.intro (r16.below b10) hne)))
                    have hD10 : D ≤ W10.heap.size := Nat.le_trans hDB b10.size
                    have HW10 := hide hW10
                    clear bJ r15 r16 hne qr qrow hym hyc htk hf1 hf2 hl1 hl2' hFy HJ hy b10 k10 hW10 hgl' z0 z1 z2 z3 z4 hL hLn hD' hF hDU hFY hDB
                    have step1 : ∀ wD, Below W10.heap.size W10 wD → Below D w4 wD ∧ Rg rtm wD D v15 ((L.take m).filter F) ∧ Rg rtm wD D v16 ((L.take m).filter fun t => !F t) ∧ (∀ q, v15.ownBlock = some q → v16.ownBlock ≠ some q) := fun wD hb =>
                      ⟨(unhide H10).1.trans (hb.mono hD10), (unhide H10).2.1.below hb, (unhide H10).2.2.1.below hb, (unhide H10).2.2.2⟩
                    have HS1 := hide step1
                    clear step1
                    by_cases hlz : j5 = i5
                    · subst hlz
                      have hb : (j5 == j5) = true := by simp
                      rw [show decide (j5 = j5) = true from decide_eq_true rfl, Bool.true_and] at HFY
                      go_upto_region 40 with fail
                      rw [← unhide HW10]
                      obtain ⟨z0, z1, z2, z3, z4⟩ := unhide HZ _ (Below.refl _ _)
                      have b10 := hide (show Below wr.heap.size wr W10 by rw [unhide HW10]; exact one_below _ _)
                      have a1' := cellB (unhide b10) a1
                      have a2' := cellB (unhide b10) a2
                      have a5' := cellB (unhide b10) a5
                      have a6' := cellB (unhide b10) a6
                      have a7' := cellB (unhide b10) a7
                      have a8' := cellB (unhide b10) a8
                      clear a0 a1 a2 a3 a4 a5 a6 a7 a8 y0 y1 y2 y3 y4 b10
                      go_wp2_with (go_at_call 10; refine Hid.out ?_)
                      refine hide ?_
                      refine (unhide CDu _).mono ?_
                      rintro e wd ⟨rfl, bd⟩
                      obtain ⟨u0, u1, u2, u3, u4'⟩ := unhide HZ _ bd
                      have HBD := hide bd
                      clear bd z0 z1 z2 z3 z4 a1' a2' a5' a6' a7' a8'
                      cases DU
                      · have hFYv : FY = false := unhide HFY
                        clear HFY
                        go_wp2_with (at_builtin; refine Hid.out ?_)
                        refine hide ?_
                        refine rlist_one rtm rfl _ _ rfl D v16 ((L.take m).filter fun t => !F t) rfl (unhide HS1 _ (unhide HBD)).2.2.1 ⟨j1, j2, j3, j4, j5⟩ #[.int .i64 j1, .int .i64 j2, .int .i64 j3, .int .i64 j4, .bool j5] rfl wd.heap.size rfl rfl (by have := (unhide HFF).2.2.2; omega) (Nat.le_trans hD10 ((unhide HBD)).size) ?_
                        intro gq cq w2 o2 g2 hq
                        obtain ⟨h1, h2, h3, h4⟩ := want_step (let s := unhide HS1 _ (unhide HBD); ⟨s.1, s.2.2.1, s.2.1, fun q h1 h2 => s.2.2.2 q h2 h1⟩) (Nat.le_trans hD10 ((unhide HBD)).size) o2 g2 hq
                        have HN := hide (show Below D w4 w2 ∧ Rg rtm w2 D v15 ((L.take (m + 1)).filter F) ∧ Rg rtm w2 D (.slice (some ⟨gq, 0, none⟩) (((L.take m).filter fun t => !F t).length + 1) cq) ((L.take (m + 1)).filter fun t => !F t) ∧ ∀ q, v15.ownBlock = some q → (Value.slice (some ⟨gq, 0, none⟩) (((L.take m).filter fun t => !F t).length + 1) cq).ownBlock ≠ some q from ⟨h1, by rw [(unhide HFF).1, hFYv, if_neg (by simp), List.append_nil]; exact h3, by rw [(unhide HFF).2.1, hFYv, if_neg (by simp)]; exact h2, fun q e1 e2 => h4 q e2 e1⟩)
                        clear o2 g2 hq h1 h2 h3 h4 HS1 HFF HZ H10
                        go_wp2_with fail
                        go_roundw
                        case rel => exact ⟨m + 1, _, _, rfl, rfl, by first | rfl | go_num, by omega, HN⟩
                        case measure => simp [intOf]; omega
                      · have hFYv : FY = true := unhide HFY
                        clear HFY
                        go_wp2_with (at_builtin; refine Hid.out ?_)
                        refine hide ?_
                        refine rlist_one rtm rfl _ _ rfl D v15 ((L.take m).filter F) rfl (unhide HS1 _ (unhide HBD)).2.1 ⟨j1, j2, j3, j4, j5⟩ #[.int .i64 j1, .int .i64 j2, .int .i64 j3, .int .i64 j4, .bool j5] rfl wd.heap.size rfl rfl (by have := (unhide HFF).2.2.1; omega) (Nat.le_trans hD10 ((unhide HBD)).size) ?_
                        intro gq cq w2 o2 g2 hq
                        obtain ⟨h1, h2, h3, h4⟩ := want_step (unhide HS1 _ (unhide HBD)) (Nat.le_trans hD10 ((unhide HBD)).size) o2 g2 hq
                        have HN := hide (show Below D w4 w2 ∧ Rg rtm w2 D (.slice (some ⟨gq, 0, none⟩) (((L.take m).filter F).length + 1) cq) ((L.take (m + 1)).filter F) ∧ Rg rtm w2 D v16 ((L.take (m + 1)).filter fun t => !F t) ∧ ∀ q, (Value.slice (some ⟨gq, 0, none⟩) (((L.take m).filter F).length + 1) cq).ownBlock = some q → v16.ownBlock ≠ some q from ⟨h1, by rw [(unhide HFF).1, hFYv, if_pos rfl]; exact h2, by rw [(unhide HFF).2.1, hFYv, if_pos rfl, List.append_nil]; exact h3, h4⟩)
                        clear o2 g2 hq h1 h2 h3 h4 HS1 HFF HZ H10
                        go_wp2_with fail
                        go_roundw
                        case rel => exact ⟨m + 1, _, _, rfl, rfl, by first | rfl | go_num, by omega, HN⟩
                        case measure => simp [intOf]; omega
                    · have hb : (j5 == i5) = false := by rw [beq_eq_false_iff_ne]; exact hlz
                      have hFYv : FY = false := by rw [unhide HFY, decide_eq_false hlz, Bool.false_and]
                      go_upto_region 40 with fail
                      rw [← unhide HW10]
                      obtain ⟨z0, z1, z2, z3, z4⟩ := unhide HZ _ (Below.refl _ _)
                      have b10 := hide (show Below wr.heap.size wr W10 by rw [unhide HW10]; exact one_below _ _)
                      have a1' := cellB (unhide b10) a1
                      have a2' := cellB (unhide b10) a2
                      have a5' := cellB (unhide b10) a5
                      have a6' := cellB (unhide b10) a6
                      have a7' := cellB (unhide b10) a7
                      have a8' := cellB (unhide b10) a8
                      clear a0 a1 a2 a3 a4 a5 a6 a7 a8 y0 y1 y2 y3 y4 b10
                      clear HFY
                      go_wp2_with (at_builtin; refine Hid.out ?_)
                      refine hide ?_
                      refine rlist_one rtm rfl _ _ rfl D v16 ((L.take m).filter fun t => !F t) rfl (unhide HS1 _ (Below.refl _ _)).2.2.1 ⟨j1, j2, j3, j4, j5⟩ #[.int .i64 j1, .int .i64 j2, .int .i64 j3, .int .i64 j4, .bool j5] rfl W10.heap.size rfl rfl (by have := (unhide HFF).2.2.2; omega) hD10 ?_
                      intro gq cq w2 o2 g2 hq
                      obtain ⟨h1, h2, h3, h4⟩ := want_step (let s := unhide HS1 _ (Below.refl _ _); ⟨s.1, s.2.2.1, s.2.1, fun q h1 h2 => s.2.2.2 q h2 h1⟩) hD10 o2 g2 hq
                      have HN := hide (show Below D w4 w2 ∧ Rg rtm w2 D v15 ((L.take (m + 1)).filter F) ∧ Rg rtm w2 D (.slice (some ⟨gq, 0, none⟩) (((L.take m).filter fun t => !F t).length + 1) cq) ((L.take (m + 1)).filter fun t => !F t) ∧ ∀ q, v15.ownBlock = some q → (Value.slice (some ⟨gq, 0, none⟩) (((L.take m).filter fun t => !F t).length + 1) cq).ownBlock ≠ some q from ⟨h1, by rw [(unhide HFF).1, hFYv, if_neg (by simp), List.append_nil]; exact h3, by rw [(unhide HFF).2.1, hFYv, if_neg (by simp)]; exact h2, fun q e1 e2 => h4 q e2 e1⟩)
                      clear o2 g2 hq h1 h2 h3 h4 HS1 HFF HZ H10
                      go_wp2_with fail
                      go_roundw
                      case rel => exact ⟨m + 1, _, _, rfl, rfl, by first | rfl | go_num, by omega, HN⟩
                      case measure => simp [intOf]; omega
                  · as_aux_lemma =>
                    have hmj : m = j := by omega
                    subst hmj
                    obtain ⟨hL, hLn, hD', hF⟩ := unhide HLn
                    obtain ⟨bJ, r15, r16, -⟩ := unhide HJ
                    rw [List.take_of_length_le (by rw [hLn]; exact Nat.le_refl _)] at r15 r16
                    obtain ⟨NW, hNW⟩ : ∃ NW, (L.filter F).length = NW := ⟨_, rfl⟩
                    have hNm : NW ≤ 60 := by have := List.length_filter_le F L; omega
                    obtain ⟨aW, capW, hW, -⟩ := Rd.of r15
                    rw [hNW] at hW
                    obtain ⟨aL, capL, hW2, -⟩ := Rd.of r16
                    have qr := (unhide H4).1.below (hD.symm ▸ bJ)
                    have hok := qr.v.bs.ok
                    have hdf : duF R (tri n0 n1 n2) i5 6 = decide (0 < NW) := by rw [due_fir hok, hL, hF, hNW]
                    have hlts := (unhide H4).1.v.bs.lts
                    have CDu := hide (bdue qr.v.bs n0 n1 n2 i5)
                    have CE := hide (fun w5 (b5 : Below wr.heap.size wr w5) => bexp (qr.below b5).v.bs n0 n1 n2 i5)
                    rw [hdf] at CDu
                    rw [exp_fir hok, hL, hF] at CE
                    have hR' : allT (expR R (tri n0 n1 n2) i5 6) = L.filter fun t => !F t := by rw [expR_fir hok, hL, hF]
                    have hlen' : (allT (expR R (tri n0 n1 n2) i5 6)).length ≤ i := by rw [hR']; have := List.length_filter_le (fun t => !F t) L; have := (unhide H4).1.le; omega
                    have HR' := hide (And.intro hR' hlen')
                    generalize expR R (tri n0 n1 n2) i5 6 = R' at *
                    have hDw : D ≤ wr.heap.size := by have := bJ.size; omega
                    have HA2 := hide (fun w' (hb : Below wr.heap.size wr w') => unhide HA w' (hD.symm ▸ (bJ.trans (hb.mono hDw))))
                    obtain ⟨a0, -, -, -, -, a5, a6, a7, a8⟩ := unhide HA2 wr (Below.refl _ _)
                    subst hW
                    have HNW := hide hNW
                    have HV16 := hide hW2
                    have HQ := hide (And.intro qr (And.intro r15 (And.intro r16 (fun k hk => show k < D by have := hlts k hk; omega))))
                    obtain ⟨qd, hqd⟩ : ∃ q, decide (0 < NW) = q := ⟨_, rfl⟩
                    have hd2 : decide ((0 : Int) < (NW : Int)) = qd := by rw [← hqd]; exact decide_eq_decide.2 (by omega)
                    have hqq : (qd == qd) = true := by simp
                    rw [hqd] at CDu
                    clear hL hLn hD' hF bJ r15 r16 qr hok hdf hlts hR' hlen' hDw hNW hW2 HJ
                    go_wp2_with (go_at_call 11; refine Hid.out ?_)
                    refine hide ?_
                    refine (unhide CDu).mono ?_
                    rintro e w5 ⟨rfl, b5⟩
                    have HB5 := hide b5
                    obtain ⟨c0, -, -, -, -, c5, c6, c7, c8⟩ := unhide HA2 w5 b5
                    clear b5 a0 a5 a6 a7 a8 CDu
                    go_wp2_with (go_at_call 12; refine Hid.out ?_)
                    refine hide ?_
                    refine (unhide CE _ (unhide HB5)).mono ?_
                    rintro e w6 ⟨v19, rfl, r19, q6, f6⟩
                    obtain ⟨qr, r15, r16, hlD⟩ := unhide HQ
                    have q5 := qr.below (unhide HB5)
                    have n15 : Rg rtm w6 D (.slice aW NW capW) (L.filter F) := (r15.below (unhide HB5)).ft f6 (fun k hk e => by have := hlD k e; have := (r15.lt k hk).1; omega)
                    have n16 : Rg rtm w6 D v16 (L.filter fun t => !F t) := (r16.below (unhide HB5)).ft f6 (fun k hk e => by have := hlD k e; have := (r16.lt k hk).1; omega)
                    have hCD : C ≤ D := by have := (unhide H4).1.v.cs; omega
                    obtain ⟨ra6, rcap6, hv6, H6⟩ := BP.of (q5.v.step0 q6 f6) (by rw [(unhide HR').1]; exact n16) hCD (fun k hk g'' hg'' e => by have := hlD k hk; have := (n16.lt g'' hg'').1; omega) (unhide HR').2
                    obtain ⟨a19, c19, hf19, rd19⟩ := Rd.of r19
                    obtain ⟨aW2, cW2, hfW, rdW⟩ := Rd.of n15
                    rw [unhide HNW] at hf19 rd19 hfW rdW
                    cases hfW
                    subst hf19
                    have H6 := hide H6
                    have HV6 := hide hv6
                    have H19 := hide (And.intro rd19 rdW)
                    clear r19 q6 f6 qr r15 r16 hlD q5 n15 n16 hCD hv6 rd19 rdW CE HQ HB5 HA2 c0 c5 c6 c7 c8 H4 HA HV16
                    go_wp2_with fail
                    go_loopw [181] (fun d w' => ∃ q : Nat, d = .int .i64 (q : Int) ∧ q ≤ NW ∧ Hid (Below w6.heap.size w6 w')) (fun d _ => NW - (intOf d).toNat)
                    case atStart => exact ⟨0, rfl, by omega, hide (Below.refl _ _)⟩
                    case round =>
                      obtain ⟨q, rfl, hq, HJ⟩ := hrel
                      by_cases hql : q < NW
                      · obtain ⟨y, hy⟩ : ∃ y, (L.filter F)[q]? = some y := ⟨_, List.getElem?_eq_getElem (by rw [unhide HNW]; exact hql)⟩
                        obtain ⟨gA, oA, rfl, -, x0, x1, x2, x3, x4⟩ := tcells (unhide H19).1 hy
                        obtain ⟨gB, oB, rfl, -, y0, y1, y2, y3, y4⟩ := tcells (unhide H19).2 hy
                        obtain ⟨j1, j2, j3, j4, j5⟩ := y
                        simp only at x0 x1 x2 x3 x4 y0 y1 y2 y3 y4
                        have s0 := fun w' (hb : Below wr.heap.size wr w') => cellB hb (cellB (unhide HJ) x0)
                        have s1 := fun w' (hb : Below wr.heap.size wr w') => cellB hb (cellB (unhide HJ) x1)
                        have s2 := fun w' (hb : Below wr.heap.size wr w') => cellB hb (cellB (unhide HJ) x2)
                        have s3 := fun w' (hb : Below wr.heap.size wr w') => cellB hb (cellB (unhide HJ) x3)
                        have s4 := fun w' (hb : Below wr.heap.size wr w') => cellB hb (cellB (unhide HJ) x4)
                        have t0' := fun w' (hb : Below wr.heap.size wr w') => cellB hb (cellB (unhide HJ) y0)
                        have t1' := fun w' (hb : Below wr.heap.size wr w') => cellB hb (cellB (unhide HJ) y1)
                        have t2' := fun w' (hb : Below wr.heap.size wr w') => cellB hb (cellB (unhide HJ) y2)
                        have t3' := fun w' (hb : Below wr.heap.size wr w') => cellB hb (cellB (unhide HJ) y3)
                        have t4' := fun w' (hb : Below wr.heap.size wr w') => cellB hb (cellB (unhide HJ) y4)
                        have hdr : Below wr.heap.size wr wr.drew := below_drew (Below.refl _ _)
                        have hp0 : (0 : Int) ≤ (q : Int) := by omega
                        have hp1 : (q : Int) < (NW : Int) := by omega
                        have HJ2 := hide (show Below w6.heap.size w6 wr.drew from below_drew (unhide HJ))
                        clear x0 x1 x2 x3 x4 y0 y1 y2 y3 y4 hy HJ
                        go_wp2_with fail
                        refine wp_region_held_drew (S := (fun w' => Below wr.heap.size wr w')) (by kernel_rfl) ?_ (fun hHeld => ?_)
                        · (first | (with_reducible assumption))
                        refine wpAnyH_take (i := 0) (oi := ?o1) (v := ?v1) ?hi1 (by kernel_rfl) (by kernel_rfl) (by kernel_rfl) ?hQ1 (Or.inl ⟨?hw1, ?hy1⟩) (by assumption) ?_
                        case hi1 => (simp only [List.getElem?_toArray, List.getElem?_cons_zero]; rfl)
                        case hQ1 => exact fun _ _ _ h => h
                        case hw1 => rfl
                        case hy1 => (intro w hSw; (try dsimp only at hSw); go_simp; (try with_reducible rfl))
                        simp only [Act.put, List.setIfInBounds_toArray, List.set_cons_zero, List.set_cons_succ]
                        refine wpAnyH_take (i := 1) (oi := ?o2) (v := ?v2) ?hi2 (by kernel_rfl) (by kernel_rfl) (by kernel_rfl) ?hQ2 (Or.inl ⟨?hw2, ?hy2⟩) (by assumption) ?_
                        case hi2 => (simp only [List.getElem?_toArray, List.getElem?_cons_succ, List.getElem?_cons_zero]; rfl)
                        case hQ2 => exact fun _ _ _ h => h
                        case hw2 => rfl
                        case hy2 => (intro w hSw; (try dsimp only at hSw); go_simp; (try with_reducible rfl))
                        simp only [Act.put, List.setIfInBounds_toArray, List.set_cons_zero, List.set_cons_succ]
                        refine wpAnyH_take (i := 2) (oi := ?o3) (v := ?v3) ?hi3 (by kernel_rfl) (by kernel_rfl) (by kernel_rfl) ?hQ3 (Or.inl ⟨?hw3, ?hy3⟩) (by assumption) ?_
                        case hi3 => (simp only [List.getElem?_toArray, List.getElem?_cons_succ, List.getElem?_cons_zero]; rfl)
                        case hQ3 => exact fun _ _ _ h => h
                        case hw3 => rfl
                        case hy3 => (intro w hSw; (try dsimp only at hSw); go_simp; (try with_reducible rfl))
                        simp only [Act.put, List.setIfInBounds_toArray, List.set_cons_zero, List.set_cons_succ]
                        refine wpAnyH_take (i := 3) (oi := ?o4) (v := ?v4) ?hi4 (by kernel_rfl) (by kernel_rfl) (by kernel_rfl) ?hQ4 (Or.inl ⟨?hw4, ?hy4⟩) (by assumption) ?_
                        case hi4 => (simp only [List.getElem?_toArray, List.getElem?_cons_succ, List.getElem?_cons_zero]; rfl)
                        case hQ4 => exact fun _ _ _ h => h
                        case hw4 => rfl
                        case hy4 => (intro w hSw; (try dsimp only at hSw); go_simp; (try with_reducible rfl))
                        simp only [Act.put, List.setIfInBounds_toArray, List.set_cons_zero, List.set_cons_succ]
                        refine wpAnyH_take (i := 4) (oi := ?o5) (v := ?v5) ?hi5 (by kernel_rfl) (by kernel_rfl) (by kernel_rfl) ?hQ5 (Or.inl ⟨?hw5, ?hy5⟩) (by assumption) ?_
                        case hi5 => (simp only [List.getElem?_toArray, List.getElem?_cons_succ, List.getElem?_cons_zero]; rfl)
                        case hQ5 => exact fun _ _ _ h => h
                        case hw5 => rfl
                        case hy5 => (intro w hSw; (try dsimp only at hSw); go_simp; (try with_reducible rfl))
                        simp only [Act.put, List.setIfInBounds_toArray, List.set_cons_zero, List.set_cons_succ]
                        refine wpAnyH_take (i := 5) (oi := ?o6) (v := ?v6) ?hi6 (by kernel_rfl) (by kernel_rfl) (by kernel_rfl) ?hQ6 (Or.inl ⟨?hw6, ?hy6⟩) (by assumption) ?_
                        case hi6 => (simp only [List.getElem?_toArray, List.getElem?_cons_succ, List.getElem?_cons_zero]; rfl)
                        case hQ6 => exact fun _ _ _ h => h
                        case hw6 => rfl
                        case hy6 => (intro w hSw; (try dsimp only at hSw); go_simp; (try with_reducible rfl))
                        simp only [Act.put, List.setIfInBounds_toArray, List.set_cons_zero, List.set_cons_succ]
                        refine wpAnyH_take (i := 6) (oi := ?o7) (v := ?v7) ?hi7 (by kernel_rfl) (by kernel_rfl) (by kernel_rfl) ?hQ7 (Or.inl ⟨?hw7, ?hy7⟩) (by assumption) ?_
                        case hi7 => (simp only [List.getElem?_toArray, List.getElem?_cons_succ, List.getElem?_cons_zero]; rfl)
                        case hQ7 => exact fun _ _ _ h => h
                        case hw7 => rfl
                        case hy7 => (intro w hSw; (try dsimp only at hSw); go_simp; (try with_reducible rfl))
                        simp only [Act.put, List.setIfInBounds_toArray, List.set_cons_zero, List.set_cons_succ]
                        refine wpAnyH_take (i := 7) (oi := ?o8) (v := ?v8) ?hi8 (by kernel_rfl) (by kernel_rfl) (by kernel_rfl) ?hQ8 (Or.inl ⟨?hw8, ?hy8⟩) (by assumption) ?_
                        case hi8 => (simp only [List.getElem?_toArray, List.getElem?_cons_succ, List.getElem?_cons_zero]; rfl)
                        case hQ8 => exact fun _ _ _ h => h
                        case hw8 => rfl
                        case hy8 => (intro w hSw; (try dsimp only at hSw); go_simp; (try with_reducible rfl))
                        simp only [Act.put, List.setIfInBounds_toArray, List.set_cons_zero, List.set_cons_succ]
                        refine wpAnyH_take (i := 8) (oi := ?o9) (v := ?v9) ?hi9 (by kernel_rfl) (by kernel_rfl) (by kernel_rfl) ?hQ9 (Or.inl ⟨?hw9, ?hy9⟩) (by assumption) ?_
                        case hi9 => (simp only [List.getElem?_toArray, List.getElem?_cons_succ, List.getElem?_cons_zero]; rfl)
                        case hQ9 => exact fun _ _ _ h => h
                        case hw9 => rfl
                        case hy9 => (intro w hSw; (try dsimp only at hSw); go_simp; (try with_reducible rfl))
                        simp only [Act.put, List.setIfInBounds_toArray, List.set_cons_zero, List.set_cons_succ]
                        refine wpAnyH_done (by kernel_rfl) ?_ _
                        clear s0 s1 s2 s3 s4 t0' t1' t2' t3' t4' hdr
                        go_wp2_with fail
                        go_roundw
                        case rel => exact ⟨q + 1, by first | rfl | go_num, by omega, HJ2⟩
                        case measure => simp [intOf]; omega
                      · obtain rfl : q = NW := by omega
                        have H7 := hide (((unhide H6).below (unhide HJ)).up (by omega))
                        clear HJ H6 H19 HNW
                        go_wp2_with fail
                        go_meet
                        exact ⟨_, _, _, _, _, unhide HV6, H7⟩
          case rest =>
            as_aux_lemma =>
              obtain ⟨P2, R2, rb, rn2, rcap2, rfl, H5⟩ := hcut
              clear H4 HPT HOK hmd em hkd hx x0 hrn HA hbl hbx hjl hj
              have CAl := hide (ball (unhide H5).v.bs)
              have hRn := hide (unhide H5).row.len
              go_wp2_with (go_at_call 13; refine Hid.out ?_)
              refine hide ?_
              refine (unhide CAl).mono ?_
              rintro e w6 ⟨vA, rfl, rA, b6⟩
              obtain ⟨aA, capA, rfl, rdA⟩ := Rd.of rA
              have q6 := (unhide H5).below b6
              have CL := hide (blen q6.v.bs)
              obtain ⟨L, hL⟩ : ∃ L, allT R2 = L := ⟨_, rfl⟩
              have hLn : L.length = rn2 := by rw [← hL]; exact (unhide hRn).symm
              have H6 := hide (And.intro q6 rdA)
              rw [hL] at H6 CL
              rw [hL, hLn]
              rw [hLn] at CL H6
              have HLn := hide (And.intro hL hLn)
              have hn61 : rn2 ≤ 61 := by have := (unhide H5).le; have := unhide HLT; omega
              clear rA b6 q6 rdA CAl H5 hRn hL hLn
              go_wp2_with (go_at_call 14; refine Hid.out ?_)
              refine hide ?_
              refine (unhide CL).mono ?_
              rintro e w7 ⟨rfl, b7⟩
              have q7 := (unhide H6).1.below b7
              have r7 := (unhide H6).2.below b7
              obtain ⟨W9, hW9⟩ : ∃ W9, W9 = w7 := ⟨_, rfl⟩
              rw [← hW9] at q7 r7 ⊢
              have k9 : Blk W9 g 23 #[.int .i64 o0, .int .i64 o1, .int .i64 o2] := (unhide HK0).below q7.v.low hgC
              have H9 := hide (And.intro q7 (And.intro r7 k9))
              clear q7 r7 k9 b7 H6 CL hW9
              go_wp2_with fail
              go_loopw [22, 23, 211] (fun s22 s23 d w' => ∃ j : Nat, d = .int .i64 (j : Int) ∧ j ≤ rn2 ∧ s22 = .int .i64 (mnF (tri o0 o1 o2) false (L.take j) 4611686018427387903) ∧ s23 = .int .i64 (mnF (tri o0 o1 o2) true (L.take j) 4611686018427387903) ∧ Hid (Below W9.heap.size W9 w')) (fun _ _ d _ => rn2 - (intOf d).toNat)
              case atStart => exact ⟨0, rfl, by omega, rfl, rfl, hide (Below.refl _ _)⟩
              case round =>
                obtain ⟨j, rfl, hj, rfl, rfl, HJ⟩ := hrel
                by_cases hjl : j < rn2
                · obtain ⟨y, hy⟩ : ∃ y, L[j]? = some y := ⟨_, List.getElem?_eq_getElem (by rw [(unhide HLn).2]; exact hjl)⟩
                  have qr := (unhide H9).1.below (unhide HJ)
                  have rr := (unhide H9).2.1.below (unhide HJ)
                  have kr := (unhide H9).2.2.below (unhide HJ) (unhide H9).2.2.lt
                  have qrow := qr.row
                  rw [(unhide HLn).1] at qrow
                  obtain ⟨g', o', rfl, hgl', y0, y1, y2, y3, y4⟩ := tcells qrow hy
                  obtain ⟨gA, oA, rfl, hgA, x0, x1, x2, x3, x4⟩ := tcells rr hy
                  have hym := List.mem_of_getElem? hy
                  have hyo := (qr.v.bs.okt y (by rw [(unhide HLn).1]; exact hym)).1
                  have hyi : y.id ∈ idsT (allT R2) := by rw [(unhide HLn).1]; exact List.mem_map.2 ⟨y, hym, rfl⟩
                  have hyc : 0 ≤ y.clock ∧ y.clock ≤ 2 := by
                    obtain ⟨q, hq6, hqm⟩ := mem_allT.1 (show y ∈ allT R2 by rw [(unhide HLn).1]; exact hym)
                    exact (qr.v.bs.ok.ix q y hq6 hqm).2
                  have htk : L.take (j + 1) = L.take j ++ [y] := by
                    obtain ⟨h1, h2⟩ := List.getElem?_eq_some_iff.1 hy
                    rw [List.take_succ_eq_append_getElem h1, h2]
                  have hmn : ∀ lz, mnF (tri o0 o1 o2) lz (L.take (j + 1)) 4611686018427387903 = if lz || !y.lazy then min (mnF (tri o0 o1 o2) lz (L.take j) 4611686018427387903) (subZ y.soft (tri o0 o1 o2 y.clock.toNat)) else mnF (tri o0 o1 o2) lz (L.take j) 4611686018427387903 := fun lz => by
                    rw [htk]; unfold mnF; rw [List.foldl_append]; rfl
                  obtain ⟨B10, hB10⟩ : ∃ b, wr.heap.size = b := ⟨_, rfl⟩
                  obtain ⟨y1', y2', y3', y4', y5'⟩ := y
                  simp only at y0 y1 y2 y3 y4 x0 x1 x2 x3 x4 hyo hyi hyc hmn
                  obtain ⟨kc, hkc⟩ : ∃ kc : Nat, y2' = (kc : Int) := ⟨y2'.toNat, by omega⟩
                  subst hkc
                  rw [show ((kc : Int)).toNat = kc from rfl] at hmn
                  have hk3 : kc < 3 := by omega
                  obtain ⟨now, hnow⟩ : ∃ now, tri o0 o1 o2 kc = now := ⟨_, rfl⟩
                  rw [hnow] at hmn
                  have v1 : wr.cell? ⟨g, kc, none⟩ = some (.int .i64 now) := by
                    have h := tri_at o0 o1 o2 hk3
                    rw [hnow] at h
                    rcases h with ⟨rfl, rfl⟩ | ⟨rfl, rfl⟩ | ⟨rfl, rfl⟩
                    · exact blkAt kr 0 (.int .i64 now) rfl
                    · exact blkAt kr 1 (.int .i64 now) rfl
                    · exact blkAt kr 2 (.int .i64 now) rfl
                  have hk4 : (kc : Int) < 3 := by omega
                  have hk5 : (0 : Int) ≤ (kc : Int) ∧ (kc : Int) < 3 := by omega
                  obtain ⟨W10, hW10⟩ : ∃ W10, W10 = wr.alloc (.cells #[.int .i64 y1', .int .i64 kc, .int .i64 y3', .int .i64 y4', .bool y5'] 29) := ⟨_, rfl⟩
                  have b10 : Below wr.heap.size wr W10 := by rw [hW10]; exact one_below _ _
                  have k10 : Blk W10 B10 29 #[.int .i64 y1', .int .i64 kc, .int .i64 y3', .int .i64 y4', .bool y5'] := by rw [hW10]; exact Blk.new_at _ _ _ hB10.symm
                  have q10 := qr.below b10
                  have CH := hide (fun w' (hb : Below W10.heap.size W10 w') => bhas (q10.below hb).v.bs y1' hyo)
                  rw [decide_eq_true hyi] at CH
                  have CS := fun w' => hide (rsub_any y3' now w')
                  have s0 := fun w' (hb : Below W10.heap.size W10 w') => cellB hb (cellB b10 x0)
                  have s1 := fun w' (hb : Below W10.heap.size W10 w') => cellB hb (cellB b10 x1)
                  have s2 := fun w' (hb : Below W10.heap.size W10 w') => cellB hb (cellB b10 x2)
                  have s3 := fun w' (hb : Below W10.heap.size W10 w') => cellB hb (cellB b10 x3)
                  have s4 := fun w' (hb : Below W10.heap.size W10 w') => cellB hb (cellB b10 x4)
                  have v1' := fun w' (hb : Below W10.heap.size W10 w') => cellB hb (cellB b10 v1)
                  have z0 := hkHeld k10 0 (.int .i64 y1') rfl
                  have z1 := hkHeld k10 1 (.int .i64 kc) rfl
                  have z2 := hkHeld k10 2 (.int .i64 y3') rfl
                  have z3 := hkHeld k10 3 (.int .i64 y4') rfl
                  have z4 := hkHeld k10 4 (.bool y5') rfl
                  have hdr : Below W10.heap.size W10 W10.drew := below_drew (Below.refl _ _)
                  have HB10 := hide ((unhide HJ).trans (b10.mono (unhide HJ).size))
                  have HW10 := hide hW10
                  have hS10 : W9.heap.size ≤ W10.heap.size := Nat.le_trans (unhide HJ).size b10.size
                  have hp0 : (0 : Int) ≤ (j : Int) := by omega
                  have hp1 : (j : Int) < (rn2 : Int) := by omega
                  have HM := hide hmn
                  obtain ⟨M0, hM0⟩ : ∃ M, mnF (tri o0 o1 o2) false (L.take j) 4611686018427387903 = M := ⟨_, rfl⟩
                  obtain ⟨M1, hM1⟩ : ∃ M, mnF (tri o0 o1 o2) true (L.take j) 4611686018427387903 = M := ⟨_, rfl⟩
                  obtain ⟨M0', hM0'⟩ : ∃ M, mnF (tri o0 o1 o2) false (L.take (j + 1)) 4611686018427387903 = M := ⟨_, rfl⟩
                  obtain ⟨M1', hM1'⟩ : ∃ M, mnF (tri o0 o1 o2) true (L.take (j + 1)) 4611686018427387903 = M := ⟨_, rfl⟩
                  obtain ⟨sx, hsx⟩ : ∃ s, subZ y3' now = s := ⟨_, rfl⟩
                  have hm0 := hmn false
                  have hm1 := hmn true
                  rw [hM0, hM0', hsx] at hm0
                  rw [hM1, hM1', hsx] at hm1
                  rw [hM0, hM1]
                  rw [hsx] at CS
                  simp only [Bool.true_or, if_true, Bool.false_or] at hm0 hm1
                  have HM0 := hide (And.intro hm0 hm1)
                  have HM1 := hide (And.intro hM0' hM1')
                  clear hym hyo hyi hyc qr rr kr qrow q10 k10 b10 hW10 HJ hy x0 x1 x2 x3 x4 hgl' hgA v1 htk hmn HM hM0 hM1 hM0' hM1' hsx hm0 hm1 hnow
                  go_wp2_with fail
                  rw [← unhide HW10]
                  clear y0 y1 y2 y3 y4
                  refine wp_region_held_drew (S := (fun w' => Below W10.heap.size W10 w')) (by kernel_rfl) ?_ (fun hHeld => ?_)
                  · (first | (with_reducible assumption))
                  refine wpAnyH_take (i := 0) (oi := ?o10) (v := ?v10) ?hi10 (by kernel_rfl) (by kernel_rfl) (by kernel_rfl) ?hQ10 (Or.inl ⟨?hw10, ?hy10⟩) (by assumption) ?_
                  case hi10 => (simp only [List.getElem?_toArray, List.getElem?_cons_zero]; rfl)
                  case hQ10 => exact fun _ _ _ h => h
                  case hw10 => rfl
                  case hy10 => (intro w hSw; (try dsimp only at hSw); go_simp; (try with_reducible rfl))
                  simp only [Act.put, List.setIfInBounds_toArray, List.set_cons_zero, List.set_cons_succ]
                  refine wpAnyH_take (i := 1) (oi := ?o11) (v := ?v11) ?hi11 (by kernel_rfl) (by kernel_rfl) (by kernel_rfl) ?hQ11 (Or.inl ⟨?hw11, ?hy11⟩) (by assumption) ?_
                  case hi11 => (simp only [List.getElem?_toArray, List.getElem?_cons_succ, List.getElem?_cons_zero]; rfl)
                  case hQ11 => exact fun _ _ _ h => h
                  case hw11 => rfl
                  case hy11 => (intro w hSw; (try dsimp only at hSw); go_simp; (try with_reducible rfl))
                  simp only [Act.put, List.setIfInBounds_toArray, List.set_cons_zero, List.set_cons_succ]
                  refine wpAnyH_take (i := 2) (oi := ?o12) (v := ?v12) ?hi12 (by kernel_rfl) (by kernel_rfl) (by kernel_rfl) ?hQ12 (Or.inl ⟨?hw12, ?hy12⟩) (by assumption) ?_
                  case hi12 => (simp only [List.getElem?_toArray, List.getElem?_cons_succ, List.getElem?_cons_zero]; rfl)
                  case hQ12 => exact fun _ _ _ h => h
                  case hw12 => rfl
                  case hy12 => (intro w hSw; (try dsimp only at hSw); go_simp; (try with_reducible rfl))
                  simp only [Act.put, List.setIfInBounds_toArray, List.set_cons_zero, List.set_cons_succ]
                  refine wpAnyH_take (i := 3) (oi := ?o13) (v := ?v13) ?hi13 (by kernel_rfl) (by kernel_rfl) (by kernel_rfl) ?hQ13 (Or.inl ⟨?hw13, ?hy13⟩) (by assumption) ?_
                  case hi13 => (simp only [List.getElem?_toArray, List.getElem?_cons_succ, List.getElem?_cons_zero]; rfl)
                  case hQ13 => exact fun _ _ _ h => h
                  case hw13 => rfl
                  case hy13 => (intro w hSw; (try dsimp only at hSw); go_simp; (try with_reducible rfl))
                  simp only [Act.put, List.setIfInBounds_toArray, List.set_cons_zero, List.set_cons_succ]
                  refine wpAnyH_take (i := 4) (oi := ?o14) (v := ?v14) ?hi14 (by kernel_rfl) (by kernel_rfl) (by kernel_rfl) ?hQ14 (Or.inl ⟨?hw14, ?hy14⟩) (by assumption) ?_
                  case hi14 => (simp only [List.getElem?_toArray, List.getElem?_cons_succ, List.getElem?_cons_zero]; rfl)
                  case hQ14 => exact fun _ _ _ h => h
                  case hw14 => rfl
                  case hy14 => (intro w hSw; (try dsimp only at hSw); go_simp; (try with_reducible rfl))
                  simp only [Act.put, List.setIfInBounds_toArray, List.set_cons_zero, List.set_cons_succ]
                  refine wpAnyH_take (i := 5) (oi := ?o15) (v := ?v15) ?hi15 (by kernel_rfl) (by kernel_rfl) (by kernel_rfl) ?hQ15 (Or.inl ⟨?hw15, ?hy15⟩) (by assumption) ?_
                  case hi15 => (simp only [List.getElem?_toArray, List.getElem?_cons_succ, List.getElem?_cons_zero]; rfl)
                  case hQ15 => exact fun _ _ _ h => h
                  case hw15 => rfl
                  case hy15 => (intro w hSw; (try dsimp only at hSw); go_simp; (try with_reducible rfl))
                  simp only [Act.put, List.setIfInBounds_toArray, List.set_cons_zero, List.set_cons_succ]
                  refine wpAnyH_take (i := 6) (oi := ?o16) (v := ?v16) ?hi16 (by kernel_rfl) (by kernel_rfl) (by kernel_rfl) ?hQ16 (Or.inl ⟨?hw16, ?hy16⟩) (by assumption) ?_
                  case hi16 => (simp only [List.getElem?_toArray, List.getElem?_cons_succ, List.getElem?_cons_zero]; rfl)
                  case hQ16 => exact fun _ _ _ h => h
                  case hw16 => rfl
                  case hy16 => (intro w hSw; (try dsimp only at hSw); go_simp; (try with_reducible rfl))
                  simp only [Act.put, List.setIfInBounds_toArray, List.set_cons_zero, List.set_cons_succ]
                  refine wpAnyH_take (i := 7) (oi := ?o17) (v := ?v17) ?hi17 (by kernel_rfl) (by kernel_rfl) (by kernel_rfl) ?hQ17 (Or.inl ⟨?hw17, ?hy17⟩) (by assumption) ?_
                  case hi17 => (simp only [List.getElem?_toArray, List.getElem?_cons_succ, List.getElem?_cons_zero]; rfl)
                  case hQ17 => exact fun _ _ _ h => h
                  case hw17 => rfl
                  case hy17 => (intro w hSw; (try dsimp only at hSw); go_simp; (try with_reducible rfl))
                  simp only [Act.put, List.setIfInBounds_toArray, List.set_cons_zero, List.set_cons_succ]
                  refine wpAnyH_take (i := 8) (oi := ?o18) (v := ?v18) ?hi18 (by kernel_rfl) (by kernel_rfl) (by kernel_rfl) ?hQ18 (Or.inl ⟨?hw18, ?hy18⟩) (by assumption) ?_
                  case hi18 => (simp only [List.getElem?_toArray, List.getElem?_cons_succ, List.getElem?_cons_zero]; rfl)
                  case hQ18 => exact fun _ _ _ h => h
                  case hw18 => rfl
                  case hy18 => (intro w hSw; (try dsimp only at hSw); go_simp; (try with_reducible rfl))
                  simp only [Act.put, List.setIfInBounds_toArray, List.set_cons_zero, List.set_cons_succ]
                  refine wpAnyH_take (i := 9) (oi := ?o19) (v := ?v19) ?hi19 (by kernel_rfl) (by kernel_rfl) (by kernel_rfl) ?hQ19 (Or.inl ⟨?hw19, ?hy19⟩) (by assumption) ?_
                  case hi19 => (simp only [List.getElem?_toArray, List.getElem?_cons_succ, List.getElem?_cons_zero]; rfl)
                  case hQ19 => exact fun _ _ _ h => h
                  case hw19 => rfl
                  case hy19 => (intro w hSw; (try dsimp only at hSw); go_simp; (try with_reducible rfl))
                  simp only [Act.put, List.setIfInBounds_toArray, List.set_cons_zero, List.set_cons_succ]
                  refine wpAnyH_ready (rs := [10]) (by kernel_rfl) (by simp) ?_
                  refine AllReadyH.cons (o := ?o20) ?hi20 (fun K hK => ?_) AllReadyH.nil
                  case hi20 => (simp only [List.getElem?_toArray, List.getElem?_cons_succ, List.getElem?_cons_zero]; rfl)
                  go_simp
                  (go_at_call 15; refine (unhide CH _ (by assumption)).mono ?_; rintro e wh ⟨rfl, hbh⟩; have hbq := Below.trans (by assumption) (Below.mono hbh (Below.size (by assumption))); clear hbh)
                  refine hK.out _ _ ?_ (fun hHeld => ?_)
                  · (first | (with_reducible assumption))
                  clear hK K
                  refine wpAnyH_take (i := 11) (oi := ?o21) (v := ?v21) ?hi21 (by kernel_rfl) (by kernel_rfl) (by kernel_rfl) ?hQ21 (Or.inl ⟨?hw21, ?hy21⟩) (by assumption) ?_
                  case hi21 => (simp only [List.getElem?_toArray, List.getElem?_cons_succ, List.getElem?_cons_zero]; rfl)
                  case hQ21 => exact fun _ _ _ h => h
                  case hw21 => rfl
                  case hy21 => (intro w hSw; (try dsimp only at hSw); go_simp; (try with_reducible rfl))
                  simp only [Act.put, List.setIfInBounds_toArray, List.set_cons_zero, List.set_cons_succ]
                  refine wpAnyH_take (i := 12) (oi := ?o22) (v := ?v22) ?hi22 (by kernel_rfl) (by kernel_rfl) (by kernel_rfl) ?hQ22 (Or.inl ⟨?hw22, ?hy22⟩) (by assumption) ?_
                  case hi22 => (simp only [List.getElem?_toArray, List.getElem?_cons_succ, List.getElem?_cons_zero]; rfl)
                  case hQ22 => exact fun _ _ _ h => h
                  case hw22 => rfl
                  case hy22 => (intro w hSw; (try dsimp only at hSw); go_simp; (try with_reducible rfl))
                  simp only [Act.put, List.setIfInBounds_toArray, List.set_cons_zero, List.set_cons_succ]
                  refine wpAnyH_done (by kernel_rfl) ?_ _
                  have HB11 := hide hbq
                  clear s0 s1 s2 s3 s4 CH hdr
                  have hdr2 : Below W10.heap.size W10 wh.drew := below_drew hbq
                  clear hbq
                  go_wp2_with fail
                  refine wp_region_held_drew (S := (fun w' => Below W10.heap.size W10 w')) (by kernel_rfl) ?_ (fun hHeld => ?_)
                  · (first | (with_reducible assumption))
                  refine wpAnyH_take (i := 0) (oi := ?o23) (v := ?v23) ?hi23 (by kernel_rfl) (by kernel_rfl) (by kernel_rfl) ?hQ23 (Or.inl ⟨?hw23, ?hy23⟩) (by assumption) ?_
                  case hi23 => (simp only [List.getElem?_toArray, List.getElem?_cons_zero]; rfl)
                  case hQ23 => exact fun _ _ _ h => h
                  case hw23 => rfl
                  case hy23 => (intro w hSw; (try dsimp only at hSw); go_simp; (try with_reducible rfl))
                  simp only [Act.put, List.setIfInBounds_toArray, List.set_cons_zero, List.set_cons_succ]
                  refine wpAnyH_take (i := 1) (oi := ?o24) (v := ?v24) ?hi24 (by kernel_rfl) (by kernel_rfl) (by kernel_rfl) ?hQ24 (Or.inl ⟨?hw24, ?hy24⟩) (by assumption) ?_
                  case hi24 => (simp only [List.getElem?_toArray, List.getElem?_cons_succ, List.getElem?_cons_zero]; rfl)
                  case hQ24 => exact fun _ _ _ h => h
                  case hw24 => rfl
                  case hy24 => (intro w hSw; (try dsimp only at hSw); go_simp; (try with_reducible rfl))
                  simp only [Act.put, List.setIfInBounds_toArray, List.set_cons_zero, List.set_cons_succ]
                  refine wpAnyH_take (i := 2) (oi := ?o25) (v := ?v25) ?hi25 (by kernel_rfl) (by kernel_rfl) (by kernel_rfl) ?hQ25 (Or.inl ⟨?hw25, ?hy25⟩) (by assumption) ?_
                  case hi25 => (simp only [List.getElem?_toArray, List.getElem?_cons_succ, List.getElem?_cons_zero]; rfl)
                  case hQ25 => exact fun _ _ _ h => h
                  case hw25 => rfl
                  case hy25 => (intro w hSw; (try dsimp only at hSw); go_simp; (try with_reducible rfl))
                  simp only [Act.put, List.setIfInBounds_toArray, List.set_cons_zero, List.set_cons_succ]
                  refine wpAnyH_take (i := 3) (oi := ?o26) (v := ?v26) ?hi26 (by kernel_rfl) (by kernel_rfl) (by kernel_rfl) ?hQ26 (Or.inl ⟨?hw26, ?hy26⟩) (by assumption) ?_
                  case hi26 => (simp only [List.getElem?_toArray, List.getElem?_cons_succ, List.getElem?_cons_zero]; rfl)
                  case hQ26 => exact fun _ _ _ h => h
                  case hw26 => rfl
                  case hy26 => (intro w hSw; (try dsimp only at hSw); go_simp; (try with_reducible rfl))
                  simp only [Act.put, List.setIfInBounds_toArray, List.set_cons_zero, List.set_cons_succ]
                  refine wpAnyH_take (i := 4) (oi := ?o27) (v := ?v27) ?hi27 (by kernel_rfl) (by kernel_rfl) (by kernel_rfl) ?hQ27 (Or.inl ⟨?hw27, ?hy27⟩) (by assumption) ?_
                  case hi27 => (simp only [List.getElem?_toArray, List.getElem?_cons_succ, List.getElem?_cons_zero]; rfl)
                  case hQ27 => exact fun _ _ _ h => h
                  case hw27 => rfl
                  case hy27 => (intro w hSw; (try dsimp only at hSw); go_simp; (try with_reducible rfl))
                  simp only [Act.put, List.setIfInBounds_toArray, List.set_cons_zero, List.set_cons_succ]
                  refine wpAnyH_take (i := 5) (oi := ?o28) (v := ?v28) ?hi28 (by kernel_rfl) (by kernel_rfl) (by kernel_rfl) ?hQ28 (Or.inl ⟨?hw28, ?hy28⟩) (by assumption) ?_
                  case hi28 => (simp only [List.getElem?_toArray, List.getElem?_cons_succ, List.getElem?_cons_zero]; rfl)
                  case hQ28 => exact fun _ _ _ h => h
                  case hw28 => rfl
                  case hy28 => (intro w hSw; (try dsimp only at hSw); go_simp; (try with_reducible rfl))
                  simp only [Act.put, List.setIfInBounds_toArray, List.set_cons_zero, List.set_cons_succ]
                  refine wpAnyH_ready (rs := [6]) (by kernel_rfl) (by simp) ?_
                  refine AllReadyH.cons (o := ?o29) ?hi29 (fun K hK => ?_) AllReadyH.nil
                  case hi29 => (simp only [List.getElem?_toArray, List.getElem?_cons_succ, List.getElem?_cons_zero]; rfl)
                  go_simp
                  (go_at_call 16; refine (unhide (CS _)).mono ?_; rintro e ws ⟨rfl, hws⟩; obtain rfl := hws.symm)
                  refine hK.out _ _ ?_ (fun hHeld => ?_)
                  · (first | (with_reducible assumption))
                  clear hK K
                  refine wpAnyH_take (i := 7) (oi := ?o30) (v := ?v30) ?hi30 (by kernel_rfl) (by kernel_rfl) (by kernel_rfl) ?hQ30 (Or.inl ⟨?hw30, ?hy30⟩) (by assumption) ?_
                  case hi30 => (simp only [List.getElem?_toArray, List.getElem?_cons_succ, List.getElem?_cons_zero]; rfl)
                  case hQ30 => exact fun _ _ _ h => h
                  case hw30 => rfl
                  case hy30 => (intro w hSw; (try dsimp only at hSw); go_simp; (try with_reducible rfl))
                  simp only [Act.put, List.setIfInBounds_toArray, List.set_cons_zero, List.set_cons_succ]
                  refine wpAnyH_done (by kernel_rfl) ?_ _
                  have HB12 := hide ((unhide HB10).trans ((below_drew (unhide HB11)).mono hS10))
                  clear hdr2 HB11 HB10
                  have E1 := hide (show (if sx < M1 then sx else M1) = mnF (tri o0 o1 o2) true (L.take (j + 1)) 4611686018427387903 by rw [(unhide HM1).2, (unhide HM0).2]; split <;> omega)
                  cases y5'
                  · have E0 := hide (show (if sx < M0 then sx else M0) = mnF (tri o0 o1 o2) false (L.take (j + 1)) 4611686018427387903 by rw [(unhide HM1).1, show M0' = min M0 sx from (unhide HM0).1.trans (if_pos rfl)]; split <;> omega)
                    clear HM0 HM1
                    go_wp2_with fail
                    go_roundw
                    case rel => exact ⟨j + 1, by first | rfl | go_num, by omega, by rw [← unhide E0], by rw [← unhide E1], HB12⟩
                    case measure => simp [intOf]; omega
                  · have E0 := hide (show M0 = mnF (tri o0 o1 o2) false (L.take (j + 1)) 4611686018427387903 by rw [(unhide HM1).1, show M0' = M0 from (unhide HM0).1.trans (if_neg (by simp))])
                    clear HM0 HM1
                    go_wp2_with fail
                    go_roundw
                    case rel => exact ⟨j + 1, by first | rfl | go_num, by omega, by rw [← unhide E0], by rw [← unhide E1], HB12⟩
                    case measure => simp [intOf]; omega
                · obtain rfl : j = rn2 := by omega
                  have hok := (unhide H9).1.v.bs.ok
                  have htl : L.take j = L := List.take_of_length_le (by rw [(unhide HLn).2]; exact Nat.le_refl _)
                  rw [htl]
                  have N0 := next_mn hok (tri o0 o1 o2) false
                  have N1 := next_mn hok (tri o0 o1 o2) true
                  rw [(unhide HLn).1] at N0 N1
                  have CX := hide (fun w' (hb : Below W9.heap.size W9 w') => N0 ▸ bnext (((unhide H9).1.below hb).v.bs) o0 o1 o2 false)
                  have CY := hide (fun w' (hb : Below W9.heap.size W9 w') => N1 ▸ bnext (((unhide H9).1.below hb).v.bs) o0 o1 o2 true)
                  have kr := hkHeld ((unhide H9).2.2.below (unhide HJ) (unhide H9).2.2.lt) 0 (.int .i64 o0) rfl
                  have kr1 := hkHeld ((unhide H9).2.2.below (unhide HJ) (unhide H9).2.2.lt) 1 (.int .i64 o1) rfl
                  have kr2 := hkHeld ((unhide H9).2.2.below (unhide HJ) (unhide H9).2.2.lt) 2 (.int .i64 o2) rfl
                  have m0 := kr _ (Below.refl _ _)
                  have m1 := kr1 _ (Below.refl _ _)
                  have m2 := kr2 _ (Below.refl _ _)
                  obtain ⟨M0, hM0⟩ : ∃ M, mnF (tri o0 o1 o2) false L 4611686018427387903 = M := ⟨_, rfl⟩
                  obtain ⟨M1, hM1⟩ : ∃ M, mnF (tri o0 o1 o2) true L 4611686018427387903 = M := ⟨_, rfl⟩
                  rw [hM0] at CX ⊢
                  rw [hM1] at CY ⊢
                  clear N0 N1 hok htl hM0 hM1
                  go_wp2_with (go_at_call 17; refine Hid.out ?_)
                  refine hide ?_
                  refine (unhide CX _ (unhide HJ)).mono ?_
                  rintro e wx ⟨rfl, bx1⟩
                  have n0 := kr _ bx1
                  have n1' := kr1 _ bx1
                  have n2' := kr2 _ bx1
                  have HJ2 := hide ((unhide HJ).trans (bx1.mono (unhide HJ).size))
                  clear kr kr1 kr2 m0 m1 m2 bx1 CX HJ
                  go_wp2_with (go_at_call 17; refine Hid.out ?_)
                  refine hide ?_
                  refine (unhide CY _ (unhide HJ2)).mono ?_
                  rintro e wy ⟨rfl, by1⟩
                  have H10 := hide ((unhide H9).1.below ((unhide HJ2).trans (by1.mono (unhide HJ2).size)))
                  clear HJ2 by1 H9 CY HLn n0 n1' n2'
                  go_wp2_with fail
                  go_roundw
                  case rel => exact ⟨i + 1, P2, R2, _, j, rcap2, by first | rfl | go_num, unhide HLT, rfl, H10⟩
                  case measure => have := unhide HLT; simp [intOf]; omega
    · obtain rfl : i = len := by omega
      have HB := hide (unhide HI).v.low
      clear HI
      go_wp2_with fail
      go_ret
      exact ⟨rfl, (unhide HB0).trans ((unhide HB).mono (by rw [← hC]; have := (unhide HB0).size; omega))⟩
end Go.Proofs.Ytabmjaioejacaaa
