import Derived.Test.YtihfldjoogaolaaQu1
import Derived.Test.YtihfldjoogaolaaKt
import Derived.Laws.Cover3
import Derived.Deep.DeepCutAuto
import Derived.Deep.RegionHeld3
namespace Go.Proofs.Ytihfldjoogaolaa
open Go.RowKit Kt Qu
set_option linter.unusedVariables false

def Qa.tg (a : Qa) (k : Nat) : Prop := k = a.t ∨ k = a.g
theorem Ft.of_touch {T G : Nat} {F : Nat → Prop} {w w' : World} (h : Touch T G w w') (hT : F T) (hG : F G) : Ft F w w' :=
  ⟨h.os, h.tape, h.output, h.size, fun k hk hn => h.block k hk (fun e => hn (e ▸ hT)) (fun e => hn (e ▸ hG))⟩
theorem Tre.ft {w w' : World} {T G P : Nat} {tf : Nat → Int} {L : List It} {F : Nat → Prop} (h : Tre w T G P tf L) (ht : Ft F w w') (hT : ¬ F T) (hG : ¬ F G) : Tre w' T G P tf L := by
  obtain ⟨st, t, fl, o, i, e, f⟩ := h
  have hb := ht.block _ o.lt hG
  refine ⟨st, t, fl, ⟨o.hP, o.ne, o.box.ft ht hT, ⟨fun i hi k hk => ?_, fun j => ?_⟩, Nat.lt_of_lt_of_le o.lt ht.size⟩, i, e, f⟩
  · have := o.nod.cell i hi k hk
    unfold World.cell? at this ⊢
    simp only [hb]
    exact this
  · have := o.nod.free j
    unfold World.frozen? at this ⊢
    simp only [hb]
    exact this
theorem tput_full (T G P : Nat) (tf : Nat → Int) (L : List It) (w : World) (h : Tre w T G P tf L) (hl : L.length = P) (a b : Int) :
    Calls Try.prog 18 #[.pointer (some ⟨T, 0, none⟩), .agg #[.int .i64 a, .int .i64 b]] w fun e w' => e = .returned (.tuple #[.agg #[.int .i64 0, .int .i64 0], .int .i64 3]) ∧ Below w.heap.size w w' := by
  obtain ⟨st, t, fl, o, i, rfl, f⟩ := h
  rw [List.length_map] at hl
  have hfl : fl = [] := by
    have := i.cover
    exact List.eq_nil_of_length_eq_zero (by omega)
  subst hfl
  exact put_full T G P st w o i.chain a b
/-- A box that was laid right ahead of a call holds what it held. -/
theorem box_below {W wp : World} {cs : Array Value} {t : TypeId} (h : Below (W.alloc (.cells cs t)).heap.size (W.alloc (.cells cs t)) wp) : Blk wp W.heap.size t cs :=
  (Blk.new W t cs).below h (Blk.new W t cs).lt
theorem box_ft {F : Nat → Prop} {W wp w1 : World} {cs : Array Value} {t : TypeId} (h : Ft F (W.alloc (.cells cs t)) wp) (hF : ∀ k, F k → k < w1.heap.size) (hb : w1.heap.size ≤ W.heap.size) : Blk wp W.heap.size t cs :=
  (Blk.new W t cs).ft h (fun hk => by have := hF _ hk; omega)
theorem ft_set2 {F : Nat → Prop} {w w' : World} {b : Nat} (h : Ft F w w') (hb : w.heap.size ≤ b) (u v : Value) : Ft F w ((w'.setCell ⟨b, 0, none⟩ u).setCell ⟨b, 1, none⟩ v) := (h.set (.inr hb) 0 u).set (.inr hb) 1 v
theorem below_set2 {B : Nat} {w w' : World} {b : Nat} (h : Below B w w') (hb : B ≤ b) (u v : Value) : Below B w ((w'.setCell ⟨b, 0, none⟩ u).setCell ⟨b, 1, none⟩ v) := (h.setCell (p := ⟨b, 0, none⟩) hb u).setCell (p := ⟨b, 1, none⟩) hb v
section
variable {w : World} {a : Qa} {n : Nat} {L : List QI}
/-- What the tree comes to. -/
theorem qtree_put (h : Que w a n L) (hl : L.length < 64) (hn : n < 1000000) (t : Tmr) :
    Calls Try.prog 18 #[.pointer (some ⟨a.t, 0, none⟩), .agg #[.int .i64 (clampZ t.soft), .int .i64 0]] w fun e w' => ∃ (x : QI) (A B : List QI), x.tm = t ∧ e = .returned (.tuple #[.agg #[.int .i64 x.n, .int .i64 x.tu], .int .i64 0]) ∧ L = A ++ B ∧
      x.n ≤ 64 ∧ 0 ≤ x.tu ∧ x.tu ≤ ((n + 1 : Nat) : Int) ∧ (∀ y ∈ L, y.n ≠ x.n) ∧ (A ++ x :: B).map (·.tm) = insT t (L.map (·.tm)) ∧ (∃ tf, Tre w' a.t a.g 64 tf ((A ++ x :: B).map QI.it) ∧ ∀ y, 0 ≤ tf y ∧ tf y ≤ ((n + 1 : Nat) : Int)) ∧ Ft a.tg w w' := by
  obtain ⟨tf, tr, htf⟩ := h.tre
  refine (tput a.t a.g 64 tf (L.map QI.it) w tr (by rw [List.length_map]; exact hl) (fun x => ⟨(htf x).1, by have := (htf x).2; omega⟩) (clampZ t.soft) 0).mono ?_
  rintro e w' ⟨nn, pre, post, rfl, n1, n2, n3, l3, q1, q2, tr3, tt3⟩
  obtain ⟨A, B, rfl, rfl, rfl⟩ := List.map_eq_append_iff.1 l3
  refine ⟨⟨nn, tf nn + 1, t⟩, A, B, rfl, rfl, rfl, n2, ?_, ?_, ?_, ?_, ⟨fun x => if x = nn then tf nn + 1 else tf x, ?_, ?_⟩, Ft.of_touch tt3 (.inl rfl) (.inr rfl)⟩
  · have := (htf nn).1; show 0 ≤ tf nn + 1; omega
  · have := (htf nn).2; show tf nn + 1 ≤ _; omega
  · intro y hy e
    exact n3 _ (List.mem_map.2 ⟨y, hy, rfl⟩) e
  · rw [List.map_append, List.map_append, List.map_cons, insT_split t]
    · intro y hy
      obtain ⟨z, hz, rfl⟩ := List.mem_map.1 hy
      have := q1 _ (List.mem_map.2 ⟨z, hz, rfl⟩)
      rcases klt_not.1 this with h1 | ⟨h1, _⟩
      · exact Int.le_of_lt h1
      · exact Int.le_of_eq h1.symm
    · intro y hy
      obtain ⟨z, hz, rfl⟩ := List.mem_map.1 hy
      have := q2 _ (List.mem_map.2 ⟨z, hz, rfl⟩)
      rcases klt_iff.1 this with h1 | ⟨_, h1⟩
      · exact h1
      · exact absurd h1 (by show ¬ (0 : Int) < 0; omega)
  · rw [List.map_append, List.map_cons]
    exact tr3
  · intro y
    have h1 := htf y
    have h2 := htf nn
    show 0 ≤ (if y = nn then tf nn + 1 else tf y) ∧ (if y = nn then tf nn + 1 else tf y) ≤ _
    split <;> omega
theorem qadd_nil (w : World) (t : Tmr) : Calls Try.prog 9 #[.pointer none, tv t] w fun e w' => e = .returned (.int .i64 1) ∧ Below w.heap.size w w' := by
  unfold tv
  go_enter Try.func9, Try.ntmps9
  go_wp2
  go_ret
  exact ⟨rfl, one_below _ _⟩
theorem qadd_inval (q : Nat) (w : World) (t : Tmr) (h : t.hard < t.soft) : Calls Try.prog 9 #[.pointer (some ⟨q, 0, none⟩), tv t] w fun e w' => e = .returned (.int .i64 2) ∧ Below w.heap.size w w' := by
  obtain ⟨id, cl, so, ha, la⟩ := t
  simp only at h
  unfold tv
  simp only
  go_enter Try.func9, Try.ntmps9
  go_wp2
  go_ret
  exact ⟨rfl, one_below _ _⟩
theorem qadd_busy (h : Que w a n L) (t : Tmr) (hs : ¬ t.hard < t.soft) (hid : t.id ∈ L.map (·.tm.id)) : Calls Try.prog 9 #[.pointer (some ⟨a.q, 0, none⟩), tv t] w fun e w' => e = .returned (.int .i64 9) ∧ Below w.heap.size w w' := by
  obtain ⟨y, hy, hyi⟩ := List.mem_map.1 hid
  obtain ⟨id, cl, so, ha, la⟩ := t
  simp only at hs hyi
  have CH := hide (fun o => qhas_in (h.below (one_below w o)) y hy)
  simp only [hyi] at CH
  unfold tv
  simp only
  clear hy hyi h hid
  go_enter Try.func9, Try.ntmps9
  go_wp2_with (go_at_call 16; refine (unhide CH _).mono ?_; rintro e w' ⟨rfl, hb⟩)
  go_ret
  exact ⟨rfl, (one_below _ _).trans (hb.mono (one_below _ _).size)⟩
set_option maxRecDepth 100000 in
set_option maxHeartbeats 1000000 in
theorem qadd_full (h : Que w a n L) (t : Tmr) (hs : ¬ t.hard < t.soft) (hid : isI t.id) (hin : t.id ∉ L.map (·.tm.id)) (hl : L.length = 64) : Calls Try.prog 9 #[.pointer (some ⟨a.q, 0, none⟩), tv t] w fun e w' => e = .returned (.int .i64 3) ∧ Below w.heap.size w w' := by
  obtain ⟨id, cl, so, ha, la⟩ := t
  simp only at hs hin hid
  obtain ⟨B0, hB0⟩ : ∃ b, w.heap.size = b := ⟨_, rfl⟩
  obtain ⟨W0, hW0⟩ : ∃ W0, W0 = w.alloc (.cells #[.int .i64 id, .int .i64 cl, .int .i64 so, .int .i64 ha, .bool la] 28) := ⟨_, rfl⟩
  have b0 : Below w.heap.size w W0 := by rw [hW0]; exact one_below _ _
  have k0 : Blk W0 B0 28 #[.int .i64 id, .int .i64 cl, .int .i64 so, .int .i64 ha, .bool la] := by rw [hW0]; exact Blk.new_at _ _ _ hB0.symm
  have h0 := h.below b0
  have HW := hide hW0
  have CH := hide (qhas_out h0 id hid hin)
  have H0 := hide (And.intro h0 (And.intro k0 b0))
  have x0 := k0.cell 0
  have x2 := k0.cell 2
  have x3 := k0.cell 3
  simp only [List.getElem?_toArray, List.getElem?_cons_zero, List.getElem?_cons_succ] at x0 x2 x3
  rw [hW0] at x0 x2 x3
  obtain ⟨C, hC⟩ : ∃ C, clampZ so = C := ⟨_, rfl⟩
  have CK := fun w' => hide (kclamp_any so w')
  rw [hC] at CK
  have HL := hide hl
  clear h h0 k0 b0 hid hin hW0 hl hC
  unfold tv
  simp only
  go_enter Try.func9, Try.ntmps9
  go_wp2_with (go_at_call 16; refine Hid.out ?_)
  refine hide ?_
  rw [← unhide HW]
  refine (unhide CH).mono ?_
  rintro e w1 ⟨rfl, hb1⟩
  obtain ⟨h0, k0, b0⟩ := unhide H0
  have h1 := h0.below hb1
  have k1 := k0.below hb1 k0.lt
  have c0 := h1.c0
  have d0 := k1.cell 0
  have d2 := k1.cell 2
  simp only [List.getElem?_toArray, List.getElem?_cons_zero, List.getElem?_cons_succ] at d0 d2
  have CT := hide (fun w2 (hb : Below w1.heap.size w1 w2) => (h1.below hb).tre.elim fun tf x => tput_full a.t a.g 64 tf _ w2 x.1 (by rw [List.length_map]; exact unhide HL) C 0)
  have H1 := hide (And.intro (b0.trans (hb1.mono b0.size)) (And.intro hb1.size b0.size))
  have hdr : Below w1.heap.size w1 w1.drew := below_drew (Below.refl _ _)
  have K0 := fun w2 (hb : Below w1.heap.size w1 w2) => hb.cell (p := ⟨a.q, 0, none⟩) (h1.lts _ (.inl rfl))
  have K2 := fun w2 (hb : Below w1.heap.size w1 w2) => hb.cell (p := ⟨B0, 2, none⟩) k1.lt
  simp only [c0, d2] at K0 K2
  clear h0 k0 b0 h1 k1 hb1 x0 x2 x3 HW CH H0
  go_wp2_with fail
  go_cut [5, 6] (fun s5 s6 wx => ∃ B : Nat, s5 = .pointer (some ⟨B, 0, none⟩) ∧ s6 = .int .i64 3 ∧ Below w1.heap.size w1 wx)
  case first =>
    refine wp_region_held_drew (S := (fun w' => Below w1.heap.size w1 w')) (by kernel_rfl) ?_ (fun hHeld => ?_)
    · (first | (with_reducible assumption) | (with_reducible exact Below.alloc (by assumption) (Below.size (by assumption)) _) | (with_reducible exact below_set2 (by assumption) (Below.size (by assumption)) _ _))
    generalize World.drew _ = wd at *
    refine wpAnyH_take (i := 0) (oi := ?o1) (v := ?v1) ?hi1 (by kernel_rfl) (by kernel_rfl) (by kernel_rfl) ?hQ1 (Or.inl ⟨?hw1, ?hy1⟩) (by assumption) ?_
    case hi1 => (simp only [List.getElem?_toArray, List.getElem?_cons_zero]; rfl)
    case hQ1 => exact fun _ _ _ h => h
    case hw1 => rfl
    case hy1 => (intro w hSw; (try dsimp only at hSw); go_simp; (try with_reducible rfl))
    simp only [Act.put, List.setIfInBounds_toArray, List.set_cons_zero, List.set_cons_succ]
    refine wpAnyH_take (i := 1) (oi := ?o2) (v := ?v2) ?hi2 (by kernel_rfl) (by kernel_rfl) (by kernel_rfl) ?hQ2 (Or.inl ⟨?hw2, ?hy2⟩) (by assumption) ?_
    case hi2 => (simp only [List.getElem?_toArray, List.getElem?_cons_succ, List.getElem?_cons_zero]; rfl)
    case hQ2 => exact fun _ _ _ h => h
    case hw2 => rfl
    case hy2 => (intro w hSw; (try dsimp only at hSw); go_simp; (try with_reducible rfl))
    simp only [Act.put, List.setIfInBounds_toArray, List.set_cons_zero, List.set_cons_succ]
    refine wpAnyH_take (i := 2) (oi := ?o3) (v := ?v3) ?hi3 (by kernel_rfl) (by kernel_rfl) (by kernel_rfl) ?hQ3 (Or.inl ⟨?hw3, ?hy3⟩) (by assumption) ?_
    case hi3 => (simp only [List.getElem?_toArray, List.getElem?_cons_succ, List.getElem?_cons_zero]; rfl)
    case hQ3 => exact fun _ _ _ h => h
    case hw3 => rfl
    case hy3 => (intro w hSw; (try dsimp only at hSw); go_simp; (try with_reducible rfl))
    simp only [Act.put, List.setIfInBounds_toArray, List.set_cons_zero, List.set_cons_succ]
    refine wpAnyH_take (i := 3) (oi := ?o4) (v := ?v4) ?hi4 (by kernel_rfl) (by kernel_rfl) (by kernel_rfl) ?hQ4 (Or.inl ⟨?hw4, ?hy4⟩) (by assumption) ?_
    case hi4 => (simp only [List.getElem?_toArray, List.getElem?_cons_succ, List.getElem?_cons_zero]; rfl)
    case hQ4 => exact fun _ _ _ h => h
    case hw4 => rfl
    case hy4 => (intro w hSw; (try dsimp only at hSw); go_simp; (try with_reducible rfl))
    simp only [Act.put, List.setIfInBounds_toArray, List.set_cons_zero, List.set_cons_succ]
    refine wpAnyH_take (i := 4) (oi := ?o5) (v := ?v5) ?hi5 (by kernel_rfl) (by kernel_rfl) (by kernel_rfl) ?hQ5 (Or.inl ⟨?hw5, ?hy5⟩) (by assumption) ?_
    case hi5 => (simp only [List.getElem?_toArray, List.getElem?_cons_succ, List.getElem?_cons_zero]; rfl)
    case hQ5 => exact fun _ _ _ h => h
    case hw5 => rfl
    case hy5 => (intro w hSw; (try dsimp only at hSw); go_simp; (try with_reducible rfl))
    simp only [Act.put, List.setIfInBounds_toArray, List.set_cons_zero, List.set_cons_succ]
    refine wpAnyH_take (i := 5) (oi := ?o6) (v := ?v6) ?hi6 (by kernel_rfl) (by kernel_rfl) (by kernel_rfl) ?hQ6 (Or.inl ⟨?hw6, ?hy6⟩) (by assumption) ?_
    case hi6 => (simp only [List.getElem?_toArray, List.getElem?_cons_succ, List.getElem?_cons_zero]; rfl)
    case hQ6 => exact fun _ _ _ h => h
    case hw6 => rfl
    case hy6 => (intro w hSw; (try dsimp only at hSw); go_simp; (try with_reducible rfl))
    simp only [Act.put, List.setIfInBounds_toArray, List.set_cons_zero, List.set_cons_succ]
    refine wpAnyH_ready (rs := [6, 12]) (by kernel_rfl) (by simp) ?_
    refine AllReadyH.cons (o := ?o7) ?hi7 (fun K hK => ?_) (AllReadyH.cons (o := ?p7) ?hj7 (fun K hK => ?_) AllReadyH.nil)
    case hi7 => (simp only [List.getElem?_toArray, List.getElem?_cons_succ, List.getElem?_cons_zero]; rfl)
    case hj7 => (simp only [List.getElem?_toArray, List.getElem?_cons_succ, List.getElem?_cons_zero]; rfl)
    · go_simp
      (first | (go_at_call 19; refine (unhide (CK _)).mono ?_; rintro e wk ⟨rfl, rfl⟩) | (go_at_call 18; refine (unhide CT _ (by assumption)).mono ?_; rintro e wp ⟨rfl, hbp⟩; have hbq := Below.trans (by assumption) (Below.mono hbp (Below.size (by assumption))); (try (have kq := box_below hbp; have q0 := kq.cell 0; have q1 := kq.cell 1; have q2 := kq.free; simp only [List.getElem?_toArray, List.getElem?_cons_zero, List.getElem?_cons_succ] at q0 q1; clear kq)); clear hbp))
      refine hK.out _ _ ?_ (fun hHeld => ?_)
      · (first | (with_reducible assumption) | (with_reducible exact Below.alloc (by assumption) (Below.size (by assumption)) _) | (with_reducible exact below_set2 (by assumption) (Below.size (by assumption)) _ _))
      clear hK K
      refine wpAnyH_take (i := 7) (oi := ?o8) (v := ?v8) ?hi8 (by kernel_rfl) (by kernel_rfl) (by kernel_rfl) ?hQ8 (Or.inl ⟨?hw8, ?hy8⟩) (by assumption) ?_
      case hi8 => (simp only [List.getElem?_toArray, List.getElem?_cons_succ, List.getElem?_cons_zero]; rfl)
      case hQ8 => exact fun _ _ _ h => h
      case hw8 => rfl
      case hy8 => (intro w hSw; (try dsimp only at hSw); go_simp; (try with_reducible rfl))
      simp only [Act.put, List.setIfInBounds_toArray, List.set_cons_zero, List.set_cons_succ]
      refine wpAnyH_ready (rs := [8, 12]) (by kernel_rfl) (by simp) ?_
      refine AllReadyH.cons (o := ?o9) ?hi9 (fun K hK => ?_) (AllReadyH.cons (o := ?p9) ?hj9 (fun K hK => ?_) AllReadyH.nil)
      case hi9 => (simp only [List.getElem?_toArray, List.getElem?_cons_succ, List.getElem?_cons_zero]; rfl)
      case hj9 => (simp only [List.getElem?_toArray, List.getElem?_cons_succ, List.getElem?_cons_zero]; rfl)
      · go_simp
        (first | (go_at_call 19; refine (unhide (CK _)).mono ?_; rintro e wk ⟨rfl, rfl⟩) | (go_at_call 18; refine (unhide CT _ (by assumption)).mono ?_; rintro e wp ⟨rfl, hbp⟩; have hbq := Below.trans (by assumption) (Below.mono hbp (Below.size (by assumption))); (try (have kq := box_below hbp; have q0 := kq.cell 0; have q1 := kq.cell 1; have q2 := kq.free; simp only [List.getElem?_toArray, List.getElem?_cons_zero, List.getElem?_cons_succ] at q0 q1; clear kq)); clear hbp))
        refine hK.out _ _ ?_ (fun hHeld => ?_)
        · (first | (with_reducible assumption) | (with_reducible exact Below.alloc (by assumption) (Below.size (by assumption)) _) | (with_reducible exact below_set2 (by assumption) (Below.size (by assumption)) _ _))
        clear hK K
        refine wpAnyH_take (i := 9) (oi := ?o10) (v := ?v10) ?hi10 (by kernel_rfl) (by kernel_rfl) (by kernel_rfl) ?hQ10 (Or.inl ⟨?hw10, ?hy10⟩) (by assumption) ?_
        case hi10 => (simp only [List.getElem?_toArray, List.getElem?_cons_succ, List.getElem?_cons_zero]; rfl)
        case hQ10 => exact fun _ _ _ h => h
        case hw10 => rfl
        case hy10 => (intro w hSw; (try dsimp only at hSw); go_simp; (try with_reducible rfl))
        simp only [Act.put, List.setIfInBounds_toArray, List.set_cons_zero, List.set_cons_succ]
        refine wpAnyH_take (i := 10) (oi := ?o11) (v := ?v11) ?hi11 (by kernel_rfl) (by kernel_rfl) (by kernel_rfl) ?hQ11 (Or.inl ⟨?hw11, ?hy11⟩) (by assumption) ?_
        case hi11 => (simp only [List.getElem?_toArray, List.getElem?_cons_succ, List.getElem?_cons_zero]; rfl)
        case hQ11 => exact fun _ _ _ h => h
        case hw11 => rfl
        case hy11 => (intro w hSw; (try dsimp only at hSw); go_simp; (try with_reducible rfl))
        simp only [Act.put, List.setIfInBounds_toArray, List.set_cons_zero, List.set_cons_succ]
        refine wpAnyH_take (i := 11) (oi := ?o12) (v := ?v12) ?hi12 (by kernel_rfl) (by kernel_rfl) (by kernel_rfl) ?hQ12 (Or.inl ⟨?hw12, ?hy12⟩) (by assumption) ?_
        case hi12 => (simp only [List.getElem?_toArray, List.getElem?_cons_succ, List.getElem?_cons_zero]; rfl)
        case hQ12 => exact fun _ _ _ h => h
        case hw12 => rfl
        case hy12 => (intro w hSw; (try dsimp only at hSw); go_simp; (try with_reducible rfl))
        simp only [Act.put, List.setIfInBounds_toArray, List.set_cons_zero, List.set_cons_succ]
        refine wpAnyH_ready (rs := [12]) (by kernel_rfl) (by simp) ?_
        refine AllReadyH.cons (o := ?o13) ?hi13 (fun K hK => ?_) AllReadyH.nil
        case hi13 => (simp only [List.getElem?_toArray, List.getElem?_cons_succ, List.getElem?_cons_zero]; rfl)
        go_simp
        skip
        refine hK.out _ _ ?_ (fun hHeld => ?_)
        · (first | (with_reducible assumption) | (with_reducible exact Below.alloc (by assumption) (Below.size (by assumption)) _) | (with_reducible exact below_set2 (by assumption) (Below.size (by assumption)) _ _))
        clear hK K
        refine wpAnyH_ready (rs := [13]) (by kernel_rfl) (by simp) ?_
        refine AllReadyH.cons (o := ?o14) ?hi14 (fun K hK => ?_) AllReadyH.nil
        case hi14 => (simp only [List.getElem?_toArray, List.getElem?_cons_succ, List.getElem?_cons_zero]; rfl)
        go_simp
        skip
        refine hK.out _ _ ?_ (fun hHeld => ?_)
        · (first | (with_reducible assumption) | (with_reducible exact Below.alloc (by assumption) (Below.size (by assumption)) _) | (with_reducible exact below_set2 (by assumption) (Below.size (by assumption)) _ _))
        clear hK K
        refine wpAnyH_take (i := 14) (oi := ?o15) (v := ?v15) ?hi15 (by kernel_rfl) (by kernel_rfl) (by kernel_rfl) ?hQ15 (Or.inl ⟨?hw15, ?hy15⟩) (by assumption) ?_
        case hi15 => (simp only [List.getElem?_toArray, List.getElem?_cons_succ, List.getElem?_cons_zero]; rfl)
        case hQ15 => exact fun _ _ _ h => h
        case hw15 => rfl
        case hy15 => (intro w hSw; (try dsimp only at hSw); go_simp; (try with_reducible rfl))
        simp only [Act.put, List.setIfInBounds_toArray, List.set_cons_zero, List.set_cons_succ]
        refine wpAnyH_done (by kernel_rfl) ?_ _
        go_wp2_with fail; go_meet; refine ⟨_, rfl, rfl, ?_⟩; (with_reducible assumption)
      · go_simp
        refine hK.out _ _ ?_ (fun hHeld => ?_)
        · (first | (with_reducible assumption) | (with_reducible exact Below.alloc (by assumption) (Below.size (by assumption)) _) | (with_reducible exact below_set2 (by assumption) (Below.size (by assumption)) _ _))
        clear hK K
        refine wpAnyH_ready (rs := [8]) (by kernel_rfl) (by simp) ?_
        refine AllReadyH.cons (o := ?o16) ?hi16 (fun K hK => ?_) AllReadyH.nil
        case hi16 => (simp only [List.getElem?_toArray, List.getElem?_cons_succ, List.getElem?_cons_zero]; rfl)
        go_simp
        (first | (go_at_call 19; refine (unhide (CK _)).mono ?_; rintro e wk ⟨rfl, rfl⟩) | (go_at_call 18; refine (unhide CT _ (by assumption)).mono ?_; rintro e wp ⟨rfl, hbp⟩; have hbq := Below.trans (by assumption) (Below.mono hbp (Below.size (by assumption))); (try (have kq := box_below hbp; have q0 := kq.cell 0; have q1 := kq.cell 1; have q2 := kq.free; simp only [List.getElem?_toArray, List.getElem?_cons_zero, List.getElem?_cons_succ] at q0 q1; clear kq)); clear hbp))
        refine hK.out _ _ ?_ (fun hHeld => ?_)
        · (first | (with_reducible assumption) | (with_reducible exact Below.alloc (by assumption) (Below.size (by assumption)) _) | (with_reducible exact below_set2 (by assumption) (Below.size (by assumption)) _ _))
        clear hK K
        refine wpAnyH_take (i := 9) (oi := ?o17) (v := ?v17) ?hi17 (by kernel_rfl) (by kernel_rfl) (by kernel_rfl) ?hQ17 (Or.inl ⟨?hw17, ?hy17⟩) (by assumption) ?_
        case hi17 => (simp only [List.getElem?_toArray, List.getElem?_cons_succ, List.getElem?_cons_zero]; rfl)
        case hQ17 => exact fun _ _ _ h => h
        case hw17 => rfl
        case hy17 => (intro w hSw; (try dsimp only at hSw); go_simp; (try with_reducible rfl))
        simp only [Act.put, List.setIfInBounds_toArray, List.set_cons_zero, List.set_cons_succ]
        refine wpAnyH_take (i := 10) (oi := ?o18) (v := ?v18) ?hi18 (by kernel_rfl) (by kernel_rfl) (by kernel_rfl) ?hQ18 (Or.inl ⟨?hw18, ?hy18⟩) (by assumption) ?_
        case hi18 => (simp only [List.getElem?_toArray, List.getElem?_cons_succ, List.getElem?_cons_zero]; rfl)
        case hQ18 => exact fun _ _ _ h => h
        case hw18 => rfl
        case hy18 => (intro w hSw; (try dsimp only at hSw); go_simp; (try with_reducible rfl))
        simp only [Act.put, List.setIfInBounds_toArray, List.set_cons_zero, List.set_cons_succ]
        refine wpAnyH_take (i := 11) (oi := ?o19) (v := ?v19) ?hi19 (by kernel_rfl) (by kernel_rfl) (by kernel_rfl) ?hQ19 (Or.inl ⟨?hw19, ?hy19⟩) (by assumption) ?_
        case hi19 => (simp only [List.getElem?_toArray, List.getElem?_cons_succ, List.getElem?_cons_zero]; rfl)
        case hQ19 => exact fun _ _ _ h => h
        case hw19 => rfl
        case hy19 => (intro w hSw; (try dsimp only at hSw); go_simp; (try with_reducible rfl))
        simp only [Act.put, List.setIfInBounds_toArray, List.set_cons_zero, List.set_cons_succ]
        refine wpAnyH_ready (rs := [13]) (by kernel_rfl) (by simp) ?_
        refine AllReadyH.cons (o := ?o20) ?hi20 (fun K hK => ?_) AllReadyH.nil
        case hi20 => (simp only [List.getElem?_toArray, List.getElem?_cons_succ, List.getElem?_cons_zero]; rfl)
        go_simp
        skip
        refine hK.out _ _ ?_ (fun hHeld => ?_)
        · (first | (with_reducible assumption) | (with_reducible exact Below.alloc (by assumption) (Below.size (by assumption)) _) | (with_reducible exact below_set2 (by assumption) (Below.size (by assumption)) _ _))
        clear hK K
        refine wpAnyH_take (i := 14) (oi := ?o21) (v := ?v21) ?hi21 (by kernel_rfl) (by kernel_rfl) (by kernel_rfl) ?hQ21 (Or.inl ⟨?hw21, ?hy21⟩) (by assumption) ?_
        case hi21 => (simp only [List.getElem?_toArray, List.getElem?_cons_succ, List.getElem?_cons_zero]; rfl)
        case hQ21 => exact fun _ _ _ h => h
        case hw21 => rfl
        case hy21 => (intro w hSw; (try dsimp only at hSw); go_simp; (try with_reducible rfl))
        simp only [Act.put, List.setIfInBounds_toArray, List.set_cons_zero, List.set_cons_succ]
        refine wpAnyH_done (by kernel_rfl) ?_ _
        go_wp2_with fail; go_meet; refine ⟨_, rfl, rfl, ?_⟩; (with_reducible assumption)
    · go_simp
      refine hK.out _ _ ?_ (fun hHeld => ?_)
      · (first | (with_reducible assumption) | (with_reducible exact Below.alloc (by assumption) (Below.size (by assumption)) _) | (with_reducible exact below_set2 (by assumption) (Below.size (by assumption)) _ _))
      clear hK K
      refine wpAnyH_ready (rs := [6]) (by kernel_rfl) (by simp) ?_
      refine AllReadyH.cons (o := ?o22) ?hi22 (fun K hK => ?_) AllReadyH.nil
      case hi22 => (simp only [List.getElem?_toArray, List.getElem?_cons_succ, List.getElem?_cons_zero]; rfl)
      go_simp
      (first | (go_at_call 19; refine (unhide (CK _)).mono ?_; rintro e wk ⟨rfl, rfl⟩) | (go_at_call 18; refine (unhide CT _ (by assumption)).mono ?_; rintro e wp ⟨rfl, hbp⟩; have hbq := Below.trans (by assumption) (Below.mono hbp (Below.size (by assumption))); (try (have kq := box_below hbp; have q0 := kq.cell 0; have q1 := kq.cell 1; have q2 := kq.free; simp only [List.getElem?_toArray, List.getElem?_cons_zero, List.getElem?_cons_succ] at q0 q1; clear kq)); clear hbp))
      refine hK.out _ _ ?_ (fun hHeld => ?_)
      · (first | (with_reducible assumption) | (with_reducible exact Below.alloc (by assumption) (Below.size (by assumption)) _) | (with_reducible exact below_set2 (by assumption) (Below.size (by assumption)) _ _))
      clear hK K
      refine wpAnyH_take (i := 7) (oi := ?o23) (v := ?v23) ?hi23 (by kernel_rfl) (by kernel_rfl) (by kernel_rfl) ?hQ23 (Or.inl ⟨?hw23, ?hy23⟩) (by assumption) ?_
      case hi23 => (simp only [List.getElem?_toArray, List.getElem?_cons_succ, List.getElem?_cons_zero]; rfl)
      case hQ23 => exact fun _ _ _ h => h
      case hw23 => rfl
      case hy23 => (intro w hSw; (try dsimp only at hSw); go_simp; (try with_reducible rfl))
      simp only [Act.put, List.setIfInBounds_toArray, List.set_cons_zero, List.set_cons_succ]
      refine wpAnyH_ready (rs := [8]) (by kernel_rfl) (by simp) ?_
      refine AllReadyH.cons (o := ?o24) ?hi24 (fun K hK => ?_) AllReadyH.nil
      case hi24 => (simp only [List.getElem?_toArray, List.getElem?_cons_succ, List.getElem?_cons_zero]; rfl)
      go_simp
      (first | (go_at_call 19; refine (unhide (CK _)).mono ?_; rintro e wk ⟨rfl, rfl⟩) | (go_at_call 18; refine (unhide CT _ (by assumption)).mono ?_; rintro e wp ⟨rfl, hbp⟩; have hbq := Below.trans (by assumption) (Below.mono hbp (Below.size (by assumption))); (try (have kq := box_below hbp; have q0 := kq.cell 0; have q1 := kq.cell 1; have q2 := kq.free; simp only [List.getElem?_toArray, List.getElem?_cons_zero, List.getElem?_cons_succ] at q0 q1; clear kq)); clear hbp))
      refine hK.out _ _ ?_ (fun hHeld => ?_)
      · (first | (with_reducible assumption) | (with_reducible exact Below.alloc (by assumption) (Below.size (by assumption)) _) | (with_reducible exact below_set2 (by assumption) (Below.size (by assumption)) _ _))
      clear hK K
      refine wpAnyH_take (i := 9) (oi := ?o25) (v := ?v25) ?hi25 (by kernel_rfl) (by kernel_rfl) (by kernel_rfl) ?hQ25 (Or.inl ⟨?hw25, ?hy25⟩) (by assumption) ?_
      case hi25 => (simp only [List.getElem?_toArray, List.getElem?_cons_succ, List.getElem?_cons_zero]; rfl)
      case hQ25 => exact fun _ _ _ h => h
      case hw25 => rfl
      case hy25 => (intro w hSw; (try dsimp only at hSw); go_simp; (try with_reducible rfl))
      simp only [Act.put, List.setIfInBounds_toArray, List.set_cons_zero, List.set_cons_succ]
      refine wpAnyH_take (i := 10) (oi := ?o26) (v := ?v26) ?hi26 (by kernel_rfl) (by kernel_rfl) (by kernel_rfl) ?hQ26 (Or.inl ⟨?hw26, ?hy26⟩) (by assumption) ?_
      case hi26 => (simp only [List.getElem?_toArray, List.getElem?_cons_succ, List.getElem?_cons_zero]; rfl)
      case hQ26 => exact fun _ _ _ h => h
      case hw26 => rfl
      case hy26 => (intro w hSw; (try dsimp only at hSw); go_simp; (try with_reducible rfl))
      simp only [Act.put, List.setIfInBounds_toArray, List.set_cons_zero, List.set_cons_succ]
      refine wpAnyH_take (i := 11) (oi := ?o27) (v := ?v27) ?hi27 (by kernel_rfl) (by kernel_rfl) (by kernel_rfl) ?hQ27 (Or.inl ⟨?hw27, ?hy27⟩) (by assumption) ?_
      case hi27 => (simp only [List.getElem?_toArray, List.getElem?_cons_succ, List.getElem?_cons_zero]; rfl)
      case hQ27 => exact fun _ _ _ h => h
      case hw27 => rfl
      case hy27 => (intro w hSw; (try dsimp only at hSw); go_simp; (try with_reducible rfl))
      simp only [Act.put, List.setIfInBounds_toArray, List.set_cons_zero, List.set_cons_succ]
      refine wpAnyH_ready (rs := [13]) (by kernel_rfl) (by simp) ?_
      refine AllReadyH.cons (o := ?o28) ?hi28 (fun K hK => ?_) AllReadyH.nil
      case hi28 => (simp only [List.getElem?_toArray, List.getElem?_cons_succ, List.getElem?_cons_zero]; rfl)
      go_simp
      skip
      refine hK.out _ _ ?_ (fun hHeld => ?_)
      · (first | (with_reducible assumption) | (with_reducible exact Below.alloc (by assumption) (Below.size (by assumption)) _) | (with_reducible exact below_set2 (by assumption) (Below.size (by assumption)) _ _))
      clear hK K
      refine wpAnyH_take (i := 14) (oi := ?o29) (v := ?v29) ?hi29 (by kernel_rfl) (by kernel_rfl) (by kernel_rfl) ?hQ29 (Or.inl ⟨?hw29, ?hy29⟩) (by assumption) ?_
      case hi29 => (simp only [List.getElem?_toArray, List.getElem?_cons_succ, List.getElem?_cons_zero]; rfl)
      case hQ29 => exact fun _ _ _ h => h
      case hw29 => rfl
      case hy29 => (intro w hSw; (try dsimp only at hSw); go_simp; (try with_reducible rfl))
      simp only [Act.put, List.setIfInBounds_toArray, List.set_cons_zero, List.set_cons_succ]
      refine wpAnyH_done (by kernel_rfl) ?_ _
      go_wp2_with fail; go_meet; refine ⟨_, rfl, rfl, ?_⟩; (with_reducible assumption)
  case rest =>
    obtain ⟨B, rfl, rfl, hbx⟩ := hcut
    go_wp2_with fail
    go_ret
    exact ⟨rfl, (unhide H1).1.trans (hbx.mono (by have := (unhide H1).2; omega))⟩
end
end Go.Proofs.Ytihfldjoogaolaa
