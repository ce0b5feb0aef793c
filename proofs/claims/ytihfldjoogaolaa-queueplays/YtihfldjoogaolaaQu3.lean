import Derived.Test.YtihfldjoogaolaaQu2
namespace Go.Proofs.Ytihfldjoogaolaa
open Go.RowKit Kt Qu
set_option linter.unusedVariables false

section
variable {w : World} {a : Qa} {n : Nat} {L : List QI}
theorem Qa.Ap.tgq {a : Qa} (h : a.Ap) : ¬ a.tg a.q := fun e => by rcases e with e | e; exact h.qt e; exact h.qg e
theorem Qa.Ap.tgh {a : Qa} (h : a.Ap) : ¬ a.tg a.mh := fun e => by rcases e with e | e; exact h.th e.symm; exact h.gh e.symm
theorem Qa.Ap.tgm {a : Qa} (h : a.Ap) : ¬ a.tg a.mt := fun e => by rcases e with e | e; exact h.tm e.symm; exact h.gm e.symm
theorem Qa.tg_foot {a : Qa} {k : Nat} (h : a.tg k) : a.foot k := by rcases h with h | h; exact .inr (.inl h); exact .inr (.inr (.inl h))
theorem tre_set2 {w : World} {T G P : Nat} {tf : Nat → Int} {L : List It} (h : Tre w T G P tf L) {b : Nat} (hb : b ≠ T ∧ b ≠ G) (u v : Value) : Tre ((w.setCell ⟨b, 0, none⟩ u).setCell ⟨b, 1, none⟩ v) T G P tf L := (h.set hb.1 hb.2 0 u).set hb.1 hb.2 1 v
theorem blk_put2 {w : World} {g : Nat} {t : TypeId} {x y : Value} (h : Blk w g t #[x, y]) (u v : Value) : Blk ((w.setCell ⟨g, 0, none⟩ u).setCell ⟨g, 1, none⟩ v) g t #[u, v] := (h.put 0 u).put 1 v
theorem not_tg {W : World} (hf : ∀ k, a.tg k → k < W.heap.size) {b : Nat} (hb : W.heap.size ≤ b) : ¬ a.tg b := fun h => by have := hf b h; omega
set_option maxRecDepth 100000 in
set_option maxHeartbeats 1000000 in
theorem qadd_ok (h : Que w a n L) (hn : n < 1000000) (t : Tmr) (hs : ¬ t.hard < t.soft) (hok : okT t) (hin : t.id ∉ L.map (·.tm.id)) (hl : L.length < 64) :
    Calls Try.prog 9 #[.pointer (some ⟨a.q, 0, none⟩), tv t] w fun e w' => e = .returned (.int .i64 0) ∧ (∃ L', Que w' a (n + 1) L' ∧ L'.map (·.tm) = insT t (L.map (·.tm))) ∧ Ft a.foot w w' := by
  have CTP := hide (fun w2 (h2 : Que w2 a n L) => qtree_put h2 hl hn t)
  obtain ⟨id, cl, so, ha, la⟩ := t
  simp only at hs hin CTP
  obtain ⟨hid, -, -, -⟩ := (show okT ⟨id, cl, so, ha, la⟩ from hok)
  simp only at hid
  obtain ⟨B0, hB0⟩ : ∃ b, w.heap.size = b := ⟨_, rfl⟩
  obtain ⟨W0, hW0⟩ : ∃ W0, W0 = w.alloc (.cells #[.int .i64 id, .int .i64 cl, .int .i64 so, .int .i64 ha, .bool la] 28) := ⟨_, rfl⟩
  have b0 : Below w.heap.size w W0 := by rw [hW0]; exact one_below _ _
  have k0 : Blk W0 B0 28 #[.int .i64 id, .int .i64 cl, .int .i64 so, .int .i64 ha, .bool la] := by rw [hW0]; exact Blk.new_at _ _ _ hB0.symm
  have h0 := h.below b0
  have hB0f : ¬ a.foot B0 := fun hk => by have := h.lts _ hk; omega
  have HW := hide hW0
  have CH := hide (qhas_out h0 id hid hin)
  have H0 := hide (And.intro h0 (And.intro k0 b0))
  have x0 := k0.cell 0
  have x2 := k0.cell 2
  have x3 := k0.cell 3
  simp only [List.getElem?_toArray, List.getElem?_cons_zero, List.getElem?_cons_succ] at x0 x2 x3
  rw [hW0] at x0 x2 x3
  obtain ⟨C, hC⟩ : ∃ C, clampZ so = C := ⟨_, rfl⟩
  have CK := fun w' => hide (kclamp_any so w')
  rw [hC] at CK CTP
  have HIN := hide (And.intro hin (And.intro hok hid))
  clear h h0 k0 b0 hid hin hok hW0 hl hC
  unfold tv
  simp only
  go_enter Try.func9, Try.ntmps9
  go_wp2_with (go_at_call 16; refine Hid.out ?_)
  refine hide ?_
  rw [← unhide HW]
  refine (unhide CH).mono ?_
  rintro e w1 ⟨rfl, hb1⟩
  obtain ⟨h0, k0, b0⟩ := unhide H0
  have h1 := h0.below hb1
  have k1 := k0.below hb1 k0.lt
  have c0 := h1.c0
  have d0 := k1.cell 0
  have d2 := k1.cell 2
  simp only [List.getElem?_toArray, List.getElem?_cons_zero, List.getElem?_cons_succ] at d0 d2
  have hFl : ∀ k, a.tg k → k < w1.heap.size := fun k hk => h1.lts k (Qa.tg_foot hk)
  have CT := hide (fun w2 (hb : Below w1.heap.size w1 w2) => (unhide CTP) w2 (h1.below hb))
  have H1 := hide (And.intro h1 (And.intro k1 (And.intro (b0.trans (hb1.mono b0.size)) (And.intro hb1.size b0.size))))
  have hB0l := k1.lt
  have K0 := fun w2 (hb : Ft a.tg w1 w2) => (hb.cell c0 h1.ap.tgq)
  have K2 := fun w2 (hb : Ft a.tg w1 w2) => (hb.cell d2 (fun e => hB0f (Qa.tg_foot e)))
  have hdr : Ft a.tg w1 w1.drew := (Ft.refl _ _).drew
  have hdb : Below w1.heap.size w1 w1.drew := below_drew (Below.refl _ _)
  have HF := hide hFl
  have HTG := hide (fun b (hb : w1.heap.size ≤ b) => And.intro (show b ≠ a.t from fun e => by have := hFl a.t (.inl rfl); omega) (show b ≠ a.g from fun e => by have := hFl a.g (.inr rfl); omega))
  have HB0 := hide hB0f
  clear h0 k0 b0 h1 k1 hb1 x0 x2 x3 HW CH H0 CTP hFl hB0f hB0l
  go_wp2_with fail
  go_cut [5, 6] (fun s5 s6 wx => ∃ (B : Nat) (x : QI) (X Y : List QI) (tf : Nat → Int), s5 = .pointer (some ⟨B, 0, none⟩) ∧ s6 = .int .i64 0 ∧ Hid (x.tm = ⟨id, cl, so, ha, la⟩ ∧ L = X ++ Y ∧
      x.n ≤ 64 ∧ 0 ≤ x.tu ∧ x.tu ≤ ((n + 1 : Nat) : Int) ∧ (∀ y ∈ L, y.n ≠ x.n) ∧ (X ++ x :: Y).map (·.tm) = insT ⟨id, cl, so, ha, la⟩ (L.map (·.tm))) ∧ Tre wx a.t a.g 64 tf ((X ++ x :: Y).map QI.it) ∧ (∀ y, 0 ≤ tf y ∧ tf y ≤ ((n + 1 : Nat) : Int)) ∧ Ft a.tg w1 wx ∧ Blk wx B 51 #[.int .i64 x.n, .int .i64 x.tu] ∧ w1.heap.size ≤ B)
  case first =>
    refine wp_region_held_drew (S := (fun w' => Ft a.tg w1 w')) (by kernel_rfl) ?_ (fun hHeld => ?_)
    · (first | (with_reducible assumption) | (with_reducible exact Ft.alloc (by assumption) _) | (with_reducible exact ft_set2 (by assumption) (Ft.size (by assumption)) _ _))
    generalize World.drew _ = wd at *
    refine wpAnyH_take (i := 0) (oi := ?o30) (v := ?v30) ?hi30 (by kernel_rfl) (by kernel_rfl) (by kernel_rfl) ?hQ30 (Or.inl ⟨?hw30, ?hy30⟩) (by assumption) ?_
    case hi30 => (simp only [List.getElem?_toArray, List.getElem?_cons_zero]; rfl)
    case hQ30 => exact fun _ _ _ h => h
    case hw30 => rfl
    case hy30 => (intro w hSw; (try dsimp only at hSw); go_simp; (try with_reducible rfl))
    simp only [Act.put, List.setIfInBounds_toArray, List.set_cons_zero, List.set_cons_succ]
    refine wpAnyH_take (i := 1) (oi := ?o31) (v := ?v31) ?hi31 (by kernel_rfl) (by kernel_rfl) (by kernel_rfl) ?hQ31 (Or.inl ⟨?hw31, ?hy31⟩) (by assumption) ?_
    case hi31 => (simp only [List.getElem?_toArray, List.getElem?_cons_succ, List.getElem?_cons_zero]; rfl)
    case hQ31 => exact fun _ _ _ h => h
    case hw31 => rfl
    case hy31 => (intro w hSw; (try dsimp only at hSw); go_simp; (try with_reducible rfl))
    simp only [Act.put, List.setIfInBounds_toArray, List.set_cons_zero, List.set_cons_succ]
    refine wpAnyH_take (i := 2) (oi := ?o32) (v := ?v32) ?hi32 (by kernel_rfl) (by kernel_rfl) (by kernel_rfl) ?hQ32 (Or.inl ⟨?hw32, ?hy32⟩) (by assumption) ?_
    case hi32 => (simp only [List.getElem?_toArray, List.getElem?_cons_succ, List.getElem?_cons_zero]; rfl)
    case hQ32 => exact fun _ _ _ h => h
    case hw32 => rfl
    case hy32 => (intro w hSw; (try dsimp only at hSw); go_simp; (try with_reducible rfl))
    simp only [Act.put, List.setIfInBounds_toArray, List.set_cons_zero, List.set_cons_succ]
    refine wpAnyH_take (i := 3) (oi := ?o33) (v := ?v33) ?hi33 (by kernel_rfl) (by kernel_rfl) (by kernel_rfl) ?hQ33 (Or.inl ⟨?hw33, ?hy33⟩) (by assumption) ?_
    case hi33 => (simp only [List.getElem?_toArray, List.getElem?_cons_succ, List.getElem?_cons_zero]; rfl)
    case hQ33 => exact fun _ _ _ h => h
    case hw33 => rfl
    case hy33 => (intro w hSw; (try dsimp only at hSw); go_simp; (try with_reducible rfl))
    simp only [Act.put, List.setIfInBounds_toArray, List.set_cons_zero, List.set_cons_succ]
    refine wpAnyH_take (i := 4) (oi := ?o34) (v := ?v34) ?hi34 (by kernel_rfl) (by kernel_rfl) (by kernel_rfl) ?hQ34 (Or.inl ⟨?hw34, ?hy34⟩) (by assumption) ?_
    case hi34 => (simp only [List.getElem?_toArray, List.getElem?_cons_succ, List.getElem?_cons_zero]; rfl)
    case hQ34 => exact fun _ _ _ h => h
    case hw34 => rfl
    case hy34 => (intro w hSw; (try dsimp only at hSw); go_simp; (try with_reducible rfl))
    simp only [Act.put, List.setIfInBounds_toArray, List.set_cons_zero, List.set_cons_succ]
    refine wpAnyH_take (i := 5) (oi := ?o35) (v := ?v35) ?hi35 (by kernel_rfl) (by kernel_rfl) (by kernel_rfl) ?hQ35 (Or.inl ⟨?hw35, ?hy35⟩) (by assumption) ?_
    case hi35 => (simp only [List.getElem?_toArray, List.getElem?_cons_succ, List.getElem?_cons_zero]; rfl)
    case hQ35 => exact fun _ _ _ h => h
    case hw35 => rfl
    case hy35 => (intro w hSw; (try dsimp only at hSw); go_simp; (try with_reducible rfl))
    simp only [Act.put, List.setIfInBounds_toArray, List.set_cons_zero, List.set_cons_succ]
    refine wpAnyH_ready (rs := [6, 12]) (by kernel_rfl) (by simp) ?_
    refine AllReadyH.cons (o := ?o36) ?hi36 (fun K hK => ?_) (AllReadyH.cons (o := ?p36) ?hj36 (fun K hK => ?_) AllReadyH.nil)
    case hi36 => (simp only [List.getElem?_toArray, List.getElem?_cons_succ, List.getElem?_cons_zero]; rfl)
    case hj36 => (simp only [List.getElem?_toArray, List.getElem?_cons_succ, List.getElem?_cons_zero]; rfl)
    · go_simp
      (first | (go_at_call 19; refine (unhide (CK _)).mono ?_; rintro e wk ⟨rfl, rfl⟩) | (go_at_call 18; refine (unhide CT _ (by first | assumption | exact Below.alloc (by assumption) (Below.size (by assumption)) _)).mono ?_; rintro e wp ⟨x, X, Y, y1, rfl, y2, y3, y4, y5, y6, y7, ⟨tf, y8, y9⟩, hbp⟩; have hbq := Ft.trans (by assumption) hbp; (try (have kq := box_ft hbp (unhide HF) (Ft.size (by assumption)); have q0 := kq.cell 0; have q1 := kq.cell 1; have q2 := kq.free; simp only [List.getElem?_toArray, List.getElem?_cons_zero, List.getElem?_cons_succ] at q0 q1)); have HY := hide (And.intro y1 (And.intro y2 (And.intro y3 (And.intro y4 (And.intro y5 (And.intro y6 y7)))))); clear hbp y1 y2 y3 y4 y5 y6 y7))
      refine hK.out _ _ ?_ (fun hHeld => ?_)
      · (first | (with_reducible assumption) | (with_reducible exact Ft.alloc (by assumption) _) | (with_reducible exact ft_set2 (by assumption) (Ft.size (by assumption)) _ _))
      clear hK K
      refine wpAnyH_take (i := 7) (oi := ?o37) (v := ?v37) ?hi37 (by kernel_rfl) (by kernel_rfl) (by kernel_rfl) ?hQ37 (Or.inl ⟨?hw37, ?hy37⟩) (by assumption) ?_
      case hi37 => (simp only [List.getElem?_toArray, List.getElem?_cons_succ, List.getElem?_cons_zero]; rfl)
      case hQ37 => exact fun _ _ _ h => h
      case hw37 => rfl
      case hy37 => (intro w hSw; (try dsimp only at hSw); go_simp; (try with_reducible rfl))
      simp only [Act.put, List.setIfInBounds_toArray, List.set_cons_zero, List.set_cons_succ]
      refine wpAnyH_ready (rs := [8, 12]) (by kernel_rfl) (by simp) ?_
      refine AllReadyH.cons (o := ?o38) ?hi38 (fun K hK => ?_) (AllReadyH.cons (o := ?p38) ?hj38 (fun K hK => ?_) AllReadyH.nil)
      case hi38 => (simp only [List.getElem?_toArray, List.getElem?_cons_succ, List.getElem?_cons_zero]; rfl)
      case hj38 => (simp only [List.getElem?_toArray, List.getElem?_cons_succ, List.getElem?_cons_zero]; rfl)
      · go_simp
        (first | (go_at_call 19; refine (unhide (CK _)).mono ?_; rintro e wk ⟨rfl, rfl⟩) | (go_at_call 18; refine (unhide CT _ (by first | assumption | exact Below.alloc (by assumption) (Below.size (by assumption)) _)).mono ?_; rintro e wp ⟨x, X, Y, y1, rfl, y2, y3, y4, y5, y6, y7, ⟨tf, y8, y9⟩, hbp⟩; have hbq := Ft.trans (by assumption) hbp; (try (have kq := box_ft hbp (unhide HF) (Ft.size (by assumption)); have q0 := kq.cell 0; have q1 := kq.cell 1; have q2 := kq.free; simp only [List.getElem?_toArray, List.getElem?_cons_zero, List.getElem?_cons_succ] at q0 q1)); have HY := hide (And.intro y1 (And.intro y2 (And.intro y3 (And.intro y4 (And.intro y5 (And.intro y6 y7)))))); clear hbp y1 y2 y3 y4 y5 y6 y7))
        refine hK.out _ _ ?_ (fun hHeld => ?_)
        · (first | (with_reducible assumption) | (with_reducible exact Ft.alloc (by assumption) _) | (with_reducible exact ft_set2 (by assumption) (Ft.size (by assumption)) _ _))
        clear hK K
        refine wpAnyH_take (i := 9) (oi := ?o39) (v := ?v39) ?hi39 (by kernel_rfl) (by kernel_rfl) (by kernel_rfl) ?hQ39 (Or.inl ⟨?hw39, ?hy39⟩) (by assumption) ?_
        case hi39 => (simp only [List.getElem?_toArray, List.getElem?_cons_succ, List.getElem?_cons_zero]; rfl)
        case hQ39 => exact fun _ _ _ h => h
        case hw39 => rfl
        case hy39 => (intro w hSw; (try dsimp only at hSw); go_simp; (try with_reducible rfl))
        simp only [Act.put, List.setIfInBounds_toArray, List.set_cons_zero, List.set_cons_succ]
        refine wpAnyH_take (i := 10) (oi := ?o40) (v := ?v40) ?hi40 (by kernel_rfl) (by kernel_rfl) (by kernel_rfl) ?hQ40 (Or.inl ⟨?hw40, ?hy40⟩) (by assumption) ?_
        case hi40 => (simp only [List.getElem?_toArray, List.getElem?_cons_succ, List.getElem?_cons_zero]; rfl)
        case hQ40 => exact fun _ _ _ h => h
        case hw40 => rfl
        case hy40 => (intro w hSw; (try dsimp only at hSw); go_simp; (try with_reducible rfl))
        simp only [Act.put, List.setIfInBounds_toArray, List.set_cons_zero, List.set_cons_succ]
        refine wpAnyH_take (i := 11) (oi := ?o41) (v := ?v41) ?hi41 (by kernel_rfl) (by kernel_rfl) (by kernel_rfl) ?hQ41 (Or.inl ⟨?hw41, ?hy41⟩) (by assumption) ?_
        case hi41 => (simp only [List.getElem?_toArray, List.getElem?_cons_succ, List.getElem?_cons_zero]; rfl)
        case hQ41 => exact fun _ _ _ h => h
        case hw41 => rfl
        case hy41 => (intro w hSw; (try dsimp only at hSw); go_simp; (try with_reducible rfl))
        simp only [Act.put, List.setIfInBounds_toArray, List.set_cons_zero, List.set_cons_succ]
        refine wpAnyH_ready (rs := [12]) (by kernel_rfl) (by simp) ?_
        refine AllReadyH.cons (o := ?o42) ?hi42 (fun K hK => ?_) AllReadyH.nil
        case hi42 => (simp only [List.getElem?_toArray, List.getElem?_cons_succ, List.getElem?_cons_zero]; rfl)
        go_simp
        skip
        refine hK.out _ _ ?_ (fun hHeld => ?_)
        · (first | (with_reducible assumption) | (with_reducible exact Ft.alloc (by assumption) _) | (with_reducible exact ft_set2 (by assumption) (Ft.size (by assumption)) _ _))
        clear hK K
        refine wpAnyH_ready (rs := [13]) (by kernel_rfl) (by simp) ?_
        refine AllReadyH.cons (o := ?o43) ?hi43 (fun K hK => ?_) AllReadyH.nil
        case hi43 => (simp only [List.getElem?_toArray, List.getElem?_cons_succ, List.getElem?_cons_zero]; rfl)
        go_simp
        skip
        refine hK.out _ _ ?_ (fun hHeld => ?_)
        · (first | (with_reducible assumption) | (with_reducible exact Ft.alloc (by assumption) _) | (with_reducible exact ft_set2 (by assumption) (Ft.size (by assumption)) _ _))
        clear hK K
        refine wpAnyH_take (i := 14) (oi := ?o44) (v := ?v44) ?hi44 (by kernel_rfl) (by kernel_rfl) (by kernel_rfl) ?hQ44 (Or.inl ⟨?hw44, ?hy44⟩) (by assumption) ?_
        case hi44 => (simp only [List.getElem?_toArray, List.getElem?_cons_succ, List.getElem?_cons_zero]; rfl)
        case hQ44 => exact fun _ _ _ h => h
        case hw44 => rfl
        case hy44 => (intro w hSw; (try dsimp only at hSw); go_simp; (try with_reducible rfl))
        simp only [Act.put, List.setIfInBounds_toArray, List.set_cons_zero, List.set_cons_succ]
        refine wpAnyH_done (by kernel_rfl) ?_ _
        go_wp2_with fail; go_meet; refine ⟨_, x, X, Y, tf, rfl, rfl, HY, ?_, y9, ?_, ?_, ?_⟩; (first | (with_reducible exact y8.below (one_below _ _)) | (with_reducible exact tre_set2 y8 (unhide HTG _ (Ft.size (by assumption))) _ _)); (with_reducible assumption); (first | (with_reducible exact Blk.new _ _ _) | (with_reducible exact blk_put2 kq _ _)); (with_reducible exact Ft.size (by assumption))
      · go_simp
        refine hK.out _ _ ?_ (fun hHeld => ?_)
        · (first | (with_reducible assumption) | (with_reducible exact Ft.alloc (by assumption) _) | (with_reducible exact ft_set2 (by assumption) (Ft.size (by assumption)) _ _))
        clear hK K
        refine wpAnyH_ready (rs := [8]) (by kernel_rfl) (by simp) ?_
        refine AllReadyH.cons (o := ?o45) ?hi45 (fun K hK => ?_) AllReadyH.nil
        case hi45 => (simp only [List.getElem?_toArray, List.getElem?_cons_succ, List.getElem?_cons_zero]; rfl)
        go_simp
        (first | (go_at_call 19; refine (unhide (CK _)).mono ?_; rintro e wk ⟨rfl, rfl⟩) | (go_at_call 18; refine (unhide CT _ (by first | assumption | exact Below.alloc (by assumption) (Below.size (by assumption)) _)).mono ?_; rintro e wp ⟨x, X, Y, y1, rfl, y2, y3, y4, y5, y6, y7, ⟨tf, y8, y9⟩, hbp⟩; have hbq := Ft.trans (by assumption) hbp; (try (have kq := box_ft hbp (unhide HF) (Ft.size (by assumption)); have q0 := kq.cell 0; have q1 := kq.cell 1; have q2 := kq.free; simp only [List.getElem?_toArray, List.getElem?_cons_zero, List.getElem?_cons_succ] at q0 q1)); have HY := hide (And.intro y1 (And.intro y2 (And.intro y3 (And.intro y4 (And.intro y5 (And.intro y6 y7)))))); clear hbp y1 y2 y3 y4 y5 y6 y7))
        refine hK.out _ _ ?_ (fun hHeld => ?_)
        · (first | (with_reducible assumption) | (with_reducible exact Ft.alloc (by assumption) _) | (with_reducible exact ft_set2 (by assumption) (Ft.size (by assumption)) _ _))
        clear hK K
        refine wpAnyH_take (i := 9) (oi := ?o46) (v := ?v46) ?hi46 (by kernel_rfl) (by kernel_rfl) (by kernel_rfl) ?hQ46 (Or.inl ⟨?hw46, ?hy46⟩) (by assumption) ?_
        case hi46 => (simp only [List.getElem?_toArray, List.getElem?_cons_succ, List.getElem?_cons_zero]; rfl)
        case hQ46 => exact fun _ _ _ h => h
        case hw46 => rfl
        case hy46 => (intro w hSw; (try dsimp only at hSw); go_simp; (try with_reducible rfl))
        simp only [Act.put, List.setIfInBounds_toArray, List.set_cons_zero, List.set_cons_succ]
        refine wpAnyH_take (i := 10) (oi := ?o47) (v := ?v47) ?hi47 (by kernel_rfl) (by kernel_rfl) (by kernel_rfl) ?hQ47 (Or.inl ⟨?hw47, ?hy47⟩) (by assumption) ?_
        case hi47 => (simp only [List.getElem?_toArray, List.getElem?_cons_succ, List.getElem?_cons_zero]; rfl)
        case hQ47 => exact fun _ _ _ h => h
        case hw47 => rfl
        case hy47 => (intro w hSw; (try dsimp only at hSw); go_simp; (try with_reducible rfl))
        simp only [Act.put, List.setIfInBounds_toArray, List.set_cons_zero, List.set_cons_succ]
        refine wpAnyH_take (i := 11) (oi := ?o48) (v := ?v48) ?hi48 (by kernel_rfl) (by kernel_rfl) (by kernel_rfl) ?hQ48 (Or.inl ⟨?hw48, ?hy48⟩) (by assumption) ?_
        case hi48 => (simp only [List.getElem?_toArray, List.getElem?_cons_succ, List.getElem?_cons_zero]; rfl)
        case hQ48 => exact fun _ _ _ h => h
        case hw48 => rfl
        case hy48 => (intro w hSw; (try dsimp only at hSw); go_simp; (try with_reducible rfl))
        simp only [Act.put, List.setIfInBounds_toArray, List.set_cons_zero, List.set_cons_succ]
        refine wpAnyH_ready (rs := [13]) (by kernel_rfl) (by simp) ?_
        refine AllReadyH.cons (o := ?o49) ?hi49 (fun K hK => ?_) AllReadyH.nil
        case hi49 => (simp only [List.getElem?_toArray, List.getElem?_cons_succ, List.getElem?_cons_zero]; rfl)
        go_simp
        skip
        refine hK.out _ _ ?_ (fun hHeld => ?_)
        · (first | (with_reducible assumption) | (with_reducible exact Ft.alloc (by assumption) _) | (with_reducible exact ft_set2 (by assumption) (Ft.size (by assumption)) _ _))
        clear hK K
        refine wpAnyH_take (i := 14) (oi := ?o50) (v := ?v50) ?hi50 (by kernel_rfl) (by kernel_rfl) (by kernel_rfl) ?hQ50 (Or.inl ⟨?hw50, ?hy50⟩) (by assumption) ?_
        case hi50 => (simp only [List.getElem?_toArray, List.getElem?_cons_succ, List.getElem?_cons_zero]; rfl)
        case hQ50 => exact fun _ _ _ h => h
        case hw50 => rfl
        case hy50 => (intro w hSw; (try dsimp only at hSw); go_simp; (try with_reducible rfl))
        simp only [Act.put, List.setIfInBounds_toArray, List.set_cons_zero, List.set_cons_succ]
        refine wpAnyH_done (by kernel_rfl) ?_ _
        go_wp2_with fail; go_meet; refine ⟨_, x, X, Y, tf, rfl, rfl, HY, ?_, y9, ?_, ?_, ?_⟩; (first | (with_reducible exact y8.below (one_below _ _)) | (with_reducible exact tre_set2 y8 (unhide HTG _ (Ft.size (by assumption))) _ _)); (with_reducible assumption); (first | (with_reducible exact Blk.new _ _ _) | (with_reducible exact blk_put2 kq _ _)); (with_reducible exact Ft.size (by assumption))
    · go_simp
      refine hK.out _ _ ?_ (fun hHeld => ?_)
      · (first | (with_reducible assumption) | (with_reducible exact Ft.alloc (by assumption) _) | (with_reducible exact ft_set2 (by assumption) (Ft.size (by assumption)) _ _))
      clear hK K
      refine wpAnyH_ready (rs := [6]) (by kernel_rfl) (by simp) ?_
      refine AllReadyH.cons (o := ?o51) ?hi51 (fun K hK => ?_) AllReadyH.nil
      case hi51 => (simp only [List.getElem?_toArray, List.getElem?_cons_succ, List.getElem?_cons_zero]; rfl)
      go_simp
      (first | (go_at_call 19; refine (unhide (CK _)).mono ?_; rintro e wk ⟨rfl, rfl⟩) | (go_at_call 18; refine (unhide CT _ (by first | assumption | exact Below.alloc (by assumption) (Below.size (by assumption)) _)).mono ?_; rintro e wp ⟨x, X, Y, y1, rfl, y2, y3, y4, y5, y6, y7, ⟨tf, y8, y9⟩, hbp⟩; have hbq := Ft.trans (by assumption) hbp; (try (have kq := box_ft hbp (unhide HF) (Ft.size (by assumption)); have q0 := kq.cell 0; have q1 := kq.cell 1; have q2 := kq.free; simp only [List.getElem?_toArray, List.getElem?_cons_zero, List.getElem?_cons_succ] at q0 q1)); have HY := hide (And.intro y1 (And.intro y2 (And.intro y3 (And.intro y4 (And.intro y5 (And.intro y6 y7)))))); clear hbp y1 y2 y3 y4 y5 y6 y7))
      refine hK.out _ _ ?_ (fun hHeld => ?_)
      · (first | (with_reducible assumption) | (with_reducible exact Ft.alloc (by assumption) _) | (with_reducible exact ft_set2 (by assumption) (Ft.size (by assumption)) _ _))
      clear hK K
      refine wpAnyH_take (i := 7) (oi := ?o52) (v := ?v52) ?hi52 (by kernel_rfl) (by kernel_rfl) (by kernel_rfl) ?hQ52 (Or.inl ⟨?hw52, ?hy52⟩) (by assumption) ?_
      case hi52 => (simp only [List.getElem?_toArray, List.getElem?_cons_succ, List.getElem?_cons_zero]; rfl)
      case hQ52 => exact fun _ _ _ h => h
      case hw52 => rfl
      case hy52 => (intro w hSw; (try dsimp only at hSw); go_simp; (try with_reducible rfl))
      simp only [Act.put, List.setIfInBounds_toArray, List.set_cons_zero, List.set_cons_succ]
      refine wpAnyH_ready (rs := [8]) (by kernel_rfl) (by simp) ?_
      refine AllReadyH.cons (o := ?o53) ?hi53 (fun K hK => ?_) AllReadyH.nil
      case hi53 => (simp only [List.getElem?_toArray, List.getElem?_cons_succ, List.getElem?_cons_zero]; rfl)
      go_simp
      (first | (go_at_call 19; refine (unhide (CK _)).mono ?_; rintro e wk ⟨rfl, rfl⟩) | (go_at_call 18; refine (unhide CT _ (by first | assumption | exact Below.alloc (by assumption) (Below.size (by assumption)) _)).mono ?_; rintro e wp ⟨x, X, Y, y1, rfl, y2, y3, y4, y5, y6, y7, ⟨tf, y8, y9⟩, hbp⟩; have hbq := Ft.trans (by assumption) hbp; (try (have kq := box_ft hbp (unhide HF) (Ft.size (by assumption)); have q0 := kq.cell 0; have q1 := kq.cell 1; have q2 := kq.free; simp only [List.getElem?_toArray, List.getElem?_cons_zero, List.getElem?_cons_succ] at q0 q1)); have HY := hide (And.intro y1 (And.intro y2 (And.intro y3 (And.intro y4 (And.intro y5 (And.intro y6 y7)))))); clear hbp y1 y2 y3 y4 y5 y6 y7))
      refine hK.out _ _ ?_ (fun hHeld => ?_)
      · (first | (with_reducible assumption) | (with_reducible exact Ft.alloc (by assumption) _) | (with_reducible exact ft_set2 (by assumption) (Ft.size (by assumption)) _ _))
      clear hK K
      refine wpAnyH_take (i := 9) (oi := ?o54) (v := ?v54) ?hi54 (by kernel_rfl) (by kernel_rfl) (by kernel_rfl) ?hQ54 (Or.inl ⟨?hw54, ?hy54⟩) (by assumption) ?_
      case hi54 => (simp only [List.getElem?_toArray, List.getElem?_cons_succ, List.getElem?_cons_zero]; rfl)
      case hQ54 => exact fun _ _ _ h => h
      case hw54 => rfl
      case hy54 => (intro w hSw; (try dsimp only at hSw); go_simp; (try with_reducible rfl))
      simp only [Act.put, List.setIfInBounds_toArray, List.set_cons_zero, List.set_cons_succ]
      refine wpAnyH_take (i := 10) (oi := ?o55) (v := ?v55) ?hi55 (by kernel_rfl) (by kernel_rfl) (by kernel_rfl) ?hQ55 (Or.inl ⟨?hw55, ?hy55⟩) (by assumption) ?_
      case hi55 => (simp only [List.getElem?_toArray, List.getElem?_cons_succ, List.getElem?_cons_zero]; rfl)
      case hQ55 => exact fun _ _ _ h => h
      case hw55 => rfl
      case hy55 => (intro w hSw; (try dsimp only at hSw); go_simp; (try with_reducible rfl))
      simp only [Act.put, List.setIfInBounds_toArray, List.set_cons_zero, List.set_cons_succ]
      refine wpAnyH_take (i := 11) (oi := ?o56) (v := ?v56) ?hi56 (by kernel_rfl) (by kernel_rfl) (by kernel_rfl) ?hQ56 (Or.inl ⟨?hw56, ?hy56⟩) (by assumption) ?_
      case hi56 => (simp only [List.getElem?_toArray, List.getElem?_cons_succ, List.getElem?_cons_zero]; rfl)
      case hQ56 => exact fun _ _ _ h => h
      case hw56 => rfl
      case hy56 => (intro w hSw; (try dsimp only at hSw); go_simp; (try with_reducible rfl))
      simp only [Act.put, List.setIfInBounds_toArray, List.set_cons_zero, List.set_cons_succ]
      refine wpAnyH_ready (rs := [13]) (by kernel_rfl) (by simp) ?_
      refine AllReadyH.cons (o := ?o57) ?hi57 (fun K hK => ?_) AllReadyH.nil
      case hi57 => (simp only [List.getElem?_toArray, List.getElem?_cons_succ, List.getElem?_cons_zero]; rfl)
      go_simp
      skip
      refine hK.out _ _ ?_ (fun hHeld => ?_)
      · (first | (with_reducible assumption) | (with_reducible exact Ft.alloc (by assumption) _) | (with_reducible exact ft_set2 (by assumption) (Ft.size (by assumption)) _ _))
      clear hK K
      refine wpAnyH_take (i := 14) (oi := ?o58) (v := ?v58) ?hi58 (by kernel_rfl) (by kernel_rfl) (by kernel_rfl) ?hQ58 (Or.inl ⟨?hw58, ?hy58⟩) (by assumption) ?_
      case hi58 => (simp only [List.getElem?_toArray, List.getElem?_cons_succ, List.getElem?_cons_zero]; rfl)
      case hQ58 => exact fun _ _ _ h => h
      case hw58 => rfl
      case hy58 => (intro w hSw; (try dsimp only at hSw); go_simp; (try with_reducible rfl))
      simp only [Act.put, List.setIfInBounds_toArray, List.set_cons_zero, List.set_cons_succ]
      refine wpAnyH_done (by kernel_rfl) ?_ _
      go_wp2_with fail; go_meet; refine ⟨_, x, X, Y, tf, rfl, rfl, HY, ?_, y9, ?_, ?_, ?_⟩; (first | (with_reducible exact y8.below (one_below _ _)) | (with_reducible exact tre_set2 y8 (unhide HTG _ (Ft.size (by assumption))) _ _)); (with_reducible assumption); (first | (with_reducible exact Blk.new _ _ _) | (with_reducible exact blk_put2 kq _ _)); (with_reducible exact Ft.size (by assumption))
  case rest =>
    obtain ⟨B, x, X, Y, tf, rfl, rfl, HY, tr, htf, fx, kB, hB⟩ := hcut
    obtain ⟨h1, k1, bw1, s1, s2⟩ := unhide H1
    have hB0f := unhide HB0
    obtain ⟨hxt, hLXY, hx1, hx2, hx3, hx4, hx5⟩ := unhide HY
    obtain ⟨hin, hok, hid⟩ := unhide HIN
    have hBf : ¬ a.foot B := fun hk => by have := h1.lts _ hk; omega
    have hB0B : B0 ≠ B := by have := k1.lt; omega
    have hxI : isI (x.n : Int) ∧ isI x.tu := ⟨isI_of (by omega) (by omega), isI_of (by omega) (by omega)⟩
    have mh1 := (h1.mh.ft fx h1.ap.tgh)
    have mt1 := (h1.mt.ft fx h1.ap.tgm)
    have kq1 := h1.blk.ft fx h1.ap.tgq
    have k01 := k1.ft fx (fun e => hB0f (Qa.tg_foot e))
    have fd : Ft a.foot wc wc.drew := (Ft.refl _ _).drew
    obtain ⟨w2, e1, g1, r1⟩ := (mh1.below (below_drew (Below.refl wc.heap.size wc)) mh1.lt).upd keyedI Try.underlying46 (by omega) ik_inj id (keyI hid) (x.n, x.tu)
    have f2 : Ft a.foot wc w2 := fd.grown r1 (fun g e => by cases e; exact .inl (.inr (.inr (.inr (.inl rfl)))))
    have f2m : Ft (fun k => k = a.mh) wc w2 := (Ft.refl _ _).drew.grown r1 (fun g e => by cases e; exact .inl rfl)
    have kq2 := kq1.ft f2m h1.ap.qh
    have kB2 := kB.ft f2 hBf
    have k02 := k01.ft f2 hB0f
    have mt2 := mt1.ft f2m h1.ap.hm.symm
    obtain ⟨w3, e2, g2, r2⟩ := (mt2.below (below_drew (Below.refl w2.heap.size w2)) mt2.lt).upd keyedH Try.underlying47 (by omega) hk_inj (x.n, x.tu) (keyH hxI.1 hxI.2) ⟨id, cl, so, ha, la⟩
    have f3 : Ft a.foot w2 w3 := (Ft.refl _ _).drew.grown r2 (fun g e => by cases e; exact .inl (.inr (.inr (.inr (.inr rfl)))))
    have f3m : Ft (fun k => k = a.mt) w2 w3 := (Ft.refl _ _).drew.grown r2 (fun g e => by cases e; exact .inl rfl)
    have hfull : Que w3 a (n + 1) (X ++ x :: Y) := by
      have hnd : QNd (X ++ x :: Y) := QNd.put (hLXY ▸ h1.nd) (by rw [hxt, ← hLXY]; exact hin) (by rw [← hLXY]; intro hm; obtain ⟨y, hy, e⟩ := List.mem_map.1 hm; exact hx4 y hy e)
      have hlen : (X ++ x :: Y).length = L.length + 1 := by rw [hLXY]; simp only [List.length_append, List.length_cons]; omega
      refine ⟨kq2.ft f3m h1.ap.qm, ⟨tf, (tr.ft f2m h1.ap.th h1.ap.gh).ft f3m h1.ap.tm h1.ap.gm, htf⟩, ?_, ?_, hnd, ?_, h1.ap, by omega⟩
      · have := g1.ft f3m h1.ap.hm
        rw [hF_none hin] at this
        rw [← hF_cons_split hnd, ← hLXY, hlen, hxt]
        exact this
      · have e3 : tF L (x.n, x.tu) = none := tF_none (fun y hy hq => hx4 y hy hq.1)
        rw [e3] at g2
        rw [← tF_cons_split hnd, ← hLXY, hlen, hxt]
        exact g2
      · intro y hy
        have old : ∀ y ∈ L, okT y.tm ∧ y.n ≤ 64 ∧ 0 ≤ y.tu ∧ y.tu ≤ ((n + 1 : Nat) : Int) := fun y hy => by
          obtain ⟨o1, o2, o3, o4⟩ := h1.ok y hy
          exact ⟨o1, o2, o3, by omega⟩
        rw [hLXY] at old
        rcases List.mem_append.1 hy with hy | hy
        · exact old y (by simp [hy])
        · rcases List.mem_cons.1 hy with rfl | hy
          · exact ⟨by rw [hxt]; exact hok, hx1, hx2, hx3⟩
          · exact old y (by simp [hy])
    have hfin : Ft a.foot w w3 := (Ft.of_below _ bw1).trans (((fx.mono fun k hk => Qa.tg_foot hk).trans f2).trans f3)
    have HFIN := hide (And.intro hfull (And.intro hfin hx5))
    have c1 := kq1.cell 1
    have b0 := kB.cell 0
    have b1 := kB.cell 1
    have y0 := k01.cell 0
    have z2 := kq2.cell 2
    have zb0 := kB2.cell 0
    have zb1 := kB2.cell 1
    have z0 := k02.cell 0
    have z1 := k02.cell 1
    have z3 := k02.cell 2
    have z4 := k02.cell 3
    have z5 := k02.cell 4
    simp only [List.getElem?_toArray, List.getElem?_cons_zero, List.getElem?_cons_succ] at c1 b0 b1 y0 z2 zb0 zb1 z0 z1 z3 z4 z5
    simp only [ik, hk, tv] at e1 e2
    clear h1 k1 bw1 s1 s2 hxt hLXY hx1 hx2 hx3 hx4 hx5 hin hok hid hBf hB0B mh1 mt1 kq1 k01 fd g1 r1 f2 f2m kq2 kB2 k02 mt2 g2 r2 f3 f3m hfull hfin tr htf fx kB hB hxI hdr hdb K0 K2 c0 d0 d2 HY
    go_wp2_with fail
    go_region
    go_wp2_with fail
    go_region
    go_wp2_with fail
    go_ret
    obtain ⟨f1, f2, f3⟩ := unhide HFIN
    exact ⟨rfl, ⟨_, f1, f3⟩, f2⟩
end
end Go.Proofs.Ytihfldjoogaolaa
