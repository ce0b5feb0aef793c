/- A timer comes, and goes. -/
import Derived.Test.YtjjdkkdnlnbedaaGreatEn5b
import Derived.Test.YtjjdkkdnlnbedaaGreatEn6b
namespace Go.Proofs.YtjjdkkdnlnbedaaGreat
open Go.RowKit Kt Qu
set_option linter.unusedVariables false

theorem insA_split (t : Tmr) : ∀ (A B : List Tmr), (∀ y ∈ A, befB y t = true) → (∀ y S, B = y :: S → befB y t = false) → insA t (A ++ B) = A ++ t :: B
  | [], [], _, _ => rfl
  | [], y :: r, _, hB => by
    show (if _ then _ else _) = _
    rw [if_neg (by rw [hB y r rfl]; decide)]; rfl
  | y :: r, B, hA, hB => by
    show (if _ then _ else _) = _
    rw [if_pos (hA y (by simp))]
    show y :: insA t (r ++ B) = _
    rw [insA_split t r B (fun z hz => hA z (by simp [hz])) hB]; rfl
theorem allT_put {R : Rows6} (h : Rok R) {t : Tmr} (h0 : 0 ≤ t.clock) (h2 : t.clock ≤ 2) : allT (putT R t) = insA t (allT R) := by
  obtain ⟨X, Y, e1, e2, hX, hY⟩ := put_parts h h0 h2
  rw [e1, e2, insA_split t X Y hX hY]
theorem row_len_le (R : Rows6) {i : Nat} (hi : i < 6) : (R i).length ≤ (allT R).length := by
  rw [allT_split R hi]; simp only [List.length_append]; omega
theorem start_zero {R : Rows6} {t : Tmr} (h0 : 0 ≤ t.clock) (h2 : t.clock ≤ 2) (hid : t.id ∉ idsT (allT R)) (hl : (allT R).length < 64) (hs : t.soft ≤ t.hard) : startE R t = 0 ∧ startR R t = putT R t := by
  have e : startE R t = 0 := by
    unfold startE
    rw [if_neg (by omega), if_neg hid]
    unfold addE
    rw [if_neg (by omega), if_neg, if_neg]
    · have := row_len_le R (ixT_lt h0 h2); omega
    · intro hm
      exact hid (mem_ids_upT.2 ⟨_, ixT_lt h0 h2, hm⟩)
  exact ⟨e, by unfold startR; rw [if_pos e]⟩
theorem lenTo_le (e : En) : ∀ {n i : Nat}, i < n → (e.cp i).L.length ≤ lenTo e n
  | 0, i, h => by omega
  | n + 1, i, h => by
    show _ ≤ lenTo e n + _
    by_cases q : i = n
    · subst q; omega
    · have := lenTo_le e (n := n) (i := i) (by omega); omega
theorem len_ge {e : En} {i : Nat} (hi : i < e.n) : (e.cp i).L.length ≤ e.len := lenTo_le e hi
theorem wher_none {e : En} {id : Int} (h : e.wher id = none) {i : Nat} (hi : i < e.n) : id ∉ idsT (e.cp i).L := by
  unfold En.wher at h
  rw [List.find?_eq_none] at h
  have := h i (List.mem_range.2 hi)
  unfold En.hasId at this
  simpa using this
theorem wher_some {e : En} {id : Int} {i : Nat} (h : e.wher id = some i) : i < e.n ∧ id ∈ idsT (e.cp i).L := by
  unfold En.wher at h
  have h1 := List.find?_some h
  have h2 := List.mem_of_find?_eq_some h
  unfold En.hasId at h1
  exact ⟨List.mem_range.1 h2, by simpa using h1⟩
/-- The engine lies as before, but for what has come. -/
structure Lx (w : World) (l l' : Loc) (q : Nat) : Prop where
  g : l'.g = l.g
  r : l'.r = l.r
  cap : l'.cap = l.cap
  c : l'.c = l.c
  b : l'.b = l.b
  d : l'.d = l.d
  m : l.m ≤ l'.m ∧ l'.m ≤ l.m + q
  foot : ∀ k, efoot l' k → efoot l k ∨ w.heap.size ≤ k
  more : ∀ k p, l.ow k p → l'.ow k p
theorem Lx.refl (w : World) (l : Loc) (q : Nat) : Lx w l l q := ⟨rfl, rfl, rfl, rfl, rfl, rfl, ⟨Nat.le_refl _, Nat.le_add_right _ _⟩, fun k hk => .inl hk, fun _ _ h => h⟩
theorem Lx.trans {w w' : World} {l l' l2 : Loc} {p q : Nat} (h : Lx w l l' p) (k : Lx w' l' l2 q) (hs : w.heap.size ≤ w'.heap.size) : Lx w l l2 (p + q) :=
  ⟨k.g.trans h.g, k.r.trans h.r, k.cap.trans h.cap, k.c.trans h.c, k.b.trans h.b, k.d.trans h.d, ⟨Nat.le_trans h.m.1 k.m.1, by have := h.m.2; have := k.m.2; omega⟩, fun x hx => by
    rcases k.foot x hx with q | q
    · exact h.foot x q
    · exact .inr (by omega), fun x p hx => k.more x p (h.more x p hx)⟩
theorem Lx.mono {w : World} {l l' : Loc} {p q : Nat} (h : Lx w l l' p) (hq : p ≤ q) : Lx w l l' q := ⟨h.g, h.r, h.cap, h.c, h.b, h.d, ⟨h.m.1, by have := h.m.2; omega⟩, h.foot, h.more⟩
theorem Ft.lx {w w1 w2 : World} {l l' : Loc} {q : Nat} (f : Ft (efoot l) w w1) (k : Ft (efoot l') w1 w2) (h : Lx w l l' q) : Ft (efoot l) w w2 := f.next k h.foot
section
variable {w w' : World} {l : Loc} {e : En}
/-- Start, by a processor's base. -/
theorem Es.bstart (h : Es w l e) {i : Nat} (hi : i < e.n) (hm : l.m < 1000000) {t : Tmr} (ht : okT t) (h0 : 0 ≤ t.clock) (h2 : t.clock ≤ 2) (hid : t.id ∉ idsT (e.cp i).L) (hl : (e.cp i).L.length < 64) (hs : t.soft ≤ t.hard) :
    Calls Tryz.prog 65 #[.pointer (some ⟨l.b i, 0, none⟩), tv t] w fun r w' => r = .returned (.int .i64 0) ∧ ∃ l', Es w' l' (e.set i { e.cp i with L := insA t (e.cp i).L }) ∧ Lx w l l' 1 ∧ Ft (bfoot (l.b i) (l.P i)) w w' := by
  obtain ⟨R, hR, hL⟩ := h.bs i hi
  rw [← hL] at hid hl
  obtain ⟨e1, e2⟩ := start_zero h0 h2 hid hl hs
  refine (_root_.Go.Proofs.YtjjdkkdnlnbedaaGreat.bstart hR hm t ht).mono ?_
  rintro r w2 ⟨rfl, P', hB, f, hg⟩
  rw [e1]
  rw [e2] at hB
  refine ⟨rfl, _, h.based hi hB f hg (by omega) (by rw [allT_put hR.ok h0 h2, hL]) rfl rfl rfl rfl rfl, ⟨rfl, rfl, rfl, rfl, rfl, rfl, ⟨Nat.le_succ _, Nat.le_refl _⟩, ?_, fun k p hk => .inl hk⟩, f⟩
  rintro k ⟨p, hk | ⟨rfl, hk⟩⟩
  · exact .inl ⟨p, hk⟩
  · rcases hg k hk with q | q
    · exact .inl ⟨_, h.ob i k hi q⟩
    · exact .inr q
theorem drop_filter {R : Rows6} (h : Rok R) {i : Nat} {A B : List Tmr} {t : Tmr} (hi : i < 6) (e : R i = A ++ t :: B) : allT (setT R i (A ++ B)) = (allT R).filter fun y => decide (y.id ≠ t.id) := by
  have nd := h.nd
  have es := allT_split R hi
  rw [e] at es
  rw [allT_set R hi]
  have key : ∀ (P Q : List Tmr), (idsT (P ++ t :: Q)).Nodup → (P ++ t :: Q).filter (fun y => decide (y.id ≠ t.id)) = P ++ Q := by
    intro P Q hn
    unfold idsT at hn
    rw [List.map_append, List.map_cons] at hn
    obtain ⟨n1, n2, n3⟩ := List.nodup_append.1 hn
    rw [List.filter_append, List.filter_cons]
    rw [List.filter_eq_self.2 (fun y hy => ?_), List.filter_eq_self.2 (fun y hy => ?_)]
    · simp
    · simp only [ne_eq, decide_eq_true_eq]
      intro q
      exact (List.nodup_cons.1 n2).1 (List.mem_map.2 ⟨y, hy, q⟩)
    · simp only [ne_eq, decide_eq_true_eq]
      intro q
      exact n3 y.id (List.mem_map.2 ⟨y, hy, rfl⟩) t.id (by simp) q
  have e2 : allT R = (upT R i ++ A) ++ t :: (B ++ downT R i) := by rw [es]; simp
  rw [e2] at nd ⊢
  rw [key _ _ nd]; simp
/-- Cancel, by a processor's base. -/
theorem Es.bcancel (h : Es w l e) {i : Nat} (hi : i < e.n) {id : Int} (hid : id ∈ idsT (e.cp i).L) :
    Calls Tryz.prog 67 #[.pointer (some ⟨l.b i, 0, none⟩), .int .i64 id] w fun r w' => (∃ t : Tmr, r = .returned (.tuple #[tv t, .bool true])) ∧ Es w' l (e.set i { e.cp i with L := (e.cp i).L.filter fun t => decide (t.id ≠ id) }) ∧ Ft (bfoot (l.b i) (l.P i)) w w' := by
  obtain ⟨R, hR, hL⟩ := h.bs i hi
  rw [← hL] at hid
  obtain ⟨j, A, B, t, hj, e1, rfl, -, -⟩ := hR.ok.find hid
  refine (bcancel_ok hR hj e1).mono ?_
  rintro r w2 ⟨rfl, hB, f⟩
  exact ⟨⟨t, rfl⟩, h.based0 hi hB f (by rw [drop_filter hR.ok hj e1, hL]) rfl rfl rfl rfl rfl, f⟩
theorem Es.bf (h : Es w l e) {i : Nat} (hi : i < e.n) : ∀ k, bfoot (l.b i) (l.P i) k → efoot l k := fun k hk => ⟨_, h.ob i k hi hk⟩
set_option maxRecDepth 20000 in
set_option maxHeartbeats 1000000 in
theorem cancel_any15 (h : Es w l e) (id : Int) (hid : isI id) : Calls Tryz.prog 31 #[.pointer (some ⟨l.g, 0, none⟩), .int .i64 id] w fun r w' => r = .returned (.int .i64 (e.cancel id).1) ∧ Es w' l (e.cancel id).2 ∧ Ft (efoot l) w w' := by
  have HH := hide h
  have CW := hide (where_any h id hid)
  have hle := h.n16
  have hcap := h.cap
  cases hw : e.wher id with
  | none =>
    have E : e.cancel id = (7, e) := by unfold En.cancel; rw [hw]
    rw [E]
    rw [hw] at CW
    unfold whV at CW
    simp only [Option.isSome_none] at CW
    clear h hw E
    go_enter Tryz.func31, Tryz.ntmps31
    go_wp2_with (go_at_call 53; refine (unhide CW).mono ?_; rintro r w1 ⟨rfl, hb1⟩; have HB := hide hb1; clear hb1)
    go_ret
    exact ⟨rfl, (unhide HH).below (unhide HB), Ft.of_below _ (unhide HB)⟩
  | some i =>
    obtain ⟨hi, hm⟩ := wher_some hw
    have E : e.cancel id = (0, e.set i { e.cp i with L := (e.cp i).L.filter fun t => decide (t.id ≠ id) }) := by unfold En.cancel; rw [hw]
    rw [E]
    rw [hw] at CW
    unfold whV at CW
    simp only [Option.isSome_some] at CW
    have c1 : ∀ w', Below w.heap.size w w' → w'.cell? ⟨l.g, 1, none⟩ = some (.slice (some ⟨l.r, 0, none⟩) e.n l.cap) := fun w' hb => blkAt (h.below hb).box 1 _ rfl
    have c2 : ∀ w', Below w.heap.size w w' → w'.cell? ⟨l.r, i * 4, none⟩ = some (.pointer (some ⟨l.b i, 0, none⟩)) := fun w' hb => ((h.below hb).row i hi).1
    have CC := hide (fun w' hb => (h.below (w' := w') hb).bcancel hi hm)
    have HF := hide (h.bf hi)
    obtain ⟨E2, hE2⟩ : ∃ E2, e.set i { e.cp i with L := (e.cp i).L.filter fun t => decide (t.id ≠ id) } = E2 := ⟨_, rfl⟩
    rw [hE2] at CC
    rw [hE2]
    obtain ⟨n, hn⟩ : ∃ n, e.n = n := ⟨_, rfl⟩
    rw [hn] at hi hle hcap c1
    generalize l.b i = bi at *
    generalize l.P i = Pi at *
    clear h hw hm E hE2 hn
    go_enter Tryz.func31, Tryz.ntmps31
    go_wp2_with (go_at_call 53; refine (unhide CW).mono ?_; rintro r w1 ⟨rfl, hb1⟩; have g1 := c1 w1 hb1; have g2 := c2 w1 hb1; have CC2 := hide (unhide CC w1 hb1); have HB := hide hb1; clear hb1)
    refine hide ?_
    refine (unhide CC2).mono ?_
    rintro r w2 ⟨⟨t, rfl⟩, h2, f2⟩
    have H2 := hide (And.intro h2 f2)
    clear h2 f2 CC2
    unfold tv
    go_wp2_with fail
    go_ret
    exact ⟨rfl, (unhide H2).1, (Ft.of_below _ (unhide HB)).trans ((unhide H2).2.mono (unhide HF))⟩
end
end Go.Proofs.YtjjdkkdnlnbedaaGreat
