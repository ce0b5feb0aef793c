/- A base's Cancel. -/
import Derived.Test.YtabmjaioejacaaaBa9
namespace Go.Proofs.Ytabmjaioejacaaa
open Go.RowKit Kt Qu
set_option linter.unusedVariables false

def tz : Array Value := #[.int .i64 0, .int .i64 0, .int .i64 0, .int .i64 0, .bool false]
def tcs (t : Tmr) : Array Value := #[.int .i64 t.id, .int .i64 t.clock, .int .i64 t.soft, .int .i64 t.hard, .bool t.lazy]
section
variable {w w' : World} {b n : Nat} {P : Nat → Option Qa} {R : Rows6}
set_option maxRecDepth 20000 in
set_option maxHeartbeats 1000000 in
theorem canc_none (o : Option Qa) (m : Nat) (l : List Tmr) (w : World) (B0 B1 B2 : Nat) (hq : Qo w o m l) (id : Int) (hid : isI id) (hm : id ∉ idsT l) (x y : Value) (k0 : Blk w B0 3 #[.int .i64 id]) :
    Calls Try.prog 22 #[x, y, pv o, .pointer (some ⟨B0, 0, none⟩), .pointer (some ⟨B1, 0, none⟩), .pointer (some ⟨B2, 0, none⟩)] w fun e w' => e = .returned (.tuple #[]) ∧ Below w.heap.size w w' := by
  have CD := hide (odrop_none hq id hid hm)
  rw [show tv t0 = .agg #[.int .i64 0, .int .i64 0, .int .i64 0, .int .i64 0, .bool false] from rfl] at CD
  obtain ⟨V, hV⟩ : ∃ V, pv o = V := ⟨_, rfl⟩
  rw [hV] at CD ⊢
  have c0 := blkAt k0 0 (.int .i64 id) rfl
  clear hq hV hm hid k0
  go_enter Try.func22, Try.ntmps22
  go_wp2_with (go_at_call 23; refine (unhide CD).mono ?_; rintro e w1 ⟨rfl, hb1⟩; have HB := hide hb1; clear hb1)
  go_end0
  exact ⟨rfl, (unhide HB).trans ((one_below w1 _).mono (unhide HB).size)⟩
theorem canc_end {F : Nat → Prop} {w w1 : World} {B1 B2 : Nat} {o : Obj} (i1 i2 i3 i4 : Int) (i5 : Bool) (hf : Ft F w w1) (k1 : Blk w1 B1 29 tz) (k2 : Blk w1 B2 4 #[.bool false]) (h12 : B1 ≠ B2) (W : World)
    (hW : W = ((((((w1.alloc o).setCell ⟨B1, 0, none⟩ (.int .i64 i1)).setCell ⟨B1, 1, none⟩ (.int .i64 i2)).setCell ⟨B1, 2, none⟩ (.int .i64 i3)).setCell ⟨B1, 3, none⟩ (.int .i64 i4)).setCell ⟨B1, 4, none⟩ (.bool i5)).setCell ⟨B2, 0, none⟩ (.bool true)) :
    Ft (fun k => k = B1 ∨ k = B2) w1 W ∧ Ft (fun k => F k ∨ k = B1 ∨ k = B2) w W ∧ Blk W B1 29 #[.int .i64 i1, .int .i64 i2, .int .i64 i3, .int .i64 i4, .bool i5] ∧ Blk W B2 4 #[.bool true] := by
  subst hW
  have f1 : Ft (fun k => F k ∨ k = B1 ∨ k = B2) w (w1.alloc o) := (hf.mono fun k hk => .inl hk).alloc o
  have f0 : Ft (fun k => k = B1 ∨ k = B2) w1 (w1.alloc o) := (Ft.refl _ w1).alloc o
  refine ⟨((((((f0.set (.inl (.inl rfl)) 0 _).set (.inl (.inl rfl)) 1 _).set (.inl (.inl rfl)) 2 _).set (.inl (.inl rfl)) 3 _).set (.inl (.inl rfl)) 4 _).set (.inl (.inr rfl)) 0 _), ((((((f1.set (.inl (.inr (.inl rfl))) 0 _).set (.inl (.inr (.inl rfl))) 1 _).set (.inl (.inr (.inl rfl))) 2 _).set (.inl (.inr (.inl rfl))) 3 _).set (.inl (.inr (.inl rfl))) 4 _).set (.inl (.inr (.inr rfl))) 0 _), ?_, ?_⟩
  · exact ((((((k1.alloc o).put 0 _).put 1 _).put 2 _).put 3 _).put 4 _).other (fun e => h12 e.symm) 0 _
  · exact ((((((k2.alloc o).other h12 0 _).other h12 1 _).other h12 2 _).other h12 3 _).other h12 4 _).put 0 _
set_option maxRecDepth 20000 in
set_option maxHeartbeats 1000000 in
theorem canc_some (o : Option Qa) (m : Nat) (X Y : List Tmr) (t : Tmr) (w : World) (B0 B1 B2 : Nat) (hq : Qo w o m (X ++ t :: Y)) (x y : Value) (k0 : Blk w B0 3 #[.int .i64 t.id]) (k1 : Blk w B1 29 tz) (k2 : Blk w B2 4 #[.bool false])
    (h12 : B1 ≠ B2) (ho1 : ¬ fo o B1) (ho2 : ¬ fo o B2) :
    Calls Try.prog 22 #[x, y, pv o, .pointer (some ⟨B0, 0, none⟩), .pointer (some ⟨B1, 0, none⟩), .pointer (some ⟨B2, 0, none⟩)] w fun e w' => e = .returned (.tuple #[]) ∧ Qo w' o m (X ++ Y) ∧ Ft (fun k => fo o k ∨ k = B1 ∨ k = B2) w w' ∧ Blk w' B1 29 (tcs t) ∧ Blk w' B2 4 #[.bool true] := by
  have CD := hide (odrop_ok hq)
  obtain ⟨V, hV⟩ : ∃ V, pv o = V := ⟨_, rfl⟩
  rw [hV] at CD ⊢
  have c0 := blkAt k0 0 (.int .i64 t.id) rfl
  have H := hide (And.intro k1 (And.intro k2 (And.intro h12 (And.intro ho1 ho2))))
  obtain ⟨i1, i2, i3, i4, i5⟩ := t
  unfold tcs
  simp only [tv] at CD c0 ⊢
  clear hq hV k0 k1 k2 h12 ho1 ho2
  go_enter Try.func22, Try.ntmps22
  go_wp2_with (go_at_call 23; refine Hid.out ?_)
  refine hide ?_
  refine (unhide CD).mono ?_
  rintro e w1 ⟨rfl, q1, f1⟩
  obtain ⟨k1, k2, h12, ho1, ho2⟩ := unhide H
  have k1' := k1.ft f1 ho1
  have k2' := k2.ft f1 ho2
  have hl1 := k1'.lt
  have hl2 := k2'.lt
  obtain ⟨g, hg⟩ : ∃ g, w1.heap.size = g := ⟨_, rfl⟩
  obtain ⟨W2, hW2⟩ : ∃ W2, W2 = w1.alloc (.cells #[.int .i64 i1, .int .i64 i2, .int .i64 i3, .int .i64 i4, .bool i5] 29) := ⟨_, rfl⟩
  have kt : Blk W2 g 29 #[.int .i64 i1, .int .i64 i2, .int .i64 i3, .int .i64 i4, .bool i5] := by rw [hW2]; exact Blk.new_at _ _ _ hg.symm
  have e0 := blkAt kt 0 (.int .i64 i1) rfl
  have e1 := blkAt kt 1 (.int .i64 i2) rfl
  have e2 := blkAt kt 2 (.int .i64 i3) rfl
  have e3 := blkAt kt 3 (.int .i64 i4) rfl
  have e4 := blkAt kt 4 (.bool i5) rfl
  have m1 : Blk W2 B1 29 tz := by rw [hW2]; exact k1'.alloc _
  have m2 : Blk W2 B2 4 #[.bool false] := by rw [hW2]; exact k2'.alloc _
  have a0 := blkAt m1 0 (.int .i64 0) rfl
  have a1 := blkAt m1 1 (.int .i64 0) rfl
  have a2 := blkAt m1 2 (.int .i64 0) rfl
  have a3 := blkAt m1 3 (.int .i64 0) rfl
  have a4 := blkAt m1 4 (.bool false) rfl
  have af := m1.free
  have d0 := blkAt m2 0 (.bool false) rfl
  have df := m2.free 0
  have HE := hide (fun W => canc_end (o := .cells #[.int .i64 i1, .int .i64 i2, .int .i64 i3, .int .i64 i4, .bool i5] 29) i1 i2 i3 i4 i5 f1 k1' k2' h12 W)
  have HQ := hide q1
  have HO := hide (And.intro ho1 ho2)
  subst hW2
  clear q1 f1 k1 k2 ho1 ho2 k1' k2' kt m1 m2 CD H
  go_wp2_with fail
  go_end0
  obtain ⟨f0, f3, b1, b2⟩ := unhide HE _ rfl
  exact ⟨rfl, (unhide HQ).ft f0 (fun k hk e => by
    rcases e with rfl | rfl
    · exact (unhide HO).1 hk
    · exact (unhide HO).2 hk), f3, b1, b2⟩
/-- What a call of Cancel has at hand. -/
structure CJ (w w' : World) (b n : Nat) (P : Nat → Option Qa) (R : Rows6) (C : Nat) (id : Int) (cs : Array Value) (d : Bool) : Prop where
  bs : Bs w' b n P R
  ft : Ft (bfoot b P) w w'
  k0 : Blk w' C 3 #[.int .i64 id]
  k1 : Blk w' (C + 1) 29 tz
  k2 : Blk w' (C + 2) 29 cs
  k3 : Blk w' (C + 3) 4 #[.bool d]
theorem CJ.below {C : Nat} {id : Int} {cs : Array Value} {d : Bool} {w2 : World} (h : CJ w w' b n P R C id cs d) (hb : Below w'.heap.size w' w2) : CJ w w2 b n P R C id cs d :=
  ⟨h.bs.below hb, h.ft.trans (Ft.of_below _ hb), h.k0.below hb h.k0.lt, h.k1.below hb h.k1.lt, h.k2.below hb h.k2.lt, h.k3.below hb h.k3.lt⟩
/-- Cancel, where it is known what each call of the closure does: the boxes are made, all queues are asked, the answer is told. -/
theorem bcancel_by (h : Bs w b n P R) (id : Int) (t : Tmr) (d : Bool) (J : Nat → World → Prop) (R2 : Rows6)
    (hJ : ∀ i w', J i w' → ∃ R', Bs w' b n P R')
    (hs : ∀ i w' k l c, i < 6 → J i w' → k = ((i / 2 : Nat) : Int) → l = decide (i % 2 = 1) → (bcs P)[i]? = some c → Calls Try.prog 22 #[.int .i64 k, .bool l, c, .pointer (some ⟨w.heap.size, 0, none⟩), .pointer (some ⟨w.heap.size + 2, 0, none⟩), .pointer (some ⟨w.heap.size + 3, 0, none⟩)] w' fun e w2 => e = .returned (.tuple #[]) ∧ J (i + 1) w2)
    (h0 : ∀ w', CJ w w' b n P R w.heap.size id tz false → J 0 w') (h6 : ∀ w', J 6 w' → CJ w w' b n P R2 w.heap.size id (tcs t) d) :
    Calls Try.prog 9 #[.pointer (some ⟨b, 0, none⟩), .int .i64 id] w fun e w' => e = .returned (.tuple #[tv t, .bool d]) ∧ Bs w' b n P R2 ∧ Ft (bfoot b P) w w' := by
  obtain ⟨C, hC⟩ : ∃ C, w.heap.size = C := ⟨_, rfl⟩
  rw [hC] at hs h0 h6
  obtain ⟨W1, hW1⟩ : ∃ W1, W1 = w.alloc (.cells #[.int .i64 id] 3) := ⟨_, rfl⟩
  obtain ⟨W2, hW2⟩ : ∃ W2, W2 = W1.alloc (.cells tz 29) := ⟨_, rfl⟩
  obtain ⟨W3, hW3⟩ : ∃ W3, W3 = W2.alloc (.cells tz 29) := ⟨_, rfl⟩
  obtain ⟨W4, hW4⟩ : ∃ W4, W4 = W3.alloc (.cells #[.bool false] 4) := ⟨_, rfl⟩
  have s1 : W1.heap.size = C + 1 := by rw [hW1, ← hC]; simp
  have s2 : W2.heap.size = C + 2 := by rw [hW2]; simp [s1]
  have s3 : W3.heap.size = C + 3 := by rw [hW3]; simp [s2]
  have b1 : Below C w W1 := by rw [hW1, ← hC]; exact one_below _ _
  have b2 : Below W1.heap.size W1 W2 := by rw [hW2]; exact one_below _ _
  have b3 : Below W2.heap.size W2 W3 := by rw [hW3]; exact one_below _ _
  have b4 : Below W3.heap.size W3 W4 := by rw [hW4]; exact one_below _ _
  have k1 : Blk W1 C 3 #[.int .i64 id] := by rw [hW1]; exact Blk.new_at _ _ _ hC.symm
  have k2 : Blk W2 (C + 1) 29 tz := by rw [hW2]; exact Blk.new_at _ _ _ s1.symm
  have k3 : Blk W3 (C + 2) 29 tz := by rw [hW3]; exact Blk.new_at _ _ _ s2.symm
  have k4 : Blk W4 (C + 3) 4 #[.bool false] := by rw [hW4]; exact Blk.new_at _ _ _ s3.symm
  have k1a := k1.below b2 k1.lt
  have k1b := k1a.below b3 k1a.lt
  have k2a := k2.below b3 k2.lt
  have bb : Below C w W4 := ((b1.trans (b2.mono (by omega))).trans (b3.mono (by omega))).trans (b4.mono (by omega))
  have j0 : CJ w W4 b n P R C id tz false := ⟨h.below (hC ▸ bb), Ft.of_below _ (hC ▸ bb), k1b.below b4 k1b.lt, k2a.below b4 k2a.lt, k3.below b4 k3.lt, k4⟩
  have CE := hide (each_any b (pv (P 0)) (pv (P 1)) (pv (P 2)) (pv (P 3)) (pv (P 4)) (pv (P 5)) 22 #[.pointer (some ⟨C, 0, none⟩), .pointer (some ⟨C + 2, 0, none⟩), .pointer (some ⟨C + 3, 0, none⟩)]
    J W4 (fun _ _ => rfl) (fun i w' hj => by obtain ⟨R', hb⟩ := hJ i w' hj; exact hb.blk) (fun i w' k l c hi hj hk hl hc => hs i w' k l c hi hj hk hl hc) (h0 _ j0))
  have H6 := hide h6
  unfold tz at hW2 hW3
  rw [hW3, hW2, hW1] at hW4
  have HW := hide hW4
  have HN := hide (fun k (hk : bfoot b P k) => show k < C by have := h.lts k hk; omega)
  clear hW1 hW2 hW3 hW4 b1 b2 b3 b4 k1 k2 k3 k4 k1a k1b k2a h hs h0 h6 bb j0 s1 s2 s3
  obtain ⟨i1, i2, i3, i4, i5⟩ := t
  unfold tv
  simp only
  go_enter Try.func9, Try.ntmps9
  go_wp2_with (go_at_call 21; refine Hid.out ?_)
  refine hide ?_
  rw [← unhide HW]
  refine (unhide CE).mono ?_
  rintro e w3 ⟨rfl, hj⟩
  have j6 := unhide H6 w3 hj
  have HJ6 := hide j6
  have e0 : w3.drew.cell? ⟨C + 2, 0, none⟩ = some (.int .i64 i1) := blkAt j6.k2 0 (.int .i64 i1) rfl
  have e1 : w3.drew.cell? ⟨C + 2, 1, none⟩ = some (.int .i64 i2) := blkAt j6.k2 1 (.int .i64 i2) rfl
  have e2 : w3.drew.cell? ⟨C + 2, 2, none⟩ = some (.int .i64 i3) := blkAt j6.k2 2 (.int .i64 i3) rfl
  have e3 : w3.drew.cell? ⟨C + 2, 3, none⟩ = some (.int .i64 i4) := blkAt j6.k2 3 (.int .i64 i4) rfl
  have e4 : w3.drew.cell? ⟨C + 2, 4, none⟩ = some (.bool i5) := blkAt j6.k2 4 (.bool i5) rfl
  have d0 : w3.drew.cell? ⟨C + 3, 0, none⟩ = some (.bool d) := blkAt j6.k3 0 (.bool d) rfl
  have a0 : w3.drew.cell? ⟨C + 1, 0, none⟩ = some (.int .i64 0) := blkAt j6.k1 0 (.int .i64 0) rfl
  have a1 : w3.drew.cell? ⟨C + 1, 1, none⟩ = some (.int .i64 0) := blkAt j6.k1 1 (.int .i64 0) rfl
  have a2 : w3.drew.cell? ⟨C + 1, 2, none⟩ = some (.int .i64 0) := blkAt j6.k1 2 (.int .i64 0) rfl
  have a3 : w3.drew.cell? ⟨C + 1, 3, none⟩ = some (.int .i64 0) := blkAt j6.k1 3 (.int .i64 0) rfl
  have a4 : w3.drew.cell? ⟨C + 1, 4, none⟩ = some (.bool false) := blkAt j6.k1 4 (.bool false) rfl
  have af : ∀ j, w3.drew.frozen? ⟨C + 1, j, none⟩ = false := fun j => j6.k1.free j
  have g0 : w3.cell? ⟨C + 1, 0, none⟩ = some (.int .i64 0) := blkAt j6.k1 0 (.int .i64 0) rfl
  have g1 : w3.cell? ⟨C + 1, 1, none⟩ = some (.int .i64 0) := blkAt j6.k1 1 (.int .i64 0) rfl
  have g2 : w3.cell? ⟨C + 1, 2, none⟩ = some (.int .i64 0) := blkAt j6.k1 2 (.int .i64 0) rfl
  have g3 : w3.cell? ⟨C + 1, 3, none⟩ = some (.int .i64 0) := blkAt j6.k1 3 (.int .i64 0) rfl
  have g4 : w3.cell? ⟨C + 1, 4, none⟩ = some (.bool false) := blkAt j6.k1 4 (.bool false) rfl
  have gf : ∀ j, w3.frozen? ⟨C + 1, j, none⟩ = false := fun j => j6.k1.free j
  have u0 : w3.cell? ⟨C + 3, 0, none⟩ = some (.bool d) := blkAt j6.k3 0 (.bool d) rfl
  clear j6 hj CE H6 HW
  go_wp2_with fail
  go_region
  all_goals
    go_wp2_with fail
    refine bodyPost_ret (v := .tuple #[.agg #[.int .i64 i1, .int .i64 i2, .int .i64 i3, .int .i64 i4, .bool i5], .bool d]) (by simp [results, Try.results9, go_sem, g0, g1, g2, g3, g4]) rfl ⟨rfl, ?_⟩
    have j6 := unhide HJ6
    have f5 : Ft (fun k => k = C + 1) w3 (((((w3.setCell ⟨C + 1, 0, none⟩ (.int .i64 i1)).setCell ⟨C + 1, 1, none⟩ (.int .i64 i2)).setCell ⟨C + 1, 2, none⟩ (.int .i64 i3)).setCell ⟨C + 1, 3, none⟩ (.int .i64 i4)).setCell ⟨C + 1, 4, none⟩ (.bool i5)).drew :=
      ((((((Ft.refl (fun k => k = C + 1) w3).set (.inl rfl) 0 _).set (.inl rfl) 1 _).set (.inl rfl) 2 _).set (.inl rfl) 3 _).set (.inl rfl) 4 _).drew
    exact ⟨j6.bs.ft f5 (fun k hk e => by have := unhide HN k hk; omega), j6.ft.next f5 (fun k hk => .inr (by omega))⟩
theorem bcancel_none (h : Bs w b n P R) (id : Int) (hid : isI id) (hm : id ∉ idsT (allT R)) : Calls Try.prog 9 #[.pointer (some ⟨b, 0, none⟩), .int .i64 id] w fun e w' => e = .returned (.tuple #[tv t0, .bool false]) ∧ Bs w' b n P R ∧ Ft (bfoot b P) w w' := by
  refine bcancel_by h id t0 false (fun _ w' => CJ w w' b n P R w.heap.size id tz false) R (fun i w' j => ⟨R, j.bs⟩) (fun i w' k l c hi j hk hl hc => ?_) (fun w' j => j) (fun w' j => j)
  rw [bcs_at P hi hc]
  refine (canc_none _ _ _ w' _ _ _ (j.bs.q i hi) id hid (fun hx => hm (mem_ids_upT.2 ⟨i, hi, hx⟩)) _ _ j.k0).mono ?_
  rintro e w2 ⟨rfl, hb⟩
  exact ⟨rfl, j.below hb⟩
theorem bcancel_ok (h : Bs w b n P R) {i : Nat} (hi : i < 6) {X Y : List Tmr} {t : Tmr} (e : R i = X ++ t :: Y) : Calls Try.prog 9 #[.pointer (some ⟨b, 0, none⟩), .int .i64 t.id] w fun e w' => e = .returned (.tuple #[tv t, .bool true]) ∧ Bs w' b n P (setT R i (X ++ Y)) ∧ Ft (bfoot b P) w w' := by
  have hid : isI t.id := ((h.q i hi).ok t (by rw [e]; simp)).1
  have hmem : t.id ∈ idsT (R i) := List.mem_map.2 ⟨t, by rw [e]; simp, rfl⟩
  refine bcancel_by h t.id t true (fun j w' => if j ≤ i then CJ w w' b n P R w.heap.size t.id tz false else CJ w w' b n P (setT R i (X ++ Y)) w.heap.size t.id (tcs t) true) (setT R i (X ++ Y)) (fun j w' hj => ?_) (fun j w' k l c hj hJ hk hl hc => ?_) (fun w' j => by rw [if_pos (Nat.zero_le _)]; exact j) (fun w' j => by rwa [if_neg (by omega)] at j)
  · split at hj
    · exact ⟨_, hj.bs⟩
    · exact ⟨_, hj.bs⟩
  · rw [bcs_at P hj hc]
    by_cases h1 : j < i
    · rw [if_pos (by omega)] at hJ
      refine (canc_none _ _ _ w' _ _ _ (hJ.bs.q j hj) t.id hid (fun hx => by have := h.ok.one hj hi hx hmem; omega) _ _ hJ.k0).mono ?_
      rintro e w2 ⟨rfl, hb⟩
      exact ⟨rfl, by rw [if_pos (by omega)]; exact hJ.below hb⟩
    · by_cases h2 : j = i
      · subst h2
        rw [if_pos (Nat.le_refl _)] at hJ
        have hN : ∀ k, bfoot b P k → k < w.heap.size := h.lts
        have hq := hJ.bs.q j hj
        rw [e] at hq
        refine (canc_some _ _ X Y t w' _ _ _ hq _ _ hJ.k0 hJ.k2 hJ.k3 (by omega) (fun hk => by have := hN _ (.inr ⟨j, hj, hk⟩); omega) (fun hk => by have := hN _ (.inr ⟨j, hj, hk⟩); omega)).mono ?_
        rintro e2 w2 ⟨rfl, q2, f2, k2, k3⟩
        refine ⟨rfl, ?_⟩
        rw [if_neg (by omega)]
        have nf : ∀ k, k = w.heap.size ∨ k = w.heap.size + 1 → ¬ (fo (P j) k ∨ k = w.heap.size + 2 ∨ k = w.heap.size + 3) := by
          rintro k hk (h3 | h3 | h3)
          · have := hN _ (.inr ⟨j, hj, h3⟩); omega
          · omega
          · omega
        refine ⟨⟨hJ.bs.blk.ft f2 ?_, fun x hx => ?_, h.ap, h.own, h.ok.drop hj e, h.nb⟩, hJ.ft.next f2 ?_, hJ.k0.ft f2 (nf _ (.inl rfl)), hJ.k1.ft f2 (nf _ (.inr rfl)), k2, k3⟩
        · rintro (h3 | h3 | h3)
          · exact h.own j hj h3
          · have := hN b (.inl rfl); omega
          · have := hN b (.inl rfl); omega
        · by_cases e3 : x = j
          · subst e3; rw [setT_same]; exact q2
          · rw [setT_ne _ _ e3]
            refine (hJ.bs.q x hx).ft f2 fun k hk h3 => ?_
            have hkl := hN _ (.inr ⟨x, hx, hk⟩)
            rcases h3 with h3 | h3 | h3
            · exact h.ap x j k hx hj e3 hk h3
            · omega
            · omega
        · rintro k (h3 | h3 | h3)
          · exact .inl (.inr ⟨j, hj, h3⟩)
          · exact .inr (by omega)
          · exact .inr (by omega)
      · rw [if_neg (by omega)] at hJ
        refine (canc_none _ _ _ w' _ _ _ (hJ.bs.q j hj) t.id hid (fun hx => by rw [setT_ne _ _ h2] at hx; have := h.ok.one hj hi hx hmem; omega) _ _ hJ.k0).mono ?_
        rintro e w2 ⟨rfl, hb⟩
        exact ⟨rfl, by rw [if_neg (by omega)]; exact hJ.below hb⟩
end
end Go.Proofs.Ytabmjaioejacaaa
