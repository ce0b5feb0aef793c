import Derived.Test.YtjjdkkdnlnbedaaGreatBaC
import Derived.Test.YtjjdkkdnlnbedaaGreatRgStep
import Derived.OwnWalk
import Derived.Test.YtjjdkkdnlnbedaaGreatBaB
/- A base's Cancel. -/
namespace Go.Proofs.YtjjdkkdnlnbedaaGreat
open Go.RowKit Kt Qu
set_option linter.unusedVariables false

def tz : Array Value := #[.int .i64 0, .int .i64 0, .int .i64 0, .int .i64 0, .bool false]
def tcs (t : Tmr) : Array Value := #[.int .i64 t.id, .int .i64 t.clock, .int .i64 t.soft, .int .i64 t.hard, .bool t.lazy]
section
variable {w w' : World} {b n : Nat} {P : Nat → Option Qa} {R : Rows6}
set_option maxRecDepth 20000 in
set_option maxHeartbeats 1000000 in
theorem canc_none (o : Option Qa) (m : Nat) (l : List Tmr) (w : World) (B0 B1 B2 : Nat) (hq : Qo w o m l) (id : Int) (hid : isI id) (hm : id ∉ idsT l) (x y : Value) (k0 : Blk w B0 3 #[.int .i64 id]) :
    Calls Tryz.prog 96 #[x, y, pv o, .pointer (some ⟨B0, 0, none⟩), .pointer (some ⟨B1, 0, none⟩), .pointer (some ⟨B2, 0, none⟩)] w fun e w' => e = .returned (.tuple #[]) ∧ Below w.heap.size w w' := by
  have CD := hide (odrop_none hq id hid hm)
  rw [show tv t0 = .agg #[.int .i64 0, .int .i64 0, .int .i64 0, .int .i64 0, .bool false] from rfl] at CD
  obtain ⟨V, hV⟩ : ∃ V, pv o = V := ⟨_, rfl⟩
  rw [hV] at CD ⊢
  have c0 := blkAt k0 0 (.int .i64 id) rfl
  clear hq hV hm hid k0
  go_enter Tryz.func96, Tryz.ntmps96
  go_wp2_with (go_at_call 97; refine (unhide CD).mono ?_; rintro e w1 ⟨rfl, hb1⟩; have HB := hide hb1; clear hb1)
  go_end0
  exact ⟨rfl, (unhide HB).trans ((one_below w1 _).mono (unhide HB).size)⟩
theorem canc_end {F : Nat → Prop} {w w1 : World} {B1 B2 : Nat} {o : Obj} (i1 i2 i3 i4 : Int) (i5 : Bool) (hf : Ft F w w1) (k1 : Blk w1 B1 35 tz) (k2 : Blk w1 B2 4 #[.bool false]) (h12 : B1 ≠ B2) (W : World)
    (hW : W = ((((((w1.alloc o).setCell ⟨B1, 0, none⟩ (.int .i64 i1)).setCell ⟨B1, 1, none⟩ (.int .i64 i2)).setCell ⟨B1, 2, none⟩ (.int .i64 i3)).setCell ⟨B1, 3, none⟩ (.int .i64 i4)).setCell ⟨B1, 4, none⟩ (.bool i5)).setCell ⟨B2, 0, none⟩ (.bool true)) :
    Ft (fun k => k = B1 ∨ k = B2) w1 W ∧ Ft (fun k => F k ∨ k = B1 ∨ k = B2) w W ∧ Blk W B1 35 #[.int .i64 i1, .int .i64 i2, .int .i64 i3, .int .i64 i4, .bool i5] ∧ Blk W B2 4 #[.bool true] := by
  subst hW
  have f1 : Ft (fun k => F k ∨ k = B1 ∨ k = B2) w (w1.alloc o) := (hf.mono fun k hk => .inl hk).alloc o
  have f0 : Ft (fun k => k = B1 ∨ k = B2) w1 (w1.alloc o) := (Ft.refl _ w1).alloc o
  refine ⟨((((((f0.set (.inl (.inl rfl)) 0 _).set (.inl (.inl rfl)) 1 _).set (.inl (.inl rfl)) 2 _).set (.inl (.inl rfl)) 3 _).set (.inl (.inl rfl)) 4 _).set (.inl (.inr rfl)) 0 _), ((((((f1.set (.inl (.inr (.inl rfl))) 0 _).set (.inl (.inr (.inl rfl))) 1 _).set (.inl (.inr (.inl rfl))) 2 _).set (.inl (.inr (.inl rfl))) 3 _).set (.inl (.inr (.inl rfl))) 4 _).set (.inl (.inr (.inr rfl))) 0 _), ?_, ?_⟩
  · exact ((((((k1.alloc o).put 0 _).put 1 _).put 2 _).put 3 _).put 4 _).other (fun e => h12 e.symm) 0 _
  · exact ((((((k2.alloc o).other h12 0 _).other h12 1 _).other h12 2 _).other h12 3 _).other h12 4 _).put 0 _
set_option maxRecDepth 20000 in
set_option maxHeartbeats 1000000 in
theorem canc_some (o : Option Qa) (m : Nat) (X Y : List Tmr) (t : Tmr) (w : World) (B0 B1 B2 : Nat) (hq : Qo w o m (X ++ t :: Y)) (x y : Value) (k0 : Blk w B0 3 #[.int .i64 t.id]) (k1 : Blk w B1 35 tz) (k2 : Blk w B2 4 #[.bool false])
    (h12 : B1 ≠ B2) (ho1 : ¬ fo o B1) (ho2 : ¬ fo o B2) :
    Calls Tryz.prog 96 #[x, y, pv o, .pointer (some ⟨B0, 0, none⟩), .pointer (some ⟨B1, 0, none⟩), .pointer (some ⟨B2, 0, none⟩)] w fun e w' => e = .returned (.tuple #[]) ∧ Qo w' o m (X ++ Y) ∧ Ft (fun k => fo o k ∨ k = B1 ∨ k = B2) w w' ∧ Blk w' B1 35 (tcs t) ∧ Blk w' B2 4 #[.bool true] := by
  have CD := hide (odrop_ok hq)
  obtain ⟨V, hV⟩ : ∃ V, pv o = V := ⟨_, rfl⟩
  rw [hV] at CD ⊢
  have c0 := blkAt k0 0 (.int .i64 t.id) rfl
  have H := hide (And.intro k1 (And.intro k2 (And.intro h12 (And.intro ho1 ho2))))
  obtain ⟨i1, i2, i3, i4, i5⟩ := t
  unfold tcs
  simp only [tv] at CD c0 ⊢
  clear hq hV k0 k1 k2 h12 ho1 ho2
  go_enter Tryz.func96, Tryz.ntmps96
  go_wp2_with (go_at_call 97; refine Hid.out ?_)
  refine hide ?_
  refine (unhide CD).mono ?_
  rintro e w1 ⟨rfl, q1, f1⟩
  obtain ⟨k1, k2, h12, ho1, ho2⟩ := unhide H
  have k1' := k1.ft f1 ho1
  have k2' := k2.ft f1 ho2
  have hl1 := k1'.lt
  have hl2 := k2'.lt
  obtain ⟨g, hg⟩ : ∃ g, w1.heap.size = g := ⟨_, rfl⟩
  obtain ⟨W2, hW2⟩ : ∃ W2, W2 = w1.alloc (.cells #[.int .i64 i1, .int .i64 i2, .int .i64 i3, .int .i64 i4, .bool i5] 35) := ⟨_, rfl⟩
  have kt : Blk W2 g 35 #[.int .i64 i1, .int .i64 i2, .int .i64 i3, .int .i64 i4, .bool i5] := by rw [hW2]; exact Blk.new_at _ _ _ hg.symm
  have e0 := blkAt kt 0 (.int .i64 i1) rfl
  have e1 := blkAt kt 1 (.int .i64 i2) rfl
  have e2 := blkAt kt 2 (.int .i64 i3) rfl
  have e3 := blkAt kt 3 (.int .i64 i4) rfl
  have e4 := blkAt kt 4 (.bool i5) rfl
  have m1 : Blk W2 B1 35 tz := by rw [hW2]; exact k1'.alloc _
  have m2 : Blk W2 B2 4 #[.bool false] := by rw [hW2]; exact k2'.alloc _
  have a0 := blkAt m1 0 (.int .i64 0) rfl
  have a1 := blkAt m1 1 (.int .i64 0) rfl
  have a2 := blkAt m1 2 (.int .i64 0) rfl
  have a3 := blkAt m1 3 (.int .i64 0) rfl
  have a4 := blkAt m1 4 (.bool false) rfl
  have af := m1.free
  have d0 := blkAt m2 0 (.bool false) rfl
  have df := m2.free 0
  have HE := hide (fun W => canc_end (o := .cells #[.int .i64 i1, .int .i64 i2, .int .i64 i3, .int .i64 i4, .bool i5] 35) i1 i2 i3 i4 i5 f1 k1' k2' h12 W)
  have HQ := hide q1
  have HO := hide (And.intro ho1 ho2)
  subst hW2
  clear q1 f1 k1 k2 ho1 ho2 k1' k2' kt m1 m2 CD H
  go_wp2_with fail
  go_end0
  obtain ⟨f0, f3, b1, b2⟩ := unhide HE _ rfl
  exact ⟨rfl, (unhide HQ).ft f0 (fun k hk e => by
    rcases e with rfl | rfl
    · exact (unhide HO).1 hk
    · exact (unhide HO).2 hk), f3, b1, b2⟩
/-- What a call of Cancel has at hand. -/
structure CJ (w w' : World) (b n : Nat) (P : Nat → Option Qa) (R : Rows6) (C : Nat) (id : Int) (cs : Array Value) (d : Bool) : Prop where
  bs : Bs w' b n P R
  ft : Ft (bfoot b P) w w'
  k0 : Blk w' C 3 #[.int .i64 id]
  k1 : Blk w' (C + 1) 35 tz
  k2 : Blk w' (C + 2) 35 cs
  k3 : Blk w' (C + 3) 4 #[.bool d]
theorem CJ.below {C : Nat} {id : Int} {cs : Array Value} {d : Bool} {w2 : World} (h : CJ w w' b n P R C id cs d) (hb : Below w'.heap.size w' w2) : CJ w w2 b n P R C id cs d :=
  ⟨h.bs.below hb, h.ft.trans (Ft.of_below _ hb), h.k0.below hb h.k0.lt, h.k1.below hb h.k1.lt, h.k2.below hb h.k2.lt, h.k3.below hb h.k3.lt⟩
/-- Cancel, where it is known what each call of the closure does: the boxes are made, all queues are asked, the answer is told. -/
theorem bcancel_by (h : Bs w b n P R) (id : Int) (t : Tmr) (d : Bool) (J : Nat → World → Prop) (R2 : Rows6)
    (hJ : ∀ i w', J i w' → ∃ R', Bs w' b n P R')
    (hs : ∀ i w' k l c, i < 6 → J i w' → k = ((i / 2 : Nat) : Int) → l = decide (i % 2 = 1) → (bcs P)[i]? = some c → Calls Tryz.prog 96 #[.int .i64 k, .bool l, c, .pointer (some ⟨w.heap.size, 0, none⟩), .pointer (some ⟨w.heap.size + 2, 0, none⟩), .pointer (some ⟨w.heap.size + 3, 0, none⟩)] w' fun e w2 => e = .returned (.tuple #[]) ∧ J (i + 1) w2)
    (h0 : ∀ w', CJ w w' b n P R w.heap.size id tz false → J 0 w') (h6 : ∀ w', J 6 w' → CJ w w' b n P R2 w.heap.size id (tcs t) d) :
    Calls Tryz.prog 67 #[.pointer (some ⟨b, 0, none⟩), .int .i64 id] w fun e w' => e = .returned (.tuple #[tv t, .bool d]) ∧ Bs w' b n P R2 ∧ Ft (bfoot b P) w w' := by
  obtain ⟨C, hC⟩ : ∃ C, w.heap.size = C := ⟨_, rfl⟩
  rw [hC] at hs h0 h6
  obtain ⟨W1, hW1⟩ : ∃ W1, W1 = w.alloc (.cells #[.int .i64 id] 3) := ⟨_, rfl⟩
  obtain ⟨W2, hW2⟩ : ∃ W2, W2 = W1.alloc (.cells tz 35) := ⟨_, rfl⟩
  obtain ⟨W3, hW3⟩ : ∃ W3, W3 = W2.alloc (.cells tz 35) := ⟨_, rfl⟩
  obtain ⟨W4, hW4⟩ : ∃ W4, W4 = W3.alloc (.cells #[.bool false] 4) := ⟨_, rfl⟩
  have s1 : W1.heap.size = C + 1 := by rw [hW1, ← hC]; simp
  have s2 : W2.heap.size = C + 2 := by rw [hW2]; simp [s1]
  have s3 : W3.heap.size = C + 3 := by rw [hW3]; simp [s2]
  have b1 : Below C w W1 := by rw [hW1, ← hC]; exact one_below _ _
  have b2 : Below W1.heap.size W1 W2 := by rw [hW2]; exact one_below _ _
  have b3 : Below W2.heap.size W2 W3 := by rw [hW3]; exact one_below _ _
  have b4 : Below W3.heap.size W3 W4 := by rw [hW4]; exact one_below _ _
  have k1 : Blk W1 C 3 #[.int .i64 id] := by rw [hW1]; exact Blk.new_at _ _ _ hC.symm
  have k2 : Blk W2 (C + 1) 35 tz := by rw [hW2]; exact Blk.new_at _ _ _ s1.symm
  have k3 : Blk W3 (C + 2) 35 tz := by rw [hW3]; exact Blk.new_at _ _ _ s2.symm
  have k4 : Blk W4 (C + 3) 4 #[.bool false] := by rw [hW4]; exact Blk.new_at _ _ _ s3.symm
  have k1a := k1.below b2 k1.lt
  have k1b := k1a.below b3 k1a.lt
  have k2a := k2.below b3 k2.lt
  have bb : Below C w W4 := ((b1.trans (b2.mono (by omega))).trans (b3.mono (by omega))).trans (b4.mono (by omega))
  have j0 : CJ w W4 b n P R C id tz false := ⟨h.below (hC ▸ bb), Ft.of_below _ (hC ▸ bb), k1b.below b4 k1b.lt, k2a.below b4 k2a.lt, k3.below b4 k3.lt, k4⟩
  have CE := hide (each_any b (pv (P 0)) (pv (P 1)) (pv (P 2)) (pv (P 3)) (pv (P 4)) (pv (P 5)) 96 #[.pointer (some ⟨C, 0, none⟩), .pointer (some ⟨C + 2, 0, none⟩), .pointer (some ⟨C + 3, 0, none⟩)]
    J W4 (fun _ _ => by kernel_rfl) (fun i w' hj => by obtain ⟨R', hb⟩ := hJ i w' hj; exact hb.blk) (fun i w' k l c hi hj hk hl hc => hs i w' k l c hi hj hk hl hc) (h0 _ j0))
  have H6 := hide h6
  unfold tz at hW2 hW3
  rw [hW3, hW2, hW1] at hW4
  have HW := hide hW4
  have HN := hide (fun k (hk : bfoot b P k) => show k < C by have := h.lts k hk; omega)
  clear hW1 hW2 hW3 hW4 b1 b2 b3 b4 k1 k2 k3 k4 k1a k1b k2a h hs h0 h6 bb j0 s1 s2 s3
  obtain ⟨i1, i2, i3, i4, i5⟩ := t
  unfold tv
  simp only
  go_enter Tryz.func67, Tryz.ntmps67
  go_wp2_with (go_at_call 62; refine Hid.out ?_)
  refine hide ?_
  rw [← unhide HW]
  refine (unhide CE).mono ?_
  rintro e w3 ⟨rfl, hj⟩
  have j6 := unhide H6 w3 hj
  have HJ6 := hide j6
  have e0 : w3.drew.cell? ⟨C + 2, 0, none⟩ = some (.int .i64 i1) := blkAt j6.k2 0 (.int .i64 i1) rfl
  have e1 : w3.drew.cell? ⟨C + 2, 1, none⟩ = some (.int .i64 i2) := blkAt j6.k2 1 (.int .i64 i2) rfl
  have e2 : w3.drew.cell? ⟨C + 2, 2, none⟩ = some (.int .i64 i3) := blkAt j6.k2 2 (.int .i64 i3) rfl
  have e3 : w3.drew.cell? ⟨C + 2, 3, none⟩ = some (.int .i64 i4) := blkAt j6.k2 3 (.int .i64 i4) rfl
  have e4 : w3.drew.cell? ⟨C + 2, 4, none⟩ = some (.bool i5) := blkAt j6.k2 4 (.bool i5) rfl
  have d0 : w3.drew.cell? ⟨C + 3, 0, none⟩ = some (.bool d) := blkAt j6.k3 0 (.bool d) rfl
  have a0 : w3.drew.cell? ⟨C + 1, 0, none⟩ = some (.int .i64 0) := blkAt j6.k1 0 (.int .i64 0) rfl
  have a1 : w3.drew.cell? ⟨C + 1, 1, none⟩ = some (.int .i64 0) := blkAt j6.k1 1 (.int .i64 0) rfl
  have a2 : w3.drew.cell? ⟨C + 1, 2, none⟩ = some (.int .i64 0) := blkAt j6.k1 2 (.int .i64 0) rfl
  have a3 : w3.drew.cell? ⟨C + 1, 3, none⟩ = some (.int .i64 0) := blkAt j6.k1 3 (.int .i64 0) rfl
  have a4 : w3.drew.cell? ⟨C + 1, 4, none⟩ = some (.bool false) := blkAt j6.k1 4 (.bool false) rfl
  have af : ∀ j, w3.drew.frozen? ⟨C + 1, j, none⟩ = false := fun j => j6.k1.free j
  have g0 : w3.cell? ⟨C + 1, 0, none⟩ = some (.int .i64 0) := blkAt j6.k1 0 (.int .i64 0) rfl
  have g1 : w3.cell? ⟨C + 1, 1, none⟩ = some (.int .i64 0) := blkAt j6.k1 1 (.int .i64 0) rfl
  have g2 : w3.cell? ⟨C + 1, 2, none⟩ = some (.int .i64 0) := blkAt j6.k1 2 (.int .i64 0) rfl
  have g3 : w3.cell? ⟨C + 1, 3, none⟩ = some (.int .i64 0) := blkAt j6.k1 3 (.int .i64 0) rfl
  have g4 : w3.cell? ⟨C + 1, 4, none⟩ = some (.bool false) := blkAt j6.k1 4 (.bool false) rfl
  have gf : ∀ j, w3.frozen? ⟨C + 1, j, none⟩ = false := fun j => j6.k1.free j
  have u0 : w3.cell? ⟨C + 3, 0, none⟩ = some (.bool d) := blkAt j6.k3 0 (.bool d) rfl
  clear j6 hj CE H6 HW
  go_wp2_with fail
  go_region
  all_goals
    go_wp2_with fail
    refine bodyPost_ret (v := .tuple #[.agg #[.int .i64 i1, .int .i64 i2, .int .i64 i3, .int .i64 i4, .bool i5], .bool d]) (by simp [results, Tryz.results67, go_sem, g0, g1, g2, g3, g4]) rfl ⟨rfl, ?_⟩
    have j6 := unhide HJ6
    have f5 : Ft (fun k => k = C + 1) w3 (((((w3.setCell ⟨C + 1, 0, none⟩ (.int .i64 i1)).setCell ⟨C + 1, 1, none⟩ (.int .i64 i2)).setCell ⟨C + 1, 2, none⟩ (.int .i64 i3)).setCell ⟨C + 1, 3, none⟩ (.int .i64 i4)).setCell ⟨C + 1, 4, none⟩ (.bool i5)).drew :=
      ((((((Ft.refl (fun k => k = C + 1) w3).set (.inl rfl) 0 _).set (.inl rfl) 1 _).set (.inl rfl) 2 _).set (.inl rfl) 3 _).set (.inl rfl) 4 _).drew
    exact ⟨j6.bs.ft f5 (fun k hk e => by have := unhide HN k hk; omega), j6.ft.next f5 (fun k hk => .inr (by omega))⟩
theorem bcancel_none (h : Bs w b n P R) (id : Int) (hid : isI id) (hm : id ∉ idsT (allT R)) : Calls Tryz.prog 67 #[.pointer (some ⟨b, 0, none⟩), .int .i64 id] w fun e w' => e = .returned (.tuple #[tv t0, .bool false]) ∧ Bs w' b n P R ∧ Ft (bfoot b P) w w' := by
  refine bcancel_by h id t0 false (fun _ w' => CJ w w' b n P R w.heap.size id tz false) R (fun i w' j => ⟨R, j.bs⟩) (fun i w' k l c hi j hk hl hc => ?_) (fun w' j => j) (fun w' j => j)
  rw [bcs_at P hi hc]
  refine (canc_none _ _ _ w' _ _ _ (j.bs.q i hi) id hid (fun hx => hm (mem_ids_upT.2 ⟨i, hi, hx⟩)) _ _ j.k0).mono ?_
  rintro e w2 ⟨rfl, hb⟩
  exact ⟨rfl, j.below hb⟩
theorem bcancel_ok (h : Bs w b n P R) {i : Nat} (hi : i < 6) {X Y : List Tmr} {t : Tmr} (e : R i = X ++ t :: Y) : Calls Tryz.prog 67 #[.pointer (some ⟨b, 0, none⟩), .int .i64 t.id] w fun e w' => e = .returned (.tuple #[tv t, .bool true]) ∧ Bs w' b n P (setT R i (X ++ Y)) ∧ Ft (bfoot b P) w w' := by
  have hid : isI t.id := ((h.q i hi).ok t (by rw [e]; simp)).1
  have hmem : t.id ∈ idsT (R i) := List.mem_map.2 ⟨t, by rw [e]; simp, rfl⟩
  refine bcancel_by h t.id t true (fun j w' => if j ≤ i then CJ w w' b n P R w.heap.size t.id tz false else CJ w w' b n P (setT R i (X ++ Y)) w.heap.size t.id (tcs t) true) (setT R i (X ++ Y)) (fun j w' hj => ?_) (fun j w' k l c hj hJ hk hl hc => ?_) (fun w' j => by rw [if_pos (Nat.zero_le _)]; exact j) (fun w' j => by rwa [if_neg (by omega)] at j)
  · split at hj
    · exact ⟨_, hj.bs⟩
    · exact ⟨_, hj.bs⟩
  · rw [bcs_at P hj hc]
    by_cases h1 : j < i
    · rw [if_pos (by omega)] at hJ
      refine (canc_none _ _ _ w' _ _ _ (hJ.bs.q j hj) t.id hid (fun hx => by have := h.ok.one hj hi hx hmem; omega) _ _ hJ.k0).mono ?_
      rintro e w2 ⟨rfl, hb⟩
      exact ⟨rfl, by rw [if_pos (by omega)]; exact hJ.below hb⟩
    · by_cases h2 : j = i
      · subst h2
        rw [if_pos (Nat.le_refl _)] at hJ
        have hN : ∀ k, bfoot b P k → k < w.heap.size := h.lts
        have hq := hJ.bs.q j hj
        rw [e] at hq
        refine (canc_some _ _ X Y t w' _ _ _ hq _ _ hJ.k0 hJ.k2 hJ.k3 (by omega) (fun hk => by have := hN _ (.inr ⟨j, hj, hk⟩); omega) (fun hk => by have := hN _ (.inr ⟨j, hj, hk⟩); omega)).mono ?_
        rintro e2 w2 ⟨rfl, q2, f2, k2, k3⟩
        refine ⟨rfl, ?_⟩
        rw [if_neg (by omega)]
        have nf : ∀ k, k = w.heap.size ∨ k = w.heap.size + 1 → ¬ (fo (P j) k ∨ k = w.heap.size + 2 ∨ k = w.heap.size + 3) := by
          rintro k hk (h3 | h3 | h3)
          · have := hN _ (.inr ⟨j, hj, h3⟩); omega
          · omega
          · omega
        refine ⟨⟨hJ.bs.blk.ft f2 ?_, fun x hx => ?_, h.ap, h.own, h.ok.drop hj e, h.nb⟩, hJ.ft.next f2 ?_, hJ.k0.ft f2 (nf _ (.inl rfl)), hJ.k1.ft f2 (nf _ (.inr rfl)), k2, k3⟩
        · rintro (h3 | h3 | h3)
          · exact h.own j hj h3
          · have := hN b (.inl rfl); omega
          · have := hN b (.inl rfl); omega
        · by_cases e3 : x = j
          · subst e3; rw [setT_same]; exact q2
          · rw [setT_ne _ _ e3]
            refine (hJ.bs.q x hx).ft f2 fun k hk h3 => ?_
            have hkl := hN _ (.inr ⟨x, hx, hk⟩)
            rcases h3 with h3 | h3 | h3
            · exact h.ap x j k hx hj e3 hk h3
            · omega
            · omega
        · rintro k (h3 | h3 | h3)
          · exact .inl (.inr ⟨j, hj, h3⟩)
          · exact .inr (by omega)
          · exact .inr (by omega)
      · rw [if_neg (by omega)] at hJ
        refine (canc_none _ _ _ w' _ _ _ (hJ.bs.q j hj) t.id hid (fun hx => by rw [setT_ne _ _ h2] at hx; have := h.ok.one hj hi hx hmem; omega) _ _ hJ.k0).mono ?_
        rintro e w2 ⟨rfl, hb⟩
        exact ⟨rfl, by rw [if_neg (by omega)]; exact hJ.below hb⟩
end
end Go.Proofs.YtjjdkkdnlnbedaaGreat


/- A base's Expire. -/
namespace Go.Proofs.YtjjdkkdnlnbedaaGreat
open Go.RowKit Kt Qu
set_option linter.unusedVariables false

/-- How long the row is that a cell holds. -/
def rl (w : World) (B : Nat) : Nat := ((w.cell? ⟨B, 0, none⟩).map slen).getD 0
theorem rl_at {w : World} {B : Nat} {t : TypeId} {a : Option Addr} {n c : Nat} (h : Blk w B t #[.slice a n c]) : rl w B = n := by unfold rl; rw [blkAt h 0 (.slice a n c) rfl]; rfl
section
variable {w w' : World} {b n : Nat} {P : Nat → Option Qa} {R : Rows6}
/-- What the closure of Expire keeps: D is where the blocks begin that it may make; C, C + 1, C + 2 are the boxes of the times, of lazy, and of the row. -/
structure EJ (w0 w : World) (o : Option Qa) (m C : Nat) (f0 f1 f2 : Int) (lz : Bool) (L A S : List Tmr) (v : Value) : Prop where
  q : Qo w o m S
  k0 : Blk w C 75 #[.int .i64 f0, .int .i64 f1, .int .i64 f2]
  k1 : Blk w (C + 1) 4 #[.bool lz]
  k2 : Blk w (C + 2) 28 #[v]
  row : Rg rtm w (C + 3) v (L ++ A)
  ft : Ft (fun k => fo o k ∨ C + 2 ≤ k) w0 w
  nf : ∀ k, fo o k → k < C
theorem EJ.below {w0 w w2 : World} {o : Option Qa} {m C : Nat} {f0 f1 f2 : Int} {lz : Bool} {L A S : List Tmr} {v : Value} (h : EJ w0 w o m C f0 f1 f2 lz L A S v) (hb : Below w.heap.size w w2) : EJ w0 w2 o m C f0 f1 f2 lz L A S v :=
  ⟨h.q.below hb, h.k0.below hb h.k0.lt, h.k1.below hb h.k1.lt, h.k2.below hb h.k2.lt, h.row.below hb, h.ft.trans (Ft.of_below _ hb), h.nf⟩
/-- A queue has changed. -/
theorem EJ.took {w0 w w2 : World} {o : Option Qa} {m C : Nat} {f0 f1 f2 : Int} {lz : Bool} {L A S S2 : List Tmr} {v : Value} (h : EJ w0 w o m C f0 f1 f2 lz L A S v) (hq : Qo w2 o m S2) (f : Ft (fo o) w w2) : EJ w0 w2 o m C f0 f1 f2 lz L A S2 v :=
  ⟨hq, h.k0.ft f (fun e => by have := h.nf _ e; omega), h.k1.ft f (fun e => by have := h.nf _ e; omega), h.k2.ft f (fun e => by have := h.nf _ e; omega), h.row.ft f (fun g hg e => by have := h.nf _ e; have := (h.row.lt g hg).1; omega), h.ft.trans (f.mono fun k hk => .inl hk), h.nf⟩
/-- The row has grown, and is told. -/
theorem EJ.grew {w0 w w2 : World} {o : Option Qa} {m C : Nat} {f0 f1 f2 : Int} {lz : Bool} {L A A2 S : List Tmr} {v v2 : Value} (h : EJ w0 w o m C f0 f1 f2 lz L A S v) (g : w.grownBy w2 v.ownBlock) (hr : Rg rtm w2 (C + 3) v2 (L ++ A2)) : EJ w0 (w2.setCell ⟨C + 2, 0, none⟩ v2) o m C f0 f1 f2 lz L A2 S v2 := by
  have hv : ∀ k, v.ownBlock = some k → C + 3 ≤ k := fun k hk => (h.row.lt k hk).1
  have f1 : Ft (fun k => C + 2 ≤ k) w (w2.setCell ⟨C + 2, 0, none⟩ v2) := ((Ft.refl (fun k => C + 2 ≤ k) w).grown g (fun k hk => .inl (by have := hv k hk; omega))).set (.inl (Nat.le_refl _)) 0 _
  refine ⟨h.q.ft f1 (fun k hk e => by have := h.nf _ hk; omega), h.k0.ft f1 (by omega), h.k1.ft f1 (by omega), ?_, hr.setB 0 _, h.ft.trans (f1.mono fun k hk => .inr hk), h.nf⟩
  exact (h.k2.grownR g fun e => by have := hv _ e.symm; omega).put 0 v2
/-- A box beside it has changed. -/
theorem EJ.box {w0 w w2 : World} {o : Option Qa} {m C : Nat} {f0 f1 f2 : Int} {lz : Bool} {L A S : List Tmr} {v : Value} {g : Nat} (h : EJ w0 w o m C f0 f1 f2 lz L A S v) (f : Ft (fun k => k = g) w w2) (hg : C + 3 ≤ g) (hv : ∀ x, v.ownBlock = some x → x ≠ g) : EJ w0 w2 o m C f0 f1 f2 lz L A S v :=
  ⟨h.q.ft f (fun k hk e => by have := h.nf _ hk; omega), h.k0.ft f (by omega), h.k1.ft f (by omega), h.k2.ft f (by omega), h.row.ft f (fun x hx e => hv x hx e), h.ft.trans (f.mono fun k hk => .inr (by omega)), h.nf⟩
theorem ftg_set5 (w : World) (g : Nat) (a b c d e : Value) : Ft (fun k => k = g) w (((((w.setCell ⟨g, 0, none⟩ a).setCell ⟨g, 1, none⟩ b).setCell ⟨g, 2, none⟩ c).setCell ⟨g, 3, none⟩ d).setCell ⟨g, 4, none⟩ e) :=
  (((((Ft.refl (fun k => k = g) w).set (.inl rfl) 0 _).set (.inl rfl) 1 _).set (.inl rfl) 2 _).set (.inl rfl) 3 _).set (.inl rfl) 4 _
theorem blk_set5 {w : World} {g : Nat} {t : TypeId} {z0 z1 z2 z3 z4 : Value} (h : Blk w g t #[z0, z1, z2, z3, z4]) (a b c d e : Value) : Blk (((((w.setCell ⟨g, 0, none⟩ a).setCell ⟨g, 1, none⟩ b).setCell ⟨g, 2, none⟩ c).setCell ⟨g, 3, none⟩ d).setCell ⟨g, 4, none⟩ e) g t #[a, b, c, d, e] :=
  ((((h.put 0 a).put 1 b).put 2 c).put 3 d).put 4 e
/-- What a round of the closure's loop has at hand. -/
structure ER (w0 w : World) (o : Option Qa) (m C : Nat) (f0 f1 f2 : Int) (lz : Bool) (now : Int) (l L A S : List Tmr) (B : Nat) (t : Tmr) (ok : Bool) (v : Value) : Prop where
  e : EJ w0 w o m C f0 f1 f2 lz L A S v
  kt : Blk w B 35 #[.int .i64 t.id, .int .i64 t.clock, .int .i64 t.soft, .int .i64 t.hard, .bool t.lazy]
  hv : ∀ x, v.ownBlock = some x → x ≠ B
  hB : C + 3 ≤ B
  yes : ok = true → l = A ++ t :: S ∧ dueT now t
  no : ok = false → l = A ++ S ∧ ∀ y S', S = y :: S' → ¬ dueT now y
  all : ∀ y ∈ A, dueT now y
/-- The first ones that are due, and the others. -/
def dueP (now : Int) (l : List Tmr) : List Tmr := l.takeWhile fun t => decide (dueT now t)
def dueS (now : Int) (l : List Tmr) : List Tmr := l.dropWhile fun t => decide (dueT now t)
theorem due_split {now : Int} {l A S : List Tmr} (h : l = A ++ S) (hA : ∀ t ∈ A, dueT now t) (hS : ∀ y S', S = y :: S' → ¬ dueT now y) : dueP now l = A ∧ dueS now l = S := by
  subst h
  have h1 : (A ++ S).takeWhile (fun t => decide (dueT now t)) = A ++ S.takeWhile (fun t => decide (dueT now t)) := List.takeWhile_append_of_pos (by intro t ht; exact decide_eq_true (hA t ht))
  have h2 : (A ++ S).dropWhile (fun t => decide (dueT now t)) = S.dropWhile (fun t => decide (dueT now t)) := List.dropWhile_append_of_pos (by intro t ht; exact decide_eq_true (hA t ht))
  unfold dueP dueS
  rw [h1, h2]
  cases S with
  | nil => exact ⟨by simp, by simp⟩
  | cons y S' =>
    have := hS y S' rfl
    rw [List.takeWhile_cons, List.dropWhile_cons, if_neg (by simpa using this), if_neg (by simpa using this), List.append_nil]
    exact ⟨rfl, rfl⟩
set_option maxRecDepth 20000 in
set_option maxHeartbeats 1000000 in
theorem expc_other (C : Nat) (k isl lz : Value) (w : World) (b1 b2 : Bool) (hne : b1 ≠ b2) (x q y z : Value) (k1 : Blk w C 4 #[.bool b2]) :
    Calls Tryz.prog 122 #[x, .bool b1, q, .pointer (some ⟨C, 0, none⟩), y, z] w fun e w' => e = .returned (.tuple #[]) ∧ w' = w := by
  have c0 := blkAt k1 0 (.bool b2) rfl
  clear k1
  have hb : (b1 == b2) = false := by rw [beq_eq_false_iff_ne]; exact hne
  cases b1 <;> cases b2
  · exact absurd rfl hne
  · go_enter Tryz.func122, Tryz.ntmps122
    go_wp2
    refine bodyPost_ret (results_none rfl _ _ _) rfl ?_
    exact ⟨rfl, rfl⟩
  · go_enter Tryz.func122, Tryz.ntmps122
    go_wp2
    refine bodyPost_ret (results_none rfl _ _ _) rfl ?_
    exact ⟨rfl, rfl⟩
  · exact absurd rfl hne
/-- What a call of Due tells, and leaves. -/
theorem odue_any {o : Option Qa} {m : Nat} {S : List Tmr} (h : Qo w o m S) (now : Int) : ∃ (t : Tmr) (ok : Bool) (S2 : List Tmr), (ok = true → S = t :: S2 ∧ dueT now t) ∧ (ok = false → S = S2 ∧ ∀ y S', S = y :: S' → ¬ dueT now y) ∧
    Calls Tryz.prog 123 #[pv o, .int .i64 now] w fun e w' => e = .returned (.tuple #[tv t, .bool ok]) ∧ Qo w' o m S2 ∧ Ft (fo o) w w' := by
  by_cases hd : ∃ y S', S = y :: S' ∧ dueT now y
  · obtain ⟨y, S', rfl, hy⟩ := hd
    exact ⟨y, true, S', (fun _ => ⟨rfl, hy⟩), (fun e => by cases e), odue_ok h now hy⟩
  · refine ⟨t0, false, S, (fun e => by cases e), (fun _ => ⟨rfl, fun y S' e hy => hd ⟨y, S', e, hy⟩⟩), ?_⟩
    refine (odue_no h now (fun y S' e hy => hd ⟨y, S', e, hy⟩)).mono ?_
    rintro e w' ⟨rfl, hb⟩
    exact ⟨rfl, h.below hb, Ft.of_below _ hb⟩
set_option maxRecDepth 20000 in
set_option maxHeartbeats 2000000 in
theorem expclo (o : Option Qa) (m : Nat) (l L : List Tmr) (w0 w : World) (C : Nat) (f0 f1 f2 : Int) (lz : Bool) (k : Nat) (now : Int) (v : Value) (hk : k = 0 ∧ now = f0 ∨ k = 1 ∧ now = f1 ∨ k = 2 ∧ now = f2)
    (h : EJ w0 w o m C f0 f1 f2 lz L [] l v) (hL : L.length ≤ 1000) :
    Calls Tryz.prog 122 #[.int .i64 (k : Int), .bool lz, pv o, .pointer (some ⟨C + 1, 0, none⟩), .pointer (some ⟨C, 0, none⟩), .pointer (some ⟨C + 2, 0, none⟩)] w fun e w' => e = .returned (.tuple #[]) ∧ ∃ v', EJ w0 w' o m C f0 f1 f2 lz L (dueP now l) (dueS now l) v' := by
  have hlen := h.q.len
  have hk3 : k < 3 := by omega
  have hk4 : (k : Int) < 3 := by omega
  have hk5 : (0 : Int) ≤ (k : Int) ∧ (k : Int) < 3 := by omega
  have c1 := blkAt h.k1 0 (.bool lz) rfl
  have hbb : (lz == lz) = true := by simp
  have HT := hide (fun (w' : World) (k0 : Blk w' C 75 #[.int .i64 f0, .int .i64 f1, .int .i64 f2]) => show w'.cell? ⟨C, k, none⟩ = some (.int .i64 now) by
    rcases hk with ⟨rfl, rfl⟩ | ⟨rfl, rfl⟩ | ⟨rfl, rfl⟩
    · exact blkAt k0 0 (.int .i64 now) rfl
    · exact blkAt k0 1 (.int .i64 now) rfl
    · exact blkAt k0 2 (.int .i64 now) rfl)
  have y0 := unhide HT w h.k0
  obtain ⟨t, ok, S, d1, d2, CD0⟩ := odue_any h.q now
  have CD := hide CD0
  clear CD0
  have HD := hide (And.intro d1 d2)
  have HE := hide h
  have CDA := hide (fun (w' : World) (S : List Tmr) (hq : Qo w' o m S) => odue_any hq now)
  obtain ⟨V, hV⟩ : ∃ V, pv o = V := ⟨_, rfl⟩
  rw [hV] at CD CDA ⊢
  obtain ⟨i1, i2, i3, i4, i5⟩ := t
  simp only [tv] at CD
  clear h hk d1 d2 hV
  go_enter Tryz.func122, Tryz.ntmps122
  go_wp2_with (go_at_call 123; refine Hid.out ?_)
  refine hide ?_
  refine (unhide CD).mono ?_
  rintro e w1 ⟨rfl, q1, ft1⟩
  have e1 := (unhide HE).took q1 ft1
  obtain ⟨g, hg⟩ : ∃ g, w1.heap.size = g := ⟨_, rfl⟩
  have hgC : C + 3 ≤ g := by have := e1.k2.lt; omega
  have e2 := hide (e1.below (one_below w1 (.cells #[.int .i64 i1, .int .i64 i2, .int .i64 i3, .int .i64 i4, .bool i5] 35)))
  have kt := hide (Blk.new_at w1 35 #[.int .i64 i1, .int .i64 i2, .int .i64 i3, .int .i64 i4, .bool i5] hg.symm)
  have hv := hide (fun x (hx : v.ownBlock = some x) => show x ≠ g by have := (e1.row.lt x hx).2; omega)
  clear q1 ft1 e1 CD
  go_wp2_with fail
  have HR0 := hide (show ER w0 (w1.alloc (.cells #[.int .i64 i1, .int .i64 i2, .int .i64 i3, .int .i64 i4, .bool i5] 35)) o m C f0 f1 f2 lz now l L [] S g ⟨i1, i2, i3, i4, i5⟩ ok v from
    ⟨unhide e2, unhide kt, unhide hv, hgC, (fun e => (unhide HD).1 e), (fun e => by obtain ⟨h1, h2⟩ := (unhide HD).2 e; exact ⟨h1, fun y S' h3 => h2 y S' (h1.trans h3)⟩), (fun y hy => by cases hy)⟩)
  clear e2 kt hv HD HE hgC c1 y0
  go_loopw [9, 10] (fun s9 s10 w' => ∃ (A S : List Tmr) (B : Nat) (t : Tmr) (ok : Bool) (v : Value), s9 = .pointer (some ⟨B, 0, none⟩) ∧ s10 = .bool ok ∧ Hid (ER w0 w' o m C f0 f1 f2 lz now l L A S B t ok v)) (fun _ _ w' => 2000 - rl w' (C + 2))
  case atStart => exact ⟨[], S, g, ⟨i1, i2, i3, i4, i5⟩, ok, v, rfl, rfl, HR0⟩
  case round =>
    clear HR0
    obtain ⟨A, S, B, t, ok, v, rfl, rfl, HR⟩ := hrel
    cases ok
    · go_wp2_with fail
      go_end0
      obtain ⟨h1, h2⟩ := (unhide HR).no rfl
      obtain ⟨h3, h4⟩ := due_split h1 (unhide HR).all h2
      rw [h3, h4]
      exact ⟨rfl, v, (unhide HR).e⟩
    · obtain ⟨i1, i2, i3, i4, i5⟩ := t
      obtain ⟨hl, hdt⟩ := (unhide HR).yes rfl
      have hlenA : A.length + S.length + 1 = l.length := by rw [hl]; simp; omega
      obtain ⟨ra, rcap, hform, -⟩ := (unhide HR).e.row.form
      subst hform
      have cr := blkAt (unhide HR).e.k2 0 (.slice ra (L ++ A).length rcap) rfl
      have c0 := blkAt (unhide HR).kt 0 (.int .i64 i1) rfl
      have c1 := blkAt (unhide HR).kt 1 (.int .i64 i2) rfl
      have c2 := blkAt (unhide HR).kt 2 (.int .i64 i3) rfl
      have c3 := blkAt (unhide HR).kt 3 (.int .i64 i4) rfl
      have c4 := blkAt (unhide HR).kt 4 (.bool i5) rfl
      have hLA : (L ++ A).length = L.length + A.length := List.length_append
      rw [hLA] at cr
      have HLA := hide hLA
      have HL := hide (And.intro hl hdt)
      have hrl := rl_at (unhide HR).e.k2
      rw [hLA] at hrl
      have HRL := hide hrl
      have HBX := hide (Blk.new wr 35 #[.int .i64 i1, .int .i64 i2, .int .i64 i3, .int .i64 i4, .bool i5])
      have hCw := (unhide HR).e.k2.lt
      have HRW := hide (by have := (unhide HR).e.row.below (one_below wr (.cells #[.int .i64 i1, .int .i64 i2, .int .i64 i3, .int .i64 i4, .bool i5] 35)); rw [hLA] at this; exact this)
      have hszA : C + 3 ≤ (wr.alloc (.cells #[.int .i64 i1, .int .i64 i2, .int .i64 i3, .int .i64 i4, .bool i5] 35)).heap.size := by simp; omega
      have HSZ := hide hszA
      clear hl hdt hLA hrl hszA
      go_wp2_with (at_builtin; refine rlist_app rtm rfl _ _ rfl (C + 3) (.slice ra (L.length + A.length) rcap) (L ++ A) rfl (unhide HRW) [⟨i1, i2, i3, i4, i5⟩] (rnews_box rtm (unhide HBX) rfl) (by simp; omega) (unhide HSZ) ?_)
      intro v2 w2 o2 g2
      obtain ⟨ra2, rcap2, hform2, -⟩ := o2.form
      have hL2 : (L ++ (A ++ [(⟨i1, i2, i3, i4, i5⟩ : Tmr)])).length = L.length + A.length + 1 := by simp; omega
      subst hform2
      rw [hL2] at o2 ⊢
      have hR := unhide HR
      have eA := hR.e.below (one_below wr (.cells #[.int .i64 i1, .int .i64 i2, .int .i64 i3, .int .i64 i4, .bool i5] 35))
      have ktA := hR.kt.below (one_below wr (.cells #[.int .i64 i1, .int .i64 i2, .int .i64 i3, .int .i64 i4, .bool i5] 35)) hR.kt.lt
      rw [unhide HLA] at eA hR
      have nv : ∀ x, (Value.slice ra (L.length + A.length) rcap).ownBlock = some x → x ≠ C + 2 := fun x hx e => by have := (eA.row.lt x hx).1; omega
      have kB2 := ktA.grownR g2 (fun e => hR.hv _ e.symm rfl)
      have kC2 := eA.k2.grownR g2 (fun e => nv _ e.symm rfl)
      have d0 := blkAt kB2 0 (.int .i64 i1) rfl
      have d1 := blkAt kB2 1 (.int .i64 i2) rfl
      have d2 := blkAt kB2 2 (.int .i64 i3) rfl
      have d3 := blkAt kB2 3 (.int .i64 i4) rfl
      have d4 := blkAt kB2 4 (.bool i5) rfl
      have r0 := blkAt kC2 0 (.slice ra (L.length + A.length) rcap) rfl
      have rf := kC2.free 0
      have hne : B ≠ C + 2 := by have := hR.hB; omega
      have hne2 : (C + 2 = B) = False := by simp; omega
      have e3 := eA.grew (A2 := A ++ [⟨i1, i2, i3, i4, i5⟩]) g2 o2
      obtain ⟨g', hg'⟩ : ∃ g', w2.heap.size = g' := ⟨_, rfl⟩
      obtain ⟨W4, hW4⟩ : ∃ W4, W4 = (w2.setCell ⟨C + 2, 0, none⟩ (.slice ra2 (L.length + A.length + 1) rcap2)).alloc (.cells #[.int .i64 i1, .int .i64 i2, .int .i64 i3, .int .i64 i4, .bool i5] 35) := ⟨_, rfl⟩
      have e4 : EJ w0 W4 o m C f0 f1 f2 lz L (A ++ [⟨i1, i2, i3, i4, i5⟩]) S (.slice ra2 (L.length + A.length + 1) rcap2) := by rw [hW4]; exact e3.below (one_below _ _)
      have kt4 : Blk W4 g' 35 #[.int .i64 i1, .int .i64 i2, .int .i64 i3, .int .i64 i4, .bool i5] := by rw [hW4]; exact Blk.new_at _ _ _ (by simp [hg'])
      have hg3 : C + 3 ≤ g' := by have := kC2.lt; omega
      have hv4 : ∀ x, (Value.slice ra2 (L.length + A.length + 1) rcap2).ownBlock = some x → x ≠ g' := fun x hx => by have := (o2.lt x hx).2; omega
      have y4 := unhide HT W4 e4.k0
      rw [hW4] at y4
      obtain ⟨t', ok', S', p1, p2, CD5⟩ := unhide CDA W4 S e4.q
      have CD6 := hide CD5
      have HP := hide (And.intro p1 p2)
      have H4 := hide (And.intro e4 (And.intro kt4 (And.intro hg3 hv4)))
      have HA := hide hR.all
      have HW4 := hide hW4
      obtain ⟨x1, x2, x3, x4, x5⟩ := t'
      simp only [tv] at CD6
      clear HBX HRW HSZ HR o2 g2 hR eA ktA kB2 kC2 e3 hW4 e4 kt4 hv4 p1 p2 CD5 cr c0 c1 c2 c3 c4 nv HLA hL2
      go_wp2_with (go_at_call 123; refine Hid.out ?_)
      refine hide ?_
      rw [← unhide HW4]
      refine (unhide CD6).mono ?_
      rintro e w5 ⟨rfl, q5, f5⟩
      obtain ⟨e4, kt4, hg3, hv4⟩ := unhide H4
      have e5 := e4.took q5 f5
      have kt5 := kt4.ft f5 (fun hk => by have := e4.nf _ hk; omega)
      have s0 := blkAt kt5 0 (.int .i64 i1) rfl
      have s1 := blkAt kt5 1 (.int .i64 i2) rfl
      have s2 := blkAt kt5 2 (.int .i64 i3) rfl
      have s3 := blkAt kt5 3 (.int .i64 i4) rfl
      have s4 := blkAt kt5 4 (.bool i5) rfl
      have sf := kt5.free
      have H5 := hide (And.intro e5 (And.intro kt5 (And.intro hg3 hv4)))
      clear e4 kt4 hg3 hv4 e5 kt5 q5 f5 H4 CD6 HW4
      go_wp2_with fail
      obtain ⟨e5, kt5, hg3, hv4⟩ := unhide H5
      have e6 := e5.box (ftg_set5 w5 g' (.int .i64 x1) (.int .i64 x2) (.int .i64 x3) (.int .i64 x4) (.bool x5)) hg3 hv4
      have kt6 := blk_set5 kt5 (.int .i64 x1) (.int .i64 x2) (.int .i64 x3) (.int .i64 x4) (.bool x5)
      have hr6 := rl_at e6.k2
      obtain ⟨hl, hdt⟩ := unhide HL
      obtain ⟨p1, p2⟩ := unhide HP
      have hrw := unhide HRL
      have H6 := hide (show ER w0 _ o m C f0 f1 f2 lz now l L (A ++ [⟨i1, i2, i3, i4, i5⟩]) S' g' ⟨x1, x2, x3, x4, x5⟩ ok' _ from
        ⟨e6, kt6, hv4, hg3, (fun e => by obtain ⟨h1, h2⟩ := p1 e; exact ⟨by rw [hl, h1]; simp, h2⟩), (fun e => by obtain ⟨h1, h2⟩ := p2 e; exact ⟨by rw [hl, h1]; simp, fun y S2 h3 => h2 y S2 (h1.trans h3)⟩), (fun y hy => by
          rcases List.mem_append.1 hy with hy | hy
          · exact unhide HA y hy
          · rw [List.mem_singleton] at hy; rw [hy]; exact hdt)⟩)
      clear e5 kt5 hv4 e6 kt6 hl hdt p1 p2 H5 HL HP HRL HA
      go_roundw
      case rel => exact ⟨_, _, g', _, ok', _, rfl, rfl, H6⟩
      case measure => rw [hr6, hrw]; omega
end
end Go.Proofs.YtjjdkkdnlnbedaaGreat


/- A base's Expire: the whole call. -/
namespace Go.Proofs.YtjjdkkdnlnbedaaGreat
open Go.RowKit Kt Qu
set_option linter.unusedVariables false

/-- The rows when those ahead of row i have been asked. -/
def expR (R : Rows6) (f : Nat → Int) (lz : Bool) (i : Nat) : Rows6 := fun j => if j < i ∧ decide (j % 2 = 1) = lz then dueS (f (j / 2)) (R j) else R j
/-- What came of them. -/
def expL (R : Rows6) (f : Nat → Int) (lz : Bool) : Nat → List Tmr
  | 0 => []
  | i + 1 => expL R f lz i ++ (if decide (i % 2 = 1) = lz then dueP (f (i / 2)) (R i) else [])
theorem expL_len (R : Rows6) (f : Nat → Int) (lz : Bool) : ∀ i, (expL R f lz i).length ≤ (upT R i).length
  | 0 => Nat.le_refl _
  | i + 1 => by
    have h := expL_len R f lz i
    show (expL R f lz i ++ _).length ≤ (upT R i ++ R i).length
    rw [List.length_append, List.length_append]
    have : (if decide (i % 2 = 1) = lz then dueP (f (i / 2)) (R i) else []).length ≤ (R i).length := by
      split
      · exact (List.takeWhile_sublist _).length_le
      · exact Nat.zero_le _
    omega
theorem dueS_sub (now : Int) (l : List Tmr) : (dueS now l).Sublist l := List.dropWhile_sublist _
theorem rok_exp {R : Rows6} (h : Rok R) (f : Nat → Int) (lz : Bool) (i : Nat) : Rok (expR R f lz i) := h.sub fun j hj => by
  unfold expR
  split
  · exact dueS_sub _ _
  · exact List.Sublist.refl _
theorem expR_other {R : Rows6} {f : Nat → Int} {lz : Bool} {i : Nat} (h : ¬ decide (i % 2 = 1) = lz) : expR R f lz (i + 1) = expR R f lz i := by
  funext j
  unfold expR
  by_cases e : j = i
  · subst e; rw [if_neg (fun q => h q.2), if_neg (fun q => h q.2)]
  · by_cases q : j < i ∧ decide (j % 2 = 1) = lz
    · rw [if_pos q, if_pos ⟨by omega, q.2⟩]
    · rw [if_neg q, if_neg (fun x => q ⟨by omega, x.2⟩)]
theorem expR_at {R : Rows6} {f : Nat → Int} {lz : Bool} {i j : Nat} (h : i ≤ j) : expR R f lz i j = R j := if_neg (by omega)
theorem expR_succ {R : Rows6} {f : Nat → Int} {lz : Bool} {i : Nat} (h : decide (i % 2 = 1) = lz) (j : Nat) : expR R f lz (i + 1) j = if j = i then dueS (f (i / 2)) (R i) else expR R f lz i j := by
  unfold expR
  by_cases e : j = i
  · subst e; rw [if_pos rfl, if_pos ⟨by omega, h⟩]
  · rw [if_neg e]
    by_cases q : j < i ∧ decide (j % 2 = 1) = lz
    · rw [if_pos q, if_pos ⟨by omega, q.2⟩]
    · rw [if_neg q, if_neg (fun x => q ⟨by omega, x.2⟩)]
section
variable {w w' : World} {b n : Nat} {P : Nat → Option Qa} {R : Rows6}
/-- What a call of Expire has at hand ahead of row i. -/
structure XJ (w : World) (b n : Nat) (P : Nat → Option Qa) (R : Rows6) (f0 f1 f2 : Int) (lz : Bool) (C i : Nat) (w' : World) : Prop where
  bs : Bs w' b n P (expR R (tri f0 f1 f2) lz i)
  ft : Ft (bfoot b P) w w'
  k0 : Blk w' C 75 #[.int .i64 f0, .int .i64 f1, .int .i64 f2]
  k1 : Blk w' (C + 1) 4 #[.bool lz]
  k2 : ∃ v, Blk w' (C + 2) 28 #[v] ∧ Rg rtm w' (C + 3) v (expL R (tri f0 f1 f2) lz i)
set_option maxRecDepth 20000 in
set_option maxHeartbeats 1000000 in
theorem bexp (h : Bs w b n P R) (f0 f1 f2 : Int) (lz : Bool) : Calls Tryz.prog 100 #[.pointer (some ⟨b, 0, none⟩), .agg #[.int .i64 f0, .int .i64 f1, .int .i64 f2], .bool lz] w fun e w' => ∃ v, e = .returned v ∧ Rg rtm w' w.heap.size v (expL R (tri f0 f1 f2) lz 6) ∧ Bs w' b n P (expR R (tri f0 f1 f2) lz 6) ∧ Ft (bfoot b P) w w' := by
  obtain ⟨C, hC⟩ : ∃ C, w.heap.size = C := ⟨_, rfl⟩
  obtain ⟨W1, hW1⟩ : ∃ W1, W1 = w.alloc (.cells #[.int .i64 f0, .int .i64 f1, .int .i64 f2] 75) := ⟨_, rfl⟩
  obtain ⟨W2, hW2⟩ : ∃ W2, W2 = W1.alloc (.cells #[.bool lz] 4) := ⟨_, rfl⟩
  obtain ⟨W3, hW3⟩ : ∃ W3, W3 = W2.alloc (.cells #[.slice none 0 0] 28) := ⟨_, rfl⟩
  have s1 : W1.heap.size = C + 1 := by rw [hW1, ← hC]; simp
  have s2 : W2.heap.size = C + 2 := by rw [hW2]; simp [s1]
  have b1 : Below C w W1 := by rw [hW1, ← hC]; exact one_below _ _
  have b2 : Below W1.heap.size W1 W2 := by rw [hW2]; exact one_below _ _
  have b3 : Below W2.heap.size W2 W3 := by rw [hW3]; exact one_below _ _
  have k1 : Blk W1 C 75 #[.int .i64 f0, .int .i64 f1, .int .i64 f2] := by rw [hW1]; exact Blk.new_at _ _ _ hC.symm
  have k2 : Blk W2 (C + 1) 4 #[.bool lz] := by rw [hW2]; exact Blk.new_at _ _ _ s1.symm
  have k3 : Blk W3 (C + 2) 28 #[.slice none 0 0] := by rw [hW3]; exact Blk.new_at _ _ _ s2.symm
  have k1' := k1.below b2 k1.lt
  have bb : Below C w W3 := (b1.trans (b2.mono (by omega))).trans (b3.mono (by omega))
  have e0 : expR R (tri f0 f1 f2) lz 0 = R := by funext j; exact if_neg (by omega)
  have j0 : XJ w b n P R f0 f1 f2 lz C 0 W3 := ⟨by rw [e0]; exact h.below (hC ▸ bb), Ft.of_below _ (hC ▸ bb), k1'.below b3 k1'.lt, k2.below b3 k2.lt, _, k3, Rg.nil _ _⟩
  have hlts := h.lts
  rw [hC] at hlts
  have CE := hide (each_any b (pv (P 0)) (pv (P 1)) (pv (P 2)) (pv (P 3)) (pv (P 4)) (pv (P 5)) 122 #[.pointer (some ⟨C + 1, 0, none⟩), .pointer (some ⟨C, 0, none⟩), .pointer (some ⟨C + 2, 0, none⟩)]
    (XJ w b n P R f0 f1 f2 lz C) W3 (fun _ _ => by kernel_rfl)
    (fun i w' j => j.bs.blk)
    (fun i w' k l c hi j hk hl hc => by
      obtain ⟨v, kv, row⟩ := j.k2
      rw [bcs_at P hi hc, hk, hl]
      by_cases hz : decide (i % 2 = 1) = lz
      · rw [hz]
        have hq := j.bs.q i hi
        rw [expR_at (Nat.le_refl i)] at hq
        have hnf : ∀ k, fo (P i) k → k < C := fun k hk => hlts k (.inr ⟨i, hi, hk⟩)
        have hll := expL_len R (tri f0 f1 f2) lz i
        have hlb := h.lenF_bd i (by omega)
        unfold lenF at hlb
        refine (expclo (P i) n (R i) (expL R (tri f0 f1 f2) lz i) w' w' C f0 f1 f2 lz (i / 2) (tri f0 f1 f2 (i / 2)) v (tri_at f0 f1 f2 (by omega))
          ⟨hq, j.k0, j.k1, kv, by rw [List.append_nil]; exact row, Ft.refl _ _, hnf⟩ (by omega)).mono ?_
        rintro e w2 ⟨rfl, v2, x⟩
        refine ⟨rfl, ⟨j.bs.blk.ft x.ft ?_, fun y hy => ?_, h.ap, h.own, rok_exp h.ok _ _ _, h.nb⟩, j.ft.next x.ft ?_, x.k0, x.k1, v2, x.k2, ?_⟩
        · rintro (q | q)
          · exact h.own i hi q
          · have := hlts b (.inl rfl); omega
        · rw [expR_succ hz]
          by_cases e : y = i
          · subst e; rw [if_pos rfl]; exact x.q
          · rw [if_neg e]
            refine (j.bs.q y hy).ft x.ft ?_
            rintro k hk (q | q)
            · exact h.ap y i k hy hi e hk q
            · have := hlts k (.inr ⟨y, hy, hk⟩); omega
        · rintro k (q | q)
          · exact .inl (.inr ⟨i, hi, q⟩)
          · exact .inr (by omega)
        · have := x.row
          show Rg rtm w2 (C + 3) v2 (expL R (tri f0 f1 f2) lz i ++ (if _ then _ else _))
          rw [if_pos hz]
          exact this
      · refine (expc_other (C + 1) (.bool lz) (.bool lz) (.bool lz) w' _ lz hz _ _ _ _ j.k1).mono ?_
        rintro e w2 ⟨rfl, rfl⟩
        refine ⟨rfl, by rw [expR_other hz]; exact j.bs, j.ft, j.k0, j.k1, v, kv, ?_⟩
        show Rg rtm w2 (C + 3) v (expL R (tri f0 f1 f2) lz i ++ (if _ then _ else _))
        rw [if_neg hz, List.append_nil]
        exact row)
    j0)
  rw [hW2, hW1] at hW3
  have HW := hide hW3
  clear hW1 hW2 hW3 b1 b2 b3 k1 k2 k3 k1' h s1 s2 bb e0 j0
  rw [hC]
  go_enter Tryz.func100, Tryz.ntmps100
  go_wp2_with (go_at_call 62; refine Hid.out ?_)
  refine hide ?_
  rw [← unhide HW]
  refine (unhide CE).mono ?_
  rintro e w3 ⟨rfl, j6⟩
  obtain ⟨v, kv, row⟩ := j6.k2
  have c1 := blkAt kv 0 v rfl
  obtain ⟨ra, rcap, hf, -⟩ := row.form
  subst hf
  have HL := hide (And.intro j6 row)
  clear kv j6 row CE HW
  go_wp2
  go_ret
  exact ⟨_, rfl, (unhide HL).2.mono (by omega), (unhide HL).1.bs, (unhide HL).1.ft⟩
end
end Go.Proofs.YtjjdkkdnlnbedaaGreat

