/- A base's Has and Len. -/
import Derived.Test.YtabmjaioejacaaaBa2
namespace Go.Proofs.Ytabmjaioejacaaa
open Go.RowKit Kt Qu
set_option linter.unusedVariables false

section
variable {w w' : World} {b n : Nat} {P : Nat → Option Qa} {R : Rows6}
/-- Whether an ID is in the rows ahead of one. -/
def hasF (R : Rows6) (id : Int) (i : Nat) : Bool := decide (id ∈ idsT (upT R i))
theorem hasF_succ (R : Rows6) (id : Int) (i : Nat) : hasF R id (i + 1) = (hasF R id i || decide (id ∈ idsT (R i))) := by
  unfold hasF
  show decide (id ∈ idsT (upT R i ++ R i)) = _
  rw [idsT_app, ← Bool.decide_or]
  exact decide_eq_decide.2 List.mem_append
set_option maxRecDepth 20000 in
set_option maxHeartbeats 1000000 in
theorem hasclo (o : Option Qa) (m : Nat) (l : List Tmr) (w0 w : World) (C B0 B1 : Nat) (hq : Qo w o m l) (id : Int) (hid : isI id) (d : Bool) (x y : Value) (k0 : Blk w B0 3 #[.int .i64 id]) (k1 : Blk w B1 4 #[.bool d]) (hlow : Below C w0 w) (hC : C ≤ B1) (h01 : B0 ≠ B1) :
    Calls Try.prog 34 #[x, y, pv o, .pointer (some ⟨B1, 0, none⟩), .pointer (some ⟨B0, 0, none⟩)] w fun e w' => e = .returned (.tuple #[]) ∧ Below C w0 w' ∧ Blk w' B0 3 #[.int .i64 id] ∧ Blk w' B1 4 #[.bool (d || decide (id ∈ idsT l))] := by
  have CH := hide (ohas hq id hid)
  have c0 := blkAt k0 0 (.int .i64 id) rfl
  have c1 := blkAt k1 0 (.bool d) rfl
  have f1 := k1.free 0
  have g2 := hkHeld k1 0 (.bool d) rfl
  have H := hide (And.intro k0 (And.intro k1 hlow))
  obtain ⟨V, hV⟩ : ∃ V, pv o = V := ⟨_, rfl⟩
  rw [hV] at CH ⊢
  obtain ⟨r, hr⟩ : ∃ r, decide (id ∈ idsT l) = r := ⟨_, rfl⟩
  rw [hr] at CH ⊢
  have hlt : C ≤ w.heap.size := by have := k1.lt; omega
  clear hq hV hr k0 k1 hlow hid
  have g1 := hkFree (unhide H).2.1 0
  cases d
  · go_enter Try.func34, Try.ntmps34
    go_wp2_with (go_at_call 35; refine (unhide CH).mono ?_; rintro e w1 ⟨rfl, hb1⟩; have f2 := g1 _ hb1; have f3 := g2 _ hb1)
    go_end0
    obtain ⟨k0, k1, hlow⟩ := unhide H
    have k1' := k1.below hb1 k1.lt
    exact ⟨rfl, (hlow.trans (hb1.mono hlt)).setCell hC _, (k0.below hb1 k0.lt).other (fun e => h01 e.symm) 0 _, by simpa using k1'.put 0 _⟩
  · go_enter Try.func34, Try.ntmps34
    go_wp2
    go_end0
    obtain ⟨k0, k1, hlow⟩ := unhide H
    exact ⟨rfl, hlow.setCell hC _, k0.other (fun e => h01 e.symm) 0 _, by simpa using k1.put 0 _⟩
set_option maxRecDepth 20000 in
set_option maxHeartbeats 1000000 in
theorem bhas (h : Bs w b n P R) (id : Int) (hid : isI id) : Calls Try.prog 15 #[.pointer (some ⟨b, 0, none⟩), .int .i64 id] w fun e w' => e = .returned (.bool (decide (id ∈ idsT (allT R)))) ∧ Below w.heap.size w w' := by
  obtain ⟨C, hC⟩ : ∃ C, w.heap.size = C := ⟨_, rfl⟩
  obtain ⟨W1, hW1⟩ : ∃ W1, W1 = w.alloc (.cells #[.int .i64 id] 3) := ⟨_, rfl⟩
  obtain ⟨W2, hW2⟩ : ∃ W2, W2 = W1.alloc (.cells #[.bool false] 4) := ⟨_, rfl⟩
  have b1 : Below C w W1 := by rw [hW1, ← hC]; exact one_below _ _
  have s1 : W1.heap.size = C + 1 := by rw [hW1, ← hC]; simp
  have b2 : Below W1.heap.size W1 W2 := by rw [hW2]; exact one_below _ _
  have k1 : Blk W1 C 3 #[.int .i64 id] := by rw [hW1]; exact Blk.new_at _ _ _ hC.symm
  have k2 : Blk W2 (C + 1) 4 #[.bool false] := by rw [hW2]; exact Blk.new_at _ _ _ s1.symm
  have CE := hide (each_any b (pv (P 0)) (pv (P 1)) (pv (P 2)) (pv (P 3)) (pv (P 4)) (pv (P 5)) 34 #[.pointer (some ⟨C + 1, 0, none⟩), .pointer (some ⟨C, 0, none⟩)]
    (fun i w' => Below C w w' ∧ Blk w' C 3 #[.int .i64 id] ∧ Blk w' (C + 1) 4 #[.bool (hasF R id i)]) W2 (fun _ _ => rfl)
    (fun i w' hJ => (h.below (hC ▸ hJ.1)).blk)
    (fun i w' k l c hi hJ hk hl hc => by
      rw [bcs_at P hi hc, hasF_succ]
      exact hasclo _ _ _ w w' C C (C + 1) ((h.below (hC ▸ hJ.1)).q i hi) id hid _ _ _ hJ.2.1 hJ.2.2 hJ.1 (by omega) (by omega))
    ⟨b1.trans (b2.mono (by omega)), k1.below b2 k1.lt, k2⟩)
  have HR : Hid (hasF R id 6 = decide (id ∈ idsT (allT R))) := hide rfl
  rw [← unhide HR]
  generalize hasF R id 6 = r at *
  have HW := hide hW2
  rw [hW1] at HW
  clear hW1 hW2 b1 b2 k1 k2 h s1
  rw [hC]
  go_enter Try.func15, Try.ntmps15
  go_wp2_with (go_at_call 21; refine Hid.out ?_)
  refine hide ?_
  rw [← unhide HW]
  refine (unhide CE).mono ?_
  rintro e w3 ⟨rfl, hl, -, k1⟩
  have c1 := blkAt k1 0 (.bool r) rfl
  have HL := hide hl
  clear hl k1 CE HW
  go_wp2
  go_ret
  exact ⟨rfl, unhide HL⟩
theorem has_nil (w : World) (id : Int) : Calls Try.prog 15 #[.pointer none, .int .i64 id] w fun e w' => e = .returned (.bool false) ∧ Below w.heap.size w w' := by
  obtain ⟨C, hC⟩ : ∃ C, w.heap.size = C := ⟨_, rfl⟩
  obtain ⟨W1, hW1⟩ : ∃ W1, W1 = w.alloc (.cells #[.int .i64 id] 3) := ⟨_, rfl⟩
  obtain ⟨W2, hW2⟩ : ∃ W2, W2 = W1.alloc (.cells #[.bool false] 4) := ⟨_, rfl⟩
  have b1 : Below C w W1 := by rw [hW1, ← hC]; exact one_below _ _
  have s1 : W1.heap.size = C + 1 := by rw [hW1, ← hC]; simp
  have b2 : Below W1.heap.size W1 W2 := by rw [hW2]; exact one_below _ _
  have k2 : Blk W2 (C + 1) 4 #[.bool false] := by rw [hW2]; exact Blk.new_at _ _ _ s1.symm
  have HL := hide (b1.trans (b2.mono (by omega)))
  have c1 := blkAt k2 0 (.bool false) rfl
  rw [hW2, hW1] at c1 HL
  clear hW1 hW2 b1 b2 k2 s1
  rw [hC]
  go_enter Try.func15, Try.ntmps15
  go_wp2_with (go_at_call 21; refine (each_nil _ _).mono ?_; rintro e w3 ⟨rfl, rfl⟩)
  go_ret
  exact ⟨rfl, unhide HL⟩
def lenF (R : Rows6) (i : Nat) : Int := ((upT R i).length : Int)
theorem lenF_succ (R : Rows6) (i : Nat) : lenF R (i + 1) = lenF R i + ((R i).length : Int) := by
  unfold lenF
  show ((upT R i ++ R i).length : Int) = _
  rw [List.length_append]
  omega
theorem Bs.lenF_bd (h : Bs w b n P R) : ∀ i, i ≤ 6 → 0 ≤ lenF R i ∧ lenF R i ≤ 64 * i := by
  intro i
  induction i with
  | zero => intro _; exact ⟨Int.le_refl _, Int.le_refl _⟩
  | succ i ih =>
    intro hi
    have h1 := ih (by omega)
    have h2 := (h.q i (by omega)).len
    rw [lenF_succ]
    omega
set_option maxRecDepth 20000 in
set_option maxHeartbeats 1000000 in
theorem lenclo (o : Option Qa) (m : Nat) (l : List Tmr) (w0 w : World) (C B : Nat) (hq : Qo w o m l) (d e : Int) (hd : 0 ≤ d ∧ d ≤ 1000) (he : e = d + (l.length : Int)) (x y : Value) (k0 : Blk w B 3 #[.int .i64 d]) (hlow : Below C w0 w) (hC : C ≤ B) :
    Calls Try.prog 32 #[x, y, pv o, .pointer (some ⟨B, 0, none⟩)] w fun e' w' => e' = .returned (.tuple #[]) ∧ Below C w0 w' ∧ Blk w' B 3 #[.int .i64 e] := by
  have hl := hq.len
  have CH := fun m => hide (olen (hq.ft ((Ft.refl (fun _ => False) w).drewN m) (fun _ _ => id)))
  have c0 := blkAt k0 0 (.int .i64 d) rfl
  have f1 := k0.free 0
  have H := hide (And.intro k0 hlow)
  obtain ⟨V, hV⟩ : ∃ V, pv o = V := ⟨_, rfl⟩
  rw [hV] at CH ⊢
  obtain ⟨N, hN⟩ : ∃ N : Nat, l.length = N := ⟨_, rfl⟩
  rw [hN] at CH hl he
  have hw : IntKind.i64.wrap (d + (N : Int)) = e := by rw [IntKind.wrap_i64]; omega
  clear hq hV k0 hlow hN he
  go_enter Try.func32, Try.ntmps32
  go_wp2
  go_region_with (go_at_call 33; refine (unhide (CH _)).mono ?_; rintro e w1 ⟨rfl, rfl⟩)
  all_goals
    go_wp2
    go_end0
    obtain ⟨k0, hlow⟩ := unhide H
    have k0' : Blk (w.drewN 1) B 3 #[.int .i64 d] := k0
    exact ⟨rfl, (show Below C w0 (w.drewN 1) from below_drew hlow).setCell hC _, by simpa using k0'.put 0 (.int .i64 e)⟩
set_option maxRecDepth 20000 in
set_option maxHeartbeats 1000000 in
theorem blen (h : Bs w b n P R) : Calls Try.prog 14 #[.pointer (some ⟨b, 0, none⟩)] w fun e w' => e = .returned (.int .i64 ((allT R).length : Int)) ∧ Below w.heap.size w w' := by
  obtain ⟨C, hC⟩ : ∃ C, w.heap.size = C := ⟨_, rfl⟩
  obtain ⟨W1, hW1⟩ : ∃ W1, W1 = w.alloc (.cells #[.int .i64 0] 3) := ⟨_, rfl⟩
  have b1 : Below C w W1 := by rw [hW1, ← hC]; exact one_below _ _
  have k1 : Blk W1 C 3 #[.int .i64 0] := by rw [hW1]; exact Blk.new_at _ _ _ hC.symm
  have CE := hide (each_any b (pv (P 0)) (pv (P 1)) (pv (P 2)) (pv (P 3)) (pv (P 4)) (pv (P 5)) 32 #[.pointer (some ⟨C, 0, none⟩)]
    (fun i w' => Below C w w' ∧ Blk w' C 3 #[.int .i64 (lenF R i)]) W1 (fun _ _ => rfl)
    (fun i w' hJ => (h.below (hC ▸ hJ.1)).blk)
    (fun i w' k l c hi hJ hk hl hc => by
      have hbd := h.lenF_bd i (by omega)
      rw [bcs_at P hi hc]
      exact lenclo _ _ _ w w' C C ((h.below (hC ▸ hJ.1)).q i hi) _ _ ⟨hbd.1, by omega⟩ (lenF_succ R i) _ _ hJ.2 hJ.1 (by omega))
    ⟨b1, k1⟩)
  have HR : Hid (lenF R 6 = ((allT R).length : Int)) := hide rfl
  rw [← unhide HR]
  generalize lenF R 6 = r at *
  have HW := hide hW1
  clear hW1 b1 k1 h
  rw [hC]
  go_enter Try.func14, Try.ntmps14
  go_wp2_with (go_at_call 21; refine Hid.out ?_)
  refine hide ?_
  rw [← unhide HW]
  refine (unhide CE).mono ?_
  rintro e w3 ⟨rfl, hl, k1⟩
  have c1 := blkAt k1 0 (.int .i64 r) rfl
  have HL := hide hl
  clear hl k1 CE HW
  go_wp2
  go_ret
  exact ⟨rfl, unhide HL⟩
end
end Go.Proofs.Ytabmjaioejacaaa
