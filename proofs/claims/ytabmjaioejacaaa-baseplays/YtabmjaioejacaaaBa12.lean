/- A base's Expire: the whole call. -/
import Derived.Test.YtabmjaioejacaaaBa11
import Derived.Test.YtabmjaioejacaaaBa7
namespace Go.Proofs.Ytabmjaioejacaaa
open Go.RowKit Kt Qu
set_option linter.unusedVariables false

/-- The rows when those ahead of row i have been asked. -/
def expR (R : Rows6) (f : Nat → Int) (lz : Bool) (i : Nat) : Rows6 := fun j => if j < i ∧ decide (j % 2 = 1) = lz then dueS (f (j / 2)) (R j) else R j
/-- What came of them. -/
def expL (R : Rows6) (f : Nat → Int) (lz : Bool) : Nat → List Tmr
  | 0 => []
  | i + 1 => expL R f lz i ++ (if decide (i % 2 = 1) = lz then dueP (f (i / 2)) (R i) else [])
theorem expL_len (R : Rows6) (f : Nat → Int) (lz : Bool) : ∀ i, (expL R f lz i).length ≤ (upT R i).length
  | 0 => Nat.le_refl _
  | i + 1 => by
    have h := expL_len R f lz i
    show (expL R f lz i ++ _).length ≤ (upT R i ++ R i).length
    rw [List.length_append, List.length_append]
    have : (if decide (i % 2 = 1) = lz then dueP (f (i / 2)) (R i) else []).length ≤ (R i).length := by
      split
      · exact (List.takeWhile_sublist _).length_le
      · exact Nat.zero_le _
    omega
theorem dueS_sub (now : Int) (l : List Tmr) : (dueS now l).Sublist l := List.dropWhile_sublist _
theorem rok_exp {R : Rows6} (h : Rok R) (f : Nat → Int) (lz : Bool) (i : Nat) : Rok (expR R f lz i) := h.sub fun j hj => by
  unfold expR
  split
  · exact dueS_sub _ _
  · exact List.Sublist.refl _
theorem expR_other {R : Rows6} {f : Nat → Int} {lz : Bool} {i : Nat} (h : ¬ decide (i % 2 = 1) = lz) : expR R f lz (i + 1) = expR R f lz i := by
  funext j
  unfold expR
  by_cases e : j = i
  · subst e; rw [if_neg (fun q => h q.2), if_neg (fun q => h q.2)]
  · by_cases q : j < i ∧ decide (j % 2 = 1) = lz
    · rw [if_pos q, if_pos ⟨by omega, q.2⟩]
    · rw [if_neg q, if_neg (fun x => q ⟨by omega, x.2⟩)]
theorem expR_at {R : Rows6} {f : Nat → Int} {lz : Bool} {i j : Nat} (h : i ≤ j) : expR R f lz i j = R j := if_neg (by omega)
theorem expR_succ {R : Rows6} {f : Nat → Int} {lz : Bool} {i : Nat} (h : decide (i % 2 = 1) = lz) (j : Nat) : expR R f lz (i + 1) j = if j = i then dueS (f (i / 2)) (R i) else expR R f lz i j := by
  unfold expR
  by_cases e : j = i
  · subst e; rw [if_pos rfl, if_pos ⟨by omega, h⟩]
  · rw [if_neg e]
    by_cases q : j < i ∧ decide (j % 2 = 1) = lz
    · rw [if_pos q, if_pos ⟨by omega, q.2⟩]
    · rw [if_neg q, if_neg (fun x => q ⟨by omega, x.2⟩)]
section
variable {w w' : World} {b n : Nat} {P : Nat → Option Qa} {R : Rows6}
/-- What a call of Expire has at hand ahead of row i. -/
structure XJ (w : World) (b n : Nat) (P : Nat → Option Qa) (R : Rows6) (f0 f1 f2 : Int) (lz : Bool) (C i : Nat) (w' : World) : Prop where
  bs : Bs w' b n P (expR R (tri f0 f1 f2) lz i)
  ft : Ft (bfoot b P) w w'
  k0 : Blk w' C 23 #[.int .i64 f0, .int .i64 f1, .int .i64 f2]
  k1 : Blk w' (C + 1) 4 #[.bool lz]
  k2 : ∃ v, Blk w' (C + 2) 27 #[v] ∧ Rg rtm w' (C + 3) v (expL R (tri f0 f1 f2) lz i)
set_option maxRecDepth 20000 in
set_option maxHeartbeats 1000000 in
theorem bexp (h : Bs w b n P R) (f0 f1 f2 : Int) (lz : Bool) : Calls Try.prog 12 #[.pointer (some ⟨b, 0, none⟩), .agg #[.int .i64 f0, .int .i64 f1, .int .i64 f2], .bool lz] w fun e w' => ∃ v, e = .returned v ∧ Rg rtm w' w.heap.size v (expL R (tri f0 f1 f2) lz 6) ∧ Bs w' b n P (expR R (tri f0 f1 f2) lz 6) ∧ Ft (bfoot b P) w w' := by
  obtain ⟨C, hC⟩ : ∃ C, w.heap.size = C := ⟨_, rfl⟩
  obtain ⟨W1, hW1⟩ : ∃ W1, W1 = w.alloc (.cells #[.int .i64 f0, .int .i64 f1, .int .i64 f2] 23) := ⟨_, rfl⟩
  obtain ⟨W2, hW2⟩ : ∃ W2, W2 = W1.alloc (.cells #[.bool lz] 4) := ⟨_, rfl⟩
  obtain ⟨W3, hW3⟩ : ∃ W3, W3 = W2.alloc (.cells #[.slice none 0 0] 27) := ⟨_, rfl⟩
  have s1 : W1.heap.size = C + 1 := by rw [hW1, ← hC]; simp
  have s2 : W2.heap.size = C + 2 := by rw [hW2]; simp [s1]
  have b1 : Below C w W1 := by rw [hW1, ← hC]; exact one_below _ _
  have b2 : Below W1.heap.size W1 W2 := by rw [hW2]; exact one_below _ _
  have b3 : Below W2.heap.size W2 W3 := by rw [hW3]; exact one_below _ _
  have k1 : Blk W1 C 23 #[.int .i64 f0, .int .i64 f1, .int .i64 f2] := by rw [hW1]; exact Blk.new_at _ _ _ hC.symm
  have k2 : Blk W2 (C + 1) 4 #[.bool lz] := by rw [hW2]; exact Blk.new_at _ _ _ s1.symm
  have k3 : Blk W3 (C + 2) 27 #[.slice none 0 0] := by rw [hW3]; exact Blk.new_at _ _ _ s2.symm
  have k1' := k1.below b2 k1.lt
  have bb : Below C w W3 := (b1.trans (b2.mono (by omega))).trans (b3.mono (by omega))
  have e0 : expR R (tri f0 f1 f2) lz 0 = R := by funext j; exact if_neg (by omega)
  have j0 : XJ w b n P R f0 f1 f2 lz C 0 W3 := ⟨by rw [e0]; exact h.below (hC ▸ bb), Ft.of_below _ (hC ▸ bb), k1'.below b3 k1'.lt, k2.below b3 k2.lt, _, k3, Rg.nil _ _⟩
  have hlts := h.lts
  rw [hC] at hlts
  have CE := hide (each_any b (pv (P 0)) (pv (P 1)) (pv (P 2)) (pv (P 3)) (pv (P 4)) (pv (P 5)) 28 #[.pointer (some ⟨C + 1, 0, none⟩), .pointer (some ⟨C, 0, none⟩), .pointer (some ⟨C + 2, 0, none⟩)]
    (XJ w b n P R f0 f1 f2 lz C) W3 (fun _ _ => rfl)
    (fun i w' j => j.bs.blk)
    (fun i w' k l c hi j hk hl hc => by
      obtain ⟨v, kv, row⟩ := j.k2
      rw [bcs_at P hi hc, hk, hl]
      by_cases hz : decide (i % 2 = 1) = lz
      · rw [hz]
        have hq := j.bs.q i hi
        rw [expR_at (Nat.le_refl i)] at hq
        have hnf : ∀ k, fo (P i) k → k < C := fun k hk => hlts k (.inr ⟨i, hi, hk⟩)
        have hll := expL_len R (tri f0 f1 f2) lz i
        have hlb := h.lenF_bd i (by omega)
        unfold lenF at hlb
        refine (expclo (P i) n (R i) (expL R (tri f0 f1 f2) lz i) w' w' C f0 f1 f2 lz (i / 2) (tri f0 f1 f2 (i / 2)) v (tri_at f0 f1 f2 (by omega))
          ⟨hq, j.k0, j.k1, kv, by rw [List.append_nil]; exact row, Ft.refl _ _, hnf⟩ (by omega)).mono ?_
        rintro e w2 ⟨rfl, v2, x⟩
        refine ⟨rfl, ⟨j.bs.blk.ft x.ft ?_, fun y hy => ?_, h.ap, h.own, rok_exp h.ok _ _ _, h.nb⟩, j.ft.next x.ft ?_, x.k0, x.k1, v2, x.k2, ?_⟩
        · rintro (q | q)
          · exact h.own i hi q
          · have := hlts b (.inl rfl); omega
        · rw [expR_succ hz]
          by_cases e : y = i
          · subst e; rw [if_pos rfl]; exact x.q
          · rw [if_neg e]
            refine (j.bs.q y hy).ft x.ft ?_
            rintro k hk (q | q)
            · exact h.ap y i k hy hi e hk q
            · have := hlts k (.inr ⟨y, hy, hk⟩); omega
        · rintro k (q | q)
          · exact .inl (.inr ⟨i, hi, q⟩)
          · exact .inr (by omega)
        · have := x.row
          show Rg rtm w2 (C + 3) v2 (expL R (tri f0 f1 f2) lz i ++ (if _ then _ else _))
          rw [if_pos hz]
          exact this
      · refine (expc_other (C + 1) (.bool lz) (.bool lz) (.bool lz) w' _ lz hz _ _ _ _ j.k1).mono ?_
        rintro e w2 ⟨rfl, rfl⟩
        refine ⟨rfl, by rw [expR_other hz]; exact j.bs, j.ft, j.k0, j.k1, v, kv, ?_⟩
        show Rg rtm w2 (C + 3) v (expL R (tri f0 f1 f2) lz i ++ (if _ then _ else _))
        rw [if_neg hz, List.append_nil]
        exact row)
    j0)
  rw [hW2, hW1] at hW3
  have HW := hide hW3
  clear hW1 hW2 hW3 b1 b2 b3 k1 k2 k3 k1' h s1 s2 bb e0 j0
  rw [hC]
  go_enter Try.func12, Try.ntmps12
  go_wp2_with (go_at_call 21; refine Hid.out ?_)
  refine hide ?_
  rw [← unhide HW]
  refine (unhide CE).mono ?_
  rintro e w3 ⟨rfl, j6⟩
  obtain ⟨v, kv, row⟩ := j6.k2
  have c1 := blkAt kv 0 v rfl
  obtain ⟨ra, rcap, hf, -⟩ := row.form
  subst hf
  have HL := hide (And.intro j6 row)
  clear kv j6 row CE HW
  go_wp2
  go_ret
  exact ⟨_, rfl, (unhide HL).2.mono (by omega), (unhide HL).1.bs, (unhide HL).1.ft⟩
end
end Go.Proofs.Ytabmjaioejacaaa
