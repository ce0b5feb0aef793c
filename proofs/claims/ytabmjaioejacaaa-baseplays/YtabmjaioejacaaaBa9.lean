/- A base's Start: the whole call. -/
import Derived.Test.YtabmjaioejacaaaBa8
namespace Go.Proofs.Ytabmjaioejacaaa
open Go.RowKit Kt Qu
set_option linter.unusedVariables false

theorem Ft.next {F G : Nat → Prop} {a b c : World} (h : Ft F a b) (k : Ft G b c) (hG : ∀ x, G x → F x ∨ a.heap.size ≤ x) : Ft F a c :=
  ⟨k.os.trans h.os, k.tape.trans h.tape, k.output.trans h.output, Nat.le_trans h.size k.size, fun i hi h1 => (k.block i (Nat.lt_of_lt_of_le hi h.size) (fun hg => by
    rcases hG i hg with h2 | h2
    · exact h1 h2
    · omega)).trans (h.block i hi h1)⟩
def startE (R : Rows6) (t : Tmr) : Int := if t.clock < 0 ∨ 3 ≤ t.clock then 2 else if t.id ∈ idsT (allT R) then 9 else addE (R (ixT t)) t
def startR (R : Rows6) (t : Tmr) : Rows6 := if startE R t = 0 then putT R t else R
section
variable {w w' : World} {b n : Nat} {P : Nat → Option Qa} {R : Rows6}
theorem Bs.up (h : Bs w b n P R) (hn : n < 1000000) : Bs w b (n + 1) P R := ⟨h.blk, fun i hi => (h.q i hi).up hn, h.ap, h.own, h.ok, by omega⟩
theorem setT_id (R : Rows6) (i : Nat) : setT R i (R i) = R := by
  funext j
  unfold setT
  split
  · rename_i e; rw [e]
  · rfl
theorem Bs.added {a : Qa} (h : Bs w b n P R) (t : Tmr) (hc : ¬ (t.clock < 0 ∨ 3 ≤ t.clock)) (hid : t.id ∉ idsT (allT R)) (hP : P (ixT t) = some a) (hn : n < 1000000) (h2 : Qs w' a (n + 1) (addR (R (ixT t)) t)) (f : Ft a.foot w w') : Bs w' b (n + 1) P (startR R t) ∧ Ft (bfoot b P) w w' := by
  have hi := ixT_lt (t := t) (by omega) (by omega)
  have e : startR R t = setT R (ixT t) (addR (R (ixT t)) t) := by
    unfold startR startE addR
    rw [if_neg hc, if_neg hid]
    split
    · rfl
    · rw [setT_id]
  rw [e]
  refine (h.up hn).step hi (by rw [hP]; exact h2) (by rw [hP]; exact f) ?_
  rw [← e]
  unfold startR
  split
  · exact h.ok.put (by omega) (by omega) hid
  · exact h.ok
theorem start_nil (w : World) (t : Tmr) : Calls Try.prog 8 #[.pointer none, tv t] w fun e w' => e = .returned (.int .i64 1) ∧ Below w.heap.size w w' := by
  obtain ⟨i1, i2, i3, i4, i5⟩ := t
  unfold tv
  have hb := hide (one_below w (.cells #[.int .i64 i1, .int .i64 i2, .int .i64 i3, .int .i64 i4, .bool i5] 29))
  go_enter Try.func8, Try.ntmps8
  go_wp2
  go_ret
  exact ⟨rfl, unhide hb⟩
set_option maxRecDepth 20000 in
set_option maxHeartbeats 1000000 in
theorem bstart (h : Bs w b n P R) (hn : n < 1000000) (t : Tmr) (ht : okT t) : Calls Try.prog 8 #[.pointer (some ⟨b, 0, none⟩), tv t] w fun e w' => e = .returned (.int .i64 (startE R t)) ∧ ∃ P', Bs w' b (n + 1) P' (startR R t) ∧ Ft (bfoot b P) w w' ∧ ∀ k, bfoot b P' k → bfoot b P k ∨ w.heap.size ≤ k := by
  have hsame : ∀ w', Below w.heap.size w w' → startR R t = R → ∃ P', Bs w' b (n + 1) P' (startR R t) ∧ Ft (bfoot b P) w w' ∧ ∀ k, bfoot b P' k → bfoot b P k ∨ w.heap.size ≤ k :=
    fun w' hb e => ⟨P, by rw [e]; exact (h.below hb).up hn, Ft.of_below _ hb, fun k hk => .inl hk⟩
  have HS := hide hsame
  clear hsame
  by_cases hc : t.clock < 0 ∨ 3 ≤ t.clock
  · have eE : startE R t = 2 := if_pos hc
    have eR : startR R t = R := by unfold startR; rw [eE]; rfl
    have HR := hide eR
    rw [eE]
    generalize startR R t = R2 at *
    obtain ⟨i1, i2, i3, i4, i5⟩ := t
    unfold tv
    have hb := hide (one_below w (.cells #[.int .i64 i1, .int .i64 i2, .int .i64 i3, .int .i64 i4, .bool i5] 29))
    simp only at hc
    clear eE eR h ht
    rcases hc with hc | hc
    · go_enter Try.func8, Try.ntmps8
      go_wp2
      go_ret
      exact ⟨rfl, unhide HS _ (unhide hb) (unhide HR)⟩
    · have hc2 : ¬ i2 < 0 := by omega
      go_enter Try.func8, Try.ntmps8
      go_wp2
      go_ret
      exact ⟨rfl, unhide HS _ (unhide hb) (unhide HR)⟩
  · obtain ⟨W1, hW1⟩ : ∃ W1, W1 = w.alloc (.cells #[.int .i64 t.id, .int .i64 t.clock, .int .i64 t.soft, .int .i64 t.hard, .bool t.lazy] 29) := ⟨_, rfl⟩
    have b1 : Below w.heap.size w W1 := by rw [hW1]; exact one_below _ _
    have h1 := h.below b1
    obtain ⟨g, hg⟩ : ∃ g, w.heap.size = g := ⟨_, rfl⟩
    have kt : Blk W1 g 29 #[.int .i64 t.id, .int .i64 t.clock, .int .i64 t.soft, .int .i64 t.hard, .bool t.lazy] := by rw [hW1]; exact Blk.new_at _ _ _ hg.symm
    have CH := hide (bhas h1 t.id ht.1)
    by_cases hm : t.id ∈ idsT (allT R)
    · have eE : startE R t = 9 := by unfold startE; rw [if_neg hc, if_pos hm]
      have eR : startR R t = R := by unfold startR; rw [eE]; rfl
      have HR := hide eR
      rw [eE]
      generalize startR R t = R2 at *
      rw [decide_eq_true hm] at CH
      have HB := hide b1
      have HW := hide hW1
      clear eE eR h h1 ht hm kt b1 hW1 hg
      obtain ⟨i1, i2, i3, i4, i5⟩ := t
      unfold tv
      simp only at hc CH HW
      have hc1 : ¬ i2 < 0 := by omega
      have hc2 : ¬ 3 ≤ i2 := by omega
      clear hc
      go_enter Try.func8, Try.ntmps8
      go_wp2_with (go_at_call 15; refine Hid.out ?_)
      refine hide ?_
      rw [← unhide HW]
      refine (unhide CH).mono ?_
      rintro e w2 ⟨rfl, hb2⟩
      go_wp2
      go_ret
      exact ⟨rfl, unhide HS _ ((unhide HB).trans (hb2.mono (unhide HB).size)) (unhide HR)⟩
    · have eE : startE R t = addE (R (ixT t)) t := by unfold startE; rw [if_neg hc, if_neg hm]
      rw [decide_eq_false hm] at CH
      have hn2 := hn
      have CADD := hide (fun (w3 : World) (a : Qa) (b3 : Bs w3 b n (setP P (ixT t) a) R) => And.intro (sadd (a := a) (R := R (ixT t)) (n := n) (w := w3) (by
          have := b3.q (ixT t) (ixT_lt (by omega) (by omega))
          rw [show setP P (ixT t) a (ixT t) = some a from if_pos rfl] at this
          exact this) hn t ht) (fun (w4 : World) h2 f => b3.added (w' := w4) t hc hm (if_pos rfl) hn h2 f))
      have CQ := hide (fun (w2 : World) (hb2 : Below W1.heap.size W1 w2) => queueof ((h1.below hb2).below (below_drew (Below.refl _ _))) t (by omega) (by omega))
      have HB := hide (And.intro b1 hg)
      have HW := hide hW1
      have HT := hide (fun (w2 : World) (hb2 : Below W1.heap.size W1 w2) => kt.below hb2 kt.lt)
      have HG := hide (show ¬ bfoot b P g from fun e => by have := h.lts g e; omega)
      have HF := hide (fun (a : Qa) (k : Nat) (hk : a.foot k) => show bfoot b (setP P (ixT t) a) k from .inr ⟨ixT t, ixT_lt (by omega) (by omega), by rw [show setP P (ixT t) a (ixT t) = some a from if_pos rfl]; exact hk⟩)
      rw [eE]
      generalize addE (R (ixT t)) t = E at *
      obtain ⟨R2, hR2⟩ : ∃ R2, startR R t = R2 := ⟨_, rfl⟩
      rw [hR2] at CADD ⊢
      obtain ⟨i, hi⟩ : ∃ i, ixT t = i := ⟨_, rfl⟩
      rw [hi] at CADD CQ HF
      obtain ⟨F, hF⟩ : ∃ F, bfoot b P = F := ⟨_, rfl⟩
      rw [hF] at CQ HG ⊢
      clear eE h h1 ht hm kt b1 hW1 HS hi hR2
      obtain ⟨i1, i2, i3, i4, i5⟩ := t
      unfold tv at CADD CQ ⊢
      simp only at hc CH HW CADD CQ HT ⊢
      have hc1 : ¬ i2 < 0 := by omega
      have hc2 : ¬ 3 ≤ i2 := by omega
      clear hc
      go_enter Try.func8, Try.ntmps8
      go_wp2_with (go_at_call 15; refine Hid.out ?_)
      refine hide ?_
      rw [← unhide HW]
      refine (unhide CH).mono ?_
      rintro e w2 ⟨rfl, hb2⟩
      have kt := unhide HT w2 hb2
      have r0 : ∀ w', Ft F w2 w' → w'.cell? ⟨g, 0, none⟩ = some (.int .i64 i1) := fun w' hf => blkAt (kt.ft hf (unhide HG)) 0 (.int .i64 i1) rfl
      have r1 : ∀ w', Ft F w2 w' → w'.cell? ⟨g, 1, none⟩ = some (.int .i64 i2) := fun w' hf => blkAt (kt.ft hf (unhide HG)) 1 (.int .i64 i2) rfl
      have r2 : ∀ w', Ft F w2 w' → w'.cell? ⟨g, 2, none⟩ = some (.int .i64 i3) := fun w' hf => blkAt (kt.ft hf (unhide HG)) 2 (.int .i64 i3) rfl
      have r3 : ∀ w', Ft F w2 w' → w'.cell? ⟨g, 3, none⟩ = some (.int .i64 i4) := fun w' hf => blkAt (kt.ft hf (unhide HG)) 3 (.int .i64 i4) rfl
      have r4 : ∀ w', Ft F w2 w' → w'.cell? ⟨g, 4, none⟩ = some (.bool i5) := fun w' hf => blkAt (kt.ft hf (unhide HG)) 4 (.bool i5) rfl
      have CQ2 := hide (unhide CQ w2 hb2)
      have S0 : Ft F w2 w2.drew := (Ft.refl F w2).drew
      have HB2 := hide hb2
      clear kt hb2 CQ CH HT HG
      go_wp2
      refine wp_region_held_drew (S := (fun w' => Ft F w2 w')) (by kernel_rfl) ?_ (fun hHeld => ?_)
      · (first | assumption)
      refine wpAnyH_take (i := 0) (oi := ?o1) (v := ?v1) ?hi1 (by kernel_rfl) (by kernel_rfl) (by kernel_rfl) ?hQ1 (Or.inl ⟨?hw1, ?hy1⟩) (by assumption) ?_
      case hi1 => (simp only [List.getElem?_toArray, List.getElem?_cons_zero]; rfl)
      case hQ1 => exact fun _ _ _ h => h
      case hw1 => rfl
      case hy1 => (intro w hSw; (try dsimp only at hSw); go_simp; (try with_reducible rfl))
      simp only [Act.put, List.setIfInBounds_toArray, List.set_cons_zero, List.set_cons_succ]
      refine wpAnyH_take (i := 1) (oi := ?o2) (v := ?v2) ?hi2 (by kernel_rfl) (by kernel_rfl) (by kernel_rfl) ?hQ2 (Or.inl ⟨?hw2, ?hy2⟩) (by assumption) ?_
      case hi2 => (simp only [List.getElem?_toArray, List.getElem?_cons_succ, List.getElem?_cons_zero]; rfl)
      case hQ2 => exact fun _ _ _ h => h
      case hw2 => rfl
      case hy2 => (intro w hSw; (try dsimp only at hSw); go_simp; (try with_reducible rfl))
      simp only [Act.put, List.setIfInBounds_toArray, List.set_cons_zero, List.set_cons_succ]
      refine wpAnyH_take (i := 3) (oi := ?o3) (v := ?v3) ?hi3 (by kernel_rfl) (by kernel_rfl) (by kernel_rfl) ?hQ3 (Or.inl ⟨?hw3, ?hy3⟩) (by assumption) ?_
      case hi3 => (simp only [List.getElem?_toArray, List.getElem?_cons_succ, List.getElem?_cons_zero]; rfl)
      case hQ3 => exact fun _ _ _ h => h
      case hw3 => rfl
      case hy3 => (intro w hSw; (try dsimp only at hSw); go_simp; (try with_reducible rfl))
      simp only [Act.put, List.setIfInBounds_toArray, List.set_cons_zero, List.set_cons_succ]
      refine wpAnyH_ready (rs := [2]) (by kernel_rfl) (by simp) ?_
      refine AllReadyH.cons (o := ?o4) ?hi4 (fun K hK => ?_) AllReadyH.nil
      case hi4 => (simp only [List.getElem?_toArray, List.getElem?_cons_succ, List.getElem?_cons_zero]; rfl)
      go_simp
      (first | (go_at_call 19; refine (unhide CQ2).mono ?_; rintro e w3 ⟨a, rfl, b3, f3, n3⟩; have S3 : Ft F w2 w3 := S0.trans f3; have H3 := hide (And.intro b3 n3); clear b3 f3 n3) | (go_at_call 20; refine (unhide CADD _ _ (unhide H3).1).1.mono ?_; rintro e w4 ⟨rfl, q4, f4⟩; have S4 : Ft F w2 w4 := S3.next f4 (fun k hk => (unhide H3).2 k (unhide HF a k hk)); have H4 := hide (And.intro q4 f4); clear q4 f4)); go_wp2_with fail
      refine hK.out _ _ ?_ (fun hHeld => ?_)
      · (first | assumption)
      clear hK K
      refine wpAnyH_ready (rs := [4]) (by kernel_rfl) (by simp) ?_
      refine AllReadyH.cons (o := ?o5) ?hi5 (fun K hK => ?_) AllReadyH.nil
      case hi5 => (simp only [List.getElem?_toArray, List.getElem?_cons_succ, List.getElem?_cons_zero]; rfl)
      go_simp
      (first | (go_at_call 19; refine (unhide CQ2).mono ?_; rintro e w3 ⟨a, rfl, b3, f3, n3⟩; have S3 : Ft F w2 w3 := S0.trans f3; have H3 := hide (And.intro b3 n3); clear b3 f3 n3) | (go_at_call 20; refine (unhide CADD _ _ (unhide H3).1).1.mono ?_; rintro e w4 ⟨rfl, q4, f4⟩; have S4 : Ft F w2 w4 := S3.next f4 (fun k hk => (unhide H3).2 k (unhide HF a k hk)); have H4 := hide (And.intro q4 f4); clear q4 f4)); go_wp2_with fail
      refine hK.out _ _ ?_ (fun hHeld => ?_)
      · (first | assumption)
      clear hK K
      refine wpAnyH_take (i := 5) (oi := ?o6) (v := ?v6) ?hi6 (by kernel_rfl) (by kernel_rfl) (by kernel_rfl) ?hQ6 (Or.inl ⟨?hw6, ?hy6⟩) (by assumption) ?_
      case hi6 => (simp only [List.getElem?_toArray, List.getElem?_cons_succ, List.getElem?_cons_zero]; rfl)
      case hQ6 => exact fun _ _ _ h => h
      case hw6 => rfl
      case hy6 => (intro w hSw; (try dsimp only at hSw); go_simp; (try with_reducible rfl))
      simp only [Act.put, List.setIfInBounds_toArray, List.set_cons_zero, List.set_cons_succ]
      refine wpAnyH_done (by kernel_rfl) ?_ _
      go_wp2
      go_ret
      obtain ⟨b3, n3⟩ := unhide H3
      obtain ⟨q4, f4⟩ := unhide H4
      obtain ⟨x4, -⟩ := (unhide CADD _ _ b3).2 _ q4 f4
      have hb12 := (unhide HB).1.trans ((unhide HB2).mono (unhide HB).1.size)
      exact ⟨rfl, _, x4, (Ft.of_below F hb12).trans S4, fun k hk => (n3 k hk).imp id (fun x => Nat.le_trans hb12.size x)⟩
end
end Go.Proofs.Ytabmjaioejacaaa
