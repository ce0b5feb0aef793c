/- A queue that may not be made yet; a base. -/
import Derived.Test.YtabmjaioejacaaaQueD
import Derived.Test.YtabmjaioejacaaaBa1
import Derived.Test.YtabmjaioejacaaaBaMath
namespace Go.Proofs.Ytabmjaioejacaaa
open Go.RowKit Kt Qu
set_option linter.unusedVariables false

theorem blkAt {w : World} {g : Nat} {t : TypeId} {cs : Array Value} (h : Blk w g t cs) (j : Nat) (v : Value) (hj : cs[j]? = some v) : w.cell? ⟨g, j, none⟩ = some v := by rw [h.cell]; exact hj
def Qo (w : World) (o : Option Qa) (n : Nat) (R : List Tmr) : Prop := match o with
  | none => R = []
  | some a => Qs w a n R
def pv (o : Option Qa) : Value := match o with
  | none => .pointer none
  | some a => .pointer (some ⟨a.q, 0, none⟩)
def fo (o : Option Qa) (k : Nat) : Prop := match o with
  | none => False
  | some a => a.foot k
section
variable {w w' : World} {o : Option Qa} {n : Nat} {R : List Tmr}
theorem Qo.up (h : Qo w o n R) (hn : n < 1000000) : Qo w o (n + 1) R := by
  cases o with
  | none => exact h
  | some a => exact Qs.up h hn
theorem Qo.ft {F : Nat → Prop} (h : Qo w o n R) (ht : Ft F w w') (hn : ∀ k, fo o k → ¬ F k) : Qo w' o n R := by
  cases o with
  | none => exact h
  | some a => exact Qs.ft h ht hn
theorem Qo.below (h : Qo w o n R) (hb : Below w.heap.size w w') : Qo w' o n R := h.ft (Ft.of_below (fun _ => False) hb) (fun _ _ => id)
theorem Qo.lts (h : Qo w o n R) : ∀ k, fo o k → k < w.heap.size := by
  cases o with
  | none => intro k hk; exact hk.elim
  | some a => exact Qs.lts h
theorem Qo.len (h : Qo w o n R) : R.length ≤ 64 := by
  cases o with
  | none => rw [show R = [] from h]; decide
  | some a => exact Qs.len h
theorem Qo.ok (h : Qo w o n R) : ∀ t ∈ R, okT t := by
  cases o with
  | none => rw [show R = [] from h]; intro t ht; cases ht
  | some a => exact Qs.ok h
theorem olen (h : Qo w o n R) : Calls Try.prog 33 #[pv o] w fun e w' => e = .returned (.int .i64 R.length) ∧ w' = w := by
  cases o with
  | none => rw [show R = [] from h]; exact qlen_nil w
  | some a => exact slen_any h
theorem ohas (h : Qo w o n R) (id : Int) (hid : isI id) : Calls Try.prog 35 #[pv o, .int .i64 id] w fun e w' => e = .returned (.bool (decide (id ∈ idsT R))) ∧ Below w.heap.size w w' := by
  cases o with
  | none =>
    rw [show R = [] from h]
    refine (qhas_nil w id).mono ?_
    rintro e w' ⟨rfl, rfl⟩
    exact ⟨by rw [decide_eq_false (by unfold idsT; simp)], Below.refl _ _⟩
  | some a => exact shas h id hid
theorem ofirst (h : Qo w o n R) : Calls Try.prog 26 #[pv o] w fun e w' => e = .returned (fstV R) ∧ Below w.heap.size w w' := by
  cases o with
  | none => rw [show R = [] from h]; exact qfirst_nil w
  | some a => exact sfirst h
theorem oall (h : Qo w o n R) : Calls Try.prog 31 #[pv o] w fun e w' => ∃ v, e = .returned v ∧ Rg rtm w' w.heap.size v R ∧ Below w.heap.size w w' := by
  cases o with
  | none => rw [show R = [] from h]; exact qall_nil w
  | some a => exact sall h
theorem odrop_none (h : Qo w o n R) (id : Int) (hid : isI id) (hm : id ∉ idsT R) : Calls Try.prog 23 #[pv o, .int .i64 id] w fun e w' => e = .returned (.tuple #[tv t0, .bool false]) ∧ Below w.heap.size w w' := by
  cases o with
  | none => exact qdrop_nil w id
  | some a => exact sdrop_none h id hid hm
theorem odrop_ok {A B : List Tmr} {t : Tmr} (h : Qo w o n (A ++ t :: B)) : Calls Try.prog 23 #[pv o, .int .i64 t.id] w fun e w' => e = .returned (.tuple #[tv t, .bool true]) ∧ Qo w' o n (A ++ B) ∧ Ft (fo o) w w' := by
  cases o with
  | none => exact absurd (show A ++ t :: B = [] from h) (by simp)
  | some a => exact sdrop_ok h
theorem odue_no (h : Qo w o n R) (now : Int) (hd : ∀ y S, R = y :: S → ¬ dueT now y) : Calls Try.prog 29 #[pv o, .int .i64 now] w fun e w' => e = .returned (.tuple #[tv t0, .bool false]) ∧ Below w.heap.size w w' := by
  cases o with
  | none => exact qdue_nil now w
  | some a => exact sdue_no h now hd
theorem odue_ok {t : Tmr} (h : Qo w o n (t :: R)) (now : Int) (hd : dueT now t) : Calls Try.prog 29 #[pv o, .int .i64 now] w fun e w' => e = .returned (.tuple #[tv t, .bool true]) ∧ Qo w' o n R ∧ Ft (fo o) w w' := by
  cases o with
  | none => exact absurd (show t :: R = [] from h) (by simp)
  | some a => exact sdue_ok h now hd
end

/-- What a base touches. -/
def bfoot (b : Nat) (P : Nat → Option Qa) (k : Nat) : Prop := k = b ∨ ∃ i, i < 6 ∧ fo (P i) k
def bcs (P : Nat → Option Qa) : Array Value := #[pv (P 0), pv (P 1), pv (P 2), pv (P 3), pv (P 4), pv (P 5)]
theorem bcs_at (P : Nat → Option Qa) {i : Nat} {c : Value} (hi : i < 6) (h : (bcs P)[i]? = some c) : c = pv (P i) := by
  rcases (show i = 0 ∨ i = 1 ∨ i = 2 ∨ i = 3 ∨ i = 4 ∨ i = 5 by omega) with rfl | rfl | rfl | rfl | rfl | rfl <;> (cases h; rfl)
/-- A base: where its queues lie, its six rows; n stores have been done. -/
structure Bs (w : World) (b n : Nat) (P : Nat → Option Qa) (R : Rows6) : Prop where
  blk : Blk w b 52 (bcs P)
  q : ∀ i, i < 6 → Qo w (P i) n (R i)
  ap : ∀ i j k, i < 6 → j < 6 → i ≠ j → fo (P i) k → ¬ fo (P j) k
  own : ∀ i, i < 6 → ¬ fo (P i) b
  ok : Rok R
  nb : n ≤ 1000000
section
variable {w w' : World} {b n : Nat} {P : Nat → Option Qa} {R : Rows6}
theorem Bs.ft {F : Nat → Prop} (h : Bs w b n P R) (ht : Ft F w w') (hn : ∀ k, bfoot b P k → ¬ F k) : Bs w' b n P R :=
  ⟨h.blk.ft ht (hn b (.inl rfl)), fun i hi => (h.q i hi).ft ht fun k hk => hn k (.inr ⟨i, hi, hk⟩), h.ap, h.own, h.ok, h.nb⟩
theorem Bs.below (h : Bs w b n P R) (hb : Below w.heap.size w w') : Bs w' b n P R := h.ft (Ft.of_below (fun _ => False) hb) (fun _ _ => id)
theorem Bs.lts (h : Bs w b n P R) : ∀ k, bfoot b P k → k < w.heap.size := by
  rintro k (rfl | ⟨i, hi, hk⟩)
  · exact h.blk.lt
  · exact (h.q i hi).lts k hk
theorem Bs.okt (h : Bs w b n P R) : ∀ t ∈ allT R, okT t := by
  intro t ht
  obtain ⟨i, hi, hm⟩ := mem_allT.1 ht
  exact (h.q i hi).ok t hm
theorem Bs.len (h : Bs w b n P R) : (allT R).length ≤ 384 := by
  have key : ∀ i, i ≤ 6 → (upT R i).length ≤ 64 * i := by
    intro i
    induction i with
    | zero => intro _; exact Nat.le_refl _
    | succ i ih =>
      intro hi
      have h1 := ih (by omega)
      have h2 := (h.q i (by omega)).len
      show (upT R i ++ R i).length ≤ _
      rw [List.length_append]
      omega
  exact key 6 (Nat.le_refl _)
/-- One queue has changed. -/
theorem Bs.step (h : Bs w b n P R) {i : Nat} (hi : i < 6) {l : List Tmr} (h2 : Qo w' (P i) n l) (f : Ft (fo (P i)) w w') (hr : Rok (setT R i l)) : Bs w' b n P (setT R i l) ∧ Ft (bfoot b P) w w' := by
  refine ⟨⟨h.blk.ft f (h.own i hi), fun j hj => ?_, h.ap, h.own, hr, h.nb⟩, f.mono fun k hk => .inr ⟨i, hi, hk⟩⟩
  by_cases e : j = i
  · subst e; rw [setT_same]; exact h2
  · rw [setT_ne _ _ e]; exact (h.q j hj).ft f fun k hk => h.ap j i k hj hi e hk
theorem bnew (w : World) : Calls Try.prog 6 #[] w fun e w' => ∃ b, e = .returned (.pointer (some ⟨b, 0, none⟩)) ∧ Bs w' b 0 (fun _ => none) (fun _ => []) ∧ Below w.heap.size w w' ∧ b = w.heap.size := by
  obtain ⟨B, hB⟩ : ∃ B, w.heap.size = B := ⟨_, rfl⟩
  have k0 : Blk (w.alloc (.cells #[.pointer none, .pointer none, .pointer none, .pointer none, .pointer none, .pointer none] 52)) B 52 #[.pointer none, .pointer none, .pointer none, .pointer none, .pointer none, .pointer none] := Blk.new_at _ _ _ hB.symm
  have H := hide k0
  have HB := hide (one_below w (.cells #[.pointer none, .pointer none, .pointer none, .pointer none, .pointer none, .pointer none] 52))
  clear k0
  rw [hB] at HB ⊢
  go_enter Try.func6, Try.ntmps6
  go_wp2
  go_ret
  exact ⟨B, rfl, ⟨unhide H, fun i _ => rfl, (fun i j k _ _ _ h => h.elim), (fun i _ h => h.elim), Rok.empty, by omega⟩, unhide HB, rfl⟩
end
end Go.Proofs.Ytabmjaioejacaaa
