/- Three bases side by side. -/
import Derived.Test.YtabmjaioejacaaaLb2
namespace Go.Proofs.Ytabmjaioejacaaa
open Go.RowKit Kt Qu
set_option linter.unusedVariables false

/-- Three bases side by side. -/
structure B3 (C : Nat) (w0 w : World) (a b c na nb nc : Nat) (Pa Pb Pc : Nat → Option Qa) (Ra Rb Rc : Rows6) : Prop where
  qa : Bs w a na Pa Ra
  qb : Bs w b nb Pb Rb
  qc : Bs w c nc Pc Rc
  ab : ∀ k, bfoot a Pa k → ¬ bfoot b Pb k
  ac : ∀ k, bfoot a Pa k → ¬ bfoot c Pc k
  bc : ∀ k, bfoot b Pb k → ¬ bfoot c Pc k
  low : Below C w0 w
  cs : C ≤ w.heap.size
  fa : ∀ k, bfoot a Pa k → C ≤ k
  fb : ∀ k, bfoot b Pb k → C ≤ k
  fc : ∀ k, bfoot c Pc k → C ≤ k
/-- Not of the three. -/
def Out3 (a b c : Nat) (Pa Pb Pc : Nat → Option Qa) (g : Nat) : Prop := ¬ bfoot a Pa g ∧ ¬ bfoot b Pb g ∧ ¬ bfoot c Pc g
section
variable {C : Nat} {w0 w w' : World} {a b c na nb nc na' nb' nc' : Nat} {Pa Pb Pc Pa' Pb' Pc' : Nat → Option Qa} {Ra Rb Rc Ra' Rb' Rc' : Rows6}
theorem B3.stepA (h : B3 C w0 w a b c na nb nc Pa Pb Pc Ra Rb Rc) (h2 : Bs w' a na' Pa' Ra') (f : Ft (bfoot a Pa) w w') (hf : ∀ k, bfoot a Pa' k → bfoot a Pa k ∨ w.heap.size ≤ k) : B3 C w0 w' a b c na' nb nc Pa' Pb Pc Ra' Rb Rc :=
  ⟨h2, h.qb.ft f (fun k hk hka => h.ab k hka hk), h.qc.ft f (fun k hk hka => h.ac k hka hk), (fun k hk hb => by
    rcases hf k hk with q | q
    · exact h.ab k q hb
    · have := h.qb.lts k hb; omega), (fun k hk hb => by
    rcases hf k hk with q | q
    · exact h.ac k q hb
    · have := h.qc.lts k hb; omega), h.bc, f.low h.low h.fa h.cs, Nat.le_trans h.cs f.size, (fun k hk => by
    rcases hf k hk with q | q
    · exact h.fa k q
    · exact Nat.le_trans h.cs q), h.fb, h.fc⟩
theorem B3.stepB (h : B3 C w0 w a b c na nb nc Pa Pb Pc Ra Rb Rc) (h2 : Bs w' b nb' Pb' Rb') (f : Ft (bfoot b Pb) w w') (hf : ∀ k, bfoot b Pb' k → bfoot b Pb k ∨ w.heap.size ≤ k) : B3 C w0 w' a b c na nb' nc Pa Pb' Pc Ra Rb' Rc :=
  ⟨h.qa.ft f (fun k hk hka => h.ab k hk hka), h2, h.qc.ft f (fun k hk hka => h.bc k hka hk), (fun k hk hb => by
    rcases hf k hb with q | q
    · exact h.ab k hk q
    · have := h.qa.lts k hk; omega), h.ac, (fun k hk hb => by
    rcases hf k hk with q | q
    · exact h.bc k q hb
    · have := h.qc.lts k hb; omega), f.low h.low h.fb h.cs, Nat.le_trans h.cs f.size, h.fa, (fun k hk => by
    rcases hf k hk with q | q
    · exact h.fb k q
    · exact Nat.le_trans h.cs q), h.fc⟩
theorem B3.stepC (h : B3 C w0 w a b c na nb nc Pa Pb Pc Ra Rb Rc) (h2 : Bs w' c nc' Pc' Rc') (f : Ft (bfoot c Pc) w w') (hf : ∀ k, bfoot c Pc' k → bfoot c Pc k ∨ w.heap.size ≤ k) : B3 C w0 w' a b c na nb nc' Pa Pb Pc' Ra Rb Rc' :=
  ⟨h.qa.ft f (fun k hk hka => h.ac k hk hka), h.qb.ft f (fun k hk hka => h.bc k hk hka), h2, h.ab, (fun k hk hb => by
    rcases hf k hb with q | q
    · exact h.ac k hk q
    · have := h.qa.lts k hk; omega), (fun k hk hb => by
    rcases hf k hb with q | q
    · exact h.bc k hk q
    · have := h.qb.lts k hk; omega), f.low h.low h.fc h.cs, Nat.le_trans h.cs f.size, h.fa, h.fb, (fun k hk => by
    rcases hf k hk with q | q
    · exact h.fc k q
    · exact Nat.le_trans h.cs q)⟩
theorem B3.below (h : B3 C w0 w a b c na nb nc Pa Pb Pc Ra Rb Rc) (hb : Below w.heap.size w w') : B3 C w0 w' a b c na nb nc Pa Pb Pc Ra Rb Rc := h.stepA (h.qa.below hb) (Ft.of_below _ hb) (fun k hk => .inl hk)
theorem B3.out (h : B3 C w0 w a b c na nb nc Pa Pb Pc Ra Rb Rc) {g : Nat} (hg : w.heap.size ≤ g) : Out3 a b c Pa Pb Pc g :=
  ⟨fun k => by have := h.qa.lts g k; omega, fun k => by have := h.qb.lts g k; omega, fun k => by have := h.qc.lts g k; omega⟩
theorem B3.new (hb : Below C w0 w) (hC : C ≤ w.heap.size) (ha : Bs w a 0 (fun _ => none) (fun _ => [])) (hbb : Bs w b 0 (fun _ => none) (fun _ => [])) (hc : Bs w c 0 (fun _ => none) (fun _ => [])) (h1 : C ≤ a) (h2 : a < b) (h3 : b < c) : B3 C w0 w a b c 0 0 0 (fun _ => none) (fun _ => none) (fun _ => none) (fun _ => []) (fun _ => []) (fun _ => []) := by
  have key : ∀ x k, bfoot x (fun _ => none) k → k = x := fun x k hk => by
    rcases hk with rfl | ⟨i, hi, hk⟩
    · rfl
    · exact hk.elim
  exact ⟨ha, hbb, hc, fun k q r => by have := key _ _ q; have := key _ _ r; omega, fun k q r => by have := key _ _ q; have := key _ _ r; omega, fun k q r => by have := key _ _ q; have := key _ _ r; omega, hb, hC, fun k q => by have := key _ _ q; omega, fun k q => by have := key _ _ q; omega, fun k q => by have := key _ _ q; omega⟩
end
/-- All timers of a base stand in order. -/
theorem upT_srt {R : Rows6} (h : Rok R) : ∀ i, i ≤ 6 → (upT R i).Pairwise (fun x y => befB x y = true) := by
  intro i
  induction i with
  | zero => intro _; exact List.Pairwise.nil
  | succ i ih =>
    intro hi
    show (upT R i ++ R i).Pairwise _
    refine List.pairwise_append.2 ⟨ih (by omega), ?_, fun x hx y hy => ?_⟩
    · refine List.Pairwise.imp_of_mem ?_ (h.srt i (by omega))
      intro x y hx hy hxy
      obtain ⟨e1, c1, -⟩ := h.ix i x (by omega) hx
      obtain ⟨e2, c2, -⟩ := h.ix i y (by omega) hy
      rw [befB_eq c1 c2 (by rw [e1, e2])]
      exact decide_eq_true hxy
    · obtain ⟨j, hj, hm⟩ := mem_upT.1 hx
      obtain ⟨e1, c1, -⟩ := h.ix j x (by omega) hm
      obtain ⟨e2, c2, -⟩ := h.ix i y (by omega) hy
      exact befB_lt c1 c2 (by omega)
theorem allT_srt {R : Rows6} (h : Rok R) : (allT R).Pairwise (fun x y => befB x y = true) := upT_srt h 6 (Nat.le_refl _)
/-- Timers that come in order come at the end. -/
theorem put_last {R S : Rows6} (h : Rok R) (hs : Rok S) {X Y : List Tmr} {t : Tmr} (e : allT R = X ++ t :: Y) (e2 : allT S = X) (h0 : 0 ≤ t.clock) (h2 : t.clock ≤ 2) : allT (putT S t) = X ++ [t] := by
  obtain ⟨A, B, e3, e4, h3, h4⟩ := put_parts hs h0 h2
  rw [e2] at e3
  cases B with
  | nil => rw [e4, e3]; simp
  | cons y T =>
    have h5 := h4 y T rfl
    have hm : y ∈ X := by rw [e3]; simp
    have h6 := allT_srt h
    rw [e] at h6
    have h7 := (List.pairwise_append.1 h6).2.2 y hm t (by simp)
    rw [h5] at h7
    cases h7
theorem start_ok {R S : Rows6} (h : Rok R) {X Y : List Tmr} {t : Tmr} (e : allT R = X ++ t :: Y) (e2 : allT S = X) (hl : X.length < 64) (hs : t.soft ≤ t.hard) : startE S t = 0 ∧ 0 ≤ t.clock ∧ t.clock ≤ 2 := by
  have hc : 0 ≤ t.clock ∧ t.clock ≤ 2 := by
    obtain ⟨q, hq6, hqm⟩ := mem_allT.1 (show t ∈ allT R by rw [e]; simp)
    exact (h.ix q t hq6 hqm).2
  have hix := ixT_lt hc.1 hc.2
  have hnd := h.nd
  rw [e, idsT_app] at hnd
  have hm : t.id ∉ idsT (allT S) := by
    rw [e2]
    intro hx
    exact (List.nodup_append.1 hnd).2.2 t.id hx t.id (by unfold idsT; simp) rfl
  have hnm : t.id ∉ idsT (S (ixT t)) := fun hx => hm (mem_ids_upT.2 ⟨_, hix, hx⟩)
  have hnl : ¬ (S (ixT t)).length = 64 := by
    have : (S (ixT t)).length ≤ (allT S).length := by
      rw [allT_split S hix]
      simp only [List.length_append]
      omega
    rw [e2] at this
    omega
  refine ⟨?_, hc⟩
  unfold startE addE
  rw [if_neg (by omega), if_neg hm, if_neg (by omega), if_neg hnm, if_neg hnl]
theorem start_keeps (R : Rows6) (t : Tmr) {n : Nat} (hl : (allT R).length ≤ n) (hs : ∀ y ∈ allT R, y.soft ≤ y.hard) : (allT (startR R t)).length ≤ n + 1 ∧ ∀ y ∈ allT (startR R t), y.soft ≤ y.hard := by
  unfold startR
  split
  · rename_i h0
    unfold startE at h0
    split at h0
    · cases h0
    · rename_i hc
      split at h0
      · cases h0
      · have hp := allT_put_perm R (ixT_lt (t := t) (by omega) (by omega))
        refine ⟨by rw [hp.length_eq, List.length_cons]; omega, fun y hy => ?_⟩
        rcases List.mem_cons.1 (hp.mem_iff.1 hy) with rfl | hy
        · unfold addE at h0
          split at h0
          · cases h0
          · omega
        · exact hs y hy
  · exact ⟨by omega, hs⟩
/-- The next one goes, and comes. -/
theorem move_one {R S T : Rows6} (h : Rok R) (hs : Rok S) (ht : Rok T) {L : List Tmr} {j : Nat} {y : Tmr} (e : allT R = L) (hj : L[j]? = some y) (e2 : allT S = L.drop j) (e3 : allT T = L.take j) (hl : L.length ≤ 60) (hsf : ∀ y ∈ L, y.soft ≤ y.hard) :
    (∃ i A B, i < 6 ∧ S i = A ++ y :: B ∧ allT (setT S i (A ++ B)) = L.drop (j + 1)) ∧ startE T y = 0 ∧ startR T y = putT T y ∧ allT (putT T y) = L.take (j + 1) := by
  obtain ⟨h1, h2⟩ := List.getElem?_eq_some_iff.1 hj
  have hd : L.drop j = y :: L.drop (j + 1) := by rw [List.drop_eq_getElem_cons h1, h2]
  have htk : L.take (j + 1) = L.take j ++ [y] := by rw [List.take_succ_eq_append_getElem h1, h2]
  have hall : allT R = L.take j ++ y :: L.drop (j + 1) := by rw [e, ← hd, List.take_append_drop]
  obtain ⟨i, A, B, hi, hS, hSd⟩ := drop_parts hs (X := []) (Y := L.drop (j + 1)) (t := y) (by rw [e2, hd]; rfl)
  obtain ⟨q1, q2, q3⟩ := start_ok h hall e3 (by have := List.length_take_le j L; omega) (hsf y (List.mem_of_getElem? hj))
  exact ⟨⟨i, A, B, hi, hS, by rw [hSd]; rfl⟩, q1, if_pos q1, by rw [htk]; exact put_last h ht hall e3 q2 q3⟩
end Go.Proofs.Ytabmjaioejacaaa
